/- slices.EqualFunc at events, with whatever test; the law's same, of events without labels. -/
import Derived.Test.YtfhpmnghakhlkaaDoorEvC
import Derived.Test.YtfhpmnghakhlkaaDoorFnP
import Derived.Shelf.Abstract
import Derived.Laws.EntriesVeiled
namespace Go.Proofs.YtfhpmnghakhlkaaDoor
open Go.RowKit

def eqF {α : Type} (t : α → α → Bool) : List α → List α → Bool
  | [], [] => true
  | x :: r, y :: s => t x y && eqF t r s
  | [], _ :: _ => false
  | _ :: _, [] => false
theorem eqF_len {α : Type} (t : α → α → Bool) : ∀ {l m : List α}, l.length ≠ m.length → eqF t l m = false
  | [], [], h => absurd rfl h
  | [], _ :: _, _ => rfl
  | _ :: _, [], _ => rfl
  | x :: r, y :: s, h => by rw [eqF, eqF_len t (l := r) (m := s) (fun e => h (by simp [e])), Bool.and_false]
theorem eqF_step {α : Type} (t : α → α → Bool) {l m : List α} {k : Nat} (hk : k < l.length) (hm : k < m.length) : eqF t (l.drop k) (m.drop k) = (t l[k] m[k] && eqF t (l.drop (k + 1)) (m.drop (k + 1))) := by
  rw [List.drop_eq_getElem_cons hk, List.drop_eq_getElem_cons hm, eqF]
theorem eqF_iff {α : Type} (t : α → α → Bool) : ∀ {l m : List α}, (∀ x ∈ l, ∀ y ∈ m, t x y = true ↔ x = y) → (eqF t l m = true ↔ l = m)
  | [], [], _ => by simp [eqF]
  | [], _ :: _, _ => by simp [eqF]
  | _ :: _, [], _ => by simp [eqF]
  | x :: r, y :: s, h => by
    rw [eqF, Bool.and_eq_true, h x (by simp) y (by simp), eqF_iff t (l := r) (m := s) (fun a ha b hb => h a (by simp [ha]) b (by simp [hb]))]
    simp

def evA (x : Ev3) : Value := .agg #[.string x.1, .int .i64 x.2.1, x.2.2]

set_option maxRecDepth 100000 in
set_option maxHeartbeats 2000000 in
theorem evEqual (g : Nat) (lb : Array Value) (eg : ∀ args w, (callFunc g args).run Tryd.prog w = .ok (.enter g args) w) (t : Ev3 → Ev3 → Bool) (ao bo : Option Addr) (b off b' off' n n' c d : Nat) (vs us : List Ev3) (w : World) (hn : n = vs.length) (hn' : n' = us.length) (hm : n ≤ maxLen) (hm' : n' ≤ maxLen) (h1 : EvV w ao b off vs) (h2 : EvV w bo b' off' us)
    (hp : ∀ (W : World) (x y : Ev3), x ∈ vs → y ∈ us → Below w.heap.size w W → Calls Tryd.prog g (#[evA x, evA y] ++ lb) W fun e w' => e = .returned (.bool (t x y)) ∧ Below W.heap.size W w') :
    Calls Tryd.prog 10 #[.slice ao n c, .slice bo n' d, .func (.func g) #[] lb] w fun e w' => e = .returned (.bool (eqF t vs us)) ∧ Below w.heap.size w w' := by
  have HN : Hid (n = vs.length) := hn
  have HN' : Hid (n' = us.length) := hn'
  have H1 : Hid (EvV w ao b off vs) := h1
  have H2 : Hid (EvV w bo b' off' us) := h2
  have HP : Hid (∀ (W : World) (x y : Ev3), x ∈ vs → y ∈ us → Below w.heap.size w W → Calls Tryd.prog g (#[evA x, evA y] ++ lb) W fun e w' => e = .returned (.bool (t x y)) ∧ Below W.heap.size W w') := hp
  unfold maxLen at hm hm'
  clear hn hn' h1 h2 hp
  by_cases hnn : n = n'
  · subst hnn
    go_enter Tryd.func10, Tryd.ntmps10
    go_wp2
    go_loopw [17] (fun i wr => ∃ k : Nat, k ≤ n ∧ i = .int .i64 k ∧ Hid (eqF t (vs.drop k) (us.drop k) = eqF t vs us) ∧ Hid (Below w.heap.size w wr)) (fun i _ => n - (intOf i).toNat)
    case atStart => exact ⟨0, Nat.zero_le _, rfl, by show _ = _; simp, Below.refl _ _⟩
    case round =>
      obtain ⟨k, hk, rfl, HK, HB⟩ := hrel
      by_cases hlt : k < n
      · have hkl : k < vs.length := by have := HN.out; omega
        have hkm : k < us.length := by have := HN'.out; omega
        have hX := H1.out.later HB.out
        have hY := H2.out.later HB.out
        have hao := hX.adr (by omega)
        have hbo := hY.adr (by omega)
        have f0 := hX.c0 k hkl
        have f1 := hX.c1 k hkl
        have f2 := hX.c2 k hkl
        have g0 := hY.c0 k hkm
        have g1 := hY.c1 k hkm
        have g2 := hY.c2 k hkm
        have l1 : b' < wr.heap.size := hY.lt (by omega)
        have hst := eqF_step t hkl hkm
        have hxm := List.getElem_mem hkl
        have hym := List.getElem_mem hkm
        obtain ⟨xo, xn, xc, hxs⟩ := hX.sl _ hxm
        obtain ⟨yo, yn, yc, hys⟩ := hY.sl _ hym
        obtain ⟨x, hx⟩ : ∃ x, x = vs[k] := ⟨_, rfl⟩
        obtain ⟨y, hy⟩ : ∃ y, y = us[k] := ⟨_, rfl⟩
        rw [← hx] at f0 f1 f2 hst hxm hxs
        rw [← hy] at g0 g1 g2 hst hym hys
        obtain ⟨x0, x1, x2⟩ := x
        obtain ⟨y0, y1, y2⟩ := y
        simp only at f0 f1 f2 g0 g1 g2 hxs hys
        subst hxs hys
        obtain ⟨wz, hwz⟩ : ∃ wz, wz = (wr.alloc (.cells #[.string x0, .int .i64 x1, .slice xo xn xc] 35)).alloc (.cells #[.string y0, .int .i64 y1, .slice yo yn yc] 35) := ⟨_, rfl⟩
        have hbz : Below wr.heap.size wr wz := by rw [hwz]; exact ((Below.refl _ _).alloc (Nat.le_refl _) _).alloc (by simp) _
        have HBZ : Hid (Below w.heap.size w wz) := HB.out.trans (hbz.mono HB.out.size)
        have hcall := HP.out wz (x0, x1, .slice xo xn xc) (y0, y1, .slice yo yn yc) hxm hym HBZ.out
        have HWZ : Hid (wz = (wr.alloc (.cells #[.string x0, .int .i64 x1, .slice xo xn xc] 35)).alloc (.cells #[.string y0, .int .i64 y1, .slice yo yn yc] 35)) := hwz
        obtain ⟨r, hr⟩ : ∃ r, r = t (x0, x1, .slice xo xn xc) (y0, y1, .slice yo yn yc) := ⟨_, rfl⟩
        rw [← hr] at hcall hst
        unfold evA at hcall
        clear hX hY hx hy hbz hwz hxm hym hr
        subst hao hbo
        cases r
        · have HE : Hid (eqF t vs us = false) := by show _ = _; rw [← HK.out, hst, Bool.false_and]
          clear hst
          go_wp2_with fail
          rw [← HWZ.out]
          refine hcall.mono ?_
          rintro e w1 ⟨rfl, hb1⟩
          go_wp2
          go_ret
          refine ⟨?_, HBZ.out.trans (hb1.mono HBZ.out.size)⟩
          rw [HE.out]; rfl
        · have HE : Hid (eqF t (vs.drop (k + 1)) (us.drop (k + 1)) = eqF t vs us) := by show _ = _; rw [← HK.out, hst, Bool.true_and]
          clear hst
          go_wp2_with fail
          rw [← HWZ.out]
          refine hcall.mono ?_
          rintro e w1 ⟨rfl, hb1⟩
          have HB1 : Hid (Below w.heap.size w w1) := HBZ.out.trans (hb1.mono HBZ.out.size)
          clear hb1 hcall
          go_wp2
          go_roundw
          case rel => exact ⟨k + 1, by omega, by go_num, HE, HB1⟩
          case measure => simp [intOf]; omega
      · have HE : Hid (eqF t vs us = true) := by
          show _ = _
          rw [← HK.out, List.drop_of_length_le (by have := HN.out; omega), List.drop_of_length_le (by have := HN'.out; omega)]; rfl
        go_wp2
        go_ret
        refine ⟨?_, HB.out⟩
        rw [HE.out]; rfl
  · have HE : Hid (eqF t vs us = false) := eqF_len t (by rw [← HN.out, ← HN'.out]; exact hnn)
    rw [HE.out]
    have bn : ((n : Int) == (n' : Int)) = false := by simp; omega
    have bb : ((n : Int) != (n' : Int)) = true := by simp; omega
    go_enter Tryd.func10, Tryd.ntmps10
    go_wp2
    go_ret
    exact ⟨rfl, Below.refl _ _⟩

/- The document's SameLabel of nothing and nothing. -/
set_option maxHeartbeats 1000000 in
theorem sameNil (w : World) : Calls Tryd.prog 25 #[.slice none 0 0, .slice none 0 0] w fun e w' => e = .returned (.bool true) ∧ w' = w := by
  have hcall : Calls Tryd.prog 37 #[.slice none 0 0, .slice none 0 0, .func (.func 38) #[] #[]] w fun e w' => e = .returned (.bool true) ∧ w' = w := by
    go_enter Tryd.func37, Tryd.ntmps37
    go_wp2
    go_loopw [17] (fun i wr => i = .int .i64 0 ∧ wr = w) (fun _ _ => 0)
    case atStart => exact ⟨rfl, rfl⟩
    case round =>
      obtain ⟨hi, hw⟩ := hrel
      subst hi hw
      go_wp2
      go_ret
      exact ⟨rfl, rfl⟩
  go_enter Tryd.func25, Tryd.ntmps25
  go_wp2_with fail
  refine hcall.mono ?_
  rintro e w1 ⟨rfl, hw⟩
  have hw' := hw.symm
  subst hw'
  go_wp2
  go_ret
  exact ⟨rfl, rfl⟩

def sameF (x y : Ev3) : Bool := decide (x.1 = y.1) && decide (x.2.1 = y.2.1)
set_option maxRecDepth 100000 in
set_option maxHeartbeats 1000000 in
theorem sameC (s s' : ByteArray) (i i' : Int) (w : World) :
    Calls Tryd.prog 11 #[.agg #[.string s, .int .i64 i, .slice none 0 0], .agg #[.string s', .int .i64 i', .slice none 0 0]] w fun e w' => e = .returned (.bool (decide (s = s') && decide (i = i'))) ∧ Below w.heap.size w w' := by
  obtain ⟨wz, hwz⟩ : ∃ wz, wz = (w.alloc (.cells #[.string s, .int .i64 i, .slice none 0 0] 35)).alloc (.cells #[.string s', .int .i64 i', .slice none 0 0] 35) := ⟨_, rfl⟩
  have HB : Hid (Below w.heap.size w wz) := by rw [hwz]; exact ((Below.refl _ _).alloc (Nat.le_refl _) _).alloc (by simp) _
  have HWZ : Hid (wz = (w.alloc (.cells #[.string s, .int .i64 i, .slice none 0 0] 35)).alloc (.cells #[.string s', .int .i64 i', .slice none 0 0] 35)) := hwz
  have hcall := sameNil wz
  clear hwz
  by_cases hs : s = s'
  · by_cases hi : i = i'
    · have HE : Hid ((decide (s = s') && decide (i = i')) = true) := by show _ = _; simp [hs, hi]
      rw [HE.out]
      clear HE
      subst hs hi
      go_enter Tryd.func11, Tryd.ntmps11
      go_wp2_with fail
      rw [← HWZ.out]
      refine hcall.mono ?_
      rintro e w1 ⟨rfl, hw⟩
      have hw' := hw.symm
      subst hw'
      go_wp2
      go_ret
      exact ⟨rfl, HB.out⟩
    · have HE : Hid ((decide (s = s') && decide (i = i')) = false) := by show _ = _; simp [hi]
      rw [HE.out]
      have bn : (i == i') = false := by simp [hi]
      clear HE hi hcall
      subst hs
      go_enter Tryd.func11, Tryd.ntmps11
      go_wp2
      go_ret
      refine ⟨rfl, ?_⟩
      rw [← HWZ.out]; exact HB.out
  · have HE : Hid ((decide (s = s') && decide (i = i')) = false) := by show _ = _; simp [hs]
    rw [HE.out]
    have bn := beq_ne hs
    clear HE hs hcall
    go_enter Tryd.func11, Tryd.ntmps11
    go_wp2
    go_ret
    refine ⟨rfl, ?_⟩
    rw [← HWZ.out]; exact HB.out
theorem same_eg : ∀ args w, (callFunc 11 args).run Tryd.prog w = .ok (.enter 11 args) w := enters_of Tryd.func11 (by kernel_rfl) rfl
theorem bareV_mem {l : List Ev2} {x : Ev3} (h : x ∈ bareV l) : x = (x.1, x.2.1, .slice none 0 0) := by
  simp only [bareV, List.mem_map] at h
  obtain ⟨y, _, rfl⟩ := h
  rfl
theorem bareV_inj : ∀ {l m : List Ev2}, bareV l = bareV m → l = m
  | [], [], _ => rfl
  | [], _ :: _, h => by simp [bareV] at h
  | _ :: _, [], h => by simp [bareV] at h
  | (a, i) :: r, (b, j) :: s, h => by
    have e : (a, i, Value.slice none 0 0) :: bareV r = (b, j, Value.slice none 0 0) :: bareV s := h
    injection e with e1 e2
    rw [bareV_inj e2]
    simp at e1
    rw [e1.1, e1.2]
/- Rows of events without labels that are the same are told to be. -/
theorem evSame (ao bo : Option Addr) (b off b' off' n n' c d : Nat) (l m : List Ev2) (w : World) (hn : n = l.length) (hn' : n' = m.length) (hm : n ≤ maxLen) (hm' : n' ≤ maxLen) (h1 : EvV w ao b off (bareV l)) (h2 : EvV w bo b' off' (bareV m)) :
    Calls Tryd.prog 10 #[.slice ao n c, .slice bo n' d, .func (.func 11) #[] #[]] w fun e w' => e = .returned (.bool (decide (l = m))) ∧ Below w.heap.size w w' := by
  have key : eqF sameF (bareV l) (bareV m) = decide (l = m) := by
    have h : eqF sameF (bareV l) (bareV m) = true ↔ bareV l = bareV m := eqF_iff sameF fun x hx y hy => by
      rw [bareV_mem hx, bareV_mem hy]
      simp [sameF]
    have h' : bareV l = bareV m ↔ l = m := by
      constructor
      · exact bareV_inj
      · intro e; rw [e]
    by_cases e : l = m
    · rw [decide_eq_true e]; exact h.2 (h'.2 e)
    · rw [decide_eq_false e]
      cases hb : eqF sameF (bareV l) (bareV m) with
      | false => rfl
      | true => exact absurd (h'.1 (h.1 hb)) e
  rw [← key]
  refine evEqual 11 #[] same_eg sameF ao bo b off b' off' n n' c d (bareV l) (bareV m) w (by rw [bareV_len]; exact hn) (by rw [bareV_len]; exact hn') hm hm' h1 h2 (fun W x y hx hy _ => ?_)
  rw [bareV_mem hx, bareV_mem hy]
  exact sameC x.1 y.1 x.2.1 y.2.1 W
end Go.Proofs.YtfhpmnghakhlkaaDoor
