/- Going from one to the next: plain. Contract of the document's own ActsFor. -/
import Derived.Test.YtpbknhhjfhpkmaaGreatDoorAct
import Derived.Test.YtpbknhhjfhpkmaaGreatDoorOwnC
import Derived.Deep.QuietTactic
namespace Go.Proofs.YtpbknhhjfhpkmaaGreatDoor
namespace Act
variable {α : Type} [DecidableEq α]

/- What has been seen, the first k of it looked at. -/
structure Bfs (ps : List (α × α)) (x y : α) (seen : List α) (k : Nat) : Prop where
  nd : seen.Nodup
  mem : x ∈ seen
  way : ∀ s ∈ seen, Way ps x s
  sub : ∀ s ∈ seen, s ∈ x :: ps.map (·.2)
  le : k ≤ seen.length
  closed : ∀ i s, i < k → seen[i]? = some s → ∀ p ∈ ps, p.1 = s → p.2 ∈ seen
  noty : ∀ i s, i < k → seen[i]? = some s → s ≠ y
omit [DecidableEq α] in
theorem Bfs.start (ps : List (α × α)) (x y : α) : Bfs ps x y [x] 0 :=
  ⟨by simp, by simp, fun s hs => by simp at hs; subst hs; exact .refl _, fun s hs => by simp at hs; simp [hs], by simp, fun i s h => by omega, fun i s h => by omega⟩
omit [DecidableEq α] in
theorem Bfs.short {ps : List (α × α)} {x y : α} {seen : List α} {k : Nat} (h : Bfs ps x y seen k) : seen.length ≤ ps.length + 1 := by
  have := List.Nodup.length_le_of_subset h.nd h.sub
  simpa using this
omit [DecidableEq α] in
theorem way_in {ps : List (α × α)} {seen : List α} (hc : ∀ s ∈ seen, ∀ p ∈ ps, p.1 = s → p.2 ∈ seen) {a b : α} (h : Way ps a b) (ha : a ∈ seen) : b ∈ seen := by
  induction h with
  | refl => exact ha
  | step e _ ih => exact ih (hc _ ha _ e rfl)
omit [DecidableEq α] in
theorem Bfs.none {ps : List (α × α)} {x y : α} {seen : List α} {k : Nat} (h : Bfs ps x y seen k) (hk : ¬ k < seen.length) : ¬ Way ps x y := by
  intro w
  have hc : ∀ s ∈ seen, ∀ p ∈ ps, p.1 = s → p.2 ∈ seen := by
    intro s hs
    obtain ⟨i, hi, e⟩ := List.getElem_of_mem hs
    exact h.closed i s (by omega) (by rw [List.getElem?_eq_getElem hi, e])
  have hy := way_in hc w h.mem
  obtain ⟨i, hi, e⟩ := List.getElem_of_mem hy
  exact h.noty i y (by omega) (by rw [List.getElem?_eq_getElem hi, e]) rfl
/- The one at place k, whose pairs up to j have been gone. -/
structure Bfs2 (ps : List (α × α)) (x y : α) (seen : List α) (k : Nat) (s : α) (j : Nat) : Prop where
  bfs : Bfs ps x y seen k
  at_k : seen[k]? = some s
  ne : s ≠ y
  done : ∀ p ∈ ps.take j, p.1 = s → p.2 ∈ seen
omit [DecidableEq α] in
theorem Bfs2.start {ps : List (α × α)} {x y s : α} {seen : List α} {k : Nat} (h : Bfs ps x y seen k) (hs : seen[k]? = some s) (hn : s ≠ y) : Bfs2 ps x y seen k s 0 := ⟨h, hs, hn, fun p hp => by simp at hp⟩
omit [DecidableEq α] in
theorem Bfs2.skip {ps : List (α × α)} {x y s : α} {seen : List α} {k j : Nat} (h : Bfs2 ps x y seen k s j) (hj : j < ps.length) (hs : ps[j].1 = s → ps[j].2 ∈ seen) : Bfs2 ps x y seen k s (j + 1) := by
  refine ⟨h.bfs, h.at_k, h.ne, fun p hp => ?_⟩
  rw [List.take_succ_eq_append_getElem hj, List.mem_append, List.mem_singleton] at hp
  rcases hp with hp | rfl
  · exact h.done p hp
  · exact hs
omit [DecidableEq α] in
theorem Bfs2.add {ps : List (α × α)} {x y s : α} {seen : List α} {k j : Nat} (h : Bfs2 ps x y seen k s j) (hj : j < ps.length) (h1 : ps[j].1 = s) (h2 : ps[j].2 ∉ seen) : Bfs2 ps x y (seen ++ [ps[j].2]) k s (j + 1) := by
  have hb := h.bfs
  have hks : k < seen.length := (List.getElem?_eq_some_iff.1 h.at_k).1
  have hpre : ∀ i, i < seen.length → (seen ++ [ps[j].2])[i]? = seen[i]? := fun i hi => by rw [List.getElem?_append_left hi]
  have hms : s ∈ seen := List.mem_of_getElem? h.at_k
  refine ⟨⟨?_, List.mem_append_left _ hb.mem, ?_, ?_, by simp; omega, ?_, ?_⟩, by rw [hpre k hks]; exact h.at_k, h.ne, ?_⟩
  · rw [List.nodup_append]
    refine ⟨hb.nd, by simp, ?_⟩
    intro a ha b hb' e
    simp at hb'; subst hb'; subst e; exact h2 ha
  · intro t ht
    rcases List.mem_append.1 ht with ht | ht
    · exact hb.way t ht
    · simp at ht; subst ht
      refine (hb.way s hms).trans (.one ?_)
      have := List.getElem_mem hj
      rw [← h1]; exact this
  · intro t ht
    rcases List.mem_append.1 ht with ht | ht
    · exact hb.sub t ht
    · simp at ht; subst ht
      exact List.mem_cons_of_mem _ (List.mem_map.2 ⟨_, List.getElem_mem hj, rfl⟩)
  · intro i t hi hit p hp e
    rw [hpre i (by have := hb.le; omega)] at hit
    exact List.mem_append_left _ (hb.closed i t hi hit p hp e)
  · intro i t hi hit
    rw [hpre i (by have := hb.le; omega)] at hit
    exact hb.noty i t hi hit
  · intro p hp e
    rw [List.take_succ_eq_append_getElem hj, List.mem_append, List.mem_singleton] at hp
    rcases hp with hp | rfl
    · exact List.mem_append_left _ (h.done p hp e)
    · simp
omit [DecidableEq α] in
theorem Bfs2.next {ps : List (α × α)} {x y s : α} {seen : List α} {k j : Nat} (h : Bfs2 ps x y seen k s j) (hj : ps.length ≤ j) : Bfs ps x y seen (k + 1) := by
  have hb := h.bfs
  have hks : k < seen.length := (List.getElem?_eq_some_iff.1 h.at_k).1
  refine ⟨hb.nd, hb.mem, hb.way, hb.sub, by omega, ?_, ?_⟩
  · intro i t hi hit p hp e
    by_cases hik : i = k
    · subst hik
      rw [h.at_k] at hit
      obtain rfl := Option.some.inj hit
      exact h.done p (by rw [List.take_of_length_le hj]; exact hp) e
    · exact hb.closed i t (by omega) hit p hp e
  · intro i t hi hit
    by_cases hik : i = k
    · subst hik
      rw [h.at_k] at hit
      obtain rfl := Option.some.inj hit
      exact h.ne
    · exact hb.noty i t (by omega) hit
end Act
end Go.Proofs.YtpbknhhjfhpkmaaGreatDoor

namespace Go.Proofs.YtpbknhhjfhpkmaaGreatDoor
open Go.RowKit

/- What ActsFor's loops hold of the row of those seen. -/
structure SeenSt (w wr : World) (v : Value) (seen : List ByteArray) : Prop where
  bel : Below w.heap.size w wr
  own : wr.ownsRow w.heap.size 9 1 v seen.length (strC seen)
theorem SeenSt.alloc {w wr : World} {v : Value} {seen : List ByteArray} (h : SeenSt w wr v seen) (o : Obj) (n : Nat) : SeenSt w ((wr.alloc o).drewN n) v seen :=
  ⟨by
    have := h.bel.alloc h.bel.size o
    exact ⟨this.os, this.tape, this.output, this.size, this.block⟩, World.ownsRow.alloc h.own o⟩
theorem SeenSt.step {w wr w2 : World} {v v' : Value} {seen : List ByteArray} {s : ByteArray} {o : Obj} (h : SeenSt w wr v seen) (hown : w2.ownsRow w.heap.size 9 1 v' (seen.length + 1) (strC seen ++ [.string s])) (hgr : (wr.alloc o).grownBy w2 v.ownBlock) : SeenSt w w2 v' (seen ++ [s]) := by
  refine ⟨(h.bel.alloc h.bel.size o).grown hgr (by have := h.bel.size; simp; omega) (fun k he => (h.own.lt _ he).1), ?_⟩
  simpa [strC] using hown

set_option maxHeartbeats 2000000 in
set_option maxRecDepth 100000 in
theorem actsR_any (po : Option Addr) (b' off' m d : Nat) (ps : List (ByteArray × ByteArray)) (x y : ByteArray) (w : World) (hm : m = ps.length) (hm10 : m ≤ 10) (hp : Prs w po b' off' ps) :
    Calls Tryz.prog 64 #[.slice po m d, .string x, .string y] w fun e w' => ∃ r : Bool, e = .returned (.bool r) ∧ (r = true ↔ Act.Way ps x y) ∧ Below w.heap.size w w' := by
  have HM : Hid (m = ps.length) := hm
  clear hm
  obtain ⟨i0, hi, hz0, hz1, hz2⟩ := info_parts Tryz.infoStr
  go_enter Tryz.func64, Tryz.ntmps64
  go_wp2
  go_loopw [7, 8] (fun v i wr => ∃ (seen : List ByteArray) (k : Nat), i = .int .i64 k ∧ Hid (Act.Bfs ps x y seen k) ∧ Hid (SeenSt w wr v seen)) (fun _ i _ => 20 - (intOf i).toNat)
  case atStart =>
    refine ⟨[x], 0, rfl, Act.Bfs.start ps x y, (Below.refl _ _).alloc (Nat.le_refl _) _, rfl, .inr ⟨w.heap.size, 1, #[.string x], rfl, Nat.le_refl _, heap_at_alloc _ _ _ rfl, Nat.le_refl _, by simp [maxLen], rfl, rfl⟩⟩
  case round =>
    obtain ⟨seen, k, rfl, HF, HS⟩ := hrel
    have hsh := HF.out.short
    have hkl := HF.out.le
    have hpm := HM.out
    have hs11 : seen.length ≤ 11 := by omega
    clear hsh hpm
    obtain ⟨ao, g, cap, hv, hc1, hc2, hss⟩ := strs_of_own HS.out.own
    subst hv
    have HSS : Hid (Strs wr ao g 0 seen) := hss
    clear hss
    unfold maxLen at hc2
    by_cases hlt : k < seen.length
    · have f0 := HSS.out.cell k hlt
      rw [Nat.zero_add] at f0
      have hao := HSS.out.adr (by omega)
      subst hao
      obtain ⟨s, hs⟩ : ∃ s, s = seen[k] := ⟨_, rfl⟩
      rw [← hs] at f0
      have HAT : Hid (seen[k]? = some s) := by show _ = _; rw [hs]; exact List.getElem?_eq_getElem hlt
      clear hs
      obtain ⟨N, hN⟩ : ∃ N, N = seen.length := ⟨_, rfl⟩
      have HN : Hid (N = seen.length) := hN
      rw [← hN] at hlt hs11 hc1 hkl ⊢
      clear hN
      by_cases hsy : s = y
      · have HW : Hid (Act.Way ps x y) := by
          have := HF.out.way s (List.mem_of_getElem? HAT.out)
          rwa [hsy] at this
        subst hsy
        go_wp2
        go_ret
        exact ⟨true, rfl, ⟨fun _ => HW.out, fun _ => rfl⟩, HS.out.bel⟩
      · have hbe := beq_ne hsy
        have H2 : Hid (Act.Bfs2 ps x y seen k s 0) := .start HF.out HAT.out hsy
        have hsyp : ¬ s = y := hsy
        clear HAT HF hsy hsyp
        go_wp2
        go_loopw [7, 27] (fun v i wx => ∃ (seen : List ByteArray) (j : Nat), j ≤ m ∧ i = .int .i64 j ∧ Hid (Act.Bfs2 ps x y seen k s j) ∧ Hid (SeenSt w wx v seen)) (fun _ i _ => m - (intOf i).toNat)
        case atStart => exact ⟨seen, 0, Nat.zero_le _, rfl, H2, by have := HS; rwa [HN.out]⟩
        case round =>
          clear H2 HS HSS HN f0
          obtain ⟨seen2, j, hj, rfl, H2, HS⟩ := hrel
          obtain ⟨ao2, g2, cap2, hv, hd1, hd2, hss⟩ := strs_of_own HS.out.own
          subst hv
          have HSS : Hid (Strs wr ao2 g2 0 seen2) := hss
          clear hss
          unfold maxLen at hd2
          have hl2 : seen2.length ≤ 11 := by have := H2.out.bfs.short; have := HM.out; omega
          have hk2 : k < seen2.length := (List.getElem?_eq_some_iff.1 H2.out.at_k).1
          obtain ⟨N2, hN2⟩ : ∃ N2, N2 = seen2.length := ⟨_, rfl⟩
          have HN2 : Hid (N2 = seen2.length) := hN2
          by_cases hltj : j < m
          · have hl0 := HM.out
            have hpo := hp.adr (by omega)
            subst hpo
            have hjl : j < ps.length := by omega
            have hp' := hp.later HS.out.bel
            have q0 := hp'.c0 j hjl
            have q1 := hp'.c1 j hjl
            have g0 := HSS.out.cell k hk2
            rw [Nat.zero_add] at g0
            have eat : seen2[k] = s := by
              have := H2.out.at_k
              rw [List.getElem?_eq_getElem hk2] at this
              exact Option.some.inj this
            rw [eat] at g0
            have hao2 := HSS.out.adr (by omega)
            subst hao2
            have lg2 : g2 < wr.heap.size := HSS.out.lt (by omega)
            have hsk := fun h => H2.out.skip hjl h
            have had := fun h1 h2 => H2.out.add hjl h1 h2
            obtain ⟨p, hpx⟩ : ∃ p, p = ps[j] := ⟨_, rfl⟩
            rw [← hpx] at q0 q1 hsk had
            obtain ⟨x1, x2⟩ := p
            simp only at q0 q1 hsk had
            rw [← hN2] at hl2 hk2 hd1 ⊢
            clear hl0 hp' eat hpx hN2
            have HSA : Hid (∀ n : Nat, SeenSt w ((wr.alloc (.cells #[.string x1, .string x2] 115)).drewN n) (.slice (some ⟨g2, 0, none⟩) N2 cap2) seen2) := fun n => by
              have h := HS.out.alloc (.cells #[.string x1, .string x2] 115) n
              rwa [← HN2.out] at h
            by_cases hxs : x1 = s
            · subst hxs
              cases hh : Act.has seen2 x2 with
              | true =>
                have HK : Hid (Act.Bfs2 ps x y seen2 k x1 (j + 1)) := hsk (fun _ => Act.has_iff.1 hh)
                have HCC : Hid (∀ n : Nat, Calls Tryz.prog 25 #[.slice (some ⟨g2, 0, none⟩) N2 cap2, .string x2] ((wr.alloc (.cells #[.string x1, .string x2] 115)).drewN n) fun e w' => e = .returned (.bool true) ∧ w' = (wr.alloc (.cells #[.string x1, .string x2] 115)).drewN n) := fun n => by
                  have h := contains_any (some ⟨g2, 0, none⟩) g2 0 N2 cap2 seen2 x2 ((wr.alloc (.cells #[.string x1, .string x2] 115)).drewN n) HN2.out (by unfold maxLen; omega) ((HSS.out.later ((Below.refl _ _).alloc (Nat.le_refl _) (.cells #[.string x1, .string x2] 115))).of_heap rfl)
                  rw [hh] at h
                  exact h
                clear hh hsk had
                go_wp2
                go_quiet ((go_at_call 25; exact Calls.quiet_of_same (HCC.out _)))
                go_wp2
                go_roundw
                case rel => exact ⟨seen2, j + 1, by omega, by go_num, HK, HSA.out _⟩
                case measure => simp [intOf]; omega
              | false =>
                have HK : Hid (Act.Bfs2 ps x y (seen2 ++ [x2]) k x1 (j + 1)) := had rfl (Act.has_not.1 hh)
                have HCC : Hid (∀ n : Nat, Calls Tryz.prog 25 #[.slice (some ⟨g2, 0, none⟩) N2 cap2, .string x2] ((wr.alloc (.cells #[.string x1, .string x2] 115)).drewN n) fun e w' => e = .returned (.bool false) ∧ w' = (wr.alloc (.cells #[.string x1, .string x2] 115)).drewN n) := fun n => by
                  have h := contains_any (some ⟨g2, 0, none⟩) g2 0 N2 cap2 seen2 x2 ((wr.alloc (.cells #[.string x1, .string x2] 115)).drewN n) HN2.out (by unfold maxLen; omega) ((HSS.out.later ((Below.refl _ _).alloc (Nat.le_refl _) (.cells #[.string x1, .string x2] 115))).of_heap rfl)
                  rw [hh] at h
                  exact h
                clear hh hsk had
                go_wp2
                go_quiet ((go_at_call 25; exact Calls.quiet_of_same (HCC.out _)))
                have HSN := HSA.out nq
                have HO : Hid (((wr.alloc (.cells #[.string x1, .string x2] 115)).drewN nq).ownsRow w.heap.size 9 1 (.slice (some ⟨g2, 0, none⟩) N2 cap2) N2 (strC seen2)) := by have := HSN.own; rwa [← HN2.out] at this
                have HST : Hid (SeenSt w ((wr.alloc (.cells #[.string x1, .string x2] 115)).drewN nq) (.slice (some ⟨g2, 0, none⟩) N2 cap2) seen2) := HSN
                have hbz : w.heap.size ≤ wr.heap.size := HS.out.bel.size
                clear HSN
                go_wp2_with (at_builtin; refine wpList_append_own _ rfl _ _ 22 rfl w.heap.size 9 i0 (.string ⟨#[]⟩) 1 16 Tryz.underlying22 hi hz0 hz1 hz2 rfl (by decide) _ _ _ rfl (World.ownsRow.alloc HO.out _) ⟨wr.heap.size + 1, 0, none⟩ 1 1 [.string x2] rfl rfl ?c1 ?c2 ?c3 ?c4 ?c5 ?_)
                case c1 =>
                  have h := one_new ((wr.alloc (.cells #[.string x1, .string x2] 115)).drewN nq) (.string x2) 9
                  have e : ((wr.alloc (.cells #[.string x1, .string x2] 115)).drewN nq).heap.size = wr.heap.size + 1 := by
                    show (wr.alloc (.cells #[.string x1, .string x2] 115)).heap.size = _
                    simp
                  rw [e] at h
                  exact h
                case c2 => intro u hu; simp at hu; subst hu; rfl
                case c3 => unfold maxLen; omega
                case c4 => omega
                case c5 =>
                  show w.heap.size ≤ ((wr.alloc (.cells #[.string x1, .string x2] 115)).alloc (.cells #[.string x2] 9)).heap.size
                  simp; omega
                · intro v' w3 hown3 hgrow3 _
                  have HN3 : Hid (SeenSt w w3 v' (seen2 ++ [x2])) := by
                    have h := hown3
                    rw [HN2.out] at h
                    exact HST.out.step h hgrow3
                  clear hown3 hgrow3
                  go_wp2
                  go_roundw
                  case rel => exact ⟨seen2 ++ [x2], j + 1, by omega, by go_num, HK, HN3⟩
                  case measure => simp [intOf]; omega
            · have hbe2 := beq_ne hxs
              have HK : Hid (Act.Bfs2 ps x y seen2 k s (j + 1)) := hsk (fun h => absurd h hxs)
              clear hsk had hxs
              go_wp2
              go_quiet (fail)
              go_wp2
              go_roundw
              case rel => exact ⟨seen2, j + 1, by omega, by go_num, HK, HSA.out _⟩
              case measure => simp [intOf]; omega
          · have HK : Hid (Act.Bfs ps x y seen2 (k + 1)) := H2.out.next (by have := HM.out; omega)
            rw [← hN2] at hl2 hk2 hd1 ⊢
            have HSN : Hid (SeenSt w wr (.slice ao2 N2 cap2) seen2) := by have := HS; rwa [← HN2.out] at this
            clear hN2
            go_wp2
            go_roundw
            case rel => exact ⟨seen2, k + 1, by go_num, HK, HSN⟩
            case measure => simp [intOf]; omega
    · have HW : Hid (¬ Act.Way ps x y) := HF.out.none hlt
      obtain ⟨N, hN⟩ : ∃ N, N = seen.length := ⟨_, rfl⟩
      rw [← hN] at hlt hs11 hc1 hkl ⊢
      clear hN
      go_wp2
      go_ret
      exact ⟨false, rfl, ⟨fun h => (by cases h), fun h => absurd h HW.out⟩, HS.out.bel⟩
end Go.Proofs.YtpbknhhjfhpkmaaGreatDoor
