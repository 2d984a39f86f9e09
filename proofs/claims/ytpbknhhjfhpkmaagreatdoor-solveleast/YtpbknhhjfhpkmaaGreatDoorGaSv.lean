/- The law's closed fact on bounds, in plain words. The law's closed fact: solved returns true. -/
import Derived.Test.YtpbknhhjfhpkmaaGreatDoorSvB
import Derived.Test.YtpbknhhjfhpkmaaGreatDoorGaSame
namespace Go.Proofs.YtpbknhhjfhpkmaaGreatDoor
open Go.RowKit

def SL : List ByteArray := [⟨#[97]⟩, ⟨#[98]⟩]
def SP : Pol := (⟨#[97]⟩, [])
def SB : List RBd := [⟨[], [SP], 0, [], 0, []⟩, ⟨[0], [], -1, [], 0, []⟩]
theorem sl_chk : chkB SL [] 1 SB = 0 := by kernel_rfl
theorem sl_brk : brkE SL [] [[SP]] SB = 0 := by kernel_rfl
def sF : Nat → Nat := fun o => if o = 0 then 1 else 0
theorem sl_lab : labF SL sF = [SP] := by decide
theorem sl_told {s : Nat → Nat} (h : Sol.IsSet SL [SP] s) : s = sF := by
  funext o
  apply Nat.eq_of_testBit_eq
  intro g
  rw [Bool.eq_iff_iff, h o g]
  have hp : Act.pos SL SP.1 = 0 := by decide
  have hz : Sol.grp SL SP.2 = 0 := rfl
  constructor
  · rintro ⟨p, hp', h1, h2⟩
    rw [List.mem_singleton] at hp'
    subst hp'
    rw [hp] at h1
    subst h1
    rw [hz] at h2
    have : g = 0 := by
      apply Nat.eq_of_testBit_eq
      intro i
      rw [Nat.zero_testBit]
      cases hb : g.testBit i with
      | false => rfl
      | true =>
        have := ((h2 i).1 hb).1
        simp at this
    subst this
    rfl
  · intro hb
    unfold sF at hb
    by_cases ho : o = 0
    · subst ho
      have hg : g = 0 := by
        cases g with
        | zero => rfl
        | succ g => simp [Nat.testBit_succ] at hb
      subst hg
      refine ⟨SP, List.mem_singleton.2 rfl, hp, ?_⟩
      rw [hz]
      intro i
      simp
    · rw [if_neg ho, Nat.zero_testBit] at hb
      cases hb
theorem norm_sp : Lab.Norm blt plt [] [SP] [SP] := by
  have hc : Lab.CleanOf blt SP SP := by
    have := plainF_clean SP
    have e : plainF SP = SP := by kernel_rfl
    rw [e] at this
    exact this
  have hcl : ∀ c, Lab.cleaned blt [SP] c ↔ c = SP := fun c => by
    constructor
    · rintro ⟨p, hp, h⟩
      rw [List.mem_singleton] at hp
      subst hp
      exact Lab.clean_unique blt_order h hc
    · rintro rfl
      exact ⟨SP, List.mem_singleton.2 rfl, hc⟩
  refine ⟨List.pairwise_singleton _ _, fun c => ?_⟩
  rw [hcl, List.mem_singleton]
  constructor
  · rintro rfl
    exact ⟨rfl, fun q hq hne => absurd ((hcl q).1 hq) hne⟩
  · exact fun h => h.1
theorem sl_least {ys : List (List Pol)} (h : LeastOK SL [] 1 SB ys) : ys = [[SP]] := by
  obtain ⟨vs, f, hw, hc, hs, hn⟩ := h.form
  obtain ⟨y, rfl⟩ : ∃ y, ys = [y] := by
    have := h.len
    match ys, this with
    | [y], _ => exact ⟨y, rfl⟩
  obtain ⟨v0, v1, rfl⟩ : ∃ v0 v1, vs = [v0, v1] := by
    have := hw.1
    match vs, this with
    | [v0, v1], _ => exact ⟨v0, v1, rfl⟩
  have w0 : IsWay SL [] (toB ⟨[], [SP], 0, [], 0, []⟩) v0 := hw.2 0 (by simp [SB]) (by simp)
  have w1 : IsWay SL [] (toB ⟨[0], [], -1, [], 0, []⟩) v1 := hw.2 1 (by simp [SB]) (by simp)
  have d0 : v0.dst = 0 := w0.dst
  have d1 : v1.dst = -1 := w1.dst
  have e0 : v0.src = [] := by
    rw [List.eq_nil_iff_forall_not_mem]
    intro i hi
    have := (w0.src i).1 hi
    simp [toB] at this
  have ht := sl_told w0.told
  have hb : ∀ g, bringsV g v0 = sF := fun g => by
    funext o
    unfold bringsV plusAll Sol.lessS
    rw [e0, ht]
    show (if _ then 0 else sF o) = sF o
    split
    · rename_i hf
      by_cases ho : o < 2
      · obtain ⟨s, hs, _⟩ := (w0.free o ho).1 hf
        simp [toB] at hs
      · unfold sF
        rw [if_neg (by omega)]
    · rfl
  have hor : Sol.plus sF sF = sF := by
    funext o
    unfold Sol.plus
    exact Nat.or_self _
  have hoz : Sol.plus sF (fun _ => 0) = sF := by
    funext o
    unfold Sol.plus
    exact Nat.or_zero _
  have key : f 0 = (fun _ => 0) ∨ f 0 = sF := by
    clear hs hn
    induction hc with
    | none => exact .inl rfl
    | put f v _ hv hd ih =>
      have hv0 : v = v0 := by
        rcases List.mem_cons.1 hv with e | e
        · exact e
        · rw [List.mem_singleton] at e
          subst e
          exact absurd d1 hd
      subst hv0
      have e : Sol.putF f v.dst.toNat (Sol.plus (bringsV f v) (f v.dst.toNat)) 0 = Sol.plus sF (f 0) := by
        rw [hb, d0]
        rfl
      rw [e]
      rcases ih with h | h
      · rw [h]; exact .inr hoz
      · rw [h]; exact .inr hor
  have hf : f 0 = sF := by
    rcases key with h | h
    · have := hs v0 List.mem_cons_self (by rw [d0]; decide) 0 (by omega)
      rw [hb, d0] at this
      have e0 : (0 : Int).toNat = 0 := rfl
      rw [e0, h, hoz] at this
      cases this
    · exact h
  have hy := hn 0 (by simp)
  rw [hf, sl_lab] at hy
  have hy' : Lab.Norm blt plt [] [SP] y := hy
  rw [Lab.norm_unique plt_order hy' norm_sp]
theorem sl_broken {xs : List Int} (h : BrkOK [] [[SP]] SB xs) : xs = [1] := by
  obtain ⟨bk, h1, rfl⟩ := h.ex
  have b0 : bk 0 = false := by
    rw [Bool.eq_false_iff]
    intro hb
    refine (h1 0 (by simp [SB])).1 hb ?_
    refine Sol.go_sub ?_
    rintro q ⟨hq | ⟨i, hi, _⟩, _⟩
    · exact hq
    · simp [toB, SB] at hi
  have b1 : bk 1 = true := by
    refine (h1 1 (by simp [SB])).2 fun hh => ?_
    have hl : ¬ Lab.Left [] (toB SB[1]).by_ SP := by
      rintro ⟨s, hs, _⟩
      simp [toB, SB] at hs
    have hq : Sol.brings [] (toB SB[1]) (Sol.hs [[SP]]) SP := ⟨.inr ⟨0, by simp [toB, SB], by simp [Sol.hs]⟩, hl⟩
    obtain ⟨p, hp, _⟩ := hh SP hq
    simp [toB, SB, Sol.goal] at hp
  have : (List.range SB.length).filter bk = [1] := by
    show [0, 1].filter bk = [1]
    simp [b0, b1]
  rw [this]
  rfl
end Go.Proofs.YtpbknhhjfhpkmaaGreatDoor

namespace Go.Proofs.YtpbknhhjfhpkmaaGreatDoor
open Go.RowKit

def svW (w : World) : World := (((w.alloc (.cells #[.string ⟨#[97]⟩, .string ⟨#[98]⟩] 9)).alloc (.cells #[.string ⟨#[97]⟩, .slice none 0 0] 63)).alloc (.cells #[.int .i64 0] 3)).alloc (.cells #[.slice none 0 0, .slice (some ⟨w.heap.size + 1, 0, none⟩) 1 1, .int .i64 0, .slice none 0 0, .int .i64 0, .slice none 0 0, .slice (some ⟨w.heap.size + 2, 0, none⟩) 1 1, .slice none 0 0, .int .i64 (-1), .slice none 0 0, .int .i64 0, .slice none 0 0] 60)
theorem sv_bel (w : World) : Below w.heap.size w (svW w) := ((((Below.refl _ _).alloc (Nat.le_refl _) _).alloc (by simp) _).alloc (by simp; omega) _).alloc (by simp; omega) _
theorem sv_0 (w : World) : (svW w).heap[w.heap.size]? = some (.cells #[.string ⟨#[97]⟩, .string ⟨#[98]⟩] 9 (0, 0)) := heap_past_alloc (heap_past_alloc (heap_past_alloc (heap_at_alloc _ _ _ rfl)))
theorem sv_1 (w : World) : (svW w).heap[w.heap.size + 1]? = some (.cells #[.string ⟨#[97]⟩, .slice none 0 0] 63 (0, 0)) := heap_past_alloc (heap_past_alloc (heap_at_alloc _ _ _ (by simp)))
theorem sv_2 (w : World) : (svW w).heap[w.heap.size + 2]? = some (.cells #[.int .i64 0] 3 (0, 0)) := heap_past_alloc (heap_at_alloc _ _ _ (by simp))
theorem sv_3 (w : World) : (svW w).heap[w.heap.size + 3]? = some (.cells #[.slice none 0 0, .slice (some ⟨w.heap.size + 1, 0, none⟩) 1 1, .int .i64 0, .slice none 0 0, .int .i64 0, .slice none 0 0, .slice (some ⟨w.heap.size + 2, 0, none⟩) 1 1, .slice none 0 0, .int .i64 (-1), .slice none 0 0, .int .i64 0, .slice none 0 0] 60 (0, 0)) := heap_at_alloc _ _ _ (by simp)
theorem sv_chiefs (w : World) : Chiefs (svW w) (some ⟨w.heap.size, 0, none⟩) none w.heap.size 0 0 0 2 0 2 SL [] := by
  have h1 := sv_0 w
  refine ⟨rfl, rfl, by unfold maxLen; omega, by unfold maxLen; omega, Nat.le_refl _, ⟨fun _ => rfl, ?_, fun _ => lt_of_block h1⟩, ⟨fun h => by simp at h, fun k h => by simp at h, fun k h => by simp at h, fun h => by simp at h⟩, ?_⟩
  · intro k hk
    match k, hk with
    | 0, _ => simp [World.cell?, h1, SL]
    | 1, _ => simp [World.cell?, h1, SL]
  · intro s hs
    simp [SL] at hs
    rcases hs with rfl | rfl <;> (unfold maxLen; decide)
theorem sp_lab {w : World} {b : Nat} {m : Nat × Nat} (h1 : w.heap[b]? = some (.cells #[.string ⟨#[97]⟩, .slice none 0 0] 63 m)) : LabAt w (some ⟨b, 0, none⟩) b 0 1 1 [SP] := by
  refine ⟨rfl, by unfold maxLen; omega, Nat.le_refl _, ⟨fun _ => rfl, fun k hk => ?_, fun k hk => ?_, fun _ => lt_of_block h1⟩, fun p hp => ?_⟩
  · match k, hk with
    | 0, _ => simp [World.cell?, h1, SP]
  · match k, hk with
    | 0, _ => exact ⟨.slice none 0 0, by simp [World.cell?, h1], none, 0, 0, 0, rfl, Nat.le_refl _, Nat.zero_le _, ⟨fun h => by simp [SP] at h, fun k h => by simp [SP] at h, fun h => by simp [SP] at h⟩⟩
  · simp at hp
    subst hp
    exact ⟨by unfold maxLen; decide, fun r hr => by simp [SP] at hr⟩
theorem nil_lab (w : World) : LabVal w (.slice none 0 0) [] := ⟨none, 0, 0, 0, 0, rfl, rfl, Nat.zero_le _, Nat.zero_le _, ⟨fun h => by simp at h, fun k h => by simp at h, fun k h => by simp at h, fun h => by simp at h⟩, fun p hp => by cases hp⟩
theorem nil_ints (w : World) : IntsAt w (.slice none 0 0) [] := ⟨none, 0, 0, 0, rfl, Nat.zero_le _, ⟨fun h => by simp at h, fun k h => by simp at h, fun h => by simp at h⟩⟩
theorem nil_readers (w : World) : ReadersAt w (.slice none 0 0) [] := ⟨none, 0, 0, 0, rfl, Nat.le_refl _, Nat.zero_le _, ⟨fun h => by simp at h, fun k h => by simp at h, fun h => by simp at h⟩⟩
theorem one_int {w : World} {b : Nat} {i : Int} {m : Nat × Nat} (h1 : w.heap[b]? = some (.cells #[.int .i64 i] 3 m)) : Ints w (some ⟨b, 0, none⟩) b 0 [i] :=
  ⟨fun _ => rfl, fun k hk => by
    match k, hk with
    | 0, _ => simp [World.cell?, h1], fun _ => lt_of_block h1⟩
theorem sv_bds (w : World) : Bds (svW w) (some ⟨w.heap.size + 3, 0, none⟩) (w.heap.size + 3) 0 SB := by
  have h3 := sv_3 w
  refine ⟨fun _ => rfl, fun k hk => ?_⟩
  match k, hk with
  | 0, _ => exact ⟨⟨.slice none 0 0, by simp [World.cell?, h3], nil_ints _⟩, ⟨.slice (some ⟨w.heap.size + 1, 0, none⟩) 1 1, by simp [World.cell?, h3], _, _, _, _, _, rfl, sp_lab (sv_1 w)⟩, by simp [World.cell?, h3, SB], ⟨.slice none 0 0, by simp [World.cell?, h3], nil_lab _⟩, by simp [World.cell?, h3, SB], ⟨.slice none 0 0, by simp [World.cell?, h3], nil_readers _⟩, lt_of_block h3⟩
  | 1, _ => exact ⟨⟨.slice (some ⟨w.heap.size + 2, 0, none⟩) 1 1, by simp [World.cell?, h3], _, _, _, _, rfl, by show 1 ≤ maxLen; unfold maxLen; omega, one_int (sv_2 w)⟩, ⟨.slice none 0 0, by simp [World.cell?, h3], nil_lab _⟩, by simp [World.cell?, h3, SB], ⟨.slice none 0 0, by simp [World.cell?, h3], nil_lab _⟩, by simp [World.cell?, h3, SB], ⟨.slice none 0 0, by simp [World.cell?, h3], nil_readers _⟩, lt_of_block h3⟩

set_option maxRecDepth 100000 in
set_option maxHeartbeats 4000000 in
theorem solved_any (w : World) (hT : TzTab w) : Calls Tryz.prog 7 #[] w fun e w' => e = .returned (.bool true) ∧ Below w.heap.size w w' := by
  have HB : Hid (Below w.heap.size w (svW w)) := sv_bel w
  have HT : Hid (TzTab (svW w)) := hT.later (sv_bel w)
  have HCH : Hid (Chiefs (svW w) (some ⟨w.heap.size, 0, none⟩) none w.heap.size 0 0 0 2 0 2 SL []) := sv_chiefs w
  have HBD : Hid (Bds (svW w) (some ⟨w.heap.size + 3, 0, none⟩) (w.heap.size + 3) 0 SB) := sv_bds w
  have hcall := leastL _ _ _ _ _ _ _ _ _ _ 0 _ _ 2 2 1 SL [] SB (svW w) HCH.out HBD.out rfl (by unfold maxLen; omega) HT.out
  have HW : Hid (svW w = (((w.alloc (.cells #[.string ⟨#[97]⟩, .string ⟨#[98]⟩] 9)).alloc (.cells #[.string ⟨#[97]⟩, .slice none 0 0] 63)).alloc (.cells #[.int .i64 0] 3)).alloc (.cells #[.slice none 0 0, .slice (some ⟨w.heap.size + 1, 0, none⟩) 1 1, .int .i64 0, .slice none 0 0, .int .i64 0, .slice none 0 0, .slice (some ⟨w.heap.size + 2, 0, none⟩) 1 1, .slice none 0 0, .int .i64 (-1), .slice none 0 0, .int .i64 0, .slice none 0 0] 60)) := rfl
  obtain ⟨wz, hwz⟩ : ∃ wz, wz = svW w := ⟨_, rfl⟩
  rw [← hwz] at hcall HB HW HT HCH HBD
  clear hT hwz
  go_enter Tryz.func7, Tryz.ntmps7
  go_wp2_with fail
  rw [← HW.out]
  refine hcall.mono ?_
  rintro e w1 ⟨hb1, ⟨hne, _⟩ | ⟨_, ro, rb, rc, ys, rfl, _, hat, hok⟩⟩
  · exact absurd sl_chk hne
  obtain rfl := sl_least hok
  have el : ([[SP]] : List (List Pol)).length = 1 := rfl
  rw [el]
  have HB1 : Hid (Below wz.heap.size wz w1) := hb1
  have hcall2 := brokenL _ _ _ _ _ _ _ _ _ _ _ 0 _ _ 2 2 _ _ rc SL [] [[SP]] SB w1 (HCH.out.later hb1) (HBD.out.later hb1) rfl (by unfold maxLen; omega) hat (by unfold maxLen; decide) (HT.out.later hb1)
  rw [el] at hcall2
  have HA : Hid (LbsAt w1 ro rb 0 [[SP]]) := hat
  clear hok hcall hat hb1
  go_wp2_with fail
  refine hcall2.mono ?_
  rintro e w2 ⟨hb2, ⟨hne, _⟩ | ⟨_, xo, xb, xc, xs, rfl, _, hxs, hbk⟩⟩
  · exact absurd sl_brk hne
  obtain rfl := sl_broken hbk
  have el1 : ([1] : List Int).length = 1 := rfl
  rw [el1]
  have hA2 := HA.out.later hb2
  have hro := hA2.adr (by decide)
  obtain ⟨v, hv, lo, lb, loff, ln, lc, rfl, hlab⟩ := hA2.at' 0 (by decide)
  have hln : ln = 1 := hlab.ln
  subst hln hro
  have HB2 : Hid (Below w.heap.size w w2) := HB.out.trans ((HB1.out.trans (hb2.mono HB1.out.size)).mono HB.out.size)
  have HX : Hid (Ints w2 xo xb 0 [1]) := hxs
  obtain ⟨w3, hw3⟩ : ∃ w3, w3 = w2.alloc (.cells #[.string ⟨#[97]⟩, .slice none 0 0] 63) := ⟨_, rfl⟩
  have hb3 : Below w2.heap.size w2 w3 := by rw [hw3]; exact (Below.refl _ _).alloc (Nat.le_refl _) _
  have k3 : w3.heap[w2.heap.size]? = some (.cells #[.string ⟨#[97]⟩, .slice none 0 0] 63 (0, 0)) := by rw [hw3]; exact heap_at_alloc _ _ _ rfl
  have hcall3 := sameLabel _ _ _ _ _ _ 1 lc 1 [SP] w3 (by omega) (hlab.later hb3) (sp_lab k3) (fun p hp => by simp at hp; subst hp; decide)
  have HB3 : Hid (Below w2.heap.size w2 w3) := hb3
  have HW3 : Hid (w3 = w2.alloc (.cells #[.string ⟨#[97]⟩, .slice none 0 0] 63)) := hw3
  clear hcall2 hb2 hxs hbk hA2 hlab hb3 hw3 k3
  go_wp2_with fail
  rw [← HW3.out]
  refine hcall3.mono ?_
  rintro e w4 ⟨rfl, hb4⟩
  have HB4 : Hid (Below w2.heap.size w2 w4) := HB3.out.trans (hb4.mono HB3.out.size)
  obtain ⟨w5, hw5⟩ : ∃ w5, w5 = w4.alloc (.cells #[.int .i64 1] 3) := ⟨_, rfl⟩
  have hb5 : Below w4.heap.size w4 w5 := by rw [hw5]; exact (Below.refl _ _).alloc (Nat.le_refl _) _
  have k5 : w5.heap[w4.heap.size]? = some (.cells #[.int .i64 1] 3 (0, 0)) := by rw [hw5]; exact heap_at_alloc _ _ _ rfl
  have hcall5 := eqInts _ _ _ _ _ _ 1 1 xc 1 [1] [1] w5 rfl rfl (by unfold maxLen; omega) (by unfold maxLen; omega) ((HX.out.later HB4.out).later hb5) (one_int k5)
  rw [decide_eq_true rfl] at hcall5
  have HB5 : Hid (Below w.heap.size w w5) := HB2.out.trans ((HB4.out.trans (hb5.mono HB4.out.size)).mono HB2.out.size)
  have HW5 : Hid (w5 = w4.alloc (.cells #[.int .i64 1] 3)) := hw5
  clear hcall3 hb4 hb5 hw5 k5
  go_wp2_with fail
  rw [← HW5.out]
  refine hcall5.mono ?_
  rintro e w6 ⟨rfl, q, rfl⟩
  go_wp2
  go_ret
  exact ⟨rfl, HB5.out.trans (below_dN _ q)⟩
end Go.Proofs.YtpbknhhjfhpkmaaGreatDoor
