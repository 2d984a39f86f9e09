/- Contract of label.Normal. -/
import Derived.Test.YtjfiakoningmkaaGreatDoorNormC
import Derived.Test.YtjfiakoningmkaaGreatDoorGaLabW
namespace Go.Proofs.YtjfiakoningmkaaGreatDoor
open Go.RowKit

theorem of_clean {ls : List ByteArray} {x : List Pol} (hx : Lab.OfL ls x) {c : Pol} (hc : Lab.cleaned blt x c) : Lab.Of ls c := by
  obtain ⟨p, hp, h⟩ := hc
  exact ⟨by rw [h.own]; exact (hx p hp).1, fun r hr => (hx p hp).2 r ((h.mem r).1 hr).1⟩
theorem clean_plain {x : List Pol} {c : Pol} : c ∈ x.map plainF ↔ Lab.cleaned blt x c := by
  rw [List.mem_map]
  constructor
  · rintro ⟨p, hp, rfl⟩; exact ⟨p, hp, plainF_clean p⟩
  · rintro ⟨p, hp, h⟩; exact ⟨p, hp, Lab.clean_unique blt_order (plainF_clean p) h⟩
theorem norm_of_rows {ls : List ByteArray} {ps : List (ByteArray × ByteArray)} {x R : List Pol} (hr : Act.Right ls ps) (hx : Lab.OfL ls x) (hp : R.Perm (x.map plainF)) (hs : R.Pairwise (fun a b => a = b ∨ plt a b)) : Lab.Norm blt plt ps x (R.foldl (Lab.stepN (Lab.coversB ls ps)) []) := by
  have hR : ∀ c, c ∈ R ↔ Lab.cleaned blt x c := fun c => hp.mem_iff.trans clean_plain
  exact Lab.norm_fold plt_order hR hs (fun a ha b hb => Lab.covers_iff hr (of_clean hx ((hR a).1 ha)) (of_clean hx ((hR b).1 hb)))
theorem smallP_of {ls : List ByteArray} {ps : List (ByteArray × ByteArray)} {x : List Pol} (h : checkF ls ps = 0) (hx : Lab.OfL ls x) (h6 : ∀ p ∈ x, p.2.length ≤ 6) : ∀ p ∈ x, SmallP p := by
  obtain ⟨_, _, _, hn⟩ := right_of h
  have hz : ∀ s ∈ ls, s.size ≤ 100000 := fun s hs => by have := name_short (hn s hs); omega
  intro p hp
  exact ⟨hz _ (hx p hp).1, h6 p hp, fun r hr => hz _ ((hx p hp).2 r hr)⟩

/- A label that a call hands back. -/
def LabNew (w : World) (base : Nat) (v : Value) (y : List Pol) : Prop := ∃ M : List PV, M.map (·.1) = y ∧ w.ownsRow base 37 2 v y.length (polC M) ∧ ∀ z ∈ M, ReadersAt w z.2 z.1.2
theorem LabNew.at' {w : World} {base : Nat} {v : Value} {y : List Pol} (h : LabNew w base v y) (hs : ∀ p ∈ y, SmallP p) : ∃ ao b off cap, v = .slice ao y.length cap ∧ LabAt w ao b off y.length cap y := by
  obtain ⟨M, rfl, ho, hr⟩ := h
  obtain ⟨ao, cap, hv⟩ := slice_of ho
  subst hv
  have hc := own_cap ho
  obtain ⟨b, off, hp⟩ := pols_own (List.length_map (·.1)) ho hr
  refine ⟨ao, b, off, cap, rfl, rfl, Nat.le_trans hc.1 hc.2, hc.1, hp, fun p hp => ?_⟩
  have h := hs p hp
  exact ⟨Nat.le_trans h.own (by unfold maxLen; omega), fun r hr => Nat.le_trans (h.rd r hr) (by unfold maxLen; omega)⟩

theorem normalN (B : Nat) (ls : List ByteArray) (ps : List (ByteArray × ByteArray)) (ao : Option Addr) (b off n c : Nat) (x : List Pol) (w : World) (h0 : checkF ls ps = 0) (hof : Lab.OfL ls x) (h6 : ∀ p ∈ x, p.2.length ≤ 6) (ho : Ord w B (Act.acts ls ps)) (hn : n = x.length) (hm : n ≤ 1000) (hx : Pols w ao b off x) :
    Calls Tryz.prog 18 #[.map (some B), .slice ao n c] w fun e w' => ∃ (v : Value) (y : List Pol), e = .returned v ∧ Lab.Norm blt plt ps x y ∧ LabNew w' w.heap.size v y ∧ Below w.heap.size w w' := by
  refine (normalC B ls ps ao b off n c x w ho hn hm hx (smallP_of h0 hof h6)).mono ?_
  rintro e w' ⟨v, M, R, rfl, h1, h2, h3, h4, h5, h7⟩
  refine ⟨v, M.map (·.1), rfl, ?_, ⟨M, rfl, by rw [List.length_map]; exact h1, h2⟩, h7⟩
  rw [h5]
  exact norm_of_rows (right_of h0).2.2.1 hof h3 h4

set_option maxRecDepth 100000 in
set_option maxHeartbeats 2000000 in
theorem normC (ao po lo : Option Addr) (b off b' off' n m c d lb loff ln lc : Nat) (ls : List ByteArray) (ps : List (ByteArray × ByteArray)) (x : List Pol) (w : World) (hc : Chiefs w ao po b off b' off' n m c ls ps) (hx : LabAt w lo lb loff ln lc x) :
    Calls Tryz.prog 4 #[.slice ao n c, .slice po m d, .slice lo ln lc] w fun e w' => ∃ (v : Value) (y : List Pol), e = .returned (.tuple #[v, .int .i64 (checkL ls ps x)]) ∧ (checkL ls ps x = 0 → Lab.Norm blt plt ps x y) ∧ LabNew w' w.heap.size v y ∧ Below w.heap.size w w' := by
  have hk0 := checkLab ao po lo b off b' off' n m c d lb loff ln lc ls ps x w hc hx
  have HC : Hid (Chiefs w ao po b off b' off' n m c ls ps) := hc
  have HX : Hid (LabAt w lo lb loff ln lc x) := hx
  clear hc hx
  by_cases h0 : checkL ls ps x = 0
  · have HCK : Hid (checkF ls ps = 0 ∧ x.length ≤ 200 ∧ Lab.OfL ls x ∧ ∀ p ∈ x, p.2.length ≤ 6) := checkL_ok h0
    rw [h0]
    rw [h0] at hk0
    clear h0
    go_enter Tryz.func4, Tryz.ntmps4
    go_wp2_with fail
    refine hk0.mono ?_
    rintro e w1 ⟨rfl, hb1⟩
    have HB1 : Hid (Below w.heap.size w w1) := hb1
    have hwh := wholeL ao po b off b' off' n m c d ls ps w1 (HC.out.later hb1) HCK.out.1
    clear hb1 hk0
    go_wp2_with fail
    refine hwh.mono ?_
    rintro e w2 ⟨rfl, hord, hb2⟩
    have HB2 : Hid (Below w.heap.size w w2) := HB1.out.trans (hb2.mono HB1.out.size)
    have hno := normalN w1.heap.size ls ps lo lb loff ln lc x w2 HCK.out.1 HCK.out.2.2.1 HCK.out.2.2.2 hord HX.out.ln (by have h1 := HCK.out.2.1; have h2 := HX.out.ln; omega) (HX.out.pols.later HB2.out)
    clear hord hb2 hwh
    go_wp2_with fail
    refine hno.mono ?_
    rintro e w3 ⟨v, y, rfl, hy, hl, hb3⟩
    have HF : Hid (Lab.Norm blt plt ps x y ∧ LabNew w3 w.heap.size v y ∧ Below w.heap.size w w3) := ⟨hy, by
      obtain ⟨M, k1, k2, k3⟩ := hl
      exact ⟨M, k1, ownsRow_le' k2 HB2.out.size, k3⟩, HB2.out.trans (hb3.mono HB2.out.size)⟩
    clear hy hl hb3 hno
    go_wp2
    go_ret2
    exact ⟨v, y, rfl, fun _ => HF.out.1, HF.out.2.1, HF.out.2.2⟩
  · obtain ⟨e0, he0⟩ : ∃ e0, e0 = checkL ls ps x := ⟨_, rfl⟩
    rw [← he0] at hk0 h0 ⊢
    have hb : (e0 == 0) = false := by simp [h0]
    have hb' : (e0 != 0) = true := by simp [h0]
    have HH : Hid (¬ e0 = 0) := h0
    clear h0 he0
    go_enter Tryz.func4, Tryz.ntmps4
    go_wp2_with fail
    refine hk0.mono ?_
    rintro e w1 ⟨rfl, hb1⟩
    have HB1 : Hid (Below w.heap.size w w1) := hb1
    clear hb1 hk0
    go_wp2
    go_ret2
    exact ⟨_, [], rfl, fun h => absurd h HH.out, ⟨[], rfl, World.ownsRow_nil _ _ _ _, fun z hz => by cases hz⟩, HB1.out⟩
end Go.Proofs.YtjfiakoningmkaaGreatDoor
