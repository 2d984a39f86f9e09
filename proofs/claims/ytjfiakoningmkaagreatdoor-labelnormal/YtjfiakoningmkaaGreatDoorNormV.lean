/- The document's keys sorted; which policies stay. -/
import Derived.Test.YtjfiakoningmkaaGreatDoorGaKey
import Derived.Test.YtjfiakoningmkaaGreatDoorNormS
import Derived.Test.YtjfiakoningmkaaGreatDoorGaSrtD
namespace Go.Proofs.YtjfiakoningmkaaGreatDoor
open Go.RowKit Go.Sort

theorem swoK : SWO (ltOf cmpP) := swoP (α := Pol) id
theorem ltK_iff (x y : Pol) : ltOf cmpP x y = true ↔ plt x y := ltOf_iff (α := Pol) id x y
theorem ltK_not (x y : Pol) : ltOf cmpP x y = false ↔ ¬ plt x y := ltOf_not (α := Pol) id x y

/- What the sort leaves. -/
def KeyPost (base : Nat) (kv : Value) (kn : Nat) (L : List Pol) (wr w' : World) : Prop := ∃ R : List Pol, R.Perm L ∧ R.Pairwise plt ∧ w'.ownsRow base 9 1 kv kn (strC (R.map keyF)) ∧ wr.grownBy w' kv.ownBlock

theorem sortKeys (w wr : World) (x L : List Pol) (k kn kc : Nat) (ko : Option Addr) (val : Pol → Value) (f : ByteArray → Option Value) (h : NSt w wr x k L val f (.slice ko kn kc)) (hkn : kn = L.length) (hm : kn ≤ 1000) (hsz : ∀ c ∈ L, (keyF c).size ≤ 1000) (h6 : ∀ c ∈ L, c.2.length ≤ 6) :
    Calls Tryz.prog 33 #[.iface 22 (.slice ko kn kc), .func (.func 34) #[] #[.pointer (some ⟨w.heap.size + 1, 0, none⟩), .pointer (some ⟨w.heap.size + 2, 0, none⟩)]] wr fun e w' => e = .returned (.tuple #[]) ∧ KeyPost (w.heap.size + 3) (.slice ko kn kc) kn L wr w' := by
  have hown : wr.ownsRow (w.heap.size + 3) 9 1 (.slice ko kn kc) kn (strC (L.map keyF)) := by have h9 := h.own; rw [← hkn] at h9; exact h9
  by_cases h1 : kn ≤ 1
  · refine (slice_tiny ko kn kc h1 _ _ wr).mono ?_
    rintro e w' ⟨rfl, hg⟩
    refine ⟨rfl, L, List.Perm.refl _, ?_, hown.kept hg (by cases (Value.slice ko kn kc).ownBlock <;> simp), gany _ hg⟩
    match L, hkn with
    | [], _ => exact List.Pairwise.nil
    | [a], _ => exact List.pairwise_singleton _ _
    | a :: b :: r, e => simp at e; omega
  · rcases hown.2 with ⟨_, h0⟩ | ⟨g, cap, cur, hv, hg, hh, hc1, hc2, hcs, htk⟩
    · omega
    · injection hv with hv1 hv2 hv3
      subst hv1 hv3
      haveI : Inhabited Pol := ⟨(⟨#[]⟩, [])⟩
      have hrow : ∀ k (hk : k < L.length), cur[k]? = some (.string (keyF L[k])) := fun j hj => by
        have e1 : (strC (L.map keyF))[j]? = some (.string (keyF L[j])) := by simp [strC, hj]
        rw [← htk, Nat.mul_one, List.getElem?_take_of_lt (by omega), Array.getElem?_toList] at e1
        exact e1
      refine (slice_some wr g kc kn keyF L (ltOf cmpP) swoK 34 _ hkn.symm (by omega) (by omega) hc1 cur hh (by omega) hrow (enters_of Tryz.func34 (by kernel_rfl) rfl) ?_).mono ?_
      · intro W d hS i j hi hj
        have hds : d.size = kn := by rw [hS.size, hkn]
        have hi' : i < d.size := by omega
        have hj' : j < d.size := by omega
        have mi : d[i] ∈ L := hS.perm.mem_iff.1 (by simp)
        have mj : d[j] ∈ L := hS.perm.mem_iff.1 (by simp)
        have blk : ∀ q X, wr.heap[q]? = some X → q ≠ g → W.heap[q]? = some X := fun q X hq hne => (hS.gr.block q (lt_of_block hq) (by intro e; injection e with e; exact hne e)).trans hq
        have k0 := blk _ _ h.bx0 (by omega)
        have k1 := blk _ _ h.bx1 (by omega)
        have rd : ∀ c ∈ L, ReadersAt W (val c) c.2 := fun c hc => by
          obtain ⟨ro, rb, roff, rc, q1, q2, q3, q4, q5⟩ := h.off c hc
          exact ⟨ro, rb, roff, rc, q1, q2, q3, strs_kept q4 hS.gr (fun hp => (q5 hp).2)⟩
        rw [getElem!_pos d i hi', getElem!_pos d j hj']
        refine lessN (w.heap.size + 1) (w.heap.size + 2) w.heap.size k g kc kn i j f d[i] d[j] (val d[i]) (val d[j]) W (by simp [World.cell?, k0]) (by simp [World.cell?, k1]) hi hj (hS.cell i hi') (hS.cell j hj') (h.map.kept hS.gr (by intro e; injection e with e; omega)) (h.hit _ mi) (h.hit _ mj) (rd _ mi) (rd _ mj) (hsz _ mi) (hsz _ mj) (by have := h6 _ mi; omega)
      · rintro e w' ⟨rfl, d, hS, hso⟩
        obtain ⟨cur', q1, q2, q3⟩ := hS.row
        have hds : d.size = kn := by rw [hS.size, hkn]
        refine ⟨rfl, d.toList, hS.perm, ?_, ⟨by simp [strC, hds], .inr ⟨g, kc, cur', rfl, hg, q1, hc1, hc2, by omega, ?_⟩⟩, hS.gr⟩
        · have hnd : d.toList.Nodup := hS.perm.nodup_iff.2 h.nodup
          rw [List.pairwise_iff_getElem]
          intro i j hi hj hij
          have hi' : i < d.size := by simpa using hi
          have hj' : j < d.size := by simpa using hj
          have h9 := hso i j (Nat.zero_le _) hij (by omega)
          rw [getElem!_pos d i hi', getElem!_pos d j hj', ltK_not] at h9
          have hne : d.toList[i] ≠ d.toList[j] := List.pairwise_iff_getElem.1 hnd i j hi hj hij
          simp only [Array.getElem_toList] at hne ⊢
          rcases plt_order.tot hne with e1 | e1
          · exact e1
          · exact absurd e1 h9
        · rw [Nat.mul_one]
          apply List.ext_getElem?
          intro i
          by_cases hi : i < kn
          · rw [List.getElem?_take_of_lt hi, Array.getElem?_toList, q3 i (by omega)]
            simp [strC, show i < d.size by omega]
          · rw [List.getElem?_eq_none (by simp [List.length_take]; omega), List.getElem?_eq_none (by simp [strC]; omega)]

/- Which stay. -/
def badB (cov : Pol → Pol → Bool) (R : List Pol) (i k : Nat) : Bool := decide (k ≠ i) && (cov (R.getD k (⟨#[]⟩, [])) (R.getD i (⟨#[]⟩, [])) && (!cov (R.getD i (⟨#[]⟩, [])) (R.getD k (⟨#[]⟩, [])) || decide (k < i)))
def stayF (cov : Pol → Pol → Bool) (R : List Pol) (i m : Nat) : Bool := !((List.range m).any fun k => badB cov R i k)
def outF (cov : Pol → Pol → Bool) (R : List Pol) (val : Pol → Value) (m : Nat) : List PV := ((List.range m).filter fun i => stayF cov R i R.length).map fun i => (R.getD i (⟨#[]⟩, []), val (R.getD i (⟨#[]⟩, [])))
theorem stay_step (cov : Pol → Pol → Bool) (R : List Pol) (i k : Nat) : stayF cov R i (k + 1) = (stayF cov R i k && !badB cov R i k) := by
  simp [stayF, List.range_succ, List.any_append]
theorem out_step (cov : Pol → Pol → Bool) (R : List Pol) (val : Pol → Value) (m : Nat) : outF cov R val (m + 1) = outF cov R val m ++ (if stayF cov R m R.length = true then [(R.getD m (⟨#[]⟩, []), val (R.getD m (⟨#[]⟩, [])))] else []) := by
  unfold outF
  rw [List.range_succ, List.filter_append, List.map_append]
  congr 1
  cases h : stayF cov R m R.length <;> simp [h]
theorem out_sub {cov : Pol → Pol → Bool} {R : List Pol} {val : Pol → Value} {m : Nat} (hm : m ≤ R.length) : ∀ y ∈ outF cov R val m, y.1 ∈ R ∧ y.2 = val y.1 := by
  intro y hy
  obtain ⟨i, hi, rfl⟩ := List.mem_map.1 hy
  have hi' : i < m := List.mem_range.1 (List.mem_filter.1 hi).1
  refine ⟨?_, rfl⟩
  simp only [List.getD_eq_getElem?_getD, List.getElem?_eq_getElem (show i < R.length by omega), Option.getD_some]
  exact List.getElem_mem _
theorem out_len (cov : Pol → Pol → Bool) (R : List Pol) (val : Pol → Value) (m : Nat) : (outF cov R val m).length ≤ m := by
  unfold outF
  rw [List.length_map]
  exact Nat.le_trans (List.length_filter_le _ _) (by simp)
theorem norm_out {cov : Pol → Pol → Bool} {ps : List (ByteArray × ByteArray)} {x R : List Pol} {val : Pol → Value} (hR : ∀ c, c ∈ R ↔ Lab.cleaned blt x c) (hs : R.Pairwise plt) (hc : ∀ a ∈ R, ∀ b ∈ R, cov a b = true ↔ Lab.covers ps a b) : Lab.Norm blt plt ps x ((outF cov R val R.length).map (·.1)) := by
  have gd : ∀ i (h : i < R.length), R.getD i (⟨#[]⟩, []) = R[i] := fun i h => by simp [h]
  have e0 : (outF cov R val R.length).map (·.1) = ((List.range R.length).filter fun i => stayF cov R i R.length).map fun i => R.getD i (⟨#[]⟩, []) := by
    unfold outF; rw [List.map_map]; rfl
  have hlt : ∀ i j (hi : i < R.length) (hj : j < R.length), i < j → plt R[i] R[j] := fun i j hi hj h => List.pairwise_iff_getElem.1 hs i j hi hj h
  have st : ∀ i, i < R.length → (stayF cov R i R.length = true ↔ ∀ k (hk : k < R.length), k ≠ i → cov R[k] (R.getD i (⟨#[]⟩, [])) = true → cov (R.getD i (⟨#[]⟩, [])) R[k] = true ∧ ¬ k < i) := by
    intro i hi
    unfold stayF
    rw [Bool.not_eq_true', List.any_eq_false]
    constructor
    · intro h k hk hne hcv
      have h9 := h k (List.mem_range.2 hk)
      unfold badB at h9
      rw [gd k hk] at h9
      simp only [hcv, Bool.true_and, Bool.and_eq_true, decide_eq_true_eq, Bool.or_eq_true, Bool.not_eq_true', not_and, not_or, Bool.not_eq_false] at h9
      exact h9 hne
    · intro h k hk
      have hk' := List.mem_range.1 hk
      unfold badB
      rw [gd k hk']
      simp only [Bool.and_eq_true, decide_eq_true_eq, Bool.or_eq_true, Bool.not_eq_true', not_and, not_or, Bool.not_eq_false]
      intro hne hcv
      exact h k hk' hne hcv
  rw [e0]
  refine ⟨?_, fun c => ?_⟩
  · refine List.Pairwise.map (R := fun a b => a < R.length ∧ b < R.length ∧ a < b) _ (fun a b h => ?_) ?_
    · rw [gd a h.1, gd b h.2.1]; exact hlt a b h.1 h.2.1 h.2.2
    · have h1 : (List.range R.length).Pairwise (· < ·) := List.pairwise_lt_range
      have h2 : ((List.range R.length).filter fun i => stayF cov R i R.length).Pairwise (· < ·) := h1.filter _
      refine List.Pairwise.imp_of_mem ?_ h2
      intro a b ha hb hab
      exact ⟨List.mem_range.1 (List.mem_filter.1 ha).1, List.mem_range.1 (List.mem_filter.1 hb).1, hab⟩
  · rw [List.mem_map]
    constructor
    · rintro ⟨i, hi, rfl⟩
      obtain ⟨h1, h2⟩ := List.mem_filter.1 hi
      have hil := List.mem_range.1 h1
      have h3 := (st i hil).1 h2
      rw [gd i hil] at h3 ⊢
      refine ⟨(hR _).1 (List.getElem_mem hil), fun q hq hne hqc => ?_⟩
      obtain ⟨k, hk, e⟩ := List.mem_iff_getElem.1 ((hR q).2 hq)
      have hki : k ≠ i := fun e2 => hne (by subst e2; exact e.symm)
      have hcv := (hc q ((hR q).2 hq) _ (List.getElem_mem hil)).2 hqc
      rw [← e] at hcv
      obtain ⟨h4, h5⟩ := h3 k hk hki hcv
      rw [e] at h4
      refine ⟨(hc _ (List.getElem_mem hil) q ((hR q).2 hq)).1 h4, ?_⟩
      rw [← e]
      exact hlt i k hil hk (by omega)
    · rintro ⟨h1, h2⟩
      obtain ⟨i, hil, e⟩ := List.mem_iff_getElem.1 ((hR c).2 h1)
      refine ⟨i, List.mem_filter.2 ⟨List.mem_range.2 hil, (st i hil).2 fun k hk hne hcv => ?_⟩, by rw [gd i hil]; exact e⟩
      rw [gd i hil, e] at hcv ⊢
      have hqc := (hc _ (List.getElem_mem hk) c ((hR c).2 h1)).1 hcv
      have hne2 : R[k] ≠ c := fun e2 => by
        rcases Nat.lt_or_gt_of_ne hne with h9 | h9
        · have := hlt k i hk hil h9
          rw [e2, e] at this
          exact plt_order.irr _ this
        · have := hlt i k hil hk h9
          rw [e2, e] at this
          exact plt_order.irr _ this
      obtain ⟨h4, h5⟩ := h2 _ ((hR _).1 (List.getElem_mem hk)) hne2 hqc
      refine ⟨(hc c ((hR c).2 h1) _ (List.getElem_mem hk)).2 h4, fun h9 => ?_⟩
      have h10 := hlt k i hk hil h9
      rw [e] at h10
      exact plt_order.irr _ (plt_order.trans h10 h5)
end Go.Proofs.YtjfiakoningmkaaGreatDoor
