/- Ahead of label's normal: the sort, the closure, what its second loop holds. -/
import Derived.Test.YtjidnkecjkngnaaDelF
import Derived.Test.YtjidnkecjkngnaaLabN
namespace Go.Proofs.Ytjidnkecjkngnaa
open Go.RowKit Go.Maps

theorem compact_len (zs : List (List UInt8)) : (Go.Lib.compact zs).length ≤ zs.length := by
  unfold Go.Lib.compact Go.Lib.compactUpTo
  rw [List.length_map]
  exact Nat.le_trans (List.length_filter_le _ _) (by simp)
theorem plainF_len (p : Pol) : (plainF p).2.length ≤ p.2.length := by
  have h1 := compact_len (((p.2.filter fun r => decide (r ≠ p.1)).map (·.data.toList)).mergeSort fun x y => decide (x ≤ y))
  rw [List.length_mergeSort, List.length_map] at h1
  have h2 := List.length_filter_le (fun r => decide (r ≠ p.1)) p.2
  simp only [plainF, upC, List.length_map]
  omega

theorem spare_any (B : Nat) (ls : List ByteArray) (ps : List (ByteArray × ByteArray)) (ob pb : Nat) (p q : Pol) (u v : Value) (w : World) (h : Ord w B (Act.acts ls ps)) (hu : ReadersAt w u q.2) (hv : ReadersAt w v p.2) (hq : SzP q) (hz : SzP p)
    (c0 : w.cell? ⟨ob, 0, none⟩ = some (.map (some B))) (c1 : w.cell? ⟨pb, 0, none⟩ = some (.string p.1)) (c2 : w.cell? ⟨pb, 1, none⟩ = some v) :
    Calls Try.prog 61 #[.agg #[.string q.1, u], .pointer (some ⟨ob, 0, none⟩), .pointer (some ⟨pb, 0, none⟩)] w fun e w' => e = .returned (.bool (Lab.coversB ls ps p q)) ∧ Below w.heap.size w w' := by
  have hb0 : Below w.heap.size w (w.alloc (.cells #[.string q.1, u] 51)) := (Below.refl _ _).alloc (Nat.le_refl _) _
  have l0 : ob < w.heap.size := World.block_lt_of_cell? w _ c0
  have l1 : pb < w.heap.size := World.block_lt_of_cell? w _ c1
  have HK : Hid (Calls Try.prog 54 #[.map (some B), .agg #[.string p.1, v], .agg #[.string q.1, u]] (w.alloc (.cells #[.string q.1, u] 51)) fun e w' => e = .returned (.bool (Lab.coversB ls ps p q)) ∧ Below (w.alloc (.cells #[.string q.1, u] 51)).heap.size (w.alloc (.cells #[.string q.1, u] 51)) w') := covers_any B ls ps p q v u _ (h.later hb0) (hv.later hb0) (hu.later hb0) hz hq
  have HB : Hid (Below w.heap.size w (w.alloc (.cells #[.string q.1, u] 51))) := hb0
  clear h hu hv hq hz hb0
  obtain ⟨t, ht⟩ : ∃ t, t = Lab.coversB ls ps p q := ⟨_, rfl⟩
  rw [← ht] at HK ⊢
  clear ht
  go_enter Try.func61, Try.ntmps61
  go_wp2_with fail
  refine HK.out.mono ?_
  rintro e w1 ⟨rfl, hb1⟩
  go_wp2
  go_ret
  exact ⟨rfl, HB.out.trans (hb1.mono (by simp))⟩

theorem sortC (base : Nat) (ao : Option Addr) (n cap : Nat) (L : List PV) (w : World) (hn : n = L.length) (hm : n ≤ 1000) (hown : w.ownsRow base 51 2 (.slice ao n cap) n (polC L)) (hoff : ∀ y ∈ L, Off w (Value.slice ao n cap).ownBlock y) (h6 : ∀ y ∈ L, y.1.2.length ≤ 1000) :
    Calls Try.prog 59 #[.slice ao n cap, .func (.func 60) #[] #[]] w fun e w' => e = .returned (.tuple #[]) ∧ ∃ M : List PV, M.Perm L ∧ M.Pairwise (fun a b => a.1 = b.1 ∨ plt a.1 b.1) ∧ w.grownBy w' (Value.slice ao n cap).ownBlock ∧ ∃ g, 0 < M.length → ao = some ⟨g, 0, none⟩ ∧ RowP w' g M ∧ g < w'.heap.size := by
  subst hn
  by_cases hL : L = []
  · subst hL
    refine (sort_none ao cap w).mono ?_
    rintro e w' ⟨rfl, rfl⟩
    exact ⟨rfl, [], List.Perm.refl _, List.Pairwise.nil, ⟨rfl, rfl, rfl, Nat.le_refl _, fun _ _ _ => rfl⟩, 0, fun h => absurd h (by simp)⟩
  · rcases hown.2 with ⟨hv, h0⟩ | ⟨g, c, cur, hv, hg, hh, hc1, hc2, hsz, htk⟩
    · exact absurd (List.length_eq_zero_iff.1 h0) hL
    · injection hv with hv1 hv2 hv3
      subst hv1 hv3
      refine (sort_some g cap cur L w hL hm hh htk hoff h6).mono ?_
      rintro e w' ⟨rfl, M, k1, k2, k3, k4⟩
      exact ⟨rfl, M, k1, k2, k4, g, fun _ => ⟨rfl, k3, Nat.lt_of_lt_of_le (lt_of_block hh) k4.size⟩⟩

theorem pols_own {w : World} {base : Nat} {ao : Option Addr} {n cap : Nat} {O : List PV} (hn : n = O.length) (hown : w.ownsRow base 51 2 (.slice ao n cap) n (polC O)) (hr : ∀ y ∈ O, ReadersAt w y.2 y.1.2) : ∃ b off, Pols w ao b off (O.map (·.1)) := by
  subst hn
  rcases hown.2 with ⟨hv, h0⟩ | ⟨g, c, cur, hv, hg, hh, hc1, hc2, hsz, htk⟩
  · have e := List.length_eq_zero_iff.1 h0
    subst e
    exact ⟨0, 0, pols_nil _ _⟩
  · injection hv with hv1 hv2 hv3
    subst hv1 hv3
    exact ⟨g, 0, pols_of (rowP_of hh htk) (lt_of_block hh) hr⟩

/- What the second loop holds. -/
structure OutSt (cov : Pol → Pol → Bool) (wS wr : World) (v : Value) (O M : List PV) (k : Nat) : Prop where
  bel : Below wS.heap.size wS wr
  own : wr.ownsRow wS.heap.size 51 2 v O.length (polC O)
  sub : ∀ y ∈ O, y ∈ M
  len : O.length ≤ k
  fold : O.map (·.1) = ((M.take k).map (·.1)).foldl (Lab.stepN cov) []
theorem OutSt.start (cov : Pol → Pol → Bool) (wS : World) (M : List PV) : OutSt cov wS wS (.slice none 0 0) [] M 0 :=
  ⟨Below.refl _ _, World.ownsRow_nil _ _ _ _, fun _ h => absurd h (by simp), Nat.le_refl _, rfl⟩
theorem OutSt.later {cov : Pol → Pol → Bool} {wS wr w1 : World} {v : Value} {O M : List PV} {k : Nat} (h : OutSt cov wS wr v O M k) (hb : Below wr.heap.size wr w1) : OutSt cov wS w1 v O M k :=
  ⟨h.bel.trans (hb.mono h.bel.size), own_below h.own hb, h.sub, h.len, h.fold⟩
theorem OutSt.readers {cov : Pol → Pol → Bool} {wS wr : World} {v : Value} {O M : List PV} {k : Nat} (h : OutSt cov wS wr v O M k) (hM : ∀ y ∈ M, ReadersAt wS y.2 y.1.2) : ∀ y ∈ O, ReadersAt wr y.2 y.1.2 := fun y hy => (hM y (h.sub y hy)).later h.bel
theorem OutSt.off {cov : Pol → Pol → Bool} {wS wr : World} {v : Value} {O M : List PV} {k : Nat} (h : OutSt cov wS wr v O M k) (hM : ∀ y ∈ M, ReadersAt wS y.2 y.1.2) : ∀ y ∈ O, Off wr v.ownBlock y := by
  intro y hy
  obtain ⟨ro, rb, roff, rc, h1, h2, h3, h4⟩ := hM y (h.sub y hy)
  refine ⟨ro, rb, roff, rc, h1, h2, h3, h4.later h.bel, fun hp he => ?_⟩
  have k1 := h4.lt hp
  have k2 := (h.own.lt _ he.symm).1
  omega
theorem OutSt.skip {cov : Pol → Pol → Bool} {wS wr : World} {v : Value} {O M : List PV} {k : Nat} (h : OutSt cov wS wr v O M k) (hk : k < M.length) (hc : ((O.map (·.1)).any fun q => cov q M[k].1) = true) : OutSt cov wS wr v O M (k + 1) := by
  refine ⟨h.bel, h.own, h.sub, Nat.le_succ_of_le h.len, ?_⟩
  rw [List.take_succ_eq_append_getElem hk, List.map_append, List.foldl_append, ← h.fold]
  simp only [List.map_cons, List.map_nil, List.foldl_cons, List.foldl_nil]
  rw [Lab.stepN, if_pos hc]
theorem keepT_map (t : Pol → Bool) (O : List PV) : (keepT t O).map (·.1) = (O.map (·.1)).filter fun q => !t q := by
  rw [List.filter_map]; rfl
theorem OutSt.put {cov : Pol → Pol → Bool} {wS wr w4 : World} {v v4 : Value} {O M : List PV} {k : Nat} (h : OutSt cov wS wr v O M k) (hk : k < M.length) (hc : ((O.map (·.1)).any fun q => cov q M[k].1) = false) (hb : Below wS.heap.size wS w4)
    (hown : w4.ownsRow wS.heap.size 51 2 v4 ((keepT (cov M[k].1) O).length + 1) (polC (keepT (cov M[k].1) O) ++ [.string M[k].1.1, M[k].2])) : OutSt cov wS w4 v4 (keepT (cov M[k].1) O ++ [M[k]]) M (k + 1) := by
  refine ⟨hb, ?_, fun y hy => ?_, ?_, ?_⟩
  · have e : polC (keepT (cov M[k].1) O ++ [M[k]]) = polC (keepT (cov M[k].1) O) ++ [.string M[k].1.1, M[k].2] := by simp [polC, encP]
    rw [e, List.length_append]; exact hown
  · rcases List.mem_append.1 hy with hy | hy
    · exact h.sub y (List.mem_filter.1 hy).1
    · have e : y = M[k] := by simpa using hy
      rw [e]; exact List.getElem_mem hk
  · have h1 : (keepT (cov M[k].1) O).length ≤ O.length := List.length_filter_le _ _
    have h2 := h.len
    simp only [List.length_append, List.length_cons, List.length_nil]
    omega
  · rw [List.take_succ_eq_append_getElem hk, List.map_append, List.map_append, List.foldl_append, ← h.fold, keepT_map]
    simp only [List.map_cons, List.map_nil, List.foldl_cons, List.foldl_nil]
    rw [Lab.stepN, if_neg (by rw [hc]; simp)]
end Go.Proofs.Ytjidnkecjkngnaa
