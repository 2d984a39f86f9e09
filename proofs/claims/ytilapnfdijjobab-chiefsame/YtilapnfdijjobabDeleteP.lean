/- slices.Delete of one pair out of a row that the call owns. -/
import Derived.Test.YtilapnfdijjobabCloneP
namespace Go.Proofs.Ytilapnfdijjobab
open Go.RowKit

theorem clear_pair (w : World) (ty : TypeId) (b o c : Nat) (hc : ∀ j, j < 2 → (w.cell? ⟨b, o + j, none⟩).isSome = true) (hf : ∀ j, j < 2 → w.frozen? ⟨b, o + j, none⟩ = false) :
    (Builtin.clear_ #[23] ty #[.slice (some ⟨b, o, none⟩) 1 c]).run Try.prog w = .ok (.tuple #[]) (w.setCells b o [.string ⟨#[]⟩, .string ⟨#[]⟩]) := by
  have hzc : (Builtin.zeroCells (Value.agg #[.string ⟨#[]⟩, .string ⟨#[]⟩]).cells 1).toList = [.string ⟨#[]⟩, .string ⟨#[]⟩] := by kernel_rfl
  have hst := run_storeCells_cells (P := Try.prog) b o [.string ⟨#[]⟩, .string ⟨#[]⟩] 0 w (by simpa using hc) (by simpa using hf) (by intro v hv'; simp at hv'; subst hv'; rfl)
  simp only [Nat.add_zero] at hst
  simp [Builtin.clear_, run_underlying Try.underlying23, hzc, hst]

theorem below_setCells {B b : Nat} {a : World} (hb : B ≤ b) : ∀ (vs : List Value) (o : Nat) (w : World), Below B a w → Below B a (w.setCells b o vs)
  | [], _, _, h => h
  | v :: r, o, w, h => below_setCells hb r (o + 1) _ (h.setCell (by exact hb) v)
theorem erase_lt {l : List (ByteArray × ByteArray)} {k t : Nat} (h : t < (l.eraseIdx k).length) (hk : t < k) (ht : t < l.length) : (l.eraseIdx k)[t] = l[t] := by
  rw [List.getElem_eraseIdx_of_lt h hk]
theorem erase_ge {l : List (ByteArray × ByteArray)} {k t : Nat} (h : t < (l.eraseIdx k).length) (hk : k ≤ t) (ht : t + 1 < l.length) : (l.eraseIdx k)[t] = l[t + 1] := by
  rw [List.getElem_eraseIdx_of_ge h hk]

set_option maxHeartbeats 4000000 in
set_option maxRecDepth 1000000 in
theorem deleteP (blk n cap k j : Nat) (l : List (ByteArray × ByteArray)) (cur : Array Value) (w : World) (hn : n = l.length) (hj : j = k + 1) (hk : k < n) (hm : n ≤ 1000) (hcap : n ≤ cap) (hcm : cap ≤ maxLen)
    (hh : w.heap[blk]? = some (.cells cur 35 (0, 0))) (hsz : cur.size = cap * 2) (htk : cur.toList.take (n * 2) = prC l) :
    Calls Try.prog 10 #[.slice (some ⟨blk, 0, none⟩) n cap, .int .i64 k, .int .i64 j] w fun e w' => e = .returned (.slice (some ⟨blk, 0, none⟩) (n - 1) cap) ∧ Prs w' (some ⟨blk, 0, none⟩) blk 0 (l.eraseIdx k) ∧ Below blk w w' := by
  have hcell : ∀ t u, (prC l)[t]? = some u → w.cell? ⟨blk, t, none⟩ = some u := by
    intro t u hu
    have ht := (List.getElem?_eq_some_iff.1 hu).1
    rw [← htk, List.getElem?_take] at hu
    rw [prC_len] at ht
    rw [if_pos (by omega)] at hu
    simp [World.cell?, hh]
    simpa using hu
  have hsome : ∀ t, t < cap * 2 → (w.cell? ⟨blk, t, none⟩).isSome = true := by
    intro t ht
    simp [World.cell?, hh]
    omega
  have hfree : ∀ t, w.frozen? ⟨blk, t, none⟩ = false := by
    intro t
    simp [World.frozen?, hh]
  obtain ⟨news, hnews⟩ : ∃ news, news = prC (l.drop (k + 1)) := ⟨_, rfl⟩
  have hlen : news.length = (n - (k + 1)) * 2 := by rw [hnews, prC_len]; simp [hn]
  have hget : ∀ t u, news[t]? = some u → (prC l)[(k + 1) * 2 + t]? = some u := by
    intro t u hu
    rw [hnews] at hu
    have ht := (List.getElem?_eq_some_iff.1 hu).1
    obtain ⟨q, hq, h⟩ := prC_get _ _ _ hu
    have hq' : k + 1 + q < l.length := by simp at hq; omega
    obtain ⟨g0, g1⟩ := prC_at l (k + 1 + q) hq'
    rcases h with ⟨rfl, rfl⟩ | ⟨rfl, rfl⟩
    · rw [show (k + 1) * 2 + q * 2 = (k + 1 + q) * 2 by omega, g0]; simp
    · rw [show (k + 1) * 2 + (q * 2 + 1) = (k + 1 + q) * 2 + 1 by omega, g1]; simp
  obtain ⟨A, hA, hsrc⟩ : ∃ A : Addr, (if cap = j then some (⟨blk, 0, none⟩ : Addr) else some ⟨blk, j * 2, none⟩) = some A ∧ Hid (∀ t u, news[t]? = some u → w.drew.cell? (A.add t) = some u) := by
    rw [hj]
    by_cases h : cap = k + 1
    · refine ⟨⟨blk, 0, none⟩, by simp [h], fun t u hu => ?_⟩
      have h0 : news.length = 0 := by rw [hlen]; omega
      rw [List.length_eq_zero_iff.1 h0] at hu
      simp at hu
    · refine ⟨⟨blk, (k + 1) * 2, none⟩, by simp [h], fun t u hu => ?_⟩
      rw [Addr.add_lit]
      exact hcell _ _ (hget t u hu)
  have s1 : Hid (news.length = (n - j) * 2) := by show _ = _; rw [hj]; exact hlen
  have s2 : Hid (∀ u ∈ news, u.oneCell' = true) := by
    show ∀ _, _
    rw [hnews]; exact prC_one _
  have s3 : Hid (∀ t, t < news.length → (w.drew.cell? ⟨blk, 0 + k * 2 + t, none⟩).isSome = true ∧ w.drew.frozen? ⟨blk, 0 + k * 2 + t, none⟩ = false) := by
    intro t ht
    rw [hlen] at ht
    exact ⟨hsome _ (by omega), hfree _⟩
  obtain ⟨W1, hW1⟩ : ∃ W1, W1 = w.drew.setCells blk (0 + k * 2) news := ⟨_, rfl⟩
  have kept : ∀ t, (W1.cell? ⟨blk, t, none⟩).isSome = (w.cell? ⟨blk, t, none⟩).isSome := by
    intro t
    rw [hW1]
    by_cases ht : k * 2 ≤ t ∧ t < k * 2 + news.length
    · have h1 := World.cell?_setCells_in blk news (0 + k * 2) w.drew (fun j hj => (s3.out j hj).1) (t - k * 2) (by omega)
      rw [show 0 + k * 2 + (t - k * 2) = t by omega] at h1
      rw [h1, hsome t (by rw [hlen] at ht; omega)]; rfl
    · rw [World.cell?_setCells_out blk news (0 + k * 2) w.drew _ (fun _ _ => by simp; omega)]; rfl
  have hcl : ∀ ty, (Builtin.clear_ #[23] ty #[.slice (some ⟨blk, (n - 1) * 2, none⟩) 1 (cap - (n - 1))]).run Try.prog W1 = .ok (.tuple #[]) (W1.setCells blk ((n - 1) * 2) [.string ⟨#[]⟩, .string ⟨#[]⟩]) :=
    fun ty => clear_pair W1 ty blk ((n - 1) * 2) _ (fun j hj => by rw [kept]; exact hsome _ (by omega)) (fun j hj => by rw [hW1, World.frozen?_setCells]; exact hfree _)
  have HF : Hid (Prs (W1.setCells blk ((n - 1) * 2) [.string ⟨#[]⟩, .string ⟨#[]⟩]) (some ⟨blk, 0, none⟩) blk 0 (l.eraseIdx k) ∧ Below blk w (W1.setCells blk ((n - 1) * 2) [.string ⟨#[]⟩, .string ⟨#[]⟩])) := by
    have hel : (l.eraseIdx k).length = n - 1 := by rw [List.length_eraseIdx, if_pos (by omega), hn]
    have hbel : Below blk w (W1.setCells blk ((n - 1) * 2) [.string ⟨#[]⟩, .string ⟨#[]⟩]) := by
      refine below_setCells (Nat.le_refl _) _ _ _ ?_
      rw [hW1]
      refine below_setCells (Nat.le_refl _) _ _ _ ?_
      exact ⟨rfl, rfl, rfl, Nat.le_refl _, fun _ _ => rfl⟩
    have hlow : ∀ t, t < (n - 1) * 2 → (W1.setCells blk ((n - 1) * 2) [.string ⟨#[]⟩, .string ⟨#[]⟩]).cell? ⟨blk, t, none⟩ = W1.cell? ⟨blk, t, none⟩ := fun t ht =>
      World.cell?_setCells_out blk _ _ _ _ (fun _ _ => .inl ht)
    have hval : ∀ t (ht : t < (l.eraseIdx k).length), W1.cell? ⟨blk, t * 2, none⟩ = some (.string (l.eraseIdx k)[t].1) ∧ W1.cell? ⟨blk, t * 2 + 1, none⟩ = some (.string (l.eraseIdx k)[t].2) := by
      intro t ht
      by_cases htk' : t < k
      · rw [erase_lt ht htk' (by omega), hW1, World.cell?_setCells_out blk news (0 + k * 2) w.drew _ (fun _ _ => .inl (by simp; omega)), World.cell?_setCells_out blk news (0 + k * 2) w.drew _ (fun _ _ => .inl (by simp; omega))]
        obtain ⟨g0, g1⟩ := prC_at l t (by omega)
        exact ⟨hcell _ _ g0, hcell _ _ g1⟩
      · rw [erase_ge ht (by omega) (by omega)]
        obtain ⟨g0, g1⟩ := prC_at (l.drop (k + 1)) (t - k) (by simp; omega)
        rw [← hnews] at g0 g1
        have e : (l.drop (k + 1))[t - k]'(by simp; omega) = l[t + 1] := by
          simp only [List.getElem_drop]; congr 1; omega
        rw [e] at g0 g1
        have l0 := (List.getElem?_eq_some_iff.1 g0)
        have l1 := (List.getElem?_eq_some_iff.1 g1)
        have c0 := World.cell?_setCells_in blk news (0 + k * 2) w.drew (fun j hj => (s3.out j hj).1) ((t - k) * 2) l0.1
        have c1 := World.cell?_setCells_in blk news (0 + k * 2) w.drew (fun j hj => (s3.out j hj).1) ((t - k) * 2 + 1) l1.1
        rw [show 0 + k * 2 + (t - k) * 2 = t * 2 by omega, ← hW1, l0.2] at c0
        rw [show 0 + k * 2 + ((t - k) * 2 + 1) = t * 2 + 1 by omega, ← hW1, l1.2] at c1
        exact ⟨c0, c1⟩
    refine ⟨⟨fun _ => rfl, fun t ht => ?_, fun t ht => ?_, fun _ => Nat.lt_of_lt_of_le (lt_of_block hh) hbel.size⟩, hbel⟩
    · rw [Nat.zero_add, hlow _ (by omega)]; exact (hval t ht).1
    · rw [Nat.zero_add, hlow _ (by omega)]; exact (hval t ht).2
  have hW : Hid (W1 = w.drew.setCells blk (0 + k * 2) news) := hW1
  have hkc : k ≤ cap := by omega
  have hjc : j ≤ cap := by omega
  have hjn : j ≤ n := by omega
  have hkj : k ≤ j := by omega
  have bkj : ((k : Int) == (j : Int)) = false := by simp; omega
  have HJ : Hid (j = k + 1) := hj
  obtain ⟨i0, hi, hz0, hz1, hz2⟩ := info_parts Try.infoPair
  have hcm' := hcm
  unfold maxLen at hcm'
  obtain ⟨n1, hn1⟩ : ∃ n1, n1 = n - 1 := ⟨_, rfl⟩
  rw [← hn1] at hcl HF ⊢
  have HM : Hid (k + (n - j) = n1) := by show _ = _; omega
  have hq : n - n1 = 1 := by omega
  have hle1 : n1 ≤ n := by omega
  have hne1 : ¬ cap = n1 := by omega
  have hlc1 : n1 ≤ cap := by omega
  clear hn1
  clear hj hW1 hget hnews hlen hcell hsome hfree kept htk hsz hh hn
  go_enter Try.func10, Try.ntmps10
  go_wp2_with fail
  go_region_law (refine step_append_room rfl (.tmp 22) (.tmp 25) 23 rfl 35 i0 2 Try.underlying23 hi hz1 blk 0 k cap (by simp [Act.eval, Act.put]) A (n - j) (cap - j) news (by simp [Act.eval, Act.put]) s1.out hsrc.out s2.out (by have := HM.out; omega) s3.out ?_; rw [← hW.out, HM.out])
  go_wp2
  go_ret
  exact ⟨rfl, HF.out⟩
end Go.Proofs.Ytilapnfdijjobab
