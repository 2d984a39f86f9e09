/- Names sorted and compacted: rising, each once. -/
import Derived.Test.YtjidnkecjkngnaaOrdS
import Derived.Lib.SlicesCompact
namespace Go.Proofs.Ytjidnkecjkngnaa
open Go.Lib

theorem le_trichL {a b : List UInt8} (h : a ≤ b) (hne : a ≠ b) : a < b := by
  rcases tot_of hne with g | g
  · exact g
  · exact absurd g (List.not_lt.2 h)
theorem compact_up (d : Array (List UInt8)) (hs : ∀ i j, i < j → j < d.size → d[i]! ≤ d[j]!) : ∀ m, m ≤ d.size → (compactUpTo d m).Pairwise (· < ·) ∧ (∀ x, x ∈ compactUpTo d m ↔ ∃ j, j < m ∧ d[j]! = x) := by
  intro m
  induction m with
  | zero => intro _; exact ⟨by simp [compactUpTo], by simp [compactUpTo]⟩
  | succ m ih =>
    intro hm
    obtain ⟨h1, h2⟩ := ih (by omega)
    rw [compactUpTo_succ]
    have hle : ∀ x ∈ compactUpTo d m, x ≤ d[m]! := fun x hx => by
      obtain ⟨j, hj, e⟩ := (h2 x).1 hx
      rw [← e]; exact hs j m hj (by omega)
    by_cases hk : keeps d m = true
    · rw [if_pos hk]
      refine ⟨List.pairwise_append.2 ⟨h1, by simp, fun x hx y hy => ?_⟩, fun x => ?_⟩
      · have hy' : y = d[m]! := by simpa using hy
        rw [hy']
        refine le_trichL (hle x hx) fun e => ?_
        obtain ⟨j, hj, e'⟩ := (h2 x).1 hx
        have hm1 : 0 < m := by omega
        have hx1 : d[m - 1]! = d[m]! := by
          have a1 : x ≤ d[m - 1]! := by
            rw [← e']
            by_cases hj1 : j = m - 1
            · rw [hj1]; exact List.le_refl _
            · exact hs j (m - 1) (by omega) (by omega)
          have a2 : d[m - 1]! ≤ d[m]! := hs (m - 1) m (by omega) (by omega)
          rw [e] at a1
          exact List.le_antisymm a2 a1
        unfold keeps at hk
        simp [hx1] at hk
        omega
      · simp only [List.mem_append, List.mem_singleton, h2]
        constructor
        · rintro (⟨j, hj, e⟩ | e)
          · exact ⟨j, by omega, e⟩
          · exact ⟨m, by omega, e.symm⟩
        · rintro ⟨j, hj, e⟩
          by_cases hjm : j = m
          · subst hjm; exact .inr e.symm
          · exact .inl ⟨j, by omega, e⟩
    · rw [if_neg hk]
      refine ⟨by simpa using h1, fun x => ?_⟩
      simp only [List.append_nil, h2]
      constructor
      · rintro ⟨j, hj, e⟩; exact ⟨j, by omega, e⟩
      · rintro ⟨j, hj, e⟩
        by_cases hjm : j = m
        · subst hjm
          have hx1 : j ≠ 0 ∧ d[j - 1]! = d[j]! := by
            unfold keeps at hk
            simp at hk
            exact ⟨hk.1, hk.2.symm⟩
          exact ⟨j - 1, by omega, by rw [hx1.2]; exact e⟩
        · exact ⟨j, by omega, e⟩
theorem compact_sorted {zs : List (List UInt8)} (h : zs.Pairwise (· ≤ ·)) : (compact zs).Pairwise (· < ·) ∧ ∀ x, x ∈ compact zs ↔ x ∈ zs := by
  have hs : ∀ i j, i < j → j < zs.toArray.size → zs.toArray[i]! ≤ zs.toArray[j]! := by
    intro i j hij hj
    have hj' : j < zs.length := by simpa using hj
    have := List.pairwise_iff_getElem.1 h i j (by omega) hj' hij
    simpa [getElem!_pos, hj', show i < zs.length by omega] using this
  obtain ⟨h1, h2⟩ := compact_up zs.toArray hs zs.length (by simp)
  refine ⟨h1, fun x => ?_⟩
  unfold compact
  rw [h2, List.mem_iff_getElem]
  constructor
  · rintro ⟨j, hj, e⟩
    exact ⟨j, hj, by simpa [getElem!_pos, hj] using e⟩
  · rintro ⟨j, hj, e⟩
    exact ⟨j, hj, by simpa [getElem!_pos, hj] using e⟩
def upC (zs : List (List UInt8)) : List (List UInt8) := compact (zs.mergeSort fun x y => decide (x ≤ y))
theorem upC_ok (zs : List (List UInt8)) : (upC zs).Pairwise (· < ·) ∧ ∀ x, x ∈ upC zs ↔ x ∈ zs := by
  have hp : (zs.mergeSort fun x y => decide (x ≤ y)).Pairwise (· ≤ ·) := by
    have := List.pairwise_mergeSort (le := fun x y : List UInt8 => decide (x ≤ y)) (fun a b c h g => by simp only [decide_eq_true_eq] at h g ⊢; exact List.le_trans h g) (fun a b => by simp only [Bool.or_eq_true, decide_eq_true_eq]; exact List.le_total a b) zs
    exact this.imp fun h => by simpa using h
  obtain ⟨h1, h2⟩ := compact_sorted hp
  exact ⟨h1, fun x => (h2 x).trans (List.mergeSort_perm zs _).mem_iff⟩
def bytesOf (l : List UInt8) : ByteArray := ⟨l.toArray⟩
/- p's readers without its owner, rising, each once. -/
def plainF (p : Pol) : Pol := (p.1, (upC ((p.2.filter fun r => decide (r ≠ p.1)).map (·.data.toList))).map bytesOf)
theorem bytesOf_data (l : List UInt8) : (bytesOf l).data.toList = l := by simp [bytesOf]
theorem data_bytesOf (s : ByteArray) : bytesOf s.data.toList = s := data_inj (bytesOf_data _)
theorem plainF_clean (p : Pol) : Lab.CleanOf blt p (plainF p) := by
  obtain ⟨h1, h2⟩ := upC_ok ((p.2.filter fun r => decide (r ≠ p.1)).map (·.data.toList))
  refine ⟨rfl, ?_, fun r => ?_⟩
  · refine List.Pairwise.map _ (fun a b hab => ?_) h1
    unfold blt
    rw [bytesOf_data, bytesOf_data]
    exact hab
  · simp only [plainF, List.mem_map]
    constructor
    · rintro ⟨b, hb, rfl⟩
      obtain ⟨s, hs, rfl⟩ := List.mem_map.1 ((h2 b).1 hb)
      rw [data_bytesOf]
      simpa using hs
    · rintro ⟨hr, hne⟩
      refine ⟨r.data.toList, (h2 _).2 (List.mem_map.2 ⟨r, by simp [hr, hne], rfl⟩), data_bytesOf r⟩
end Go.Proofs.Ytjidnkecjkngnaa
