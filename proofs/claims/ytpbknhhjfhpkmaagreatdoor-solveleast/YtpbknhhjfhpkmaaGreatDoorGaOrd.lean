/- Names and policies in their order; cmp.Compare at strings, slices.Compare at rows of strings, cmp.Or. Names sorted and compacted: rising, each once. -/
import Derived.Test.YtpbknhhjfhpkmaaGreatDoorChecked
import Derived.Test.YtpbknhhjfhpkmaaGreatDoorCStr
import Derived.Test.YtpbknhhjfhpkmaaGreatDoorGaLab
import Derived.Test.YtpbknhhjfhpkmaaGreatDoorLabE
import Derived.Test.YtpbknhhjfhpkmaaGreatDoorGrow
import Derived.Laws.Cover1
import Derived.Sort.Walk0
import Derived.WalkKit
import Derived.ProofKit
import Derived.Lib.SlicesCompact
namespace Go.Proofs.YtpbknhhjfhpkmaaGreatDoor
open Go.RowKit

def blt (s t : ByteArray) : Prop := s.data.toList < t.data.toList
def keyP (p : Pol) : List (List UInt8) := p.1.data.toList :: p.2.map (·.data.toList)
def plt (p q : Pol) : Prop := keyP p < keyP q
theorem data_inj {s t : ByteArray} (h : s.data.toList = t.data.toList) : s = t := ByteArray.ext (Array.ext' h)
theorem map_inj {l m : List ByteArray} (h : l.map (·.data.toList) = m.map (·.data.toList)) : l = m := by
  induction l generalizing m with
  | nil => cases m with
    | nil => rfl
    | cons a r => simp at h
  | cons a r ih =>
    cases m with
    | nil => simp at h
    | cons b q =>
      simp only [List.map_cons, List.cons.injEq] at h
      rw [data_inj h.1, ih h.2]
theorem keyP_inj {p q : Pol} (h : keyP p = keyP q) : p = q := by
  obtain ⟨a, l⟩ := p
  obtain ⟨b, m⟩ := q
  simp only [keyP, List.cons.injEq] at h
  rw [data_inj h.1, map_inj h.2]
theorem tot_of {α : Type} [LT α] [DecidableLT α] [Std.Irrefl (· < · : α → α → Prop)] [Std.Asymm (· < · : α → α → Prop)] [Std.Trichotomous (· < · : α → α → Prop)] {a b : List α} (h : a ≠ b) : a < b ∨ b < a := by
  by_cases h1 : a < b
  · exact .inl h1
  · by_cases h2 : b < a
    · exact .inr h2
    · exact absurd (List.le_antisymm (List.not_lt.1 h2) (List.not_lt.1 h1)) h
theorem blt_order : Lab.Order blt := ⟨fun _ => List.lt_irrefl _, fun h g => List.lt_trans h g, fun h => tot_of fun e => h (data_inj e)⟩
theorem plt_order : Lab.Order plt := ⟨fun _ => List.lt_irrefl _, fun h g => List.lt_trans h g, fun h => tot_of fun e => h (keyP_inj e)⟩

/- Which of two stands ahead. -/
def cmpI {α : Type} [LT α] [DecidableEq α] [DecidableLT α] (a b : List α) : Int := if a < b then -1 else if b < a then 1 else 0
def cmpS (s t : ByteArray) : Int := cmpI s.data.toList t.data.toList
def cmpR (l m : List ByteArray) : Int := cmpI (l.map (·.data.toList)) (m.map (·.data.toList))
def cmpP (p q : Pol) : Int := cmpI (keyP p) (keyP q)
theorem cmpS_zero {s t : ByteArray} : cmpS s t = 0 ↔ s = t := by
  unfold cmpS cmpI
  constructor
  · intro h
    split at h
    · cases h
    · split at h
      · cases h
      · rename_i h1 h2
        exact data_inj (by
          by_cases e : s.data.toList = t.data.toList
          · exact e
          · rcases tot_of e with g | g
            · exact absurd g h1
            · exact absurd g h2)
  · intro h
    subst h
    rw [if_neg (List.lt_irrefl s.data.toList), if_neg (List.lt_irrefl s.data.toList)]
theorem cmp_cons (a b : List UInt8) (l m : List (List UInt8)) : cmpI (a :: l) (b :: m) = if cmpI a b ≠ 0 then cmpI a b else cmpI l m := by
  unfold cmpI
  simp only [List.cons_lt_cons_iff]
  by_cases h1 : a < b
  · have h2 : ¬ b < a := fun h => List.lt_irrefl _ (List.lt_trans h1 h)
    simp [h1]
  · by_cases h2 : b < a
    · have e : a ≠ b := fun e => by subst e; exact h1 h2
      simp [h1, h2, e]
    · have e : a = b := by
        by_cases e : a = b
        · exact e
        · rcases tot_of e with g | g
          · exact absurd g h1
          · exact absurd g h2
      subst e
      simp [List.lt_irrefl]
theorem cmpP_eq (p q : Pol) : cmpP p q = if cmpS p.1 q.1 ≠ 0 then cmpS p.1 q.1 else cmpR p.2 q.2 := cmp_cons _ _ _ _
theorem less_dec (s t : ByteArray) : Op.bytesLess s.toList t.toList = decide (s.data.toList < t.data.toList) := by
  rw [Lex.list_of, Lex.list_of]
  exact bytesLess_eq _ _
theorem gtr_dec (s t : ByteArray) : (!(Op.bytesLess s.toList t.toList || s.toList == t.toList)) = decide (t.data.toList < s.data.toList) := by
  rw [less_dec, beq_dec, Bool.eq_iff_iff]
  simp only [Bool.not_eq_true', Bool.or_eq_false_iff, decide_eq_false_iff_not, decide_eq_true_eq]
  constructor
  · rintro ⟨h1, h2⟩
    rcases tot_of (a := s.data.toList) (b := t.data.toList) (fun e => h2 (data_inj e)) with g | g
    · exact absurd g h1
    · exact g
  · intro h
    exact ⟨fun g => List.lt_irrefl _ (List.lt_trans h g), fun e => by subst e; exact List.lt_irrefl _ h⟩

theorem isNaN_any (s : ByteArray) (w : World) : Calls Tryz.prog 125 #[.string s] w fun e w' => e = .returned (.bool false) ∧ w' = w := by
  go_enter Tryz.func125, Tryz.ntmps125
  go_wp2
  go_ret
  exact ⟨by simp, rfl⟩
set_option maxRecDepth 100000 in
set_option maxHeartbeats 1000000 in
theorem cmpS_any (s t : ByteArray) (w : World) : Calls Tryz.prog 75 #[.string s, .string t] w fun e w' => e = .returned (.int .i64 (cmpS s t)) ∧ w' = w := by
  have g1 := less_dec s t
  have g2 := gtr_dec s t
  by_cases h1 : s.data.toList < t.data.toList
  · have HE : Hid (cmpS s t = -1) := by show _ = _; unfold cmpS cmpI; rw [if_pos h1]
    have q1 : Op.bytesLess s.toList t.toList = true := by rw [g1]; simp [h1]
    clear g1 g2 h1
    go_enter Tryz.func75, Tryz.ntmps75
    go_wp2_with fail
    refine (isNaN_any s _).mono ?_
    rintro e w1 ⟨rfl, hw⟩
    have hw' := hw.symm
    subst hw'
    go_wp2_with fail
    refine (isNaN_any t _).mono ?_
    rintro e w1 ⟨rfl, hw⟩
    have hw' := hw.symm
    subst hw'
    go_wp2
    go_ret
    refine ⟨?_, rfl⟩
    rw [HE.out]; rfl
  · have q1 : Op.bytesLess s.toList t.toList = false := by rw [g1]; simp [h1]
    by_cases h2 : t.data.toList < s.data.toList
    · have HE : Hid (cmpS s t = 1) := by show _ = _; unfold cmpS cmpI; rw [if_neg h1, if_pos h2]
      have q2 : (s.toList == t.toList) = false := by
        rw [q1] at g2; simp only [h2, decide_true, Bool.false_or, Bool.not_eq_true'] at g2; exact g2
      clear g1 g2 h1 h2
      go_enter Tryz.func75, Tryz.ntmps75
      go_wp2_with fail
      refine (isNaN_any s _).mono ?_
      rintro e w1 ⟨rfl, hw⟩
      have hw' := hw.symm
      subst hw'
      go_wp2_with fail
      refine (isNaN_any t _).mono ?_
      rintro e w1 ⟨rfl, hw⟩
      have hw' := hw.symm
      subst hw'
      go_wp2
      go_ret
      refine ⟨?_, rfl⟩
      rw [HE.out]; rfl
    · have HE : Hid (cmpS s t = 0) := by show _ = _; unfold cmpS cmpI; rw [if_neg h1, if_neg h2]
      have q2 : (s.toList == t.toList) = true := by
        rw [q1] at g2; simp only [h2, decide_false, Bool.false_or, Bool.not_eq_false'] at g2; exact g2
      clear g1 g2 h1 h2
      go_enter Tryz.func75, Tryz.ntmps75
      go_wp2_with fail
      refine (isNaN_any s _).mono ?_
      rintro e w1 ⟨rfl, hw⟩
      have hw' := hw.symm
      subst hw'
      go_wp2_with fail
      refine (isNaN_any t _).mono ?_
      rintro e w1 ⟨rfl, hw⟩
      have hw' := hw.symm
      subst hw'
      go_wp2
      go_ret
      refine ⟨?_, rfl⟩
      rw [HE.out]; rfl
end Go.Proofs.YtpbknhhjfhpkmaaGreatDoor

namespace Go.Proofs.YtpbknhhjfhpkmaaGreatDoor
open Go.Lib

theorem le_trichL {a b : List UInt8} (h : a ≤ b) (hne : a ≠ b) : a < b := by
  rcases tot_of hne with g | g
  · exact g
  · exact absurd g (List.not_lt.2 h)
theorem compact_up (d : Array (List UInt8)) (hs : ∀ i j, i < j → j < d.size → d[i]! ≤ d[j]!) : ∀ m, m ≤ d.size → (compactUpTo d m).Pairwise (· < ·) ∧ (∀ x, x ∈ compactUpTo d m ↔ ∃ j, j < m ∧ d[j]! = x) := by
  intro m
  induction m with
  | zero => intro _; exact ⟨by simp [compactUpTo], by simp [compactUpTo]⟩
  | succ m ih =>
    intro hm
    obtain ⟨h1, h2⟩ := ih (by omega)
    rw [compactUpTo_succ]
    have hle : ∀ x ∈ compactUpTo d m, x ≤ d[m]! := fun x hx => by
      obtain ⟨j, hj, e⟩ := (h2 x).1 hx
      rw [← e]; exact hs j m hj (by omega)
    by_cases hk : keeps d m = true
    · rw [if_pos hk]
      refine ⟨List.pairwise_append.2 ⟨h1, by simp, fun x hx y hy => ?_⟩, fun x => ?_⟩
      · have hy' : y = d[m]! := by simpa using hy
        rw [hy']
        refine le_trichL (hle x hx) fun e => ?_
        obtain ⟨j, hj, e'⟩ := (h2 x).1 hx
        have hm1 : 0 < m := by omega
        have hx1 : d[m - 1]! = d[m]! := by
          have a1 : x ≤ d[m - 1]! := by
            rw [← e']
            by_cases hj1 : j = m - 1
            · rw [hj1]; exact List.le_refl _
            · exact hs j (m - 1) (by omega) (by omega)
          have a2 : d[m - 1]! ≤ d[m]! := hs (m - 1) m (by omega) (by omega)
          rw [e] at a1
          exact List.le_antisymm a2 a1
        unfold keeps at hk
        simp [hx1] at hk
        omega
      · simp only [List.mem_append, List.mem_singleton, h2]
        constructor
        · rintro (⟨j, hj, e⟩ | e)
          · exact ⟨j, by omega, e⟩
          · exact ⟨m, by omega, e.symm⟩
        · rintro ⟨j, hj, e⟩
          by_cases hjm : j = m
          · subst hjm; exact .inr e.symm
          · exact .inl ⟨j, by omega, e⟩
    · rw [if_neg hk]
      refine ⟨by simpa using h1, fun x => ?_⟩
      simp only [List.append_nil, h2]
      constructor
      · rintro ⟨j, hj, e⟩; exact ⟨j, by omega, e⟩
      · rintro ⟨j, hj, e⟩
        by_cases hjm : j = m
        · subst hjm
          have hx1 : j ≠ 0 ∧ d[j - 1]! = d[j]! := by
            unfold keeps at hk
            simp at hk
            exact ⟨hk.1, hk.2.symm⟩
          exact ⟨j - 1, by omega, by rw [hx1.2]; exact e⟩
        · exact ⟨j, by omega, e⟩
theorem compact_sorted {zs : List (List UInt8)} (h : zs.Pairwise (· ≤ ·)) : (compact zs).Pairwise (· < ·) ∧ ∀ x, x ∈ compact zs ↔ x ∈ zs := by
  have hs : ∀ i j, i < j → j < zs.toArray.size → zs.toArray[i]! ≤ zs.toArray[j]! := by
    intro i j hij hj
    have hj' : j < zs.length := by simpa using hj
    have := List.pairwise_iff_getElem.1 h i j (by omega) hj' hij
    simpa [getElem!_pos, hj', show i < zs.length by omega] using this
  obtain ⟨h1, h2⟩ := compact_up zs.toArray hs zs.length (by simp)
  refine ⟨h1, fun x => ?_⟩
  unfold compact
  rw [h2, List.mem_iff_getElem]
  constructor
  · rintro ⟨j, hj, e⟩
    exact ⟨j, hj, by simpa [getElem!_pos, hj] using e⟩
  · rintro ⟨j, hj, e⟩
    exact ⟨j, hj, by simpa [getElem!_pos, hj] using e⟩
def upC (zs : List (List UInt8)) : List (List UInt8) := compact (zs.mergeSort fun x y => decide (x ≤ y))
theorem upC_ok (zs : List (List UInt8)) : (upC zs).Pairwise (· < ·) ∧ ∀ x, x ∈ upC zs ↔ x ∈ zs := by
  have hp : (zs.mergeSort fun x y => decide (x ≤ y)).Pairwise (· ≤ ·) := by
    have := List.pairwise_mergeSort (le := fun x y : List UInt8 => decide (x ≤ y)) (fun a b c h g => by simp only [decide_eq_true_eq] at h g ⊢; exact List.le_trans h g) (fun a b => by simp only [Bool.or_eq_true, decide_eq_true_eq]; exact List.le_total a b) zs
    exact this.imp fun h => by simpa using h
  obtain ⟨h1, h2⟩ := compact_sorted hp
  exact ⟨h1, fun x => (h2 x).trans (List.mergeSort_perm zs _).mem_iff⟩
def bytesOf (l : List UInt8) : ByteArray := ⟨l.toArray⟩
/- p's readers without its owner, rising, each once. -/
def plainF (p : Pol) : Pol := (p.1, (upC ((p.2.filter fun r => decide (r ≠ p.1)).map (·.data.toList))).map bytesOf)
theorem bytesOf_data (l : List UInt8) : (bytesOf l).data.toList = l := by simp [bytesOf]
theorem data_bytesOf (s : ByteArray) : bytesOf s.data.toList = s := data_inj (bytesOf_data _)
theorem plainF_clean (p : Pol) : Lab.CleanOf blt p (plainF p) := by
  obtain ⟨h1, h2⟩ := upC_ok ((p.2.filter fun r => decide (r ≠ p.1)).map (·.data.toList))
  refine ⟨rfl, ?_, fun r => ?_⟩
  · refine List.Pairwise.map _ (fun a b hab => ?_) h1
    unfold blt
    rw [bytesOf_data, bytesOf_data]
    exact hab
  · simp only [plainF, List.mem_map]
    constructor
    · rintro ⟨b, hb, rfl⟩
      obtain ⟨s, hs, rfl⟩ := List.mem_map.1 ((h2 b).1 hb)
      rw [data_bytesOf]
      simpa using hs
    · rintro ⟨hr, hne⟩
      refine ⟨r.data.toList, (h2 _).2 (List.mem_map.2 ⟨r, by simp [hr, hne], rfl⟩), data_bytesOf r⟩
end Go.Proofs.YtpbknhhjfhpkmaaGreatDoor
