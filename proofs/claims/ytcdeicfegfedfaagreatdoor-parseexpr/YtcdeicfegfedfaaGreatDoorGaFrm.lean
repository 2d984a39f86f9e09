/- What is formed, and how it is written, in plain words. Formed is: not too deep, and formed part by part. Plain words. What is read is no deeper than it has tokens. Plain words. What is read is formed, part by part. Plain words. -/
import Derived.Test.YtcdeicfegfedfaaGreatDoorGaPar
import Derived.Test.YtcdeicfegfedfaaGreatDoorGaLabT
import Derived.Test.YtcdeicfegfedfaaGreatDoorGaDoc
import Derived.Lib.ItoaNum
namespace Go.Proofs.YtcdeicfegfedfaaGreatDoor
namespace Par

def nameOK (s : ByteArray) : Bool := Lex.nameF s.data.toList
def namesOK (l : List ByteArray) : Bool := l.all nameOK
def polBad (p : Po) : Bool := !nameOK p.1 || !namesOK p.2
def labOK (l : List Po) : Bool := decide (printE l = 0) && !l.any polBad
def numOK (t n : Int) : Bool := (t == 1 && (decide (0 ≤ n) && decide (n ≤ 999999999))) || (t == 2 && (n == 0 || n == 1))
/- Formed, but for what lies within. -/
def aloneF : Tr → Bool
  | .mk k _ n t s l a =>
    if k ≠ 1 ∧ (n ≠ 0 ∨ t ≠ 0) then false else if k ≠ 5 ∧ 0 < l.length then false
    else if k = 1 then numOK t n && (s.data.toList == []) && a.length == 0
    else if k = 2 then nameOK s && a.length == 0
    else if k = 3 then (a.length == 2 && decide (0 < levF s.data.toList)) || (a.length == 1 && (s.data.toList == [45] || s.data.toList == [33]))
    else if k = 4 then nameOK s && decide (a.length ≤ 4)
    else if k = 5 then labOK l && (s.data.toList == []) && a.length == 1
    else false
def kidsOf : Tr → List Tr
  | .mk _ _ _ _ _ _ a => a
/- With room for m levels. -/
def formD : Nat → Tr → Bool
  | 0, _ => false
  | m + 1, x => aloneF x && ((kidsOf x).isEmpty || (decide (m ≠ 0) && (kidsOf x).all (formD m)))

def numT (t n : Int) : List UInt8 := if t = 2 then (if n = 1 then [116, 114, 117, 101] else [102, 97, 108, 115, 101]) else Lib.itoa n
/- Does it bind two, less closely? -/
def lessB (least : Nat) : Tr → Bool
  | .mk k _ _ _ s _ a => k == 3 && (a.length == 2 && decide (levF s.data.toList < least))
def wrapT (b : Bool) (l : List UInt8) : List UInt8 := if b then 40 :: (l ++ [41]) else l
def txt : Nat → Tr → List UInt8
  | 0, _ => []
  | m + 1, .mk k _ n t s l a =>
    if k = 1 then numT t n else if k = 2 then s.data.toList
    else if k = 3 then (match a with
      | [x] => s.data.toList ++ wrapT (lessB 6 x) (txt m x)
      | [x, y] => wrapT (lessB (levF s.data.toList) x) (txt m x) ++ (32 :: (s.data.toList ++ (32 :: wrapT (lessB (levF s.data.toList + 1) y) (txt m y))))
      | _ => [])
    else if k = 4 then s.data.toList ++ (40 :: (Lib.join (a.map (txt m)) [44, 32] ++ [41]))
    else if k = 5 then (match a with
      | [x] => [114, 101, 108, 101, 97, 115, 101, 40] ++ (txt m x ++ ([32, 116, 111, 32] ++ (labelT l ++ [41])))
      | _ => [])
    else []
end Par
end Go.Proofs.YtcdeicfegfedfaaGreatDoor

namespace Go.Proofs.YtcdeicfegfedfaaGreatDoor
namespace Par

mutual
def deepT : Tr → Nat
  | .mk _ _ _ _ _ _ a => deepL a + 1
def deepL : List Tr → Nat
  | [] => 0
  | x :: r => max (deepT x) (deepL r)
end
mutual
def formE : Tr → Bool
  | .mk k p n t s l a => aloneF (.mk k p n t s l a) && formL a
def formL : List Tr → Bool
  | [] => true
  | x :: r => formE x && formL r
end
theorem formL_all (a : List Tr) : formL a = a.all formE := by
  induction a with
  | nil => rfl
  | cons x r ih => simp [formL, ih]
theorem deepL_le {a : List Tr} {m : Nat} : deepL a ≤ m ↔ ∀ x ∈ a, deepT x ≤ m := by
  induction a with
  | nil => simp [deepL]
  | cons x r ih => simp [deepL, Nat.max_le, ih]
theorem deep_pos (x : Tr) : 0 < deepT x := by
  obtain ⟨k, p, n, t, s, l, a⟩ := x
  show 0 < deepL a + 1
  omega
theorem form_deep : ∀ m x, formD m x = true ↔ deepT x ≤ m ∧ formE x = true := by
  intro m
  induction m with
  | zero =>
    intro x
    have := deep_pos x
    constructor
    · intro h; cases h
    · intro h; omega
  | succ m ih =>
    intro x
    obtain ⟨k, p, n, t, s, l, a⟩ := x
    have hd : deepT (.mk k p n t s l a) = deepL a + 1 := rfl
    have hf : formE (.mk k p n t s l a) = (aloneF (.mk k p n t s l a) && formL a) := rfl
    have hk : kidsOf (.mk k p n t s l a) = a := rfl
    unfold formD
    rw [hd, hf, hk, formL_all]
    simp only [Bool.and_eq_true, Bool.or_eq_true, List.isEmpty_iff, decide_eq_true_eq, List.all_eq_true]
    constructor
    · rintro ⟨h1, h2⟩
      rcases h2 with rfl | ⟨h2, h3⟩
      · exact ⟨by simp [deepL], h1, (fun x hx => by cases hx)⟩
      · refine ⟨?_, h1, fun x hx => ((ih x).1 (h3 x hx)).2⟩
        have : deepL a ≤ m := deepL_le.2 fun x hx => ((ih x).1 (h3 x hx)).1
        omega
    · rintro ⟨h1, h2, h3⟩
      refine ⟨h2, ?_⟩
      by_cases ha : a = []
      · exact .inl ha
      · right
        have hl : deepL a ≤ m := by omega
        have hall := deepL_le.1 hl
        obtain ⟨x, hx⟩ : ∃ x, x ∈ a := by
          cases a with
          | nil => exact absurd rfl ha
          | cons x r => exact ⟨x, by simp⟩
        refine ⟨?_, fun x hx => (ih x).2 ⟨hall x hx, h3 x hx⟩⟩
        have := deep_pos x
        have := hall x hx
        omega
end Par
end Go.Proofs.YtcdeicfegfedfaaGreatDoor

namespace Go.Proofs.YtcdeicfegfedfaaGreatDoor
namespace Par

def Eats (P : List Tok → Res Tr) : Prop := ∀ ts t r, P ts = .ok t r → deepT t + r.length ≤ ts.length
theorem deepL_snoc (acc : List Tr) (a : Tr) : deepL (acc ++ [a]) = max (deepL acc) (deepT a) := by
  induction acc with
  | nil => simp [deepL]
  | cons x r ih => simp only [List.cons_append, deepL, ih]; omega
theorem deep_op (s : Tok) (x y : Tr) : deepT (opT s [x, y]) = max (deepT x) (deepT y) + 1 := by
  show deepL [x, y] + 1 = _
  simp [deepL]
theorem tail_len {ts : List Tok} (h : ts ≠ []) : ts.tail.length + 1 = ts.length := by
  cases ts with
  | nil => exact absurd rfl h
  | cons x r => simp
theorem listF_eats {e : Nat} {s : List UInt8} (hs : s ≠ []) {P : List Tok → Res Tr} (hP : Eats P) : ∀ m acc ts l r, listF e s P m acc ts = .ok l r → deepL l + r.length ≤ deepL acc + ts.length := by
  intro m
  induction m with
  | zero =>
    intro acc ts l r h
    unfold listF at h
    split at h
    · cases h
    · cases h; exact Nat.le_refl _
  | succ m ih =>
    intro acc ts l r h
    unfold listF at h
    split at h
    · rename_i h0
      obtain ⟨b, u, h1, h2⟩ := bind_ok h
      have h3 := ih _ _ _ _ h2
      have h4 := hP _ _ _ h1
      have h5 : ts ≠ [] := by
        rintro rfl
        simp [isT, nx] at h0
        exact hs h0
      have h6 := tail_len h5
      rw [deepL_snoc] at h3
      omega
    · cases h; exact Nat.le_refl _
theorem must_eats {e : Nat} {s : List UInt8} (hs : s ≠ []) {ts r : List Tok} {a : Nat} (h : must e s ts = .ok a r) : r.length + 1 = ts.length := by
  unfold must at h
  split at h
  · rename_i h0
    cases h
    refine tail_len ?_
    rintro rfl
    simp [isT, nx] at h0
    exact hs h0
  · cases h
theorem encl_eats {e : Nat} {o s c : List UInt8} (ho : o ≠ []) (hs : s ≠ []) (hc : c ≠ []) {m : Nat} {P : List Tok → Res Tr} (hP : Eats P) {ts r : List Tok} {l : List Tr} (h : encl e o s c m P ts = .ok l r) : deepL l + r.length + 2 ≤ ts.length := by
  obtain ⟨b, u, h1, h2⟩ := bind_ok h
  obtain ⟨l1, v, h3, h4⟩ := bind_ok h2
  obtain ⟨l2, v2, h5, h6⟩ := bind_ok h4
  cases h6
  have e1 := must_eats ho h1
  have e2 := must_eats hc h5
  split at h3
  · cases h3
    simp only [deepL]
    omega
  · obtain ⟨x, v3, h7, h8⟩ := bind_ok h3
    have e3 := hP _ _ _ h7
    have e4 := listF_eats hs hP _ _ _ _ _ h8
    have e5 : deepL [x] = deepT x := by simp [deepL]
    omega
theorem loopF_eats {Q : List Tok → Res Tr} {lv : Nat} (hl : 0 < lv) (hQ : Eats Q) : ∀ f x ts t r, loopF Q lv f x ts = .ok t r → deepT t + r.length ≤ deepT x + ts.length := by
  intro f
  induction f with
  | zero => intro x ts t r h; cases h; exact Nat.le_refl _
  | succ f ih =>
    intro x ts t r h
    unfold loopF at h
    split at h
    · rename_i h0
      obtain ⟨y, u, h1, h2⟩ := bind_ok h
      have h3 := ih _ _ _ _ h2
      have h4 := hQ _ _ _ h1
      have h5 : ts ≠ [] := by
        rintro rfl
        have h9 : levF [] = lv := h0
        rw [lev_none] at h9
        omega
      have h6 := tail_len h5
      rw [deep_op] at h3
      have h7 := deep_pos x
      have h8 := deep_pos y
      omega
    · cases h; exact Nat.le_refl _
theorem bd_eats {P : List Tok → Res Tr} (hP : Eats P) : ∀ j, j ≤ 5 → Eats (bd P j) := by
  intro j
  induction j with
  | zero => exact fun _ => hP
  | succ j ih =>
    intro hj ts t r h
    obtain ⟨b, u, h1, h2⟩ := bind_ok h
    have h3 := ih (by omega) _ _ _ h1
    have h4 := loopF_eats (by omega) (ih (by omega)) _ _ _ _ _ h2
    omega
theorem leaf_deep (k p n t : Int) (s : ByteArray) (l : List Po) : deepT (.mk k p n t s l []) = 1 := rfl
theorem ne_of_kind {ts : List Tok} (h : (nx ts).1 ≠ 0) : ts ≠ [] := by rintro rfl; exact h rfl
theorem ne_of_text {ts : List Tok} (h : (nx ts).2.2 ≠ []) : ts ≠ [] := by rintro rfl; exact h rfl
theorem named_eats {e : Nat} {E : List Tok → Res Tr} (hE : Eats E) {ts r : List Tok} {t : Tr} (h0 : ts ≠ []) (h : namedR e E ts = .ok t r) : deepT t + r.length ≤ ts.length := by
  have h6 := tail_len h0
  unfold namedR at h
  split at h
  · obtain ⟨a, u, h1, h2⟩ := bind_ok h
    cases h2
    have h3 := encl_eats (by simp) (by simp) (by simp) hE h1
    have h4 : deepT (.mk 4 (nx ts).2.1 0 0 (ba (nx ts).2.2) [] a) = deepL a + 1 := rfl
    omega
  · cases h
    rw [leaf_deep]
    omega
theorem inn_eats {e : Nat} {E : List Tok → Res Tr} (hE : Eats E) {ts r : List Tok} {t : Tr} (h : innR e E ts = .ok t r) : deepT t + r.length ≤ ts.length := by
  obtain ⟨b, u, h1, h2⟩ := bind_ok h
  obtain ⟨l, v, h3, h4⟩ := bind_ok h2
  obtain ⟨l2, v2, h5, h6⟩ := bind_ok h4
  cases h6
  have e1 := must_eats (by simp) h1
  have e2 := must_eats (by simp) h5
  have e3 := hE _ _ _ h3
  omega
theorem rel_eats {e : Nat} {E : List Tok → Res Tr} (hE : Eats E) {ts r : List Tok} {t : Tr} (h0 : ts ≠ []) (h : relR e E ts = .ok t r) : deepT t + r.length ≤ ts.length := by
  have h6 := tail_len h0
  obtain ⟨_, r1, h1, h⟩ := bind_ok h
  obtain ⟨x, r2, h2, h⟩ := bind_ok h
  obtain ⟨_, r3, h3, h⟩ := bind_ok h
  obtain ⟨lb, r4, h4, h⟩ := bind_ok h
  obtain ⟨_, r5, h5, h⟩ := bind_ok h
  cases h
  have e1 := must_eats (by simp) h1
  have e2 := hE _ _ _ h2
  have e3 := must_eats (by simp) h3
  have e4 := (label_sfx _ _ _ _ h4).length_le
  have e5 := must_eats (by simp) h5
  have e6 : deepT (.mk 5 (nx ts).2.1 0 0 (ba []) lb [x]) = deepT x + 1 := by show deepL [x] + 1 = _; simp [deepL]
  omega
theorem primF_eats {e : Nat} {E P : List Tok → Res Tr} (hE : Eats E) (hP : Eats P) : Eats (primF e E P) := by
  intro ts t r h
  unfold primF at h
  split at h
  · rename_i h0
    have h6 := tail_len (ne_of_kind (ts := ts) (by rw [h0]; decide))
    cases h
    rw [leaf_deep]
    omega
  split at h
  · rename_i h0
    exact named_eats hE (ne_of_kind (by rw [h0]; decide)) h
  split at h
  · rename_i h0
    exact rel_eats hE (ne_of_text (by rw [h0]; simp)) h
  split at h
  · rename_i h0
    have h6 := tail_len (ne_of_text (ts := ts) (by rcases h0 with h0 | h0 <;> rw [h0] <;> simp))
    obtain ⟨x, u, h1, h2⟩ := bind_ok h
    cases h2
    have h3 := hP _ _ _ h1
    have e6 : deepT (opT (nx ts) [x]) = deepT x + 1 := by show deepL [x] + 1 = _; simp [deepL]
    omega
  split at h
  · rename_i h0
    have h6 := tail_len (ne_of_text (ts := ts) (by rw [h0]; simp))
    cases h
    rw [leaf_deep]
    omega
  split at h
  · rename_i h0
    have h6 := tail_len (ne_of_text (ts := ts) (by rw [h0]; simp))
    cases h
    rw [leaf_deep]
    omega
  exact inn_eats hE h
theorem prim_eats (e : Nat) : ∀ k, Eats (prim e k) := by
  intro k
  induction k with
  | zero => intro ts a r h; cases h
  | succ k ih => exact primF_eats (bd_eats ih 5 (Nat.le_refl _)) ih
theorem expr_eats (e k : Nat) : Eats (exprR e k) := bd_eats (prim_eats e k) 5 (Nat.le_refl _)
theorem read_deep {l : List UInt8} {t : Tr} {r : List Tok} (h : readE l = .ok t r) : deepT t ≤ (Lex.scanAll l).1.length := by
  unfold readE wholeF at h
  split at h
  · cases h
  · obtain ⟨a, s, h1, h2⟩ := bind_ok h
    unfold restR at h2
    split at h2
    · cases h2
      have := expr_eats _ _ _ _ _ h1
      omega
    · cases h2
end Par
end Go.Proofs.YtcdeicfegfedfaaGreatDoor

namespace Go.Proofs.YtcdeicfegfedfaaGreatDoor
namespace Lex
theorem name_tok {t : List UInt8} (h : Good 1 t) : nameF t = true := by
  obtain ⟨h0, _, _, h3⟩ := h
  have h4 := h3 [] (.inl rfl)
  rw [List.append_nil] at h4
  unfold firstF at h4
  split at h4
  · rename_i ha
    unfold lettersF at h4
    split at h4
    · simp at h4
    · rename_i h12
      split at h4
      · simp at h4
      · rename_i hw
        have e : t.take (runLen nameB t) = t := by simp only [Prod.mk.injEq] at h4; exact h4.2.1
        rw [e] at h12 hw
        have hr : runLen nameB t = t.length := by
          have h5 := congrArg List.length e
          have h6 := runLen_le nameB t
          rw [List.length_take] at h5
          omega
        rw [nameF_end h0 (by omega) ha hr]
        simpa using hw
  · split at h4
    · unfold digitsF at h4
      split at h4 <;> simp at h4
    · split at h4 <;> simp at h4
theorem name_size {l : List UInt8} (h : nameF l = true) : l.length ≤ 12 := by
  apply Classical.byContradiction
  intro hn
  rw [nameF_long hn] at h
  cases h
end Lex
namespace Par
/- Tokens as a text has them. -/
def Fine (ts : List Tok) : Prop := ∀ t ∈ ts, Lex.Good t.1 t.2.2
theorem Fine.sfx {ts us : List Tok} (h : Fine ts) (hs : us <:+ ts) : Fine us := fun t ht => h t (hs.subset ht)
theorem Fine.name {ts : List Tok} (h : Fine ts) (h1 : (nx ts).1 = 1) : nameOK (ba (nx ts).2.2) = true := by
  cases ts with
  | nil => cases h1
  | cons t r =>
    have h2 := h t (by simp)
    have h3 : t.1 = 1 := h1
    rw [h3] at h2
    show Lex.nameF t.2.2.toArray.toList = true
    exact Lex.name_tok h2
def Holds {α : Type} (F : α → Prop) (P : List Tok → Res α) : Prop := ∀ ts a r, Fine ts → P ts = .ok a r → F a
theorem name_holds (e : Nat) : Holds (fun s => nameOK s = true) (nameR e) := by
  intro ts a r hf h
  unfold nameR at h
  split at h
  · rename_i h1
    cases h
    exact hf.name h1
  · cases h
theorem listF_holds {α : Type} {F : α → Prop} {e : Nat} {s : List UInt8} {P : List Tok → Res α} (hS : Sfx P) (hP : Holds F P) : ∀ m acc ts l r, Fine ts → (∀ a ∈ acc, F a) → listF e s P m acc ts = .ok l r → (∀ a ∈ l, F a) ∧ l.length ≤ acc.length + m := by
  intro m
  induction m with
  | zero =>
    intro acc ts l r hf ha h
    unfold listF at h
    split at h
    · cases h
    · cases h; exact ⟨ha, Nat.le_refl _⟩
  | succ m ih =>
    intro acc ts l r hf ha h
    unfold listF at h
    split at h
    · obtain ⟨b, u, h1, h2⟩ := bind_ok h
      have h3 := hP _ _ _ (hf.sfx (tail_sfx ts)) h1
      have h4 := ih (acc ++ [b]) _ _ _ ((hf.sfx (tail_sfx ts)).sfx (hS _ _ _ h1)) (fun a hm => by
        rcases List.mem_append.1 hm with hm | hm
        · exact ha a hm
        · rw [List.mem_singleton.1 hm]; exact h3) h2
      refine ⟨h4.1, ?_⟩
      have h5 := h4.2
      simp at h5
      omega
    · cases h; exact ⟨ha, by omega⟩
theorem listR_holds {α : Type} {F : α → Prop} {e : Nat} {s : List UInt8} {m : Nat} (hm : 0 < m) {P : List Tok → Res α} (hS : Sfx P) (hP : Holds F P) {ts r : List Tok} {l : List α} (hf : Fine ts) (h : listR e s m P ts = .ok l r) : (∀ a ∈ l, F a) ∧ l.length ≤ m := by
  obtain ⟨b, u, h1, h2⟩ := bind_ok h
  have h3 := hP _ _ _ hf h1
  have h4 := listF_holds hS hP _ _ _ _ _ (hf.sfx (hS _ _ _ h1)) (fun a ha => by rw [List.mem_singleton.1 ha]; exact h3) h2
  refine ⟨h4.1, ?_⟩
  have h5 := h4.2
  simp at h5
  omega
theorem encl_holds {α : Type} {F : α → Prop} {e : Nat} {o s c : List UInt8} {m : Nat} (hm : 0 < m) {P : List Tok → Res α} (hS : Sfx P) (hP : Holds F P) {ts r : List Tok} {l : List α} (hf : Fine ts) (h : encl e o s c m P ts = .ok l r) : (∀ a ∈ l, F a) ∧ l.length ≤ m := by
  obtain ⟨b, u, h1, h2⟩ := bind_ok h
  obtain ⟨l1, v, h3, h4⟩ := bind_ok h2
  obtain ⟨l2, v2, h5, h6⟩ := bind_ok h4
  cases h6
  split at h3
  · cases h3
    exact ⟨(fun a ha => by cases ha), by simp⟩
  · exact listR_holds hm hS hP (hf.sfx (must_sfx _ _ _ _ _ h1)) h3
def PolOK (p : Po) : Prop := nameOK p.1 = true ∧ (∀ s ∈ p.2, nameOK s = true) ∧ p.2.length ≤ 6
theorem policy_holds (e : Nat) : Holds PolOK (policyR e) := by
  intro ts a r hf h
  obtain ⟨b, u, h1, h2⟩ := bind_ok h
  obtain ⟨l, v, h3, h4⟩ := bind_ok h2
  have h5 := name_holds e _ _ _ hf h1
  split at h4
  · obtain ⟨l2, v2, h6, h7⟩ := bind_ok h4
    cases h7
    have h8 := listR_holds (by omega) (name_sfx e) (name_holds e) (((hf.sfx (name_sfx _ _ _ _ h1))).sfx (must_sfx _ _ _ _ _ h3)) h6
    exact ⟨h5, h8.1, h8.2⟩
  · cases h4
    exact ⟨h5, (fun s hs => by cases hs), by simp⟩
theorem ok_size {s : ByteArray} (h : nameOK s = true) : s.size ≤ 12 := by
  have := Lex.name_size h
  simpa using this
theorem lab_ok {l : List Po} (h : ∀ p ∈ l, PolOK p) (hl : l.length ≤ 200) : labOK l = true := by
  have h1 : l.any longB = false := by
    rw [List.any_eq_false]
    intro p hp
    obtain ⟨a, b, c⟩ := h p hp
    have a1 := ok_size a
    unfold longB
    simp only [Bool.or_eq_true, decide_eq_true_eq, List.any_eq_true, not_or, not_exists, not_and]
    exact ⟨⟨by omega, by omega⟩, fun s hs => by have := ok_size (b s hs); omega⟩
  have h2 : printE l = 0 := by
    unfold printE
    rw [if_neg]
    rw [h1]
    simp
    omega
  have h3 : l.any polBad = false := by
    rw [List.any_eq_false]
    intro p hp
    obtain ⟨a, b, c⟩ := h p hp
    have b1 : namesOK p.2 = true := List.all_eq_true.2 b
    unfold polBad
    simp [a, b1]
  unfold labOK
  rw [h2, h3]
  rfl
theorem label_holds (e : Nat) : Holds (fun l => labOK l = true) (labelR e) := by
  intro ts l r hf h
  have h1 := encl_holds (by omega) (policy_sfx e) (policy_holds e) hf h
  exact lab_ok h1.1 h1.2
def FE (t : Tr) : Prop := formE t = true
theorem fe_mk {k p n t : Int} {s : ByteArray} {l : List Po} {a : List Tr} (h : aloneF (.mk k p n t s l a) = true) (ha : ∀ x ∈ a, FE x) : FE (.mk k p n t s l a) := by
  show (aloneF (.mk k p n t s l a) && formL a) = true
  rw [h, formL_all, Bool.true_and, List.all_eq_true]
  exact ha
theorem fe_op {s : Tok} {x y : Tr} (hl : 0 < levF s.2.2) (hx : FE x) (hy : FE y) : FE (opT s [x, y]) := by
  refine fe_mk ?_ ?_
  · have e : (ba s.2.2).data.toList = s.2.2 := rfl
    simp [aloneF, e, hl]
  · intro z hz
    simp only [List.mem_cons, List.not_mem_nil, or_false] at hz
    rcases hz with rfl | rfl
    · exact hx
    · exact hy
theorem loopF_holds {Q : List Tok → Res Tr} {lv : Nat} (hl : 0 < lv) (hS : Sfx Q) (hQ : Holds FE Q) : ∀ f x ts t r, Fine ts → FE x → loopF Q lv f x ts = .ok t r → FE t := by
  intro f
  induction f with
  | zero => intro x ts t r hf hx h; cases h; exact hx
  | succ f ih =>
    intro x ts t r hf hx h
    unfold loopF at h
    split at h
    · rename_i h0
      obtain ⟨y, u, h1, h2⟩ := bind_ok h
      have hy := hQ _ _ _ (hf.sfx (tail_sfx ts)) h1
      exact ih _ _ _ _ ((hf.sfx (tail_sfx ts)).sfx (hS _ _ _ h1)) (fe_op (by omega) hx hy) h2
    · cases h; exact hx
theorem bd_holds {P : List Tok → Res Tr} (hS : Sfx P) (hP : Holds FE P) : ∀ j, j ≤ 5 → Holds FE (bd P j) := by
  intro j
  induction j with
  | zero => exact fun _ => hP
  | succ j ih =>
    intro hj ts t r hf h
    obtain ⟨b, u, h1, h2⟩ := bind_ok h
    have h3 := ih (by omega) _ _ _ hf h1
    exact loopF_holds (by omega) (bd_sfx hS j) (ih (by omega)) _ _ _ _ _ (hf.sfx (bd_sfx hS j _ _ _ h1)) h3 h2
theorem named_holds {e : Nat} {E : List Tok → Res Tr} (hS : Sfx E) (hE : Holds FE E) {ts r : List Tok} {t : Tr} (hf : Fine ts) (h1 : (nx ts).1 = 1) (h : namedR e E ts = .ok t r) : FE t := by
  have hn := hf.name h1
  unfold namedR at h
  split at h
  · obtain ⟨a, u, h2, h3⟩ := bind_ok h
    cases h3
    have h4 := encl_holds (by omega) hS hE (hf.sfx (tail_sfx ts)) h2
    exact fe_mk (by simp [aloneF, hn, h4.2]) h4.1
  · cases h
    exact fe_mk (by simp [aloneF, hn]) (fun x hx => by cases hx)
theorem rel_holds {e : Nat} {E : List Tok → Res Tr} (hS : Sfx E) (hE : Holds FE E) {ts r : List Tok} {t : Tr} (hf : Fine ts) (h : relR e E ts = .ok t r) : FE t := by
  obtain ⟨_, r1, h1, h⟩ := bind_ok h
  obtain ⟨x, r2, h2, h⟩ := bind_ok h
  obtain ⟨_, r3, h3, h⟩ := bind_ok h
  obtain ⟨lb, r4, h4, h⟩ := bind_ok h
  obtain ⟨_, r5, h5, h⟩ := bind_ok h
  cases h
  have f1 := (hf.sfx (tail_sfx ts)).sfx (must_sfx _ _ _ _ _ h1)
  have f3 := (f1.sfx (hS _ _ _ h2)).sfx (must_sfx _ _ _ _ _ h3)
  have hx := hE _ _ _ f1 h2
  have hl : labOK lb = true := label_holds e _ _ _ f3 h4
  refine fe_mk (by simp [aloneF, hl, ba]) (fun z hz => ?_)
  rw [List.mem_singleton.1 hz]
  exact hx
theorem primF_holds {e : Nat} {E P : List Tok → Res Tr} (hSE : Sfx E) (hE : Holds FE E) (hP : Holds FE P) : Holds FE (primF e E P) := by
  intro ts t r hf h
  unfold primF at h
  split at h
  · rename_i h0
    cases h
    refine fe_mk ?_ (fun x hx => by cases hx)
    have h1 : ts ≠ [] := by rintro rfl; cases h0
    cases ts with
    | nil => exact absurd rfl h1
    | cons u us =>
      have h2 := hf u (by simp)
      have h3 : u.1 = 2 := h0
      rw [h3] at h2
      obtain ⟨_, m, h4, h5⟩ := num_tok h2
      have h6 : numV u.2.2 = (m : Int) := by simp [numV, h4]
      show aloneF (.mk 1 u.2.1 (numV u.2.2) 1 (ba []) [] []) = true
      rw [h6]
      have h8 : (m : Int) ≤ 999999999 := by omega
      simp [aloneF, numOK, ba, h8]
  split at h
  · rename_i h0
    exact named_holds hSE hE hf h0 h
  split at h
  · exact rel_holds hSE hE hf h
  split at h
  · rename_i h0
    obtain ⟨x, u, h1, h2⟩ := bind_ok h
    cases h2
    have h3 := hP _ _ _ (hf.sfx (tail_sfx ts)) h1
    refine fe_mk ?_ (fun z hz => by rw [List.mem_singleton.1 hz]; exact h3)
    rcases h0 with h0 | h0 <;> simp [aloneF, h0, ba]
  split at h
  · cases h
    exact fe_mk (by simp [aloneF, numOK, ba]) (fun x hx => by cases hx)
  split at h
  · cases h
    exact fe_mk (by simp [aloneF, numOK, ba]) (fun x hx => by cases hx)
  obtain ⟨b, u, h1, h2⟩ := bind_ok h
  obtain ⟨x, v, h3, h4⟩ := bind_ok h2
  obtain ⟨l2, v2, h5, h6⟩ := bind_ok h4
  cases h6
  exact hE _ _ _ (hf.sfx (must_sfx _ _ _ _ _ h1)) h3
theorem prim_holds (e : Nat) : ∀ k, Holds FE (prim e k) := by
  intro k
  induction k with
  | zero => intro ts a r hf h; cases h
  | succ k ih => exact primF_holds (bd_sfx (prim_sfx e k) 5) (bd_holds (prim_sfx e k) ih 5 (Nat.le_refl _)) ih
theorem expr_holds (e k : Nat) : Holds FE (exprR e k) := bd_holds (prim_sfx e k) (prim_holds e k) 5 (Nat.le_refl _)
theorem scan_fine {l : List UInt8} {ts : List Tok} {q : Nat} (h : Lex.scanAll l = (ts, 0, q)) : Fine ts := fun t ht => ((Lex.all_from h).1 t ht).2.2.1
theorem read_fe {l : List UInt8} {ts : List Tok} {q : Nat} {t : Tr} {r : List Tok} {e k : Nat} (hs : Lex.scanAll l = (ts, 0, q)) (h : exprR e k ts = .ok t r) : formE t = true := expr_holds e k _ _ _ (scan_fine hs) h
end Par
end Go.Proofs.YtcdeicfegfedfaaGreatDoor
