/- How tokens are read as expressions and labels, in plain words. Nothing of the program is named here. Reading that fails tells one of two errors; a whole text's reading. Each name, number and sign of an expression that is read stands where it says. A token that is a number is one that Atoi reads; names are Names. -/
import Derived.Test.YtikejmokejghcaaGreatDoorGaLex
import Derived.Lib.Atoi
namespace Go.Proofs.YtikejmokejghcaaGreatDoor
namespace Par

abbrev Tok := Lex.Tok
abbrev Po := ByteArray × List ByteArray

/- An expression: its kind, place, number, type, name, label, parts. -/
inductive Tr where
  | mk (k p n t : Int) (s : ByteArray) (l : List Po) (a : List Tr)
/- What reading comes to: something and the tokens behind it, or an error and its place. -/
inductive Res (α : Type) where
  | ok (a : α) (r : List Tok)
  | no (c : Int) (q : Nat)
def Res.bind {α β : Type} : Res α → (α → List Tok → Res β) → Res β
  | .ok a r, f => f a r
  | .no c q, _ => .no c q
theorem bind_ok {α β : Type} {x : Res α} {f : α → List Tok → Res β} {b : β} {r : List Tok} (h : x.bind f = .ok b r) : ∃ a s, x = .ok a s ∧ f a s = .ok b r := by
  cases x with
  | ok a s => exact ⟨a, s, rfl, h⟩
  | no c q => cases h

def nx : List Tok → Tok
  | [] => (0, 0, [])
  | t :: _ => t
def atP (e : Nat) : List Tok → Nat
  | [] => e
  | t :: _ => t.2.1
def isT (s : List UInt8) (ts : List Tok) : Bool := (nx ts).2.2 == s
def ba (l : List UInt8) : ByteArray := ⟨l.toArray⟩
def must (e : Nat) (s : List UInt8) (ts : List Tok) : Res Nat := if isT s ts = true then .ok (nx ts).2.1 ts.tail else .no 1 (atP e ts)
def nameR (e : Nat) (ts : List Tok) : Res ByteArray := if (nx ts).1 = 1 then .ok (ba (nx ts).2.2) ts.tail else .no 1 (atP e ts)

/- More, with a sign between each two, while there is room. -/
def listF {α : Type} (e : Nat) (s : List UInt8) (P : List Tok → Res α) : Nat → List α → List Tok → Res (List α)
  | 0, acc, ts => if isT s ts = true then .no 2 (atP e ts) else .ok acc ts
  | m + 1, acc, ts => if isT s ts = true then (P ts.tail).bind fun a r => listF e s P m (acc ++ [a]) r else .ok acc ts
def listR {α : Type} (e : Nat) (s : List UInt8) (m : Nat) (P : List Tok → Res α) (ts : List Tok) : Res (List α) :=
  (P ts).bind fun a r => listF e s P (m - 1) [a] r
def encl {α : Type} (e : Nat) (o s c : List UInt8) (m : Nat) (P : List Tok → Res α) (ts : List Tok) : Res (List α) :=
  (must e o ts).bind fun _ r => (if isT c r = true then Res.ok [] r else listR e s m P r).bind fun l r2 => (must e c r2).bind fun _ r3 => .ok l r3

def policyR (e : Nat) (ts : List Tok) : Res Po :=
  (nameR e ts).bind fun o r => (must e [58] r).bind fun _ r2 => if (nx r2).1 = 1 then (listR e [44] 6 (nameR e) r2).bind fun l r3 => .ok (o, l) r3 else .ok (o, []) r2
def labelR (e : Nat) (ts : List Tok) : Res (List Po) := encl e [123] [59] [125] 200 (policyR e) ts

/- How closely a sign binds two. -/
def levF (s : List UInt8) : Nat :=
  if s ∈ [[124, 124]] then 1 else if s ∈ [[38, 38]] then 2 else if s ∈ [[61, 61], [33, 61], [60], [60, 61], [62], [62, 61]] then 3 else if s ∈ [[43], [45]] then 4 else if s ∈ [[42], [47], [37]] then 5 else 0
theorem lev_none : levF [] = 0 := by decide
def opT (t : Tok) (a : List Tr) : Tr := .mk 3 t.2.1 0 0 (ba t.2.2) [] a
/- Signs of one level, from the left. -/
def loopF (Q : List Tok → Res Tr) (lv : Nat) : Nat → Tr → List Tok → Res Tr
  | 0, x, ts => .ok x ts
  | f + 1, x, ts => if levF (nx ts).2.2 = lv then (Q ts.tail).bind fun y r => loopF Q lv f (opT (nx ts) [x, y]) r else .ok x ts
/- With j levels left; none: what no sign parts. -/
def bd (P : List Tok → Res Tr) : Nat → List Tok → Res Tr
  | 0, ts => P ts
  | j + 1, ts => (bd P j ts).bind fun x r => loopF (bd P j) (5 - j) r.length x r
def numV (l : List UInt8) : Int := (Lib.atoi l).getD 0
def namedR (e : Nat) (E : List Tok → Res Tr) (ts : List Tok) : Res Tr :=
  if isT [40] ts.tail = true then (encl e [40] [44] [41] 4 E ts.tail).bind fun a r => .ok (.mk 4 (nx ts).2.1 0 0 (ba (nx ts).2.2) [] a) r
  else .ok (.mk 2 (nx ts).2.1 0 0 (ba (nx ts).2.2) [] []) ts.tail
def relR (e : Nat) (E : List Tok → Res Tr) (ts : List Tok) : Res Tr :=
  (must e [40] ts.tail).bind fun _ r1 => (E r1).bind fun x r2 => (must e [116, 111] r2).bind fun _ r3 => (labelR e r3).bind fun l r4 => (must e [41] r4).bind fun _ r5 => .ok (.mk 5 (nx ts).2.1 0 0 (ba []) l [x]) r5
def innR (e : Nat) (E : List Tok → Res Tr) (ts : List Tok) : Res Tr :=
  (must e [40] ts).bind fun _ r1 => (E r1).bind fun x r2 => (must e [41] r2).bind fun _ r3 => .ok x r3
def primF (e : Nat) (E P : List Tok → Res Tr) (ts : List Tok) : Res Tr :=
  if (nx ts).1 = 2 then .ok (.mk 1 (nx ts).2.1 (numV (nx ts).2.2) 1 (ba []) [] []) ts.tail
  else if (nx ts).1 = 1 then namedR e E ts
  else if (nx ts).2.2 = [114, 101, 108, 101, 97, 115, 101] then relR e E ts
  else if (nx ts).2.2 = [45] ∨ (nx ts).2.2 = [33] then (P ts.tail).bind fun x r => .ok (opT (nx ts) [x]) r
  else if (nx ts).2.2 = [116, 114, 117, 101] then .ok (.mk 1 (nx ts).2.1 1 2 (ba []) [] []) ts.tail
  else if (nx ts).2.2 = [102, 97, 108, 115, 101] then .ok (.mk 1 (nx ts).2.1 0 2 (ba []) [] []) ts.tail
  else innR e E ts
/- With room for k more within. -/
def prim (e : Nat) : Nat → List Tok → Res Tr
  | 0, ts => .no 2 (atP e ts)
  | k + 1, ts => primF e (bd (prim e k) 5) (prim e k) ts
def exprR (e k : Nat) : List Tok → Res Tr := bd (prim e k) 5

/- What reading leaves is what stands behind. -/
def Sfx {α : Type} (P : List Tok → Res α) : Prop := ∀ ts a r, P ts = .ok a r → r <:+ ts
theorem tail_sfx (ts : List Tok) : ts.tail <:+ ts := List.tail_suffix ts
theorem must_sfx (e : Nat) (s : List UInt8) : Sfx (must e s) := by
  intro ts a r h
  unfold must at h
  split at h
  · cases h; exact tail_sfx ts
  · cases h
theorem name_sfx (e : Nat) : Sfx (nameR e) := by
  intro ts a r h
  unfold nameR at h
  split at h
  · cases h; exact tail_sfx ts
  · cases h
theorem listF_sfx {α : Type} {e : Nat} {s : List UInt8} {P : List Tok → Res α} (hP : Sfx P) : ∀ m acc, Sfx (listF e s P m acc) := by
  intro m
  induction m with
  | zero =>
    intro acc ts a r h
    unfold listF at h
    split at h
    · cases h
    · cases h; exact List.suffix_refl _
  | succ m ih =>
    intro acc ts a r h
    unfold listF at h
    split at h
    · obtain ⟨b, u, h1, h2⟩ := bind_ok h
      exact ((ih _ _ _ _ h2).trans (hP _ _ _ h1)).trans (tail_sfx ts)
    · cases h; exact List.suffix_refl _
theorem listR_sfx {α : Type} {e : Nat} {s : List UInt8} {m : Nat} {P : List Tok → Res α} (hP : Sfx P) : Sfx (listR e s m P) := by
  intro ts a r h
  obtain ⟨b, u, h1, h2⟩ := bind_ok h
  exact (listF_sfx hP _ _ _ _ _ h2).trans (hP _ _ _ h1)
theorem encl_sfx {α : Type} {e : Nat} {o s c : List UInt8} {m : Nat} {P : List Tok → Res α} (hP : Sfx P) : Sfx (encl e o s c m P) := by
  intro ts a r h
  obtain ⟨b, u, h1, h2⟩ := bind_ok h
  obtain ⟨l, v, h3, h4⟩ := bind_ok h2
  obtain ⟨l2, v2, h5, h6⟩ := bind_ok h4
  cases h6
  refine ((must_sfx _ _ _ _ _ h5).trans ?_).trans (must_sfx _ _ _ _ _ h1)
  split at h3
  · cases h3; exact List.suffix_refl _
  · exact listR_sfx hP _ _ _ h3
theorem policy_sfx (e : Nat) : Sfx (policyR e) := by
  intro ts a r h
  obtain ⟨b, u, h1, h2⟩ := bind_ok h
  obtain ⟨l, v, h3, h4⟩ := bind_ok h2
  refine List.IsSuffix.trans ?_ ((must_sfx _ _ _ _ _ h3).trans (name_sfx _ _ _ _ h1))
  split at h4
  · obtain ⟨l2, v2, h5, h6⟩ := bind_ok h4
    cases h6
    exact listR_sfx (name_sfx e) _ _ _ h5
  · cases h4; exact List.suffix_refl _
theorem label_sfx (e : Nat) : Sfx (labelR e) := fun ts a r h => encl_sfx (policy_sfx e) ts a r h
theorem loopF_sfx {Q : List Tok → Res Tr} {lv : Nat} (hQ : Sfx Q) : ∀ f x, Sfx (loopF Q lv f x) := by
  intro f
  induction f with
  | zero => intro x ts a r h; cases h; exact List.suffix_refl _
  | succ f ih =>
    intro x ts a r h
    unfold loopF at h
    split at h
    · obtain ⟨b, u, h1, h2⟩ := bind_ok h
      exact ((ih _ _ _ _ h2).trans (hQ _ _ _ h1)).trans (tail_sfx ts)
    · cases h; exact List.suffix_refl _
theorem bd_sfx {P : List Tok → Res Tr} (hP : Sfx P) : ∀ j, Sfx (bd P j) := by
  intro j
  induction j with
  | zero => exact hP
  | succ j ih =>
    intro ts a r h
    obtain ⟨b, u, h1, h2⟩ := bind_ok h
    exact (loopF_sfx ih _ _ _ _ _ h2).trans (ih _ _ _ h1)
theorem named_sfx {e : Nat} {E : List Tok → Res Tr} (hE : Sfx E) : Sfx (namedR e E) := by
  intro ts a r h
  unfold namedR at h
  split at h
  · obtain ⟨b, u, h1, h2⟩ := bind_ok h
    cases h2
    exact (encl_sfx hE _ _ _ h1).trans (tail_sfx ts)
  · cases h; exact tail_sfx ts
theorem inn_sfx {e : Nat} {E : List Tok → Res Tr} (hE : Sfx E) : Sfx (innR e E) := by
  intro ts a r h
  obtain ⟨b, u, h1, h2⟩ := bind_ok h
  obtain ⟨l, v, h3, h4⟩ := bind_ok h2
  obtain ⟨l2, v2, h5, h6⟩ := bind_ok h4
  cases h6
  exact ((must_sfx _ _ _ _ _ h5).trans (hE _ _ _ h3)).trans (must_sfx _ _ _ _ _ h1)
theorem rel_sfx {e : Nat} {E : List Tok → Res Tr} (hE : Sfx E) : Sfx (relR e E) := by
  intro ts a r h
  obtain ⟨_, r1, h1, h⟩ := bind_ok h
  obtain ⟨_, r2, h2, h⟩ := bind_ok h
  obtain ⟨_, r3, h3, h⟩ := bind_ok h
  obtain ⟨_, r4, h4, h⟩ := bind_ok h
  obtain ⟨_, r5, h5, h⟩ := bind_ok h
  cases h
  exact ((((must_sfx _ _ _ _ _ h5).trans (label_sfx _ _ _ _ h4)).trans (must_sfx _ _ _ _ _ h3)).trans (hE _ _ _ h2)).trans ((must_sfx _ _ _ _ _ h1).trans (tail_sfx ts))
theorem primF_sfx {e : Nat} {E P : List Tok → Res Tr} (hE : Sfx E) (hP : Sfx P) : Sfx (primF e E P) := by
  intro ts a r h
  unfold primF at h
  split at h
  · cases h; exact tail_sfx ts
  split at h
  · exact named_sfx hE _ _ _ h
  split at h
  · exact rel_sfx hE _ _ _ h
  split at h
  · obtain ⟨b, u, h1, h2⟩ := bind_ok h
    cases h2
    exact (hP _ _ _ h1).trans (tail_sfx ts)
  split at h
  · cases h; exact tail_sfx ts
  split at h
  · cases h; exact tail_sfx ts
  exact inn_sfx hE _ _ _ h
theorem prim_sfx (e : Nat) : ∀ k, Sfx (prim e k) := by
  intro k
  induction k with
  | zero => intro ts a r h; cases h
  | succ k ih => exact primF_sfx (bd_sfx ih 5) ih
theorem expr_sfx (e k : Nat) : Sfx (exprR e k) := bd_sfx (prim_sfx e k) 5
/- The loop goes on as long as there are tokens: more fuel is no more. -/
theorem loopF_fuel {Q : List Tok → Res Tr} {lv : Nat} (hQ : Sfx Q) (hl : 0 < lv) : ∀ f g x ts, ts.length ≤ f → ts.length ≤ g → loopF Q lv f x ts = loopF Q lv g x ts := by
  have none : ∀ g x, loopF Q lv g x [] = .ok x [] := by
    intro g x
    cases g with
    | zero => rfl
    | succ g => unfold loopF; rw [if_neg]; show ¬ levF [] = lv; rw [lev_none]; omega
  intro f
  induction f with
  | zero =>
    intro g x ts h1 h2
    have : ts = [] := List.length_eq_zero_iff.1 (by omega)
    subst this; rw [none, none]
  | succ f ih =>
    intro g x ts h1 h2
    cases g with
    | zero =>
      have : ts = [] := List.length_eq_zero_iff.1 (by omega)
      subst this; rw [none, none]
    | succ g =>
      unfold loopF
      split
      · cases hq : Q ts.tail with
        | no c q => rfl
        | ok y r =>
          have h3 := (hQ _ _ _ hq).length_le
          rw [List.length_tail] at h3
          show loopF Q lv f _ r = loopF Q lv g _ r
          exact ih g _ _ (by omega) (by omega)
      · rfl
end Par
end Go.Proofs.YtikejmokejghcaaGreatDoor

namespace Go.Proofs.YtikejmokejghcaaGreatDoor
namespace Par

theorem bind_no {α β : Type} {x : Res α} {f : α → List Tok → Res β} {c : Int} {q : Nat} (h : x.bind f = .no c q) : x = .no c q ∨ ∃ a s, x = .ok a s ∧ f a s = .no c q := by
  cases x with
  | ok a s => exact .inr ⟨a, s, rfl, h⟩
  | no c' q' => cases h; exact .inl rfl
def Bad {α : Type} (P : List Tok → Res α) : Prop := ∀ ts c q, P ts = .no c q → c = 1 ∨ c = 2
theorem must_bad (e : Nat) (s : List UInt8) : Bad (must e s) := by
  intro ts c q h
  unfold must at h
  split at h
  · cases h
  · cases h; exact .inl rfl
theorem name_bad (e : Nat) : Bad (nameR e) := by
  intro ts c q h
  unfold nameR at h
  split at h
  · cases h
  · cases h; exact .inl rfl
theorem listF_bad {α : Type} {e : Nat} {s : List UInt8} {P : List Tok → Res α} (hP : Bad P) : ∀ m acc, Bad (listF e s P m acc) := by
  intro m
  induction m with
  | zero =>
    intro acc ts c q h
    unfold listF at h
    split at h
    · cases h; exact .inr rfl
    · cases h
  | succ m ih =>
    intro acc ts c q h
    unfold listF at h
    split at h
    · rcases bind_no h with h | ⟨b, u, h1, h2⟩
      · exact hP _ _ _ h
      · exact ih _ _ _ _ h2
    · cases h
theorem listR_bad {α : Type} {e : Nat} {s : List UInt8} {m : Nat} {P : List Tok → Res α} (hP : Bad P) : Bad (listR e s m P) := by
  intro ts c q h
  rcases bind_no h with h | ⟨b, u, h1, h2⟩
  · exact hP _ _ _ h
  · exact listF_bad hP _ _ _ _ _ h2
theorem encl_bad {α : Type} {e : Nat} {o s c : List UInt8} {m : Nat} {P : List Tok → Res α} (hP : Bad P) : Bad (encl e o s c m P) := by
  intro ts cc q h
  rcases bind_no h with h | ⟨b, u, h1, h2⟩
  · exact must_bad _ _ _ _ _ h
  rcases bind_no h2 with h | ⟨l, v, h3, h4⟩
  · split at h
    · cases h
    · exact listR_bad hP _ _ _ h
  rcases bind_no h4 with h | ⟨l2, v2, h5, h6⟩
  · exact must_bad _ _ _ _ _ h
  · cases h6
theorem policy_bad (e : Nat) : Bad (policyR e) := by
  intro ts c q h
  rcases bind_no h with h | ⟨b, u, h1, h2⟩
  · exact name_bad _ _ _ _ h
  rcases bind_no h2 with h | ⟨l, v, h3, h4⟩
  · exact must_bad _ _ _ _ _ h
  split at h4
  · rcases bind_no h4 with h | ⟨l2, v2, h5, h6⟩
    · exact listR_bad (name_bad e) _ _ _ h
    · cases h6
  · cases h4
theorem label_bad (e : Nat) : Bad (labelR e) := fun ts c q h => encl_bad (policy_bad e) ts c q h
theorem loopF_bad {Q : List Tok → Res Tr} {lv : Nat} (hQ : Bad Q) : ∀ f x, Bad (loopF Q lv f x) := by
  intro f
  induction f with
  | zero => intro x ts c q h; cases h
  | succ f ih =>
    intro x ts c q h
    unfold loopF at h
    split at h
    · rcases bind_no h with h | ⟨b, u, h1, h2⟩
      · exact hQ _ _ _ h
      · exact ih _ _ _ _ h2
    · cases h
theorem bd_bad {P : List Tok → Res Tr} (hP : Bad P) : ∀ j, Bad (bd P j) := by
  intro j
  induction j with
  | zero => exact hP
  | succ j ih =>
    intro ts c q h
    rcases bind_no h with h | ⟨b, u, h1, h2⟩
    · exact ih _ _ _ h
    · exact loopF_bad ih _ _ _ _ _ h2
theorem named_bad {e : Nat} {E : List Tok → Res Tr} (hE : Bad E) : Bad (namedR e E) := by
  intro ts c q h
  unfold namedR at h
  split at h
  · rcases bind_no h with h | ⟨b, u, h1, h2⟩
    · exact encl_bad hE _ _ _ h
    · cases h2
  · cases h
theorem inn_bad {e : Nat} {E : List Tok → Res Tr} (hE : Bad E) : Bad (innR e E) := by
  intro ts c q h
  rcases bind_no h with h | ⟨b, u, h1, h2⟩
  · exact must_bad _ _ _ _ _ h
  rcases bind_no h2 with h | ⟨l, v, h3, h4⟩
  · exact hE _ _ _ h
  rcases bind_no h4 with h | ⟨l2, v2, h5, h6⟩
  · exact must_bad _ _ _ _ _ h
  · cases h6
theorem rel_bad {e : Nat} {E : List Tok → Res Tr} (hE : Bad E) : Bad (relR e E) := by
  intro ts c q h
  rcases bind_no h with h | ⟨_, r1, h1, h⟩
  · exact must_bad _ _ _ _ _ h
  rcases bind_no h with h | ⟨_, r2, h2, h⟩
  · exact hE _ _ _ h
  rcases bind_no h with h | ⟨_, r3, h3, h⟩
  · exact must_bad _ _ _ _ _ h
  rcases bind_no h with h | ⟨_, r4, h4, h⟩
  · exact label_bad _ _ _ _ h
  rcases bind_no h with h | ⟨_, r5, h5, h⟩
  · exact must_bad _ _ _ _ _ h
  cases h
theorem primF_bad {e : Nat} {E P : List Tok → Res Tr} (hE : Bad E) (hP : Bad P) : Bad (primF e E P) := by
  intro ts c q h
  unfold primF at h
  split at h
  · cases h
  split at h
  · exact named_bad hE _ _ _ h
  split at h
  · exact rel_bad hE _ _ _ h
  split at h
  · rcases bind_no h with h | ⟨b, u, h1, h2⟩
    · exact hP _ _ _ h
    · cases h2
  split at h
  · cases h
  split at h
  · cases h
  exact inn_bad hE _ _ _ h
theorem prim_bad (e : Nat) : ∀ k, Bad (prim e k) := by
  intro k
  induction k with
  | zero => intro ts c q h; cases h; exact .inr rfl
  | succ k ih => exact primF_bad (bd_bad ih 5) ih
theorem expr_bad (e k : Nat) : Bad (exprR e k) := bd_bad (prim_bad e k) 5
/- A whole text. -/
def restR {α : Type} (e : Nat) (a : α) (r : List Tok) : Res α := if r.isEmpty = true then .ok a [] else .no 1 (atP e r)
def wholeF {α : Type} (R : Nat → List Tok → Res α) (l : List UInt8) : Res α :=
  if (Lex.scanAll l).2.1 ≠ 0 then .no (Lex.scanAll l).2.1 (Lex.scanAll l).2.2 else (R l.length (Lex.scanAll l).1).bind fun a r => restR l.length a r
def readE (l : List UInt8) : Res Tr := wholeF (fun e => exprR e 12) l
theorem whole_bad {α : Type} {R : Nat → List Tok → Res α} (hR : ∀ e, Bad (R e)) (l : List UInt8) {c : Int} {q : Nat} (h : wholeF R l = .no c q) : c ≠ 0 := by
  unfold wholeF at h
  split at h
  · rename_i hc
    cases h; exact hc
  · rcases bind_no h with h | ⟨a, r, h1, h2⟩
    · rcases hR _ _ _ _ h with rfl | rfl <;> decide
    · unfold restR at h2
      split at h2
      · cases h2
      · cases h2; decide
theorem whole_scan {α : Type} {R : Nat → List Tok → Res α} {l : List UInt8} {ts : List Tok} {c : Int} {q : Nat} (h : Lex.scanAll l = (ts, c, q)) (hc : c ≠ 0) : wholeF R l = .no c q := by
  unfold wholeF; rw [h]; simp [hc]
theorem whole_read {α : Type} {R : Nat → List Tok → Res α} {l : List UInt8} {ts : List Tok} {q : Nat} (h : Lex.scanAll l = (ts, 0, q)) : wholeF R l = (R l.length ts).bind fun a r => restR l.length a r := by
  unfold wholeF; rw [h]; simp
end Par
end Go.Proofs.YtikejmokejghcaaGreatDoor

namespace Go.Proofs.YtikejmokejghcaaGreatDoor
namespace Par

inductive Stands (s : List UInt8) : Tr → Prop
  | mk {k p n t : Int} {m : ByteArray} {l : List Po} {a : List Tr} (h0 : 0 ≤ p) (h1 : p < s.length) (h2 : k = 2 ∨ k = 4 ∨ k = 3 → m.data.toList <+: s.drop p.toNat) (h3 : ∀ x ∈ a, Stands s x) : Stands s (.mk k p n t m l a)
def TokAt (s : List UInt8) (t : Tok) : Prop := t.2.1 < s.length ∧ t.2.2 <+: s.drop t.2.1
def AllT (s : List UInt8) (ts : List Tok) : Prop := ∀ t ∈ ts, TokAt s t
theorem AllT.sfx {s : List UInt8} {ts r : List Tok} (h : AllT s ts) (g : r <:+ ts) : AllT s r := fun t ht => h t (g.mem ht)
theorem nx_mem {ts : List Tok} (h : (nx ts).1 ≠ 0 ∨ (nx ts).2.2 ≠ []) : nx ts ∈ ts := by
  cases ts with
  | nil => rcases h with h | h <;> exact absurd rfl h
  | cons t r => simp [nx]
def RStands (s : List UInt8) (P : List Tok → Res Tr) : Prop := ∀ ts, AllT s ts → ∀ x r, P ts = .ok x r → Stands s x
theorem listF_stands {s : List UInt8} {e : Nat} {b : List UInt8} {P : List Tok → Res Tr} (hP : RStands s P) (hs : Sfx P) : ∀ m acc ts, AllT s ts → (∀ x ∈ acc, Stands s x) → ∀ l r, listF e b P m acc ts = .ok l r → ∀ x ∈ l, Stands s x := by
  intro m
  induction m with
  | zero =>
    intro acc ts _ ha l r h
    unfold listF at h
    split at h
    · cases h
    · cases h; exact ha
  | succ m ih =>
    intro acc ts ht ha l r h
    unfold listF at h
    split at h
    · obtain ⟨a, u, h1, h2⟩ := bind_ok h
      have ht2 := ht.sfx (tail_sfx ts)
      refine ih _ _ (ht2.sfx (hs _ _ _ h1)) (fun x hx => ?_) _ _ h2
      rcases List.mem_append.1 hx with hx | hx
      · exact ha x hx
      · rw [List.mem_singleton] at hx; subst hx; exact hP _ ht2 _ _ h1
    · cases h; exact ha
theorem listR_stands {s : List UInt8} {e m : Nat} {b : List UInt8} {P : List Tok → Res Tr} (hP : RStands s P) (hs : Sfx P) {ts : List Tok} (ht : AllT s ts) {l : List Tr} {r : List Tok} (h : listR e b m P ts = .ok l r) : ∀ x ∈ l, Stands s x := by
  obtain ⟨a, u, h1, h2⟩ := bind_ok h
  refine listF_stands hP hs _ _ _ (ht.sfx (hs _ _ _ h1)) (fun x hx => ?_) _ _ h2
  rw [List.mem_singleton] at hx; subst hx; exact hP _ ht _ _ h1
theorem encl_stands {s : List UInt8} {e m : Nat} {o b c : List UInt8} {P : List Tok → Res Tr} (hP : RStands s P) (hs : Sfx P) {ts : List Tok} (ht : AllT s ts) {l : List Tr} {r : List Tok} (h : encl e o b c m P ts = .ok l r) : ∀ x ∈ l, Stands s x := by
  obtain ⟨_, u, h1, h2⟩ := bind_ok h
  obtain ⟨l1, v, h3, h4⟩ := bind_ok h2
  obtain ⟨_, v2, h5, h6⟩ := bind_ok h4
  cases h6
  split at h3
  · cases h3; intro x hx; cases hx
  · exact listR_stands hP hs (ht.sfx (must_sfx _ _ _ _ _ h1)) h3
theorem stands_tok {s : List UInt8} {t : Tok} (h : TokAt s t) (k n ty : Int) (m : ByteArray) (l : List Po) {a : List Tr} (hm : k = 2 ∨ k = 4 ∨ k = 3 → m = ba t.2.2) (ha : ∀ x ∈ a, Stands s x) : Stands s (.mk k t.2.1 n ty m l a) :=
  .mk (by omega) (by have := h.1; omega) (fun hk => by rw [hm hk]; simpa [ba] using h.2) ha
theorem loopF_stands {s : List UInt8} {Q : List Tok → Res Tr} {lv : Nat} (hl : 0 < lv) (hQ : RStands s Q) (hs : Sfx Q) : ∀ f x ts, AllT s ts → Stands s x → ∀ y r, loopF Q lv f x ts = .ok y r → Stands s y := by
  intro f
  induction f with
  | zero => intro x ts _ hx y r h; cases h; exact hx
  | succ f ih =>
    intro x ts ht hx y r h
    unfold loopF at h
    split at h
    · rename_i hlv
      obtain ⟨z, u, h1, h2⟩ := bind_ok h
      have ht2 := ht.sfx (tail_sfx ts)
      have hz := hQ _ ht2 _ _ h1
      refine ih _ _ (ht2.sfx (hs _ _ _ h1)) ?_ _ _ h2
      have hm := nx_mem (ts := ts) (.inr (fun h0 => by rw [h0, lev_none] at hlv; omega))
      refine stands_tok (ht _ hm) 3 0 0 _ [] (fun _ => rfl) (fun w hw => ?_)
      rcases List.mem_cons.1 hw with hw | hw
      · subst hw; exact hx
      · rw [List.mem_singleton] at hw; subst hw; exact hz
    · cases h; exact hx
theorem bd_stands {s : List UInt8} {P : List Tok → Res Tr} (hP : RStands s P) (hs : Sfx P) : ∀ j, j ≤ 5 → RStands s (bd P j) := by
  intro j
  induction j with
  | zero => intro _; exact hP
  | succ j ih =>
    intro hj ts ht x r h
    obtain ⟨b, u, h1, h2⟩ := bind_ok h
    have hb := ih (by omega)
    exact loopF_stands (by omega) hb (bd_sfx hs j) _ _ _ (ht.sfx (bd_sfx hs j _ _ _ h1)) (hb _ ht _ _ h1) _ _ h2
theorem named_stands {s : List UInt8} {e : Nat} {E : List Tok → Res Tr} (hE : RStands s E) (hs : Sfx E) {ts : List Tok} (ht : AllT s ts) (hn : (nx ts).1 = 1) {x : Tr} {r : List Tok} (h : namedR e E ts = .ok x r) : Stands s x := by
  have hm := ht _ (nx_mem (ts := ts) (.inl (by omega)))
  unfold namedR at h
  split at h
  · obtain ⟨a, u, h1, h2⟩ := bind_ok h
    cases h2
    exact stands_tok hm 4 0 0 _ [] (fun _ => rfl) (encl_stands hE hs (ht.sfx (tail_sfx ts)) h1)
  · cases h
    exact stands_tok hm 2 0 0 _ [] (fun _ => rfl) (fun x hx => by cases hx)
theorem rel_stands {s : List UInt8} {e : Nat} {E : List Tok → Res Tr} (hE : RStands s E) {ts : List Tok} (ht : AllT s ts) (hn : (nx ts).2.2 = [114, 101, 108, 101, 97, 115, 101]) {x : Tr} {r : List Tok} (h : relR e E ts = .ok x r) : Stands s x := by
  have hm := ht _ (nx_mem (ts := ts) (.inr (by rw [hn]; simp)))
  obtain ⟨_, r1, h1, h⟩ := bind_ok h
  obtain ⟨y, r2, h2, h⟩ := bind_ok h
  obtain ⟨_, r3, h3, h⟩ := bind_ok h
  obtain ⟨_, r4, h4, h⟩ := bind_ok h
  obtain ⟨_, r5, h5, h⟩ := bind_ok h
  cases h
  have hy := hE _ ((ht.sfx (tail_sfx ts)).sfx (must_sfx _ _ _ _ _ h1)) _ _ h2
  refine stands_tok hm 5 0 0 _ _ (fun hk => by omega) (fun z hz => ?_)
  rw [List.mem_singleton] at hz; subst hz; exact hy
theorem inn_stands {s : List UInt8} {e : Nat} {E : List Tok → Res Tr} (hE : RStands s E) {ts : List Tok} (ht : AllT s ts) {x : Tr} {r : List Tok} (h : innR e E ts = .ok x r) : Stands s x := by
  obtain ⟨_, r1, h1, h⟩ := bind_ok h
  obtain ⟨y, r2, h2, h⟩ := bind_ok h
  obtain ⟨_, r3, h3, h⟩ := bind_ok h
  cases h
  exact hE _ (ht.sfx (must_sfx _ _ _ _ _ h1)) _ _ h2
theorem prim_stands (s : List UInt8) (e : Nat) : ∀ k, RStands s (prim e k) := by
  intro k
  induction k with
  | zero => intro ts _ x r h; cases h
  | succ k ih =>
    have hE := bd_stands ih (prim_sfx e k) 5 (Nat.le_refl _)
    have hs := bd_sfx (prim_sfx e k) 5
    intro ts ht x r h
    change primF e _ _ ts = _ at h
    unfold primF at h
    split at h
    · rename_i h2
      cases h
      exact stands_tok (ht _ (nx_mem (.inl (by omega)))) 1 _ 1 _ [] (fun hk => by omega) (fun x hx => by cases hx)
    split at h
    · rename_i _ h1
      exact named_stands hE hs ht h1 h
    split at h
    · rename_i h1
      exact rel_stands hE ht h1 h
    split at h
    · rename_i h1
      obtain ⟨y, u, h2, h3⟩ := bind_ok h
      cases h3
      have hy := ih _ (ht.sfx (tail_sfx ts)) _ _ h2
      refine stands_tok (ht _ (nx_mem (.inr (by rcases h1 with h1 | h1 <;> rw [h1] <;> simp)))) 3 0 0 _ [] (fun _ => rfl) (fun z hz => ?_)
      rw [List.mem_singleton] at hz; subst hz; exact hy
    split at h
    · rename_i h1
      cases h
      exact stands_tok (ht _ (nx_mem (.inr (by rw [h1]; simp)))) 1 1 2 _ [] (fun hk => by omega) (fun x hx => by cases hx)
    split at h
    · rename_i h1
      cases h
      exact stands_tok (ht _ (nx_mem (.inr (by rw [h1]; simp)))) 1 0 2 _ [] (fun hk => by omega) (fun x hx => by cases hx)
    exact inn_stands hE ht h
theorem expr_stands (s : List UInt8) (e k : Nat) : RStands s (exprR e k) := bd_stands (prim_stands s e k) (prim_sfx e k) 5 (Nat.le_refl _)
/- The tokens of a text stand where they say. -/
theorem from_at {s : List UInt8} {t : Tok} (h : Lex.From s t) : TokAt s t := by
  obtain ⟨h1, h2, h3, h4⟩ := h
  have h5 := h3.1
  refine ⟨?_, ?_⟩
  · apply Nat.lt_of_le_of_ne h1
    intro h6
    rw [h6, List.drop_length] at h2
    exact h5 (by rw [h2]; simp)
  · rw [h2]; exact List.take_prefix _ _
theorem scan_at {s : List UInt8} {out : List Tok} {q : Nat} (h : Lex.scanAll s = (out, 0, q)) : AllT s out := fun t ht => from_at ((Lex.all_from h).1 t ht)
end Par
end Go.Proofs.YtikejmokejghcaaGreatDoor

namespace Go.Proofs.YtikejmokejghcaaGreatDoor
namespace Par
open Lex (digitB firstF c0 runLen nameB alphaB)

theorem digits_dec {l : List UInt8} (h : ∀ c ∈ l, digitB (c.toNat : Int) = true) : ∀ acc, ∃ m, Lib.decFrom acc l = some m := by
  induction l with
  | nil => intro acc; exact ⟨acc, rfl⟩
  | cons a r ih =>
    intro acc
    have ha := h a (by simp)
    simp only [digitB, decide_eq_true_eq] at ha
    have hd : Lib.digitVal a = some (a.toNat - 48) := by
      unfold Lib.digitVal
      rw [if_pos (by omega)]
    obtain ⟨m, hm⟩ := ih (fun c hc => h c (by simp [hc])) (acc * 10 + (a.toNat - 48))
    exact ⟨m, by simp only [Lib.decFrom, hd]; exact hm⟩
theorem digits_atoi {l : List UInt8} (h0 : l ≠ []) (h : ∀ c ∈ l, digitB (c.toNat : Int) = true) (hl : l.length ≤ 9) : ∃ m : Nat, Lib.atoi l = some (m : Int) ∧ m ≤ 999999999 := by
  obtain ⟨m, hm⟩ := digits_dec h 0
  have hlt := Lib.decFrom_lt l 0 m hm
  have hp : (10 : Nat) ^ l.length ≤ 10 ^ 9 := Nat.pow_le_pow_right (by omega) hl
  refine ⟨m, ?_, by omega⟩
  cases l with
  | nil => exact absurd rfl h0
  | cons a r =>
    have ha := h a (by simp)
    simp only [digitB, decide_eq_true_eq] at ha
    have e1 : (a == 45) = false := by
      rw [beq_eq_false_iff_ne]
      intro e; subst e
      exact absurd ha (by decide)
    have e2 : (a == 43) = false := by
      rw [beq_eq_false_iff_ne]
      intro e; subst e
      exact absurd ha (by decide)
    simp only [Lib.atoi, e1, e2, Bool.false_eq_true, if_false, Lib.decNat, List.isEmpty_cons, hm, Option.map_some]
theorem num_tok {t : List UInt8} (h : Lex.Good 2 t) : t.length ≤ 9 ∧ ∃ m : Nat, Lib.atoi t = some (m : Int) ∧ m ≤ 999999999 := by
  obtain ⟨h0, _, _, h3⟩ := h
  have h4 := h3 [] (.inl rfl)
  rw [List.append_nil] at h4
  unfold firstF at h4
  split at h4
  · rename_i ha
    unfold Lex.lettersF at h4
    split at h4
    · simp at h4
    · split at h4 <;> simp at h4
  · split at h4
    · rename_i _ hd
      obtain ⟨g1, g2⟩ := Lex.run_take digitB t
      have hlt := Lex.digits_ok h4
      have e : t.take (runLen digitB t) = t := hlt.2.symm
      rw [e] at g2 h4
      unfold Lex.digitsF at h4
      split at h4
      · simp at h4
      · rename_i hh
        exact ⟨by omega, digits_atoi h0 g2 (by omega)⟩
    · split at h4 <;> simp at h4
end Par
end Go.Proofs.YtikejmokejghcaaGreatDoor
