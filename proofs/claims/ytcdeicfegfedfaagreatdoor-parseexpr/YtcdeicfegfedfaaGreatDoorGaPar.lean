/- How tokens are read as expressions and labels, in plain words. Nothing of the program is named here. Reading that fails tells one of two errors; a whole text's reading. Operands and signs put together by a stack are what the levels make of them, in plain words. A token that is a number is one that Atoi reads; names are Names. -/
import Derived.Test.YtcdeicfegfedfaaGreatDoorGaLex
import Derived.Lib.Atoi
namespace Go.Proofs.YtcdeicfegfedfaaGreatDoor
namespace Par

abbrev Tok := Lex.Tok
abbrev Po := ByteArray × List ByteArray

/- An expression: its kind, place, number, type, name, label, parts. -/
inductive Tr where
  | mk (k p n t : Int) (s : ByteArray) (l : List Po) (a : List Tr)
/- What reading comes to: something and the tokens behind it, or an error and its place. -/
inductive Res (α : Type) where
  | ok (a : α) (r : List Tok)
  | no (c : Int) (q : Nat)
def Res.bind {α β : Type} : Res α → (α → List Tok → Res β) → Res β
  | .ok a r, f => f a r
  | .no c q, _ => .no c q
theorem bind_ok {α β : Type} {x : Res α} {f : α → List Tok → Res β} {b : β} {r : List Tok} (h : x.bind f = .ok b r) : ∃ a s, x = .ok a s ∧ f a s = .ok b r := by
  cases x with
  | ok a s => exact ⟨a, s, rfl, h⟩
  | no c q => cases h

def nx : List Tok → Tok
  | [] => (0, 0, [])
  | t :: _ => t
def atP (e : Nat) : List Tok → Nat
  | [] => e
  | t :: _ => t.2.1
def isT (s : List UInt8) (ts : List Tok) : Bool := (nx ts).2.2 == s
def ba (l : List UInt8) : ByteArray := ⟨l.toArray⟩
def must (e : Nat) (s : List UInt8) (ts : List Tok) : Res Nat := if isT s ts = true then .ok (nx ts).2.1 ts.tail else .no 1 (atP e ts)
def nameR (e : Nat) (ts : List Tok) : Res ByteArray := if (nx ts).1 = 1 then .ok (ba (nx ts).2.2) ts.tail else .no 1 (atP e ts)

/- More, with a sign between each two, while there is room. -/
def listF {α : Type} (e : Nat) (s : List UInt8) (P : List Tok → Res α) : Nat → List α → List Tok → Res (List α)
  | 0, acc, ts => if isT s ts = true then .no 2 (atP e ts) else .ok acc ts
  | m + 1, acc, ts => if isT s ts = true then (P ts.tail).bind fun a r => listF e s P m (acc ++ [a]) r else .ok acc ts
def listR {α : Type} (e : Nat) (s : List UInt8) (m : Nat) (P : List Tok → Res α) (ts : List Tok) : Res (List α) :=
  (P ts).bind fun a r => listF e s P (m - 1) [a] r
def encl {α : Type} (e : Nat) (o s c : List UInt8) (m : Nat) (P : List Tok → Res α) (ts : List Tok) : Res (List α) :=
  (must e o ts).bind fun _ r => (if isT c r = true then Res.ok [] r else listR e s m P r).bind fun l r2 => (must e c r2).bind fun _ r3 => .ok l r3

def policyR (e : Nat) (ts : List Tok) : Res Po :=
  (nameR e ts).bind fun o r => (must e [58] r).bind fun _ r2 => if (nx r2).1 = 1 then (listR e [44] 6 (nameR e) r2).bind fun l r3 => .ok (o, l) r3 else .ok (o, []) r2
def labelR (e : Nat) (ts : List Tok) : Res (List Po) := encl e [123] [59] [125] 200 (policyR e) ts

/- How closely a sign binds two. -/
def levF (s : List UInt8) : Nat :=
  if s ∈ [[124, 124]] then 1 else if s ∈ [[38, 38]] then 2 else if s ∈ [[61, 61], [33, 61], [60], [60, 61], [62], [62, 61]] then 3 else if s ∈ [[43], [45]] then 4 else if s ∈ [[42], [47], [37]] then 5 else 0
theorem lev_none : levF [] = 0 := by decide
def opT (t : Tok) (a : List Tr) : Tr := .mk 3 t.2.1 0 0 (ba t.2.2) [] a
/- Signs of one level, from the left. -/
def loopF (Q : List Tok → Res Tr) (lv : Nat) : Nat → Tr → List Tok → Res Tr
  | 0, x, ts => .ok x ts
  | f + 1, x, ts => if levF (nx ts).2.2 = lv then (Q ts.tail).bind fun y r => loopF Q lv f (opT (nx ts) [x, y]) r else .ok x ts
/- With j levels left; none: what no sign parts. -/
def bd (P : List Tok → Res Tr) : Nat → List Tok → Res Tr
  | 0, ts => P ts
  | j + 1, ts => (bd P j ts).bind fun x r => loopF (bd P j) (5 - j) r.length x r
def numV (l : List UInt8) : Int := (Lib.atoi l).getD 0
def namedR (e : Nat) (E : List Tok → Res Tr) (ts : List Tok) : Res Tr :=
  if isT [40] ts.tail = true then (encl e [40] [44] [41] 4 E ts.tail).bind fun a r => .ok (.mk 4 (nx ts).2.1 0 0 (ba (nx ts).2.2) [] a) r
  else .ok (.mk 2 (nx ts).2.1 0 0 (ba (nx ts).2.2) [] []) ts.tail
def relR (e : Nat) (E : List Tok → Res Tr) (ts : List Tok) : Res Tr :=
  (must e [40] ts.tail).bind fun _ r1 => (E r1).bind fun x r2 => (must e [116, 111] r2).bind fun _ r3 => (labelR e r3).bind fun l r4 => (must e [41] r4).bind fun _ r5 => .ok (.mk 5 (nx ts).2.1 0 0 (ba []) l [x]) r5
def innR (e : Nat) (E : List Tok → Res Tr) (ts : List Tok) : Res Tr :=
  (must e [40] ts).bind fun _ r1 => (E r1).bind fun x r2 => (must e [41] r2).bind fun _ r3 => .ok x r3
def primF (e : Nat) (E P : List Tok → Res Tr) (ts : List Tok) : Res Tr :=
  if (nx ts).1 = 2 then .ok (.mk 1 (nx ts).2.1 (numV (nx ts).2.2) 1 (ba []) [] []) ts.tail
  else if (nx ts).1 = 1 then namedR e E ts
  else if (nx ts).2.2 = [114, 101, 108, 101, 97, 115, 101] then relR e E ts
  else if (nx ts).2.2 = [45] ∨ (nx ts).2.2 = [33] then (P ts.tail).bind fun x r => .ok (opT (nx ts) [x]) r
  else if (nx ts).2.2 = [116, 114, 117, 101] then .ok (.mk 1 (nx ts).2.1 1 2 (ba []) [] []) ts.tail
  else if (nx ts).2.2 = [102, 97, 108, 115, 101] then .ok (.mk 1 (nx ts).2.1 0 2 (ba []) [] []) ts.tail
  else innR e E ts
/- With room for k more within. -/
def prim (e : Nat) : Nat → List Tok → Res Tr
  | 0, ts => .no 2 (atP e ts)
  | k + 1, ts => primF e (bd (prim e k) 5) (prim e k) ts
def exprR (e k : Nat) : List Tok → Res Tr := bd (prim e k) 5

/- What reading leaves is what stands behind. -/
def Sfx {α : Type} (P : List Tok → Res α) : Prop := ∀ ts a r, P ts = .ok a r → r <:+ ts
theorem tail_sfx (ts : List Tok) : ts.tail <:+ ts := List.tail_suffix ts
theorem must_sfx (e : Nat) (s : List UInt8) : Sfx (must e s) := by
  intro ts a r h
  unfold must at h
  split at h
  · cases h; exact tail_sfx ts
  · cases h
theorem name_sfx (e : Nat) : Sfx (nameR e) := by
  intro ts a r h
  unfold nameR at h
  split at h
  · cases h; exact tail_sfx ts
  · cases h
theorem listF_sfx {α : Type} {e : Nat} {s : List UInt8} {P : List Tok → Res α} (hP : Sfx P) : ∀ m acc, Sfx (listF e s P m acc) := by
  intro m
  induction m with
  | zero =>
    intro acc ts a r h
    unfold listF at h
    split at h
    · cases h
    · cases h; exact List.suffix_refl _
  | succ m ih =>
    intro acc ts a r h
    unfold listF at h
    split at h
    · obtain ⟨b, u, h1, h2⟩ := bind_ok h
      exact ((ih _ _ _ _ h2).trans (hP _ _ _ h1)).trans (tail_sfx ts)
    · cases h; exact List.suffix_refl _
theorem listR_sfx {α : Type} {e : Nat} {s : List UInt8} {m : Nat} {P : List Tok → Res α} (hP : Sfx P) : Sfx (listR e s m P) := by
  intro ts a r h
  obtain ⟨b, u, h1, h2⟩ := bind_ok h
  exact (listF_sfx hP _ _ _ _ _ h2).trans (hP _ _ _ h1)
theorem encl_sfx {α : Type} {e : Nat} {o s c : List UInt8} {m : Nat} {P : List Tok → Res α} (hP : Sfx P) : Sfx (encl e o s c m P) := by
  intro ts a r h
  obtain ⟨b, u, h1, h2⟩ := bind_ok h
  obtain ⟨l, v, h3, h4⟩ := bind_ok h2
  obtain ⟨l2, v2, h5, h6⟩ := bind_ok h4
  cases h6
  refine ((must_sfx _ _ _ _ _ h5).trans ?_).trans (must_sfx _ _ _ _ _ h1)
  split at h3
  · cases h3; exact List.suffix_refl _
  · exact listR_sfx hP _ _ _ h3
theorem policy_sfx (e : Nat) : Sfx (policyR e) := by
  intro ts a r h
  obtain ⟨b, u, h1, h2⟩ := bind_ok h
  obtain ⟨l, v, h3, h4⟩ := bind_ok h2
  refine List.IsSuffix.trans ?_ ((must_sfx _ _ _ _ _ h3).trans (name_sfx _ _ _ _ h1))
  split at h4
  · obtain ⟨l2, v2, h5, h6⟩ := bind_ok h4
    cases h6
    exact listR_sfx (name_sfx e) _ _ _ h5
  · cases h4; exact List.suffix_refl _
theorem label_sfx (e : Nat) : Sfx (labelR e) := fun ts a r h => encl_sfx (policy_sfx e) ts a r h
theorem loopF_sfx {Q : List Tok → Res Tr} {lv : Nat} (hQ : Sfx Q) : ∀ f x, Sfx (loopF Q lv f x) := by
  intro f
  induction f with
  | zero => intro x ts a r h; cases h; exact List.suffix_refl _
  | succ f ih =>
    intro x ts a r h
    unfold loopF at h
    split at h
    · obtain ⟨b, u, h1, h2⟩ := bind_ok h
      exact ((ih _ _ _ _ h2).trans (hQ _ _ _ h1)).trans (tail_sfx ts)
    · cases h; exact List.suffix_refl _
theorem bd_sfx {P : List Tok → Res Tr} (hP : Sfx P) : ∀ j, Sfx (bd P j) := by
  intro j
  induction j with
  | zero => exact hP
  | succ j ih =>
    intro ts a r h
    obtain ⟨b, u, h1, h2⟩ := bind_ok h
    exact (loopF_sfx ih _ _ _ _ _ h2).trans (ih _ _ _ h1)
theorem named_sfx {e : Nat} {E : List Tok → Res Tr} (hE : Sfx E) : Sfx (namedR e E) := by
  intro ts a r h
  unfold namedR at h
  split at h
  · obtain ⟨b, u, h1, h2⟩ := bind_ok h
    cases h2
    exact (encl_sfx hE _ _ _ h1).trans (tail_sfx ts)
  · cases h; exact tail_sfx ts
theorem inn_sfx {e : Nat} {E : List Tok → Res Tr} (hE : Sfx E) : Sfx (innR e E) := by
  intro ts a r h
  obtain ⟨b, u, h1, h2⟩ := bind_ok h
  obtain ⟨l, v, h3, h4⟩ := bind_ok h2
  obtain ⟨l2, v2, h5, h6⟩ := bind_ok h4
  cases h6
  exact ((must_sfx _ _ _ _ _ h5).trans (hE _ _ _ h3)).trans (must_sfx _ _ _ _ _ h1)
theorem rel_sfx {e : Nat} {E : List Tok → Res Tr} (hE : Sfx E) : Sfx (relR e E) := by
  intro ts a r h
  obtain ⟨_, r1, h1, h⟩ := bind_ok h
  obtain ⟨_, r2, h2, h⟩ := bind_ok h
  obtain ⟨_, r3, h3, h⟩ := bind_ok h
  obtain ⟨_, r4, h4, h⟩ := bind_ok h
  obtain ⟨_, r5, h5, h⟩ := bind_ok h
  cases h
  exact ((((must_sfx _ _ _ _ _ h5).trans (label_sfx _ _ _ _ h4)).trans (must_sfx _ _ _ _ _ h3)).trans (hE _ _ _ h2)).trans ((must_sfx _ _ _ _ _ h1).trans (tail_sfx ts))
theorem primF_sfx {e : Nat} {E P : List Tok → Res Tr} (hE : Sfx E) (hP : Sfx P) : Sfx (primF e E P) := by
  intro ts a r h
  unfold primF at h
  split at h
  · cases h; exact tail_sfx ts
  split at h
  · exact named_sfx hE _ _ _ h
  split at h
  · exact rel_sfx hE _ _ _ h
  split at h
  · obtain ⟨b, u, h1, h2⟩ := bind_ok h
    cases h2
    exact (hP _ _ _ h1).trans (tail_sfx ts)
  split at h
  · cases h; exact tail_sfx ts
  split at h
  · cases h; exact tail_sfx ts
  exact inn_sfx hE _ _ _ h
theorem prim_sfx (e : Nat) : ∀ k, Sfx (prim e k) := by
  intro k
  induction k with
  | zero => intro ts a r h; cases h
  | succ k ih => exact primF_sfx (bd_sfx ih 5) ih
theorem expr_sfx (e k : Nat) : Sfx (exprR e k) := bd_sfx (prim_sfx e k) 5
/- The loop goes on as long as there are tokens: more fuel is no more. -/
theorem loopF_fuel {Q : List Tok → Res Tr} {lv : Nat} (hQ : Sfx Q) (hl : 0 < lv) : ∀ f g x ts, ts.length ≤ f → ts.length ≤ g → loopF Q lv f x ts = loopF Q lv g x ts := by
  have none : ∀ g x, loopF Q lv g x [] = .ok x [] := by
    intro g x
    cases g with
    | zero => rfl
    | succ g => unfold loopF; rw [if_neg]; show ¬ levF [] = lv; rw [lev_none]; omega
  intro f
  induction f with
  | zero =>
    intro g x ts h1 h2
    have : ts = [] := List.length_eq_zero_iff.1 (by omega)
    subst this; rw [none, none]
  | succ f ih =>
    intro g x ts h1 h2
    cases g with
    | zero =>
      have : ts = [] := List.length_eq_zero_iff.1 (by omega)
      subst this; rw [none, none]
    | succ g =>
      unfold loopF
      split
      · cases hq : Q ts.tail with
        | no c q => rfl
        | ok y r =>
          have h3 := (hQ _ _ _ hq).length_le
          rw [List.length_tail] at h3
          show loopF Q lv f _ r = loopF Q lv g _ r
          exact ih g _ _ (by omega) (by omega)
      · rfl
end Par
end Go.Proofs.YtcdeicfegfedfaaGreatDoor

namespace Go.Proofs.YtcdeicfegfedfaaGreatDoor
namespace Par

theorem bind_no {α β : Type} {x : Res α} {f : α → List Tok → Res β} {c : Int} {q : Nat} (h : x.bind f = .no c q) : x = .no c q ∨ ∃ a s, x = .ok a s ∧ f a s = .no c q := by
  cases x with
  | ok a s => exact .inr ⟨a, s, rfl, h⟩
  | no c' q' => cases h; exact .inl rfl
def Bad {α : Type} (P : List Tok → Res α) : Prop := ∀ ts c q, P ts = .no c q → c = 1 ∨ c = 2
theorem must_bad (e : Nat) (s : List UInt8) : Bad (must e s) := by
  intro ts c q h
  unfold must at h
  split at h
  · cases h
  · cases h; exact .inl rfl
theorem name_bad (e : Nat) : Bad (nameR e) := by
  intro ts c q h
  unfold nameR at h
  split at h
  · cases h
  · cases h; exact .inl rfl
theorem listF_bad {α : Type} {e : Nat} {s : List UInt8} {P : List Tok → Res α} (hP : Bad P) : ∀ m acc, Bad (listF e s P m acc) := by
  intro m
  induction m with
  | zero =>
    intro acc ts c q h
    unfold listF at h
    split at h
    · cases h; exact .inr rfl
    · cases h
  | succ m ih =>
    intro acc ts c q h
    unfold listF at h
    split at h
    · rcases bind_no h with h | ⟨b, u, h1, h2⟩
      · exact hP _ _ _ h
      · exact ih _ _ _ _ h2
    · cases h
theorem listR_bad {α : Type} {e : Nat} {s : List UInt8} {m : Nat} {P : List Tok → Res α} (hP : Bad P) : Bad (listR e s m P) := by
  intro ts c q h
  rcases bind_no h with h | ⟨b, u, h1, h2⟩
  · exact hP _ _ _ h
  · exact listF_bad hP _ _ _ _ _ h2
theorem encl_bad {α : Type} {e : Nat} {o s c : List UInt8} {m : Nat} {P : List Tok → Res α} (hP : Bad P) : Bad (encl e o s c m P) := by
  intro ts cc q h
  rcases bind_no h with h | ⟨b, u, h1, h2⟩
  · exact must_bad _ _ _ _ _ h
  rcases bind_no h2 with h | ⟨l, v, h3, h4⟩
  · split at h
    · cases h
    · exact listR_bad hP _ _ _ h
  rcases bind_no h4 with h | ⟨l2, v2, h5, h6⟩
  · exact must_bad _ _ _ _ _ h
  · cases h6
theorem policy_bad (e : Nat) : Bad (policyR e) := by
  intro ts c q h
  rcases bind_no h with h | ⟨b, u, h1, h2⟩
  · exact name_bad _ _ _ _ h
  rcases bind_no h2 with h | ⟨l, v, h3, h4⟩
  · exact must_bad _ _ _ _ _ h
  split at h4
  · rcases bind_no h4 with h | ⟨l2, v2, h5, h6⟩
    · exact listR_bad (name_bad e) _ _ _ h
    · cases h6
  · cases h4
theorem label_bad (e : Nat) : Bad (labelR e) := fun ts c q h => encl_bad (policy_bad e) ts c q h
theorem loopF_bad {Q : List Tok → Res Tr} {lv : Nat} (hQ : Bad Q) : ∀ f x, Bad (loopF Q lv f x) := by
  intro f
  induction f with
  | zero => intro x ts c q h; cases h
  | succ f ih =>
    intro x ts c q h
    unfold loopF at h
    split at h
    · rcases bind_no h with h | ⟨b, u, h1, h2⟩
      · exact hQ _ _ _ h
      · exact ih _ _ _ _ h2
    · cases h
theorem bd_bad {P : List Tok → Res Tr} (hP : Bad P) : ∀ j, Bad (bd P j) := by
  intro j
  induction j with
  | zero => exact hP
  | succ j ih =>
    intro ts c q h
    rcases bind_no h with h | ⟨b, u, h1, h2⟩
    · exact ih _ _ _ h
    · exact loopF_bad ih _ _ _ _ _ h2
theorem named_bad {e : Nat} {E : List Tok → Res Tr} (hE : Bad E) : Bad (namedR e E) := by
  intro ts c q h
  unfold namedR at h
  split at h
  · rcases bind_no h with h | ⟨b, u, h1, h2⟩
    · exact encl_bad hE _ _ _ h
    · cases h2
  · cases h
theorem inn_bad {e : Nat} {E : List Tok → Res Tr} (hE : Bad E) : Bad (innR e E) := by
  intro ts c q h
  rcases bind_no h with h | ⟨b, u, h1, h2⟩
  · exact must_bad _ _ _ _ _ h
  rcases bind_no h2 with h | ⟨l, v, h3, h4⟩
  · exact hE _ _ _ h
  rcases bind_no h4 with h | ⟨l2, v2, h5, h6⟩
  · exact must_bad _ _ _ _ _ h
  · cases h6
theorem rel_bad {e : Nat} {E : List Tok → Res Tr} (hE : Bad E) : Bad (relR e E) := by
  intro ts c q h
  rcases bind_no h with h | ⟨_, r1, h1, h⟩
  · exact must_bad _ _ _ _ _ h
  rcases bind_no h with h | ⟨_, r2, h2, h⟩
  · exact hE _ _ _ h
  rcases bind_no h with h | ⟨_, r3, h3, h⟩
  · exact must_bad _ _ _ _ _ h
  rcases bind_no h with h | ⟨_, r4, h4, h⟩
  · exact label_bad _ _ _ _ h
  rcases bind_no h with h | ⟨_, r5, h5, h⟩
  · exact must_bad _ _ _ _ _ h
  cases h
theorem primF_bad {e : Nat} {E P : List Tok → Res Tr} (hE : Bad E) (hP : Bad P) : Bad (primF e E P) := by
  intro ts c q h
  unfold primF at h
  split at h
  · cases h
  split at h
  · exact named_bad hE _ _ _ h
  split at h
  · exact rel_bad hE _ _ _ h
  split at h
  · rcases bind_no h with h | ⟨b, u, h1, h2⟩
    · exact hP _ _ _ h
    · cases h2
  split at h
  · cases h
  split at h
  · cases h
  exact inn_bad hE _ _ _ h
theorem prim_bad (e : Nat) : ∀ k, Bad (prim e k) := by
  intro k
  induction k with
  | zero => intro ts c q h; cases h; exact .inr rfl
  | succ k ih => exact primF_bad (bd_bad ih 5) ih
theorem expr_bad (e k : Nat) : Bad (exprR e k) := bd_bad (prim_bad e k) 5
/- A whole text. -/
def restR {α : Type} (e : Nat) (a : α) (r : List Tok) : Res α := if r.isEmpty = true then .ok a [] else .no 1 (atP e r)
def wholeF {α : Type} (R : Nat → List Tok → Res α) (l : List UInt8) : Res α :=
  if (Lex.scanAll l).2.1 ≠ 0 then .no (Lex.scanAll l).2.1 (Lex.scanAll l).2.2 else (R l.length (Lex.scanAll l).1).bind fun a r => restR l.length a r
def readE (l : List UInt8) : Res Tr := wholeF (fun e => exprR e 12) l
theorem whole_bad {α : Type} {R : Nat → List Tok → Res α} (hR : ∀ e, Bad (R e)) (l : List UInt8) {c : Int} {q : Nat} (h : wholeF R l = .no c q) : c ≠ 0 := by
  unfold wholeF at h
  split at h
  · rename_i hc
    cases h; exact hc
  · rcases bind_no h with h | ⟨a, r, h1, h2⟩
    · rcases hR _ _ _ _ h with rfl | rfl <;> decide
    · unfold restR at h2
      split at h2
      · cases h2
      · cases h2; decide
theorem whole_scan {α : Type} {R : Nat → List Tok → Res α} {l : List UInt8} {ts : List Tok} {c : Int} {q : Nat} (h : Lex.scanAll l = (ts, c, q)) (hc : c ≠ 0) : wholeF R l = .no c q := by
  unfold wholeF; rw [h]; simp [hc]
theorem whole_read {α : Type} {R : Nat → List Tok → Res α} {l : List UInt8} {ts : List Tok} {q : Nat} (h : Lex.scanAll l = (ts, 0, q)) : wholeF R l = (R l.length ts).bind fun a r => restR l.length a r := by
  unfold wholeF; rw [h]; simp
end Par
end Go.Proofs.YtcdeicfegfedfaaGreatDoor

namespace Go.Proofs.YtcdeicfegfedfaaGreatDoor
namespace Par

/- What stands behind the first operand: a sign and an operand, each. -/
abbrev Rst := List (Tok × Tr)
def lvT (s : Tok) : Nat := levF s.2.2
theorem lv_five (s : Tok) : lvT s ≤ 5 := by
  unfold lvT levF
  split; · omega
  split; · omega
  split; · omega
  split; · omega
  split <;> omega
/- By levels. -/
def loopS (Q : Tr → Rst → Tr × Rst) (lv : Nat) : Nat → Tr → Rst → Tr × Rst
  | 0, x, l => (x, l)
  | _ + 1, x, [] => (x, [])
  | f + 1, x, (s, y) :: l => if lvT s = lv then loopS Q lv f (opT s [x, (Q y l).1]) (Q y l).2 else (x, (s, y) :: l)
def bdS : Nat → Tr → Rst → Tr × Rst
  | 0, x, l => (x, l)
  | j + 1, x, l => loopS (bdS j) (5 - j) (bdS j x l).2.length (bdS j x l).1 (bdS j x l).2
/- By a stack, its top first. -/
def popS : List (Tr × Tok) → Tr → Nat → List (Tr × Tok) × Tr
  | [], x, _ => ([], x)
  | (o, s) :: st, x, v => if v ≤ lvT s then popS st (opT s [o, x]) v else ((o, s) :: st, x)
def runS : List (Tr × Tok) → Tr → Rst → Tr
  | st, x, [] => (popS st x 0).2
  | st, x, (s, y) :: l => runS (((popS st x (lvT s)).2, s) :: (popS st x (lvT s)).1) y l

theorem loopS_len {Q : Tr → Rst → Tr × Rst} (hQ : ∀ y l, (Q y l).2.length ≤ l.length) (lv : Nat) : ∀ f x l, (loopS Q lv f x l).2.length ≤ l.length := by
  intro f
  induction f with
  | zero => intro x l; exact Nat.le_refl _
  | succ f ih =>
    intro x l
    match l with
    | [] => exact Nat.le_refl _
    | (s, y) :: l =>
      show (if lvT s = lv then loopS Q lv f (opT s [x, (Q y l).1]) (Q y l).2 else (x, (s, y) :: l)).2.length ≤ _
      split
      · have h1 := ih (opT s [x, (Q y l).1]) (Q y l).2
        have h2 := hQ y l
        simp only [List.length_cons]
        omega
      · exact Nat.le_refl _
theorem bdS_len : ∀ j x l, (bdS j x l).2.length ≤ l.length := by
  intro j
  induction j with
  | zero => intro x l; exact Nat.le_refl _
  | succ j ih =>
    intro x l
    exact Nat.le_trans (loopS_len ih _ _ _ _) (ih x l)
theorem loopS_fuel {Q : Tr → Rst → Tr × Rst} (hQ : ∀ y l, (Q y l).2.length ≤ l.length) (lv : Nat) : ∀ f g x l, l.length ≤ f → l.length ≤ g → loopS Q lv f x l = loopS Q lv g x l := by
  intro f
  induction f with
  | zero =>
    intro g x l hf _
    obtain rfl : l = [] := List.length_eq_zero_iff.1 (by omega)
    cases g <;> rfl
  | succ f ih =>
    intro g x l hf hg
    match l with
    | [] => cases g <;> rfl
    | (s, y) :: l =>
      cases g with
      | zero => simp at hg
      | succ g =>
        show (if lvT s = lv then loopS Q lv f _ _ else _) = (if lvT s = lv then loopS Q lv g _ _ else _)
        split
        · have h2 := hQ y l
          simp only [List.length_cons] at hf hg
          exact ih g _ _ (by omega) (by omega)
        · rfl
/- The next sign binds no closer than so. -/
def Hd (n : Nat) (l : Rst) : Prop := ∀ s y r, l = (s, y) :: r → lvT s ≤ n
theorem hd_five (l : Rst) : Hd 5 l := fun s _ _ _ => lv_five s
theorem hd_nil (n : Nat) : Hd n [] := fun _ _ _ h => by cases h
theorem hd_cons {n : Nat} {s : Tok} {y : Tr} {l : Rst} (h : lvT s ≤ n) : Hd n ((s, y) :: l) := fun s' y' r e => by
  simp only [List.cons.injEq, Prod.mk.injEq] at e
  rw [← e.1.1]; exact h
theorem Hd.mono {a b : Nat} {l : Rst} (h : Hd a l) (hab : a ≤ b) : Hd b l := fun s y r e => Nat.le_trans (h s y r e) hab
theorem loopS_skip {Q : Tr → Rst → Tr × Rst} {lv n : Nat} {l : Rst} (h : Hd n l) (hn : n < lv) (f : Nat) (x : Tr) : loopS Q lv f x l = (x, l) := by
  cases f with
  | zero => rfl
  | succ f =>
    match l with
    | [] => rfl
    | (s, y) :: l =>
      show (if lvT s = lv then _ else _) = _
      rw [if_neg (by have := h s y l rfl; omega)]
theorem bdS_skip : ∀ j, j ≤ 5 → ∀ x l, Hd (5 - j) l → bdS j x l = (x, l) := by
  intro j
  induction j with
  | zero => intro _ x l _; rfl
  | succ j ih =>
    intro hj x l h
    have e := ih (by omega) x l (h.mono (by omega))
    show loopS (bdS j) (5 - j) (bdS j x l).2.length (bdS j x l).1 (bdS j x l).2 = _
    rw [e]
    exact loopS_skip h (by omega) _ _
theorem loopS_stop {Q : Tr → Rst → Tr × Rst} {lv : Nat} (hlv : 0 < lv) (hQ : ∀ y l, (Q y l).2.length ≤ l.length) (hH : ∀ y l, Hd lv (Q y l).2) : ∀ f x l, l.length ≤ f → Hd lv l → Hd (lv - 1) (loopS Q lv f x l).2 := by
  intro f
  induction f with
  | zero =>
    intro x l hf _
    obtain rfl : l = [] := List.length_eq_zero_iff.1 (by omega)
    exact hd_nil _
  | succ f ih =>
    intro x l hf hl
    match l with
    | [] => exact hd_nil _
    | (s, y) :: l =>
      show Hd (lv - 1) (if lvT s = lv then loopS Q lv f (opT s [x, (Q y l).1]) (Q y l).2 else (x, (s, y) :: l)).2
      split
      · have h2 := hQ y l
        simp only [List.length_cons] at hf
        exact ih _ _ (by omega) (hH y l)
      · rename_i hne
        exact hd_cons (by have := hl s y l rfl; omega)
theorem bdS_stop : ∀ j, j ≤ 5 → ∀ x l, Hd (5 - j) (bdS j x l).2 := by
  intro j
  induction j with
  | zero => intro _ x l; exact hd_five l
  | succ j ih =>
    intro hj x l
    have h := loopS_stop (Q := bdS j) (lv := 5 - j) (by omega) (bdS_len j) (ih (by omega)) (bdS j x l).2.length (bdS j x l).1 (bdS j x l).2 (Nat.le_refl _) (ih (by omega) x l)
    have e : 5 - (j + 1) = 5 - j - 1 := by omega
    rw [e]; exact h
/- A sign of a level that is gone through binds its two first. -/
theorem bdS_push {s : Tok} {x y : Tr} {l : Rst} (hs : 0 < lvT s) : ∀ j, 6 - lvT s ≤ j → j ≤ 5 → bdS j x ((s, y) :: l) = bdS j (opT s [x, (bdS (5 - lvT s) y l).1]) (bdS (5 - lvT s) y l).2 := by
  have h5 := lv_five s
  intro j
  induction j with
  | zero => intro h; omega
  | succ j ih =>
    intro h hj
    show loopS (bdS j) (5 - j) (bdS j x ((s, y) :: l)).2.length (bdS j x ((s, y) :: l)).1 (bdS j x ((s, y) :: l)).2 = loopS (bdS j) (5 - j) (bdS j _ _).2.length (bdS j _ _).1 (bdS j _ _).2
    by_cases hb : 6 - lvT s ≤ j
    · rw [ih hb (by omega)]
    · have hj' : j = 5 - lvT s := by omega
      have e1 : bdS j x ((s, y) :: l) = (x, (s, y) :: l) := bdS_skip j (by omega) _ _ (hd_cons (by omega))
      have e2 : bdS j (opT s [x, (bdS j y l).1]) (bdS j y l).2 = (opT s [x, (bdS j y l).1], (bdS j y l).2) := bdS_skip j (by omega) _ _ (bdS_stop j (by omega) y l)
      rw [← hj', e1, e2]
      show (if lvT s = 5 - j then loopS (bdS j) (5 - j) l.length (opT s [x, (bdS j y l).1]) (bdS j y l).2 else _) = _
      rw [if_pos (by omega)]
      exact loopS_fuel (bdS_len j) _ _ _ _ _ (bdS_len j y l) (Nat.le_refl _)
/- What a stack, a top and what follows come to, by levels. -/
def fin : List (Tr × Tok) → Tr → Rst → Tr
  | [], x, l => (bdS 5 x l).1
  | (o, s) :: st, x, l => fin st (opT s [o, (bdS (5 - lvT s) x l).1]) (bdS (5 - lvT s) x l).2
/- Levels rise to the top. -/
inductive Ris : List (Tr × Tok) → Prop
  | nil : Ris []
  | one {o : Tr} {s : Tok} : 0 < lvT s → Ris [(o, s)]
  | cons {o o' : Tr} {s s' : Tok} {st : List (Tr × Tok)} : lvT s' < lvT s → Ris ((o', s') :: st) → Ris ((o, s) :: (o', s') :: st)
theorem Ris.tail {o : Tr} {s : Tok} {st : List (Tr × Tok)} (h : Ris ((o, s) :: st)) : Ris st := by
  cases h with
  | one _ => exact .nil
  | cons _ h => exact h
theorem Ris.pos {o : Tr} {s : Tok} {st : List (Tr × Tok)} (h : Ris ((o, s) :: st)) : 0 < lvT s := by
  cases h with
  | one h => exact h
  | cons h _ => omega
def TopBelow (n : Nat) (st : List (Tr × Tok)) : Prop := ∀ o s r, st = (o, s) :: r → lvT s < n
theorem fin_pop {v : Nat} : ∀ {st : List (Tr × Tok)} {x : Tr} {l : Rst}, Ris st → Hd v l → fin st x l = fin (popS st x v).1 (popS st x v).2 l ∧ Ris (popS st x v).1 ∧ (0 < v → TopBelow v (popS st x v).1) ∧ (v = 0 → (popS st x v).1 = [])
  | [], x, l, hr, _ => ⟨rfl, hr, (fun _ _ _ _ h => by cases h), (fun _ => rfl)⟩
  | (o, s) :: st, x, l, hr, hl => by
    have hp := hr.pos
    have h5 := lv_five s
    by_cases hv : v ≤ lvT s
    · have e : popS ((o, s) :: st) x v = popS st (opT s [o, x]) v := by
        show (if v ≤ lvT s then _ else _) = _
        rw [if_pos hv]
      have e2 : bdS (5 - lvT s) x l = (x, l) := bdS_skip _ (by omega) _ _ (hl.mono (by omega))
      obtain ⟨h1, h2⟩ := fin_pop (v := v) (x := opT s [o, x]) (l := l) hr.tail hl
      rw [e]
      refine ⟨?_, h2⟩
      show fin st (opT s [o, (bdS (5 - lvT s) x l).1]) (bdS (5 - lvT s) x l).2 = _
      rw [e2]
      exact h1
    · have e : popS ((o, s) :: st) x v = ((o, s) :: st, x) := by
        show (if v ≤ lvT s then _ else _) = _
        rw [if_neg hv]
      rw [e]
      refine ⟨rfl, hr, fun _ o' s' r h => ?_, fun h => by omega⟩
      simp only [List.cons.injEq, Prod.mk.injEq] at h
      rw [← h.1.2]; omega
theorem fin_push {st : List (Tr × Tok)} {x y : Tr} {s : Tok} {l : Rst} (hs : 0 < lvT s) (ht : TopBelow (lvT s) st) : fin st x ((s, y) :: l) = fin ((x, s) :: st) y l := by
  have h5 := lv_five s
  match st with
  | [] =>
    show (bdS 5 x ((s, y) :: l)).1 = (bdS 5 (opT s [x, (bdS (5 - lvT s) y l).1]) (bdS (5 - lvT s) y l).2).1
    rw [bdS_push hs 5 (by omega) (Nat.le_refl _)]
  | (o, t) :: st =>
    have hlt := ht o t st rfl
    have e := bdS_push (x := x) (y := y) (l := l) hs (5 - lvT t) (by omega) (by omega)
    show fin st (opT t [o, (bdS (5 - lvT t) x ((s, y) :: l)).1]) (bdS (5 - lvT t) x ((s, y) :: l)).2 = fin ((o, t) :: st) (opT s [x, (bdS (5 - lvT s) y l).1]) (bdS (5 - lvT s) y l).2
    rw [e]; rfl
theorem bdS_nil : ∀ j x, bdS j x [] = (x, []) := by
  intro j
  induction j with
  | zero => intro x; rfl
  | succ j ih =>
    intro x
    show loopS (bdS j) (5 - j) (bdS j x []).2.length (bdS j x []).1 (bdS j x []).2 = _
    rw [ih]; rfl
/- The stack comes to what the levels come to. -/
theorem run_fin : ∀ (l : Rst) (st : List (Tr × Tok)) (x : Tr), Ris st → (∀ p ∈ l, 0 < lvT p.1) → runS st x l = fin st x l := by
  intro l
  induction l with
  | nil =>
    intro st x hr _
    obtain ⟨h1, _, _, h4⟩ := fin_pop (v := 0) (x := x) (l := []) hr (hd_nil 0)
    show (popS st x 0).2 = _
    rw [h1, h4 rfl]
    show _ = (bdS 5 _ []).1
    rw [bdS_nil]
  | cons p l ih =>
    intro st x hr hp
    obtain ⟨s, y⟩ := p
    have hs := hp (s, y) (by simp)
    obtain ⟨h1, h2, h3, _⟩ := fin_pop (v := lvT s) (x := x) (l := (s, y) :: l) hr (hd_cons (Nat.le_refl _))
    have ht := h3 hs
    show runS (((popS st x (lvT s)).2, s) :: (popS st x (lvT s)).1) y l = _
    rw [ih _ _ ?_ fun q hq => hp q (by simp [hq]), h1, fin_push hs ht]
    match hst : (popS st x (lvT s)).1 with
    | [] => exact .one hs
    | (o, t) :: r =>
      rw [hst] at h2 ht
      exact .cons (ht o t r rfl) h2
theorem run_levels (x : Tr) (l : Rst) (h : ∀ p ∈ l, 0 < lvT p.1) : runS [] x l = (bdS 5 x l).1 := run_fin l [] x .nil h

/- Tokens as operands and signs: all that can be read; or the first thing that can't. -/
inductive Seq (P : List Tok → Res Tr) : List Tok → Tr → Rst → List Tok → Prop
  | last {ts r : List Tok} {x : Tr} : P ts = .ok x r → levF (nx r).2.2 = 0 → Seq P ts x [] r
  | more {ts q r : List Tok} {x y : Tr} {s : Tok} {l : Rst} : P ts = .ok x (s :: q) → 0 < lvT s → Seq P q y l r → Seq P ts x ((s, y) :: l) r
inductive SeqNo (P : List Tok → Res Tr) : List Tok → Int → Nat → Prop
  | here {ts : List Tok} {c : Int} {q : Nat} : P ts = .no c q → SeqNo P ts c q
  | more {ts q : List Tok} {x : Tr} {s : Tok} {c : Int} {p : Nat} : P ts = .ok x (s :: q) → 0 < lvT s → SeqNo P q c p → SeqNo P ts c p
theorem Seq.signs {P : List Tok → Res Tr} {ts r : List Tok} {x : Tr} {l : Rst} (h : Seq P ts x l r) : ∀ p ∈ l, 0 < lvT p.1 := by
  induction h with
  | last _ _ => intro p hp; cases hp
  | more _ hs _ ih =>
    intro p hp
    rcases List.mem_cons.1 hp with rfl | hp
    · exact hs
    · exact ih p hp
/- What is left of tokens where so much is left of operands and signs. -/
inductive Left (P : List Tok → Res Tr) (r : List Tok) : List Tok → Rst → Prop
  | none : levF (nx r).2.2 = 0 → Left P r r []
  | some {s : Tok} {q : List Tok} {y : Tr} {l : Rst} : 0 < lvT s → Seq P q y l r → Left P r (s :: q) ((s, y) :: l)
theorem Seq.first {P : List Tok → Res Tr} {ts r : List Tok} {x : Tr} {l : Rst} (h : Seq P ts x l r) : ∃ q, P ts = .ok x q ∧ Left P r q l := by
  cases h with
  | last h1 h2 => exact ⟨_, h1, .none h2⟩
  | more h1 h2 h3 => exact ⟨_, h1, .some h2 h3⟩
theorem loop_seq {P : List Tok → Res Tr} {Q : List Tok → Res Tr} {S : Tr → Rst → Tr × Rst} {r : List Tok} {lv : Nat} (hlv : 0 < lv) (hQ : ∀ ts x l, Seq P ts x l r → ∃ q, Q ts = .ok (S x l).1 q ∧ Left P r q (S x l).2) (hS : ∀ y l, (S y l).2.length ≤ l.length) :
    ∀ (f : Nat) (x : Tr) (q : List Tok) (l : Rst), l.length ≤ f → Left P r q l → ∀ g, q.length ≤ g → (∀ ts a u, Q ts = .ok a u → u.length ≤ ts.length) → ∃ q', loopF Q lv g x q = .ok (loopS S lv f x l).1 q' ∧ Left P r q' (loopS S lv f x l).2 := by
  intro f
  induction f with
  | zero =>
    intro x q l hf hl g _ _
    obtain rfl : l = [] := List.length_eq_zero_iff.1 (by omega)
    cases hl with
    | none h =>
      refine ⟨r, ?_, .none h⟩
      cases g with
      | zero => rfl
      | succ g => unfold loopF; rw [if_neg (by omega)]; rfl
  | succ f ih =>
    intro x q l hf hl g hg hT
    cases hl with
    | none h =>
      refine ⟨r, ?_, .none h⟩
      cases g with
      | zero => rfl
      | succ g => unfold loopF; rw [if_neg (by omega)]; rfl
    | @some s q y l hs hq =>
      cases g with
      | zero => simp at hg
      | succ g =>
        by_cases he : lvT s = lv
        · obtain ⟨q1, h1, h2⟩ := hQ q y l hq
          have hl1 := hS y l
          have hl2 := hT q _ q1 h1
          simp only [List.length_cons] at hf hg
          obtain ⟨q2, h3, h4⟩ := ih (opT s [x, (S y l).1]) q1 (S y l).2 (by omega) h2 g (by omega) hT
          have e : loopS S lv (f + 1) x ((s, y) :: l) = loopS S lv f (opT s [x, (S y l).1]) (S y l).2 := by
            show (if lvT s = lv then _ else _) = _
            rw [if_pos he]
          rw [e]
          refine ⟨q2, ?_, h4⟩
          show (if levF (nx (s :: q)).2.2 = lv then (Q q).bind _ else _) = _
          rw [if_pos (by exact he), h1]
          exact h3
        · have e : loopS S lv (f + 1) x ((s, y) :: l) = (x, (s, y) :: l) := by
            show (if lvT s = lv then _ else _) = _
            rw [if_neg he]
          rw [e]
          refine ⟨s :: q, ?_, .some hs hq⟩
          show (if levF (nx (s :: q)).2.2 = lv then _ else _) = _
          rw [if_neg (by exact he)]
theorem bd_seq {P : List Tok → Res Tr} (hP : Sfx P) {r : List Tok} : ∀ j, j ≤ 5 → ∀ ts x l, Seq P ts x l r → ∃ q, bd P j ts = .ok (bdS j x l).1 q ∧ Left P r q (bdS j x l).2 := by
  intro j
  induction j with
  | zero => intro _ ts x l h; exact h.first
  | succ j ih =>
    intro hj ts x l h
    obtain ⟨q, h1, h2⟩ := ih (by omega) ts x l h
    obtain ⟨q', h3, h4⟩ := loop_seq (Q := bd P j) (S := bdS j) (lv := 5 - j) (by omega) (ih (by omega)) (bdS_len j) (bdS j x l).2.length (bdS j x l).1 q (bdS j x l).2 (Nat.le_refl _) h2 q.length (Nat.le_refl _) (fun ts a u h => (bd_sfx hP j ts a u h).length_le)
    refine ⟨q', ?_, h4⟩
    show (bd P j ts).bind _ = _
    rw [h1]
    exact h3
/- So an expression is what the stack makes of its operands and signs. -/
theorem expr_seq {P : List Tok → Res Tr} (hP : Sfx P) {ts r : List Tok} {x : Tr} {l : Rst} (h : Seq P ts x l r) : bd P 5 ts = .ok (runS [] x l) r := by
  obtain ⟨q, h1, h2⟩ := bd_seq hP 5 (Nat.le_refl _) ts x l h
  have h3 := bdS_stop 5 (Nat.le_refl _) x l
  rw [run_levels x l h.signs, h1]
  generalize (bdS 5 x l).2 = m at h2 h3
  cases h2 with
  | none _ => rfl
  | some hs _ => have := h3 _ _ _ rfl; omega
/- And what can't be read is told first. -/
theorem loop_no {P : List Tok → Res Tr} {Q : List Tok → Res Tr} {lv p : Nat} {cc : Int} (hQ : ∀ ts, SeqNo P ts cc p → Q ts = .no cc p ∨ ∃ x s q, Q ts = .ok x (s :: q) ∧ lvT s ≤ lv ∧ 0 < lvT s ∧ SeqNo P q cc p) (hT : ∀ ts a u, Q ts = .ok a u → u.length ≤ ts.length) :
    ∀ (g : Nat) (x : Tr) (s : Tok) (q : List Tok), (s :: q).length ≤ g → lvT s ≤ lv → 0 < lvT s → SeqNo P q cc p → loopF Q lv g x (s :: q) = .no cc p ∨ ∃ x' s' q', loopF Q lv g x (s :: q) = .ok x' (s' :: q') ∧ lvT s' < lv ∧ 0 < lvT s' ∧ SeqNo P q' cc p := by
  intro g
  induction g with
  | zero => intro x s q h; simp at h
  | succ g ih =>
    intro x s q hg hs h0 hn
    by_cases he : lvT s = lv
    · have e : loopF Q lv (g + 1) x (s :: q) = (Q q).bind fun y r => loopF Q lv g (opT s [x, y]) r := by
        show (if levF (nx (s :: q)).2.2 = lv then _ else _) = _
        rw [if_pos (by exact he)]; rfl
      rw [e]
      rcases hQ q hn with h1 | ⟨y, s', q', h1, h2, h3, h4⟩
      · rw [h1]; exact .inl rfl
      · rw [h1]
        have := hT q _ _ h1
        simp only [List.length_cons] at hg this
        exact ih (opT s [x, y]) s' q' (by simp only [List.length_cons]; omega) h2 h3 h4
    · refine .inr ⟨x, s, q, ?_, by omega, h0, hn⟩
      show (if levF (nx (s :: q)).2.2 = lv then _ else _) = _
      rw [if_neg (by exact he)]
theorem bd_no {P : List Tok → Res Tr} (hP : Sfx P) {c : Int} {p : Nat} : ∀ j, j ≤ 5 → ∀ ts, SeqNo P ts c p → bd P j ts = .no c p ∨ ∃ x s q, bd P j ts = .ok x (s :: q) ∧ lvT s ≤ 5 - j ∧ 0 < lvT s ∧ SeqNo P q c p := by
  intro j
  induction j with
  | zero =>
    intro _ ts h
    cases h with
    | here h => exact .inl h
    | more h1 h2 h3 => exact .inr ⟨_, _, _, h1, lv_five _, h2, h3⟩
  | succ j ih =>
    intro hj ts h
    have hT : ∀ ts a u, bd P j ts = .ok a u → u.length ≤ ts.length := fun ts a u h => (bd_sfx hP j ts a u h).length_le
    rcases ih (by omega) ts h with h1 | ⟨x, s, q, h1, h2, h3, h4⟩
    · left
      show (bd P j ts).bind _ = _
      rw [h1]; rfl
    · have e : bd P (j + 1) ts = loopF (bd P j) (5 - j) (s :: q).length x (s :: q) := by
        show (bd P j ts).bind _ = _
        rw [h1]; rfl
      rw [e]
      rcases loop_no (lv := 5 - j) (ih (by omega)) hT (s :: q).length x s q (Nat.le_refl _) h2 h3 h4 with g1 | ⟨x', s', q', g1, g2, g3, g4⟩
      · exact .inl g1
      · exact .inr ⟨x', s', q', g1, by omega, g3, g4⟩
theorem expr_no {P : List Tok → Res Tr} (hP : Sfx P) {ts : List Tok} {c : Int} {p : Nat} (h : SeqNo P ts c p) : bd P 5 ts = .no c p := by
  rcases bd_no hP 5 (Nat.le_refl _) ts h with h | ⟨x, s, q, _, h2, h3, _⟩
  · exact h
  · omega
end Par
end Go.Proofs.YtcdeicfegfedfaaGreatDoor

namespace Go.Proofs.YtcdeicfegfedfaaGreatDoor
namespace Par
open Lex (digitB firstF c0 runLen nameB alphaB)

theorem digits_dec {l : List UInt8} (h : ∀ c ∈ l, digitB (c.toNat : Int) = true) : ∀ acc, ∃ m, Lib.decFrom acc l = some m := by
  induction l with
  | nil => intro acc; exact ⟨acc, rfl⟩
  | cons a r ih =>
    intro acc
    have ha := h a (by simp)
    simp only [digitB, decide_eq_true_eq] at ha
    have hd : Lib.digitVal a = some (a.toNat - 48) := by
      unfold Lib.digitVal
      rw [if_pos (by omega)]
    obtain ⟨m, hm⟩ := ih (fun c hc => h c (by simp [hc])) (acc * 10 + (a.toNat - 48))
    exact ⟨m, by simp only [Lib.decFrom, hd]; exact hm⟩
theorem digits_atoi {l : List UInt8} (h0 : l ≠ []) (h : ∀ c ∈ l, digitB (c.toNat : Int) = true) (hl : l.length ≤ 9) : ∃ m : Nat, Lib.atoi l = some (m : Int) ∧ m ≤ 999999999 := by
  obtain ⟨m, hm⟩ := digits_dec h 0
  have hlt := Lib.decFrom_lt l 0 m hm
  have hp : (10 : Nat) ^ l.length ≤ 10 ^ 9 := Nat.pow_le_pow_right (by omega) hl
  refine ⟨m, ?_, by omega⟩
  cases l with
  | nil => exact absurd rfl h0
  | cons a r =>
    have ha := h a (by simp)
    simp only [digitB, decide_eq_true_eq] at ha
    have e1 : (a == 45) = false := by
      rw [beq_eq_false_iff_ne]
      intro e; subst e
      exact absurd ha (by decide)
    have e2 : (a == 43) = false := by
      rw [beq_eq_false_iff_ne]
      intro e; subst e
      exact absurd ha (by decide)
    simp only [Lib.atoi, e1, e2, Bool.false_eq_true, if_false, Lib.decNat, List.isEmpty_cons, hm, Option.map_some]
theorem num_tok {t : List UInt8} (h : Lex.Good 2 t) : t.length ≤ 9 ∧ ∃ m : Nat, Lib.atoi t = some (m : Int) ∧ m ≤ 999999999 := by
  obtain ⟨h0, _, _, h3⟩ := h
  have h4 := h3 [] (.inl rfl)
  rw [List.append_nil] at h4
  unfold firstF at h4
  split at h4
  · rename_i ha
    unfold Lex.lettersF at h4
    split at h4
    · simp at h4
    · split at h4 <;> simp at h4
  · split at h4
    · rename_i _ hd
      obtain ⟨g1, g2⟩ := Lex.run_take digitB t
      have hlt := Lex.digits_ok h4
      have e : t.take (runLen digitB t) = t := hlt.2.symm
      rw [e] at g2 h4
      unfold Lex.digitsF at h4
      split at h4
      · simp at h4
      · rename_i hh
        exact ⟨by omega, digits_atoi h0 g2 (by omega)⟩
    · split at h4 <;> simp at h4
end Par
end Go.Proofs.YtcdeicfegfedfaaGreatDoor
