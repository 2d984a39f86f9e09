/- Bounds and the least labels that hold them, in plain words: a label is what policies it has. Chiefs and policies as bits, in plain words: a group of chiefs is a number, a set of policies a number for each owner. How far labels can still grow, in plain words: bits that are set, policies that are covered. The rounds by which least labels are found, in plain words: the document's, and those by bits. -/
import Derived.Test.YtpbknhhjfhpkmaaGreatDoorGaLab
namespace Go.Proofs.YtpbknhhjfhpkmaaGreatDoor
namespace Sol
open Act (Way)
open Lab (covers covers_refl covers_trans mayGo Left)
variable {α : Type}
/- What policies there are. -/
abbrev Has (α : Type) := α × List α → Prop
/- May what has A go to where B is? -/
def go (ps : List (α × α)) (A B : Has α) : Prop := ∀ q, A q → ∃ p, B p ∧ covers ps p q
theorem go_refl (ps : List (α × α)) (A : Has α) : go ps A A := fun q hq => ⟨q, hq, covers_refl ps q⟩
theorem go_trans {ps : List (α × α)} {A B C : Has α} (h : go ps A B) (g : go ps B C) : go ps A C := by
  intro q hq
  obtain ⟨p, hp, c1⟩ := h q hq
  obtain ⟨r, hr, c2⟩ := g p hp
  exact ⟨r, hr, covers_trans c2 c1⟩
theorem go_sub {ps : List (α × α)} {A B : Has α} (h : ∀ q, A q → B q) : go ps A B := fun q hq => ⟨q, h q hq, covers_refl ps q⟩
theorem go_mayGo {ps : List (α × α)} {a b : List (α × List α)} : go ps (fun p => p ∈ a) (fun p => p ∈ b) ↔ mayGo ps a b := Iff.rfl
theorem go_or {ps : List (α × α)} {A B C : Has α} (h : go ps A C) (g : go ps B C) : go ps (fun p => A p ∨ B p) C := by
  rintro q (hq | hq)
  · exact h q hq
  · exact g q hq
/- What is left out of a label is left out of what may go there. -/
theorem left_of {ps : List (α × α)} {bs : List α} {p q : α × List α} (h : covers ps p q) (hl : Left ps bs p) : Left ps bs q := by
  obtain ⟨s, hs, w⟩ := hl
  exact ⟨s, hs, w.trans h.1⟩
def less (ps : List (α × α)) (bs : List α) (A : Has α) : Has α := fun p => A p ∧ ¬ Left ps bs p
theorem less_mono {ps : List (α × α)} {bs : List α} {A B : Has α} (h : go ps A B) : go ps (less ps bs A) (less ps bs B) := by
  rintro q ⟨hq, hl⟩
  obtain ⟨p, hp, c⟩ := h q hq
  exact ⟨p, ⟨hp, fun g => hl (left_of c g)⟩, c⟩

/- A bound: what goes, to where (-1: to a label that is told), with whose authority. -/
structure Bnd (α : Type) where
  src : List Nat
  lab : List (α × List α)
  dst : Int
  into : List (α × List α)
  by_ : List α
/- What it brings, where labels are as have says. -/
def all (b : Bnd α) (have_ : Nat → Has α) : Has α := fun p => p ∈ b.lab ∨ ∃ i ∈ b.src, have_ i p
def brings (ps : List (α × α)) (b : Bnd α) (have_ : Nat → Has α) : Has α := less ps b.by_ (all b have_)
def goal (b : Bnd α) (have_ : Nat → Has α) : Has α := if b.dst = -1 then (fun p => p ∈ b.into) else have_ b.dst.toNat
def holds (ps : List (α × α)) (b : Bnd α) (have_ : Nat → Has α) : Prop := go ps (brings ps b have_) (goal b have_)
theorem all_mono {ps : List (α × α)} {b : Bnd α} {h h' : Nat → Has α} (hh : ∀ i ∈ b.src, go ps (h i) (h' i)) : go ps (all b h) (all b h') := by
  rintro q (hq | ⟨i, hi, hq⟩)
  · exact ⟨q, .inl hq, covers_refl ps q⟩
  · obtain ⟨p, hp, c⟩ := hh i hi q hq
    exact ⟨p, .inr ⟨i, hi, hp⟩, c⟩
theorem brings_mono {ps : List (α × α)} {b : Bnd α} {h h' : Nat → Has α} (hh : ∀ i ∈ b.src, go ps (h i) (h' i)) : go ps (brings ps b h) (brings ps b h') := less_mono (all_mono hh)
theorem goal_mono {ps : List (α × α)} {b : Bnd α} {h h' : Nat → Has α} (hh : b.dst ≠ -1 → go ps (h b.dst.toNat) (h' b.dst.toNat)) : go ps (goal b h) (goal b h') := by
  unfold goal
  split
  · exact go_refl ps _
  · exact hh ‹_›
/- Whether a bound is held hangs on what may go where alone. -/
theorem holds_same {ps : List (α × α)} {b : Bnd α} {h h' : Nat → Has α} (h1 : ∀ i, go ps (h i) (h' i)) (h2 : ∀ i, go ps (h' i) (h i)) : holds ps b h ↔ holds ps b h' :=
  ⟨fun g => go_trans (brings_mono fun i _ => h2 i) (go_trans g (goal_mono fun _ => h1 _)), fun g => go_trans (brings_mono fun i _ => h1 i) (go_trans g (goal_mono fun _ => h2 _))⟩

/- They hold all bounds into one of them. -/
def Holds (ps : List (α × α)) (l : List (Bnd α)) (h : Nat → Has α) : Prop := ∀ b ∈ l, b.dst ≠ -1 → go ps (brings ps b h) (h b.dst.toNat)
/- The least ones that do. -/
structure Least (ps : List (α × α)) (l : List (Bnd α)) (h : Nat → Has α) : Prop where
  holds : Holds ps l h
  least : ∀ h', Holds ps l h' → ∀ k, go ps (h k) (h' k)
theorem Least.same {ps : List (α × α)} {l : List (Bnd α)} {h h' : Nat → Has α} (a : Least ps l h) (b : Least ps l h') (k : Nat) : go ps (h k) (h' k) := a.least h' b.holds k
theorem Holds.sub {ps : List (α × α)} {l m : List (Bnd α)} {h : Nat → Has α} (hs : ∀ b ∈ m, b ∈ l) (g : Holds ps l h) : Holds ps m h := fun b hb => g b (hs b hb)
/- With more bounds they are no less; in whatever order bounds stand they are the same. -/
theorem Least.more {ps : List (α × α)} {l m : List (Bnd α)} {h h' : Nat → Has α} (hs : ∀ b ∈ m, b ∈ l) (a : Least ps m h) (b : Least ps l h') (k : Nat) : go ps (h k) (h' k) := a.least h' (b.holds.sub hs) k

/- No more than any that hold the bounds: what iteration keeps. -/
def Below (ps : List (α × α)) (l : List (Bnd α)) (h : Nat → Has α) : Prop := ∀ h', Holds ps l h' → ∀ k, go ps (h k) (h' k)
theorem below_none (ps : List (α × α)) (l : List (Bnd α)) : Below ps l (fun _ _ => False) := fun _ _ _ _ hq => absurd hq id
def put (h : Nat → Has α) (k : Nat) (A : Has α) : Nat → Has α := fun i => if i = k then A else h i
/- One bound's bringing, of labels have that may be elder, joined into next. -/
theorem below_put {ps : List (α × α)} {l : List (Bnd α)} {have_ next : Nat → Has α} {b : Bnd α} {A : Has α} (hb : b ∈ l) (hd : b.dst ≠ -1) (h1 : Below ps l have_) (h2 : Below ps l next) (hA : go ps A (fun p => next b.dst.toNat p ∨ brings ps b have_ p)) : Below ps l (put next b.dst.toNat A) := by
  intro h' hh k
  unfold put
  split
  · rename_i e
    subst e
    exact go_trans hA (go_or (h2 h' hh _) (go_trans (brings_mono fun i _ => h1 h' hh i) (hh b hb hd)))
  · exact h2 h' hh k
/- Of those that are kept below, and hold, the least ones. -/
theorem least_of {ps : List (α × α)} {l : List (Bnd α)} {h : Nat → Has α} (h1 : Below ps l h) (h2 : Holds ps l h) : Least ps l h := ⟨h2, h1⟩
/- The document's round: next has what each bound brings of have; where nothing of next is new, have holds. -/
theorem holds_round {ps : List (α × α)} {l : List (Bnd α)} {have_ next : Nat → Has α} (hn : ∀ b ∈ l, b.dst ≠ -1 → go ps (brings ps b have_) (next b.dst.toNat)) (hs : ∀ b ∈ l, b.dst ≠ -1 → go ps (next b.dst.toNat) (have_ b.dst.toNat)) : Holds ps l have_ := fun b hb hd => go_trans (hn b hb hd) (hs b hb hd)

/- What is covered by a label, of some policies: so many. -/
open Classical in
noncomputable def size (ps : List (α × α)) (U : List (α × List α)) (A : Has α) : Nat := (U.filter fun q => decide (∃ p, A p ∧ covers ps p q)).length
theorem size_le (ps : List (α × α)) (U : List (α × List α)) (A : Has α) : size ps U A ≤ U.length := List.length_filter_le _ _
theorem filter_len_mono {β : Type} {P Q : β → Bool} : ∀ {l : List β}, (∀ x ∈ l, P x = true → Q x = true) → (l.filter P).length ≤ (l.filter Q).length
  | [], _ => Nat.le_refl _
  | a :: r, h => by
    have ih := filter_len_mono (l := r) fun x hx => h x (by simp [hx])
    have ha := h a (by simp)
    by_cases hp : P a = true
    · rw [List.filter_cons_of_pos hp, List.filter_cons_of_pos (ha hp)]
      simp only [List.length_cons]
      omega
    · rw [List.filter_cons_of_neg hp]
      by_cases hq : Q a = true
      · rw [List.filter_cons_of_pos hq]
        simp only [List.length_cons]
        omega
      · rw [List.filter_cons_of_neg hq]
        exact ih
theorem filter_len_lt {β : Type} {P Q : β → Bool} : ∀ {l : List β}, (∀ x ∈ l, P x = true → Q x = true) → (∃ x ∈ l, P x ≠ true ∧ Q x = true) → (l.filter P).length < (l.filter Q).length
  | [], _, h => by obtain ⟨x, hx, _⟩ := h; cases hx
  | a :: r, h, g => by
    have hm := filter_len_mono (l := r) fun x hx => h x (by simp [hx])
    have ha := h a (by simp)
    by_cases hp : P a = true
    · rw [List.filter_cons_of_pos hp, List.filter_cons_of_pos (ha hp)]
      simp only [List.length_cons]
      have ih := filter_len_lt (l := r) (fun x hx => h x (by simp [hx])) (by
        obtain ⟨x, hx, h1, h2⟩ := g
        rcases List.mem_cons.1 hx with e | e
        · subst e; exact absurd hp h1
        · exact ⟨x, e, h1, h2⟩)
      omega
    · rw [List.filter_cons_of_neg hp]
      by_cases hq : Q a = true
      · rw [List.filter_cons_of_pos hq]
        simp only [List.length_cons]
        omega
      · rw [List.filter_cons_of_neg hq]
        refine filter_len_lt (fun x hx => h x (by simp [hx])) ?_
        obtain ⟨x, hx, h1, h2⟩ := g
        rcases List.mem_cons.1 hx with e | e
        · subst e; exact absurd h2 hq
        · exact ⟨x, e, h1, h2⟩
theorem size_mono {ps : List (α × α)} {U : List (α × List α)} {A B : Has α} (h : go ps A B) : size ps U A ≤ size ps U B := by
  unfold size
  refine filter_len_mono fun q _ hq => ?_
  simp only [decide_eq_true_eq] at hq ⊢
  obtain ⟨p, hp, c⟩ := hq
  obtain ⟨r, hr, d⟩ := h p hp
  exact ⟨r, hr, covers_trans d c⟩
/- What may not go back has grown. -/
theorem size_lt {ps : List (α × α)} {U : List (α × List α)} {A B : Has α} (h : go ps A B) (hB : ∀ p, B p → p ∈ U) (hn : ¬ go ps B A) : size ps U A < size ps U B := by
  unfold size
  refine filter_len_lt (fun q _ hq => ?_) ?_
  · simp only [decide_eq_true_eq] at hq ⊢
    obtain ⟨p, hp, c⟩ := hq
    obtain ⟨r, hr, d⟩ := h p hp
    exact ⟨r, hr, covers_trans d c⟩
  · apply Classical.byContradiction
    intro hc
    apply hn
    intro q hq
    apply Classical.byContradiction
    intro hx
    refine hc ⟨q, hB q hq, ?_, ?_⟩
    · simpa using hx
    · simpa using ⟨q.1, q.2, hq, covers_refl ps q⟩
end Sol
end Go.Proofs.YtpbknhhjfhpkmaaGreatDoor

namespace Go.Proofs.YtpbknhhjfhpkmaaGreatDoor
namespace Sol
open Act (Way pos pos_lt at_pos pos_at Right)
open Lab (covers covers_refl covers_trans mayGo Left lets Of OfL)
variable {α : Type} [DecidableEq α]
theorem bit_or (a b i : Nat) : (a ||| b).testBit i = (a.testBit i || b.testBit i) := Nat.testBit_or a b i
theorem bit_one (k i : Nat) : (2 ^ k).testBit i = decide (k = i) := by
  rw [Nat.testBit_two_pow]
theorem bit_zero (i : Nat) : (0 : Nat).testBit i = false := Nat.zero_testBit i

/- The group of some names. -/
def grp (ls : List α) : List α → Nat
  | [] => 0
  | s :: r => 2 ^ pos ls s ||| grp ls r
theorem grp_bit (ls : List α) (i : Nat) : ∀ ns : List α, (grp ls ns).testBit i = true ↔ ∃ s ∈ ns, pos ls s = i
  | [] => by simp [grp]
  | s :: r => by
    have ih := grp_bit ls i r
    simp only [grp, bit_or, bit_one, Bool.or_eq_true, decide_eq_true_eq, ih, List.mem_cons]
    constructor
    · rintro (h | ⟨t, ht, h⟩)
      · exact ⟨s, .inl rfl, h⟩
      · exact ⟨t, .inr ht, h⟩
    · rintro ⟨t, rfl | ht, h⟩
      · exact .inl h
      · exact .inr ⟨t, ht, h⟩
theorem grp_app (ls : List α) : ∀ ns ms : List α, grp ls (ns ++ ms) = grp ls ns ||| grp ls ms
  | [], ms => by simp [grp]
  | s :: r, ms => by
    show 2 ^ pos ls s ||| grp ls (r ++ ms) = (2 ^ pos ls s ||| grp ls r) ||| grp ls ms
    rw [grp_app ls r ms, Nat.or_assoc]
theorem or_lt {a b n : Nat} (ha : a < 2 ^ n) (hb : b < 2 ^ n) : a ||| b < 2 ^ n := Nat.or_lt_two_pow ha hb
theorem grp_lt {ls : List α} : ∀ {ns : List α}, (∀ s ∈ ns, s ∈ ls) → grp ls ns < 2 ^ ls.length
  | [], _ => Nat.two_pow_pos _
  | s :: r, h => or_lt (Nat.pow_lt_pow_right (by omega) (pos_lt (h s (by simp)))) (grp_lt fun t ht => h t (by simp [ht]))
/- The names of a group, in the chiefs' order. -/
def names (ls : List α) (g : Nat) : List α := ls.filter fun s => g.testBit (pos ls s)
theorem names_mem {ls : List α} {g : Nat} {s : α} : s ∈ names ls g ↔ s ∈ ls ∧ g.testBit (pos ls s) = true := by simp [names]
/- Some policies, of each owner by its place those of the groups of readers that are bits. -/
def labS (ls : List α) (s : Nat → Nat) : Has α := fun p => ∃ (o : Nat) (h : o < ls.length) (g : Nat), (s o).testBit g = true ∧ p = (ls[o], names ls g)
def plus (s t : Nat → Nat) : Nat → Nat := fun i => s i ||| t i
def lessS (s : Nat → Nat) (owners : Nat) : Nat → Nat := fun i => if owners.testBit i = true then 0 else s i
theorem labS_plus {ls : List α} {s t : Nat → Nat} {p : α × List α} : labS ls (plus s t) p ↔ labS ls s p ∨ labS ls t p := by
  constructor
  · rintro ⟨o, h, g, hb, e⟩
    rw [plus, bit_or, Bool.or_eq_true] at hb
    rcases hb with hb | hb
    · exact .inl ⟨o, h, g, hb, e⟩
    · exact .inr ⟨o, h, g, hb, e⟩
  · rintro (⟨o, h, g, hb, e⟩ | ⟨o, h, g, hb, e⟩)
    · exact ⟨o, h, g, by rw [plus, bit_or, hb, Bool.true_or], e⟩
    · exact ⟨o, h, g, by rw [plus, bit_or, hb, Bool.or_true], e⟩
theorem labS_none (ls : List α) (p : α × List α) : ¬ labS ls (fun _ => 0) p := by
  rintro ⟨o, h, g, hb, _⟩
  simp at hb
/- Whose policies are left out: all for whom one of some acts. -/
theorem labS_less {ls : List α} {ps : List (α × α)} {bs : List α} {s : Nat → Nat} {owners : Nat} (ho : ∀ o (h : o < ls.length), owners.testBit o = true ↔ ∃ b ∈ bs, Way ps b ls[o]) {p : α × List α} : labS ls (lessS s owners) p ↔ less ps bs (labS ls s) p := by
  constructor
  · rintro ⟨o, h, g, hb, rfl⟩
    unfold lessS at hb
    split at hb
    · simp at hb
    · rename_i hn
      exact ⟨⟨o, h, g, hb, rfl⟩, fun hl => hn ((ho o h).2 hl)⟩
  · rintro ⟨⟨o, h, g, hb, rfl⟩, hn⟩
    refine ⟨o, h, g, ?_, rfl⟩
    unfold lessS
    rw [if_neg fun hl => hn ((ho o h).1 hl)]
    exact hb

/- A policy's readers as bits, without its owner. -/
def IsStrike (g k r : Nat) : Prop := ∀ i, r.testBit i = true ↔ g.testBit i = true ∧ i ≠ k
theorem pol_covers {ls : List α} (ps : List (α × α)) {p : α × List α} (hp : Of ls p) {r : Nat} (hr : IsStrike (grp ls p.2) (pos ls p.1) r) : covers ps (p.1, names ls r) p ∧ covers ps p (p.1, names ls r) := by
  have back : ∀ {s t : α}, s ∈ ls → t ∈ ls → pos ls s = pos ls t → s = t := by
    intro s t hs ht e
    have h1 := at_pos hs
    have h2 := at_pos ht
    simp only [e] at h1
    exact h1.symm.trans h2
  refine ⟨⟨.refl _, fun s hs => ?_⟩, ⟨.refl _, fun s hs => ?_⟩⟩
  · obtain ⟨h1, h2⟩ := names_mem.1 hs
    obtain ⟨t, ht, e⟩ := (grp_bit ls _ _).1 ((hr _).1 h2).1
    have := back (hp.2 t ht) h1 e
    subst this
    exact .inr ⟨t, ht, .refl _⟩
  · by_cases e : s = p.1
    · exact .inl (by rw [e]; exact .refl _)
    · refine .inr ⟨s, names_mem.2 ⟨hp.2 s hs, ?_⟩, .refl _⟩
      exact (hr _).2 ⟨(grp_bit ls _ _).2 ⟨s, hs, rfl⟩, fun g => e (back (hp.2 s hs) hp.1 g)⟩
/- A set that has just a label's policies. -/
def IsSet (ls : List α) (x : List (α × List α)) (s : Nat → Nat) : Prop := ∀ o g, (s o).testBit g = true ↔ ∃ p ∈ x, pos ls p.1 = o ∧ IsStrike (grp ls p.2) o g
theorem strike_exists (g k : Nat) : ∃ r, IsStrike g k r := by
  refine ⟨g ^^^ (g &&& 2 ^ k), fun i => ?_⟩
  simp only [Nat.testBit_xor, Nat.testBit_and, bit_one]
  by_cases h : k = i
  · simp [h]
  · have h' : i ≠ k := fun e => h e.symm
    simp [h, h']
theorem set_same {ls : List α} {x : List (α × List α)} {s : Nat → Nat} (ps : List (α × α)) (hx : OfL ls x) (hs : IsSet ls x s) : go ps (fun p => p ∈ x) (labS ls s) ∧ go ps (labS ls s) (fun p => p ∈ x) := by
  constructor
  · intro p hp
    obtain ⟨r, hr⟩ := strike_exists (grp ls p.2) (pos ls p.1)
    refine ⟨(p.1, names ls r), ⟨pos ls p.1, pos_lt (hx p hp).1, r, (hs _ _).2 ⟨p, hp, rfl, hr⟩, ?_⟩, (pol_covers ps (hx p hp) hr).1⟩
    rw [at_pos (hx p hp).1]
  · rintro q ⟨o, h, g, hb, rfl⟩
    obtain ⟨p, hp, rfl, hr⟩ := (hs _ _).1 hb
    refine ⟨p, hp, ?_⟩
    rw [at_pos (hx p hp).1]
    exact (pol_covers ps (hx p hp) hr).2

/- Who acts for each: a group for each place. -/
def Acting (ls : List α) (ps : List (α × α)) (A : Nat → Nat) : Prop := ∀ i j (hi : i < ls.length) (hj : j < ls.length), (A i).testBit j = true ↔ Way ps ls[j] ls[i]
/- Whom a policy lets read. -/
def IsLets (ls : List α) (A : Nat → Nat) (o g m : Nat) : Prop := ∀ j, m.testBit j = true ↔ (A o).testBit j = true ∨ ∃ i, i < ls.length ∧ g.testBit i = true ∧ (A i).testBit j = true
theorem lets_bit {ls : List α} {ps : List (α × α)} {A : Nat → Nat} (hn : ls.Nodup) (hA : Acting ls ps A) {o g m : Nat} (ho : o < ls.length) (hm : IsLets ls A o g m) {j : Nat} (hj : j < ls.length) : m.testBit j = true ↔ lets ps (ls[o], names ls g) ls[j] := by
  rw [hm j, hA o j ho hj]
  constructor
  · rintro (h | ⟨i, hi, h1, h2⟩)
    · exact .inl h
    · refine .inr ⟨ls[i], names_mem.2 ⟨List.getElem_mem hi, by rw [pos_at hn hi]; exact h1⟩, (hA i j hi hj).1 h2⟩
  · rintro (h | ⟨r, hr, w⟩)
    · exact .inl h
    · obtain ⟨h1, h2⟩ := names_mem.1 hr
      refine .inr ⟨pos ls r, pos_lt h1, h2, (hA _ j (pos_lt h1) hj).2 ?_⟩
      rw [at_pos h1]
      exact w
/- Does the one cover the other? -/
theorem covers_bit {ls : List α} {ps : List (α × α)} {A : Nat → Nat} (hn : ls.Nodup) (hA : Acting ls ps A) {o g m : Nat} (ho : o < ls.length) (hm : IsLets ls A o g m) {o' g' : Nat} (ho' : o' < ls.length) (hg' : g' < 2 ^ ls.length) : ((A o).testBit o' = true ∧ ∀ j, g'.testBit j = true → m.testBit j = true) ↔ covers ps (ls[o'], names ls g') (ls[o], names ls g) := by
  constructor
  · rintro ⟨h1, h2⟩
    refine ⟨(hA o o' ho ho').1 h1, fun r hr => ?_⟩
    obtain ⟨h3, h4⟩ := names_mem.1 hr
    have h5 := (lets_bit hn hA ho hm (pos_lt h3)).1 (h2 _ h4)
    rw [at_pos h3] at h5
    exact h5
  · rintro ⟨h1, h2⟩
    refine ⟨(hA o o' ho ho').2 h1, fun j hj => ?_⟩
    have hl : j < ls.length := by
      apply Classical.byContradiction
      intro hc
      have := Nat.testBit_lt_two_pow (Nat.lt_of_lt_of_le hg' (Nat.pow_le_pow_right (by omega) (Nat.le_of_not_lt hc)))
      rw [this] at hj
      cases hj
    refine (lets_bit hn hA ho hm hl).2 (h2 _ (names_mem.2 ⟨List.getElem_mem hl, ?_⟩))
    rw [pos_at hn hl]
    exact hj
end Sol
end Go.Proofs.YtpbknhhjfhpkmaaGreatDoor

namespace Go.Proofs.YtpbknhhjfhpkmaaGreatDoor
namespace Sol
open Act (Way)
open Lab (covers covers_refl covers_trans CleanOf cleaned Norm Order clean_clean clean_unique)
variable {α : Type}
/- Sums. -/
def sum (f : Nat → Nat) : Nat → Nat
  | 0 => 0
  | n + 1 => sum f n + f n
theorem sum_mono {f g : Nat → Nat} : ∀ {n : Nat}, (∀ i, i < n → f i ≤ g i) → sum f n ≤ sum g n
  | 0, _ => Nat.le_refl _
  | n + 1, h => Nat.add_le_add (sum_mono fun i hi => h i (by omega)) (h n (by omega))
theorem sum_lt {f g : Nat → Nat} : ∀ {n : Nat}, (∀ i, i < n → f i ≤ g i) → (∃ i, i < n ∧ f i < g i) → sum f n < sum g n
  | 0, _, h => by obtain ⟨i, hi, _⟩ := h; omega
  | n + 1, h, g' => by
    have hm := sum_mono (n := n) fun i hi => h i (by omega)
    have hn := h n (by omega)
    obtain ⟨i, hi, hl⟩ := g'
    show sum f n + f n < sum g n + g n
    by_cases e : i = n
    · subst e; omega
    · have := sum_lt (n := n) (fun j hj => h j (by omega)) ⟨i, by omega, hl⟩
      omega
theorem sum_le {f : Nat → Nat} {m : Nat} : ∀ {n : Nat}, (∀ i, i < n → f i ≤ m) → sum f n ≤ n * m
  | 0, _ => by simp [sum]
  | n + 1, h => by
    have ih := sum_le (n := n) fun i hi => h i (by omega)
    have hn := h n (by omega)
    show sum f n + f n ≤ _
    rw [Nat.succ_mul]
    omega
theorem sum_same {f g : Nat → Nat} {n : Nat} (h : ∀ i, i < n → f i = g i) : sum f n = sum g n :=
  Nat.le_antisymm (sum_mono fun i hi => Nat.le_of_eq (h i hi)) (sum_mono fun i hi => Nat.le_of_eq (h i hi).symm)

/- How many bits are set. -/
def pop (m : Nat) : Nat := ((List.range 64).filter fun i => m.testBit i).length
theorem pop_le (m : Nat) : pop m ≤ 64 := by
  have h := List.length_filter_le (fun i => m.testBit i) (List.range 64)
  rw [List.length_range] at h
  exact h
def In (a b : Nat) : Prop := ∀ i, a.testBit i = true → b.testBit i = true
theorem in_or_left (a b : Nat) : In a (a ||| b) := fun i h => by rw [bit_or, h, Bool.true_or]
theorem in_or_right (a b : Nat) : In b (a ||| b) := fun i h => by rw [bit_or, h, Bool.or_true]
theorem pop_mono {a b : Nat} (h : In a b) : pop a ≤ pop b := filter_len_mono fun i _ => h i
theorem pop_lt {a b : Nat} (h : In a b) (hb : b < 2 ^ 64) (hne : a ≠ b) : pop a < pop b := by
  refine filter_len_lt (fun i _ => h i) ?_
  apply Classical.byContradiction
  intro hc
  apply hne
  apply Nat.eq_of_testBit_eq
  intro i
  cases hbi : b.testBit i with
  | false =>
    cases hai : a.testBit i with
    | false => rfl
    | true => rw [h i hai] at hbi; cases hbi
  | true =>
    have hi : i < 64 := by
      apply Classical.byContradiction
      intro hx
      have := Nat.testBit_lt_two_pow (Nat.lt_of_lt_of_le hb (Nat.pow_le_pow_right (n := 2) (by omega) (Nat.le_of_not_lt hx)))
      rw [this] at hbi
      cases hbi
    cases hai : a.testBit i with
    | true => rfl
    | false => exact absurd ⟨i, List.mem_range.2 hi, by rw [hai]; exact Bool.false_ne_true, hbi⟩ hc
/- Of a set; of so many sets. -/
def card (s : Nat → Nat) : Nat := sum (fun o => pop (s o)) 6
theorem card_le (s : Nat → Nat) : card s ≤ 384 := sum_le (m := 64) fun o _ => pop_le (s o)
theorem card_mono {s t : Nat → Nat} (h : ∀ o, o < 6 → In (s o) (t o)) : card s ≤ card t := sum_mono fun o ho => pop_mono (h o ho)
theorem card_lt {s t : Nat → Nat} (h : ∀ o, o < 6 → In (s o) (t o)) (hb : ∀ o, o < 6 → t o < 2 ^ 64) (hne : ∃ o, o < 6 ∧ s o ≠ t o) : card s < card t := by
  obtain ⟨o, ho, e⟩ := hne
  exact sum_lt (fun o ho => pop_mono (h o ho)) ⟨o, ho, pop_lt (h o ho) (hb o ho) e⟩
def total (n : Nat) (f : Nat → Nat → Nat) : Nat := sum (fun k => card (f k)) n
theorem total_le (n : Nat) (f : Nat → Nat → Nat) : total n f ≤ n * 384 := sum_le fun k _ => card_le (f k)
theorem total_mono {n : Nat} {f g : Nat → Nat → Nat} (h : ∀ k, k < n → ∀ o, o < 6 → In (f k o) (g k o)) : total n f ≤ total n g := sum_mono fun k hk => card_mono (h k hk)
theorem total_lt {n : Nat} {f g : Nat → Nat → Nat} (h : ∀ k, k < n → ∀ o, o < 6 → In (f k o) (g k o)) (hb : ∀ k, k < n → ∀ o, o < 6 → g k o < 2 ^ 64) (hne : ∃ k, k < n ∧ ∃ o, o < 6 ∧ f k o ≠ g k o) : total n f < total n g := by
  obtain ⟨k, hk, e⟩ := hne
  exact sum_lt (fun k hk => card_mono (h k hk)) ⟨k, hk, card_lt (h k hk) (hb k hk) e⟩

/- The document's labels are of few policies: cleaned ones of what the bounds have. -/
def Closed (lt : α → α → Prop) (U : List (α × List α)) : Prop := ∀ p ∈ U, ∀ c, CleanOf lt p c → c ∈ U
theorem closed_exists {lt : α → α → Prop} (ho : Order lt) : ∀ x : List (α × List α), ∃ U, Closed lt U ∧ ∀ p ∈ x, p ∈ U
  | [] => ⟨[], (fun p hp => by cases hp), (fun p hp => by cases hp)⟩
  | a :: r => by
    obtain ⟨U, h1, h2⟩ := closed_exists ho r
    obtain ⟨c, hc⟩ := Lab.clean_exists ho a
    refine ⟨a :: c :: U, ?_, ?_⟩
    · intro p hp d hd
      rcases List.mem_cons.1 hp with rfl | hp
      · rw [clean_unique ho hd hc]; simp
      · rcases List.mem_cons.1 hp with rfl | hp
        · rw [clean_unique ho hd (clean_clean hc)]; simp
        · simp [h1 p hp d hd]
    · intro p hp
      rcases List.mem_cons.1 hp with rfl | hp
      · simp
      · simp [h2 p hp]
theorem norm_in {lt : α → α → Prop} {plt : α × List α → α × List α → Prop} {ps : List (α × α)} {x n U : List (α × List α)} (hU : Closed lt U) (hx : ∀ p ∈ x, p ∈ U) (h : Norm lt plt ps x n) : ∀ c ∈ n, c ∈ U := by
  intro c hc
  obtain ⟨⟨p, hp, hpc⟩, _⟩ := (h.mem c).1 hc
  exact hU p (hx p hp) c hpc
noncomputable def sizes (ps : List (α × α)) (U : List (α × List α)) (n : Nat) (h : Nat → Has α) : Nat := sum (fun k => size ps U (h k)) n
theorem sizes_le (ps : List (α × α)) (U : List (α × List α)) (n : Nat) (h : Nat → Has α) : sizes ps U n h ≤ n * U.length := sum_le fun k _ => size_le ps U (h k)
theorem sizes_lt {ps : List (α × α)} {U : List (α × List α)} {n : Nat} {h h' : Nat → Has α} (hh : ∀ k, k < n → go ps (h k) (h' k)) (hU : ∀ k, k < n → ∀ p, h' k p → p ∈ U) (hn : ∃ k, k < n ∧ ¬ go ps (h' k) (h k)) : sizes ps U n h < sizes ps U n h' := by
  obtain ⟨k, hk, e⟩ := hn
  exact sum_lt (fun k hk => size_mono (hh k hk)) ⟨k, hk, size_lt (hh k hk) (hU k hk) e⟩
end Sol
end Go.Proofs.YtpbknhhjfhpkmaaGreatDoor

namespace Go.Proofs.YtpbknhhjfhpkmaaGreatDoor
namespace Sol
open Act (Way)
open Lab (covers covers_refl covers_trans mayGo Norm Order norm_to norm_from)
variable {α : Type}
/- Labels in a list. -/
abbrev Lb (α : Type) := List (α × List α)
def hs (h : List (Lb α)) (k : Nat) : Has α := fun p => p ∈ h.getD k []
theorem hs_set {h : List (Lb α)} {k : Nat} (hk : k < h.length) (x : Lb α) (i : Nat) : hs (h.set k x) i = if i = k then (fun p => p ∈ x) else hs h i := by
  unfold hs
  by_cases e : i = k
  · subst e
    rw [if_pos rfl]
    simp [hk]
  · rw [if_neg e]
    simp [List.getD_eq_getElem?_getD, List.getElem?_set_ne (Ne.symm e)]
theorem hs_none (n k : Nat) (p : α × List α) : ¬ hs (List.replicate n ([] : Lb α)) k p := by
  unfold hs
  rw [List.getD_eq_getElem?_getD, List.getElem?_replicate]
  split <;> simp
/- What a round of the document's holds behind its first j bounds. -/
structure Rnd (ps : List (α × α)) (l : List (Bnd α)) (U : Lb α) (n : Nat) (have_ next : List (Lb α)) (j : Nat) : Prop where
  len : next.length = n
  low : Below ps l (hs next)
  up : ∀ k, go ps (hs have_ k) (hs next k)
  done : ∀ b ∈ l.take j, b.dst ≠ -1 → go ps (brings ps b (hs have_)) (hs next b.dst.toNat)
  inU : ∀ k p, hs next k p → p ∈ U
theorem Rnd.start {ps : List (α × α)} {l : List (Bnd α)} {U : Lb α} {n : Nat} {have_ : List (Lb α)} (h1 : have_.length = n) (h2 : Below ps l (hs have_)) (h3 : ∀ k p, hs have_ k p → p ∈ U) : Rnd ps l U n have_ have_ 0 :=
  ⟨h1, h2, fun _ => go_refl ps _, fun b hb => by simp at hb, h3⟩
theorem take_snoc' {β : Type} {l : List β} {j : Nat} (hj : j < l.length) {b : β} (hb : b ∈ l.take (j + 1)) : b ∈ l.take j ∨ b = l[j] := by
  rw [List.take_succ_eq_append_getElem hj, List.mem_append, List.mem_singleton] at hb
  exact hb
theorem Rnd.skip {ps : List (α × α)} {l : List (Bnd α)} {U : Lb α} {n : Nat} {have_ next : List (Lb α)} {j : Nat} (h : Rnd ps l U n have_ next j) (hj : j < l.length) (hd : l[j].dst = -1) : Rnd ps l U n have_ next (j + 1) :=
  ⟨h.len, h.low, h.up, fun b hb hne => by
    rcases take_snoc' hj hb with hb | rfl
    · exact h.done b hb hne
    · exact absurd hd hne, h.inU⟩
theorem Rnd.step {lt : α → α → Prop} {plt : α × List α → α × List α → Prop} {ps : List (α × α)} {l : List (Bnd α)} {U : Lb α} {n : Nat} {have_ next : List (Lb α)} {j : Nat} {br nn : Lb α} (hl : Order lt) (ho : Order plt) (hU : Closed lt U) (h : Rnd ps l U n have_ next j) (h0 : Below ps l (hs have_)) (hj : j < l.length) (hd : l[j].dst ≠ -1) (hk : l[j].dst.toNat < n)
    (hb1 : go ps (fun p => p ∈ br) (brings ps l[j] (hs have_))) (hb2 : go ps (brings ps l[j] (hs have_)) (fun p => p ∈ br)) (hbU : ∀ p ∈ br, p ∈ U) (hn : Norm lt plt ps (next.getD l[j].dst.toNat [] ++ br) nn) : Rnd ps l U n have_ (next.set l[j].dst.toNat nn) (j + 1) := by
  have hk' : l[j].dst.toNat < next.length := by rw [h.len]; exact hk
  have hs_eq : ∀ i, hs (next.set l[j].dst.toNat nn) i = put (hs next) l[j].dst.toNat (fun p => p ∈ nn) i := fun i => hs_set hk' nn i
  have hto := norm_to hl ho hn
  have hfr := norm_from hn
  have up1 : ∀ i, go ps (hs next i) (hs (next.set l[j].dst.toNat nn) i) := by
    intro i
    rw [hs_set hk']
    split
    · rename_i e
      subst e
      exact go_trans (go_sub fun q (hq : q ∈ next.getD l[j].dst.toNat []) => List.mem_append_left br hq) (go_mayGo.2 hto)
    · exact go_refl ps _
  refine ⟨by rw [List.length_set]; exact h.len, ?_, fun k => go_trans (h.up k) (up1 k), ?_, ?_⟩
  · have := below_put (A := fun p => p ∈ nn) (List.getElem_mem hj) hd h0 h.low (go_trans (go_mayGo.2 hfr) (by
      intro q hq
      rcases List.mem_append.1 hq with hq | hq
      · exact ⟨q, .inl hq, covers_refl ps q⟩
      · obtain ⟨p, hp, c⟩ := hb1 q hq
        exact ⟨p, .inr hp, c⟩))
    intro h' hh k
    rw [hs_eq k]
    exact this h' hh k
  · intro b hb hne
    rcases take_snoc' hj hb with hb | rfl
    · exact go_trans (h.done b hb hne) (up1 _)
    · rw [hs_set hk', if_pos rfl]
      exact go_trans hb2 (go_trans (go_sub fun q hq => List.mem_append_right _ hq) (go_mayGo.2 hto))
  · intro k p hp
    rw [hs_set hk'] at hp
    split at hp
    · refine norm_in hU (fun q hq => ?_) hn p hp
      rcases List.mem_append.1 hq with hq | hq
      · exact h.inU _ q hq
      · exact hbU q hq
    · exact h.inU k p hp
/- A round that brings nothing new: the labels are the least ones. -/
theorem Rnd.least {ps : List (α × α)} {l : List (Bnd α)} {U : Lb α} {n : Nat} {have_ next : List (Lb α)} (h : Rnd ps l U n have_ next l.length) (h0 : Below ps l (hs have_)) (hn : ∀ b ∈ l, b.dst ≠ -1 → b.dst.toNat < n) (hs' : ∀ k, k < n → go ps (hs next k) (hs have_ k)) : Least ps l (hs have_) :=
  least_of h0 (holds_round (next := hs next) (fun b hb hd => h.done b (by rw [List.take_length]; exact hb) hd) (fun b hb hd => hs' _ (hn b hb hd)))
/- Else there is more than before. -/
theorem Rnd.more {ps : List (α × α)} {l : List (Bnd α)} {U : Lb α} {n : Nat} {have_ next : List (Lb α)} {j : Nat} (h : Rnd ps l U n have_ next j) (hn : ∃ k, k < n ∧ ¬ go ps (hs next k) (hs have_ k)) : sizes ps U n (hs have_) < sizes ps U n (hs next) :=
  sizes_lt (fun k _ => h.up k) (fun k _ => h.inU k) hn

/- By bits: found, so many sets; what goes along a bound is joined in at once. -/
variable [DecidableEq α]
def fs (ls : List α) (f : Nat → Nat → Nat) (k : Nat) : Has α := labS ls (f k)
def putF (f : Nat → Nat → Nat) (k : Nat) (s : Nat → Nat) : Nat → Nat → Nat := fun i => if i = k then s else f i
theorem fs_put (ls : List α) (f : Nat → Nat → Nat) (k : Nat) (s : Nat → Nat) (i : Nat) : fs ls (putF f k s) i = put (fs ls f) k (labS ls s) i := by
  unfold fs putF put
  split <;> rfl
theorem bits_put {ls : List α} {ps : List (α × α)} {l : List (Bnd α)} {f : Nat → Nat → Nat} {b : Bnd α} {s : Nat → Nat} (hb : b ∈ l) (hd : b.dst ≠ -1) (h : Below ps l (fs ls f)) (hs1 : go ps (labS ls s) (brings ps b (fs ls f))) : Below ps l (fs ls (putF f b.dst.toNat (plus s (f b.dst.toNat)))) := by
  have := below_put (A := labS ls (plus s (f b.dst.toNat))) hb hd h h (by
    intro q hq
    rcases labS_plus.1 hq with hq | hq
    · obtain ⟨p, hp, c⟩ := hs1 q hq
      exact ⟨p, .inr hp, c⟩
    · exact ⟨q, .inl hq, covers_refl ps q⟩)
  intro h' hh k
  rw [fs_put]
  exact this h' hh k
/- Where nothing is joined in the sets hold. -/
theorem bits_holds {ls : List α} {ps : List (α × α)} {f : Nat → Nat → Nat} {b : Bnd α} {s : Nat → Nat} (hs2 : go ps (brings ps b (fs ls f)) (labS ls s)) (he : ∀ o, o < ls.length → plus s (f b.dst.toNat) o = f b.dst.toNat o) : go ps (brings ps b (fs ls f)) (fs ls f b.dst.toNat) := by
  refine go_trans hs2 (go_sub fun q hq => ?_)
  obtain ⟨o, h, g, hb, e⟩ := labS_plus.2 (.inl hq : labS ls s q ∨ labS ls (f b.dst.toNat) q)
  rw [he o h] at hb
  exact ⟨o, h, g, hb, e⟩
/- What goes along, by bits, is what the bound brings. -/
theorem bits_brings {ls : List α} {ps : List (α × α)} {f : Nat → Nat → Nat} {b : Bnd α} {told all_ : Nat → Nat} {free : Nat} (h1 : go ps (fun p => p ∈ b.lab) (labS ls told)) (h2 : go ps (labS ls told) (fun p => p ∈ b.lab)) (ha : ∀ p, labS ls all_ p ↔ labS ls told p ∨ ∃ i ∈ b.src, fs ls f i p) (hf : ∀ o (h : o < ls.length), free.testBit o = true ↔ ∃ s ∈ b.by_, Way ps s ls[o]) :
    go ps (labS ls (lessS all_ free)) (brings ps b (fs ls f)) ∧ go ps (brings ps b (fs ls f)) (labS ls (lessS all_ free)) := by
  have g1 : go ps (labS ls all_) (all b (fs ls f)) := by
    intro q hq
    rcases (ha q).1 hq with hq | hq
    · obtain ⟨p, hp, c⟩ := h2 q hq
      exact ⟨p, .inl hp, c⟩
    · exact ⟨q, .inr hq, covers_refl ps q⟩
  have g2 : go ps (all b (fs ls f)) (labS ls all_) := by
    rintro q (hq | hq)
    · obtain ⟨p, hp, c⟩ := h1 q hq
      exact ⟨p, (ha p).2 (.inl hp), c⟩
    · exact ⟨q, (ha q).2 (.inr hq), covers_refl ps q⟩
  exact ⟨go_trans (go_sub fun q hq => (labS_less hf).1 hq) (less_mono g1), go_trans (less_mono g2) (go_sub fun q hq => (labS_less hf).2 hq)⟩
end Sol
end Go.Proofs.YtpbknhhjfhpkmaaGreatDoor
