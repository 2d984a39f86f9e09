/- Policies and labels, in plain words on lists: whom they let, what covers what, what may go where, the normal form. Labels as the program reckons them: whom a policy lets, what it covers, what may go where, as Bools; and what these say in plain words. The normal form by one pass over what is sorted; how many policies it can have. Of six names there are at most 192 policies that are clean, in whatever order. -/
import Derived.Test.YtpbknhhjfhpkmaaGreatDoorAct
namespace Go.Proofs.YtpbknhhjfhpkmaaGreatDoor
namespace Lab
open Act (Way)
variable {α : Type}

/- A policy: its owner and its readers. -/
def lets (ps : List (α × α)) (p : α × List α) (s : α) : Prop := Way ps s p.1 ∨ ∃ r ∈ p.2, Way ps s r
def covers (ps : List (α × α)) (p q : α × List α) : Prop := Way ps p.1 q.1 ∧ ∀ r ∈ p.2, lets ps q r
def mayGo (ps : List (α × α)) (a b : List (α × List α)) : Prop := ∀ q ∈ a, ∃ p ∈ b, covers ps p q
def reads (ps : List (α × α)) (x : List (α × List α)) (s : α) : Prop := ∀ p ∈ x, lets ps p s

theorem lets_way {ps : List (α × α)} {p : α × List α} {s t : α} (h : lets ps p s) (w : Way ps t s) : lets ps p t := by
  rcases h with h | ⟨r, hr, h⟩
  · exact .inl (w.trans h)
  · exact .inr ⟨r, hr, w.trans h⟩
theorem covers_refl (ps : List (α × α)) (p : α × List α) : covers ps p p := ⟨.refl _, fun r hr => .inr ⟨r, hr, .refl _⟩⟩
theorem covers_lets {ps : List (α × α)} {p q : α × List α} (h : covers ps p q) {s : α} (hs : lets ps p s) : lets ps q s := by
  rcases hs with hs | ⟨r, hr, hs⟩
  · exact .inl (hs.trans h.1)
  · exact lets_way (h.2 r hr) hs
theorem covers_trans {ps : List (α × α)} {p q r : α × List α} (h : covers ps p q) (g : covers ps q r) : covers ps p r :=
  ⟨h.1.trans g.1, fun s hs => covers_lets g (h.2 s hs)⟩
theorem mayGo_refl (ps : List (α × α)) (a : List (α × List α)) : mayGo ps a a := fun q hq => ⟨q, hq, covers_refl ps q⟩
theorem mayGo_trans {ps : List (α × α)} {a b c : List (α × List α)} (h : mayGo ps a b) (g : mayGo ps b c) : mayGo ps a c := by
  intro q hq
  obtain ⟨p, hp, h1⟩ := h q hq
  obtain ⟨r, hr, h2⟩ := g p hp
  exact ⟨r, hr, covers_trans h2 h1⟩
theorem mayGo_sub {ps : List (α × α)} {a b : List (α × List α)} (h : ∀ p ∈ a, p ∈ b) : mayGo ps a b := fun q hq => ⟨q, h q hq, covers_refl ps q⟩
/- Where something may go fewer read. -/
theorem fewer {ps : List (α × α)} {a b : List (α × List α)} (h : mayGo ps a b) {s : α} (hs : reads ps b s) : reads ps a s := by
  intro q hq
  obtain ⟨p, hp, h1⟩ := h q hq
  exact covers_lets h1 (hs p hp)
/- Whoever else acts for whom. -/
theorem lets_more {ps qs : List (α × α)} (hs : ∀ p ∈ ps, p ∈ qs) {p : α × List α} {s : α} (h : lets ps p s) : lets qs p s := by
  rcases h with h | ⟨r, hr, h⟩
  · exact .inl (h.mono hs)
  · exact .inr ⟨r, hr, h.mono hs⟩
theorem covers_more {ps qs : List (α × α)} (hs : ∀ p ∈ ps, p ∈ qs) {p q : α × List α} (h : covers ps p q) : covers qs p q := ⟨h.1.mono hs, fun r hr => lets_more hs (h.2 r hr)⟩
theorem mayGo_more {ps qs : List (α × α)} (hs : ∀ p ∈ ps, p ∈ qs) {a b : List (α × List α)} (h : mayGo ps a b) : mayGo qs a b := by
  intro q hq
  obtain ⟨p, hp, h1⟩ := h q hq
  exact ⟨p, hp, covers_more hs h1⟩

/- A strict order in which of two different ones one is first. -/
structure Order {β : Type} (lt : β → β → Prop) : Prop where
  irr : ∀ a, ¬ lt a a
  trans : ∀ {a b c}, lt a b → lt b c → lt a c
  tot : ∀ {a b}, a ≠ b → lt a b ∨ lt b a
/- What is sorted is known by its members. -/
theorem sorted_unique {β : Type} {lt : β → β → Prop} (ho : Order lt) : ∀ {l m : List β}, l.Pairwise lt → m.Pairwise lt → (∀ x, x ∈ l ↔ x ∈ m) → l = m
  | [], [], _, _, _ => rfl
  | [], b :: _, _, _, h => by have := (h b).2 (by simp); simp at this
  | a :: _, [], _, _, h => by have := (h a).1 (by simp); simp at this
  | a :: l, b :: m, hl, hm, h => by
    have ha := List.pairwise_cons.1 hl
    have hb := List.pairwise_cons.1 hm
    have e : a = b := by
      by_cases e : a = b
      · exact e
      · have h1 : a ∈ m := by
          rcases List.mem_cons.1 ((h a).1 (by simp)) with e' | e'
          · exact absurd e' e
          · exact e'
        have h2 : b ∈ l := by
          rcases List.mem_cons.1 ((h b).2 (by simp)) with e' | e'
          · exact absurd e'.symm e
          · exact e'
        exact absurd (ho.trans (ha.1 b h2) (hb.1 a h1)) (ho.irr a)
    subst e
    have hn : ∀ {x}, x ∈ l → x ≠ a := fun hx e => ho.irr a (by have := ha.1 _ hx; rwa [e] at this)
    have hn' : ∀ {x}, x ∈ m → x ≠ a := fun hx e => ho.irr a (by have := hb.1 _ hx; rwa [e] at this)
    rw [sorted_unique ho ha.2 hb.2 (fun x => ?_)]
    constructor
    · intro hx
      rcases List.mem_cons.1 ((h x).1 (by simp [hx])) with e | e
      · exact absurd e (hn hx)
      · exact e
    · intro hx
      rcases List.mem_cons.1 ((h x).2 (by simp [hx])) with e | e
      · exact absurd e (hn' hx)
      · exact e

theorem sorted_insert {β : Type} {lt : β → β → Prop} (ho : Order lt) (a : β) : ∀ m : List β, m.Pairwise lt → a ∉ m → ∃ m' : List β, m'.Pairwise lt ∧ ∀ x, x ∈ m' ↔ x = a ∨ x ∈ m
  | [], _, _ => ⟨[a], by simp, by simp⟩
  | b :: m, hm, hn => by
    have hb := List.pairwise_cons.1 hm
    have hab : a ≠ b := fun e => hn (by simp [e])
    rcases ho.tot hab with h | h
    · refine ⟨a :: b :: m, List.pairwise_cons.2 ⟨fun x hx => ?_, hm⟩, by simp⟩
      rcases List.mem_cons.1 hx with e | e
      · rw [e]; exact h
      · exact ho.trans h (hb.1 x e)
    · obtain ⟨m', h1, h2⟩ := sorted_insert ho a m hb.2 (fun e => hn (by simp [e]))
      refine ⟨b :: m', List.pairwise_cons.2 ⟨fun x hx => ?_, h1⟩, fun x => ?_⟩
      · rcases (h2 x).1 hx with e | e
        · rw [e]; exact h
        · exact hb.1 x e
      · simp only [List.mem_cons, h2 x]
        constructor
        · rintro (h | h | h)
          · exact .inr (.inl h)
          · exact .inl h
          · exact .inr (.inr h)
        · rintro (h | h | h)
          · exact .inr (.inl h)
          · exact .inl h
          · exact .inr (.inr h)
theorem sorted_exists {β : Type} {lt : β → β → Prop} (ho : Order lt) (P : β → Prop) (l : List β) : ∃ m : List β, m.Pairwise lt ∧ ∀ x, x ∈ m ↔ x ∈ l ∧ P x := by
  induction l with
  | nil => exact ⟨[], by simp, by simp⟩
  | cons a r ih =>
    obtain ⟨m, h1, h2⟩ := ih
    by_cases hp : P a
    · by_cases hm : a ∈ m
      · refine ⟨m, h1, fun x => ?_⟩
        rw [h2 x, List.mem_cons]
        constructor
        · rintro ⟨h, g⟩; exact ⟨.inr h, g⟩
        · rintro ⟨h | h, g⟩
          · rw [h]; exact (h2 a).1 hm
          · exact ⟨h, g⟩
      · obtain ⟨m', h3, h4⟩ := sorted_insert ho a m h1 hm
        refine ⟨m', h3, fun x => ?_⟩
        rw [h4 x, h2 x, List.mem_cons]
        constructor
        · rintro (h | ⟨h, g⟩)
          · rw [h]; exact ⟨.inl rfl, hp⟩
          · exact ⟨.inr h, g⟩
        · rintro ⟨h | h, g⟩
          · exact .inl h
          · exact .inr ⟨h, g⟩
    · refine ⟨m, h1, fun x => ?_⟩
      rw [h2 x, List.mem_cons]
      constructor
      · rintro ⟨h, g⟩; exact ⟨.inr h, g⟩
      · rintro ⟨h | h, g⟩
        · exact absurd (by rw [← h]; exact g) hp
        · exact ⟨h, g⟩

/- c is p with its readers rising, each once, without its owner. -/
structure CleanOf (lt : α → α → Prop) (p c : α × List α) : Prop where
  own : c.1 = p.1
  up : c.2.Pairwise lt
  mem : ∀ r, r ∈ c.2 ↔ r ∈ p.2 ∧ r ≠ p.1
theorem clean_unique {lt : α → α → Prop} (ho : Order lt) {p c d : α × List α} (h : CleanOf lt p c) (g : CleanOf lt p d) : c = d := by
  obtain ⟨c1, c2⟩ := c
  obtain ⟨d1, d2⟩ := d
  have e1 : c1 = d1 := h.own.trans g.own.symm
  have e2 : c2 = d2 := sorted_unique ho h.up g.up (fun r => (h.mem r).trans (g.mem r).symm)
  rw [e1, e2]
theorem clean_exists {lt : α → α → Prop} (ho : Order lt) (p : α × List α) : ∃ c, CleanOf lt p c := by
  obtain ⟨m, h1, h2⟩ := sorted_exists ho (fun r => r ≠ p.1) p.2
  exact ⟨(p.1, m), rfl, h1, h2⟩
theorem clean_covers {lt : α → α → Prop} (ps : List (α × α)) {p c : α × List α} (h : CleanOf lt p c) : covers ps c p ∧ covers ps p c := by
  refine ⟨⟨by rw [h.own]; exact .refl _, fun r hr => .inr ⟨r, ((h.mem r).1 hr).1, .refl _⟩⟩, ⟨by rw [h.own]; exact .refl _, fun r hr => ?_⟩⟩
  by_cases e : r = p.1
  · exact .inl (by rw [h.own, e]; exact .refl _)
  · exact .inr ⟨r, (h.mem r).2 ⟨hr, e⟩, .refl _⟩
theorem clean_clean {lt : α → α → Prop} {p c : α × List α} (h : CleanOf lt p c) : CleanOf lt c c :=
  ⟨rfl, h.up, fun r => ⟨fun hr => ⟨hr, by rw [h.own]; exact ((h.mem r).1 hr).2⟩, fun hr => hr.1⟩⟩

/- The normal form: rising, each once, what stays of the cleaned ones. -/
def cleaned (lt : α → α → Prop) (x : List (α × List α)) (c : α × List α) : Prop := ∃ p ∈ x, CleanOf lt p c
def stays (lt : α → α → Prop) (plt : α × List α → α × List α → Prop) (ps : List (α × α)) (x : List (α × List α)) (c : α × List α) : Prop := ∀ q, cleaned lt x q → q ≠ c → covers ps q c → covers ps c q ∧ plt c q
structure Norm (lt : α → α → Prop) (plt : α × List α → α × List α → Prop) (ps : List (α × α)) (x n : List (α × List α)) : Prop where
  up : n.Pairwise plt
  mem : ∀ c, c ∈ n ↔ cleaned lt x c ∧ stays lt plt ps x c
theorem norm_unique {lt : α → α → Prop} {plt : α × List α → α × List α → Prop} (ho : Order plt) {ps : List (α × α)} {x n m : List (α × List α)} (h : Norm lt plt ps x n) (g : Norm lt plt ps x m) : n = m :=
  sorted_unique ho h.up g.up (fun c => (h.mem c).trans (g.mem c).symm)
theorem norm_same {lt : α → α → Prop} {plt : α × List α → α × List α → Prop} {ps : List (α × α)} {x y n : List (α × List α)} (hxy : ∀ c, cleaned lt x c ↔ cleaned lt y c) (h : Norm lt plt ps x n) : Norm lt plt ps y n := by
  refine ⟨h.up, fun c => (h.mem c).trans ?_⟩
  rw [hxy c]
  constructor
  · rintro ⟨h1, h2⟩; exact ⟨h1, fun q hq => h2 q ((hxy q).2 hq)⟩
  · rintro ⟨h1, h2⟩; exact ⟨h1, fun q hq => h2 q ((hxy q).1 hq)⟩
/- Of what is at hand there is one above which there is none. -/
theorem top {β : Type} (R : β → β → Prop) (hi : ∀ a, ¬ R a a) (ht : ∀ {a b c}, R a b → R b c → R a c) : ∀ (l : List β) (a : β), a ∈ l → ∃ t ∈ l, (t = a ∨ R t a) ∧ ∀ b ∈ l, ¬ R b t := by
  intro l
  induction l with
  | nil => intro a ha; cases ha
  | cons x r ih =>
    intro a ha
    have key : ∃ t ∈ x :: r, (t = a ∨ R t a) ∧ ∀ b ∈ r, ¬ R b t := by
      rcases List.mem_cons.1 ha with e | e
      · subst e
        by_cases hex : ∃ b ∈ r, R b a
        · obtain ⟨b, hb, hba⟩ := hex
          obtain ⟨t, ht', h1, h2⟩ := ih b hb
          refine ⟨t, by simp [ht'], .inr ?_, h2⟩
          rcases h1 with h1 | h1
          · subst h1; exact hba
          · exact ht h1 hba
        · exact ⟨a, by simp, .inl rfl, fun b hb h => hex ⟨b, hb, h⟩⟩
      · obtain ⟨t, ht', h1, h2⟩ := ih a e
        exact ⟨t, by simp [ht'], h1, h2⟩
    obtain ⟨t, ht', h1, h2⟩ := key
    by_cases hx : R x t
    · refine ⟨x, by simp, .inr ?_, ?_⟩
      · rcases h1 with h1 | h1
        · subst h1; exact hx
        · exact ht hx h1
      · intro b hb hbx
        rcases List.mem_cons.1 hb with e | e
        · subst e; exact hi _ hbx
        · exact h2 b e (ht hbx hx)
    · refine ⟨t, ht', h1, fun b hb hbt => ?_⟩
      rcases List.mem_cons.1 hb with e | e
      · subst e; exact hx hbt
      · exact h2 b e hbt
section
variable {lt : α → α → Prop} {plt : α × List α → α × List α → Prop} {ps : List (α × α)} {x n : List (α × List α)}
/- cs: all the cleaned ones, in a list. -/
theorem norm_to (hl : Order lt) (ho : Order plt) (h : Norm lt plt ps x n) : mayGo ps x n := by
  have hall : ∀ p ∈ x, ∃ c, CleanOf lt p c := fun p _ => clean_exists hl p
  have hlist : ∀ y : List (α × List α), (∀ p ∈ y, ∃ c, CleanOf lt p c) → ∃ cs : List (α × List α), (∀ c ∈ cs, cleaned lt y c) ∧ ∀ p ∈ y, ∃ c ∈ cs, CleanOf lt p c := by
    intro y
    induction y with
    | nil => intro _; exact ⟨[], by simp, by simp⟩
    | cons a r ih =>
      intro hy
      obtain ⟨c, hc⟩ := hy a (by simp)
      obtain ⟨cs, h1, h2⟩ := ih (fun p hp => hy p (by simp [hp]))
      refine ⟨c :: cs, ?_, ?_⟩
      · intro d hd
        rcases List.mem_cons.1 hd with e | e
        · subst e; exact ⟨a, by simp, hc⟩
        · obtain ⟨p, hp, g⟩ := h1 d e
          exact ⟨p, by simp [hp], g⟩
      · intro p hp
        rcases List.mem_cons.1 hp with e | e
        · subst e; exact ⟨c, by simp, hc⟩
        · obtain ⟨d, hd, g⟩ := h2 p e
          exact ⟨d, by simp [hd], g⟩
  obtain ⟨cs, h1, h2⟩ := hlist x hall
  intro q hq
  obtain ⟨c, hc, hqc⟩ := h2 q hq
  have hR := top (fun r p => r ≠ p ∧ covers ps r p ∧ (¬ covers ps p r ∨ plt r p)) (fun a h => h.1 rfl)
    (by
      rintro a b d ⟨_, h2, h3⟩ ⟨_, g2, g3⟩
      have had := covers_trans h2 g2
      by_cases hda : covers ps d a
      · have hdb : covers ps d b := covers_trans hda h2
        have hba : covers ps b a := covers_trans g2 hda
        have l1 : plt a b := by
          rcases h3 with h3 | h3
          · exact absurd hba h3
          · exact h3
        have l2 : plt b d := by
          rcases g3 with g3 | g3
          · exact absurd hdb g3
          · exact g3
        have l3 := ho.trans l1 l2
        exact ⟨fun e => ho.irr d (by rw [e] at l3; exact l3), had, .inr l3⟩
      · refine ⟨fun e => hda (by rw [e]; exact covers_refl ps d), had, .inl hda⟩) cs c hc
  obtain ⟨t, ht, h3, h4⟩ := hR
  have hqt : covers ps t q := by
    have hc1 := (clean_covers ps hqc).1
    rcases h3 with h3 | h3
    · subst h3; exact hc1
    · exact covers_trans h3.2.1 hc1
  refine ⟨t, (h.mem t).2 ⟨h1 t ht, ?_⟩, hqt⟩
  intro u hu hne hcov
  obtain ⟨p, hp, hpu⟩ := hu
  obtain ⟨v, hv, hpv⟩ := h2 p hp
  obtain rfl : v = u := clean_unique hl hpv hpu
  have hno := h4 v hv
  have hct : covers ps t v := by
    by_cases hc' : covers ps t v
    · exact hc'
    · exact absurd ⟨hne, hcov, .inl hc'⟩ hno
  have hnl : ¬ plt v t := fun hl' => hno ⟨hne, hcov, .inr hl'⟩
  refine ⟨hct, ?_⟩
  rcases ho.tot hne with h5 | h5
  · exact absurd h5 hnl
  · exact h5
theorem norm_from (h : Norm lt plt ps x n) : mayGo ps n x := by
  intro c hc
  obtain ⟨⟨p, hp, hpc⟩, _⟩ := (h.mem c).1 hc
  exact ⟨p, hp, (clean_covers ps hpc).2⟩
/- The normal form's own normal form is itself. -/
theorem norm_norm (hl : Order lt) (h : Norm lt plt ps x n) : Norm lt plt ps n n := by
  have hcl : ∀ c, cleaned lt n c ↔ c ∈ n := by
    intro c
    constructor
    · rintro ⟨p, hp, hpc⟩
      obtain ⟨⟨q, _, hqp⟩, _⟩ := (h.mem p).1 hp
      obtain rfl := clean_unique hl hpc (clean_clean hqp)
      exact hp
    · intro hc
      obtain ⟨⟨q, _, hqc⟩, _⟩ := (h.mem c).1 hc
      exact ⟨c, hc, clean_clean hqc⟩
  refine ⟨h.up, fun c => ?_⟩
  rw [hcl c]
  constructor
  · intro hc
    refine ⟨hc, fun q hq hne hcov => ?_⟩
    exact ((h.mem c).1 hc).2 q ((h.mem q).1 ((hcl q).1 hq)).1 hne hcov
  · exact fun hc => hc.1
/- A join: least of those to which both may go. -/
theorem join_both {a b j : List (α × List α)} (hl : Order lt) (ho : Order plt) (h : Norm lt plt ps (a ++ b) j) : mayGo ps a j ∧ mayGo ps b j :=
  ⟨mayGo_trans (mayGo_sub fun _ hp => List.mem_append_left _ hp) (norm_to hl ho h), mayGo_trans (mayGo_sub fun _ hp => List.mem_append_right _ hp) (norm_to hl ho h)⟩
theorem join_least {a b c j : List (α × List α)} (h : Norm lt plt ps (a ++ b) j) (ha : mayGo ps a c) (hb : mayGo ps b c) : mayGo ps j c := by
  refine mayGo_trans (norm_from h) ?_
  intro q hq
  rcases List.mem_append.1 hq with hq | hq
  · exact ha q hq
  · exact hb q hq
/- Without the policies for whose owner one of some acts. -/
def Left (ps : List (α × α)) (bs : List α) (p : α × List α) : Prop := ∃ s ∈ bs, Way ps s p.1
theorem less_to {bs : List α} {y n : List (α × List α)} (hy : ∀ p ∈ y, p ∈ x ∧ ¬ Left ps bs p) (h : Norm lt plt ps y n) : mayGo ps n x :=
  mayGo_trans (norm_from h) (mayGo_sub fun p hp => (hy p hp).1)
theorem less_kept {bs : List α} {y n : List (α × List α)} (hy : ∀ p ∈ y, ¬ Left ps bs p) (h : Norm lt plt ps y n) : ∀ c ∈ n, ¬ Left ps bs c := by
  intro c hc
  obtain ⟨⟨p, hp, hpc⟩, _⟩ := (h.mem c).1 hc
  rintro ⟨s, hs, w⟩
  exact hy p hp ⟨s, hs, by rw [← hpc.own]; exact w⟩
theorem less_none {bs : List α} {y n : List (α × List α)} (hx : ∀ p ∈ x, p.1 ∈ bs) (hy : ∀ p ∈ y, p ∈ x ∧ ¬ Left ps bs p) (h : Norm lt plt ps y n) : n = [] := by
  rw [List.eq_nil_iff_forall_not_mem]
  intro c hc
  obtain ⟨⟨p, hp, _⟩, _⟩ := (h.mem c).1 hc
  exact (hy p hp).2 ⟨p.1, hx p (hy p hp).1, .refl _⟩
end
end Lab
end Go.Proofs.YtpbknhhjfhpkmaaGreatDoor

namespace Go.Proofs.YtpbknhhjfhpkmaaGreatDoor
namespace Lab
open Act (Way)
variable {α : Type} [DecidableEq α]

def letsB (ls : List α) (ps : List (α × α)) (p : α × List α) (s : α) : Bool := Act.acts ls ps s p.1 || p.2.any fun r => Act.acts ls ps s r
def coversB (ls : List α) (ps : List (α × α)) (q p : α × List α) : Bool := Act.acts ls ps q.1 p.1 && !(q.2.any fun r => !letsB ls ps p r)
def coveredB (ls : List α) (ps : List (α × α)) (l : List (α × List α)) (p : α × List α) : Bool := l.any fun q => coversB ls ps q p
def flowsB (ls : List α) (ps : List (α × α)) (a b : List (α × List α)) : Bool := !(a.any fun p => !coveredB ls ps b p)
def readsB (ls : List α) (ps : List (α × α)) (x : List (α × List α)) (c : α) : Bool := !(x.any fun p => !letsB ls ps p c)
def readsF (ls : List α) (ps : List (α × α)) (x : List (α × List α)) : List α := ls.filter fun c => readsB ls ps x c
/- All names are chiefs. -/
def Of (ls : List α) (p : α × List α) : Prop := p.1 ∈ ls ∧ ∀ r ∈ p.2, r ∈ ls
def OfL (ls : List α) (x : List (α × List α)) : Prop := ∀ p ∈ x, Of ls p

variable {ls : List α} {ps : List (α × α)}
theorem acts_mem (hr : Act.Right ls ps) {a b : α} (h : Act.acts ls ps a b = true) : a ∈ ls ∧ b ∈ ls := by
  obtain ⟨h1, h2⟩ := Act.whole_lt ls ps hr h
  exact ⟨List.idxOf_lt_length_iff.1 h1, List.idxOf_lt_length_iff.1 h2⟩
theorem lets_iff (hr : Act.Right ls ps) {p : α × List α} (hp : Of ls p) {s : α} (hs : s ∈ ls) : letsB ls ps p s = true ↔ lets ps p s := by
  simp only [letsB, lets, Bool.or_eq_true, List.any_eq_true, Act.acts_iff hr hs hp.1]
  constructor
  · rintro (h | ⟨r, h1, h2⟩)
    · exact .inl h
    · exact .inr ⟨r, h1, (Act.acts_iff hr hs (hp.2 r h1)).1 h2⟩
  · rintro (h | ⟨r, h1, h2⟩)
    · exact .inl h
    · exact .inr ⟨r, h1, (Act.acts_iff hr hs (hp.2 r h1)).2 h2⟩
theorem covers_iff (hr : Act.Right ls ps) {q p : α × List α} (hq : Of ls q) (hp : Of ls p) : coversB ls ps q p = true ↔ covers ps q p := by
  simp only [coversB, covers, Bool.and_eq_true, Act.acts_iff hr hq.1 hp.1, Bool.not_eq_true', List.any_eq_false]
  constructor
  · rintro ⟨h1, h2⟩
    exact ⟨h1, fun r hr' => (lets_iff hr hp (hq.2 r hr')).1 (by simpa using h2 r hr')⟩
  · rintro ⟨h1, h2⟩
    exact ⟨h1, fun r hr' => by simpa using (lets_iff hr hp (hq.2 r hr')).2 (h2 r hr')⟩
theorem covered_iff (hr : Act.Right ls ps) {l : List (α × List α)} {p : α × List α} (hl : OfL ls l) (hp : Of ls p) : coveredB ls ps l p = true ↔ ∃ q ∈ l, covers ps q p := by
  simp only [coveredB, List.any_eq_true]
  constructor
  · rintro ⟨q, h1, h2⟩; exact ⟨q, h1, (covers_iff hr (hl q h1) hp).1 h2⟩
  · rintro ⟨q, h1, h2⟩; exact ⟨q, h1, (covers_iff hr (hl q h1) hp).2 h2⟩
theorem flows_iff (hr : Act.Right ls ps) {a b : List (α × List α)} (ha : OfL ls a) (hb : OfL ls b) : flowsB ls ps a b = true ↔ mayGo ps a b := by
  simp only [flowsB, mayGo, Bool.not_eq_true', List.any_eq_false]
  constructor
  · intro h q hq
    exact (covered_iff hr hb (ha q hq)).1 (by simpa using h q hq)
  · intro h q hq
    simpa using (covered_iff hr hb (ha q hq)).2 (h q hq)
theorem reads_iff (hr : Act.Right ls ps) {x : List (α × List α)} (hx : OfL ls x) {c : α} (hc : c ∈ ls) : readsB ls ps x c = true ↔ reads ps x c := by
  simp only [readsB, reads, Bool.not_eq_true', List.any_eq_false]
  constructor
  · intro h p hp
    exact (lets_iff hr (hx p hp) hc).1 (by simpa using h p hp)
  · intro h p hp
    simpa using (lets_iff hr (hx p hp) hc).2 (h p hp)
theorem readsF_mem (hr : Act.Right ls ps) {x : List (α × List α)} (hx : OfL ls x) {c : α} : c ∈ readsF ls ps x ↔ c ∈ ls ∧ reads ps x c := by
  simp only [readsF, List.mem_filter]
  constructor
  · rintro ⟨h, g⟩; exact ⟨h, (reads_iff hr hx h).1 g⟩
  · rintro ⟨h, g⟩; exact ⟨h, (reads_iff hr hx h).2 g⟩
end Lab
end Go.Proofs.YtpbknhhjfhpkmaaGreatDoor

namespace Go.Proofs.YtpbknhhjfhpkmaaGreatDoor
namespace Lab
variable {α β : Type}

/- One pass: what is covered is left out; what the new one covers goes. -/
def stepN (cov : β → β → Bool) (out : List β) (p : β) : List β := if (out.any fun q => cov q p) = true then out else (out.filter fun q => !cov p q) ++ [p]
structure Inv (C : β → β → Prop) (plt : β → β → Prop) (L out : List β) : Prop where
  up : out.Pairwise plt
  sub : ∀ c ∈ out, c ∈ L
  cov : ∀ q ∈ L, ∃ c ∈ out, C c q
  top : ∀ c ∈ out, ∀ q ∈ L, C q c → C c q ∧ (q = c ∨ plt c q)
theorem inv_nil (C : β → β → Prop) (plt : β → β → Prop) : Inv C plt [] [] := ⟨.nil, (fun c h => by cases h), (fun q h => by cases h), (fun c h => by cases h)⟩
theorem inv_step {C : β → β → Prop} {plt : β → β → Prop} {cov : β → β → Bool} {L out : List β} {p : β} (refl : ∀ a, C a a) (trans : ∀ {a b c}, C a b → C b c → C a c)
    (hc : ∀ a ∈ L ++ [p], ∀ b ∈ L ++ [p], cov a b = true ↔ C a b) (hs : ∀ q ∈ L, q = p ∨ plt q p) (h : Inv C plt L out) : Inv C plt (L ++ [p]) (stepN cov out p) := by
  have inL : ∀ {c}, c ∈ out → c ∈ L ++ [p] := fun hc => List.mem_append_left _ (h.sub _ hc)
  have hp : p ∈ L ++ [p] := by simp
  have split : ∀ {q}, q ∈ L ++ [p] → q ∈ L ∨ q = p := fun hq => by simpa using hq
  by_cases hany : (out.any fun q => cov q p) = true
  · obtain ⟨c, hco, hcp⟩ := List.any_eq_true.1 hany
    have hcp' : C c p := (hc c (inL hco) p hp).1 hcp
    rw [stepN, if_pos hany]
    refine ⟨h.up, fun d hd => inL hd, fun q hq => ?_, fun d hd q hq hqd => ?_⟩
    · rcases split hq with hq | hq
      · exact h.cov q hq
      · rw [hq]; exact ⟨c, hco, hcp'⟩
    · rcases split hq with hq | hq
      · exact h.top d hd q hq hqd
      · subst hq
        obtain ⟨k1, _⟩ := h.top d hd c (h.sub c hco) (trans hcp' hqd)
        refine ⟨trans k1 hcp', ?_⟩
        rcases hs d (h.sub d hd) with e | e
        · exact .inl e.symm
        · exact .inr e
  · have hno : ∀ c ∈ out, ¬ C c p := fun c hco hcp => hany (List.any_eq_true.2 ⟨c, hco, (hc c (inL hco) p hp).2 hcp⟩)
    have hf : ∀ {c}, c ∈ out.filter (fun q => !cov p q) ↔ c ∈ out ∧ ¬ C p c := by
      intro c
      rw [List.mem_filter]
      constructor
      · rintro ⟨h1, h2⟩
        refine ⟨h1, fun hpc => ?_⟩
        rw [(hc p hp c (inL h1)).2 hpc] at h2
        cases h2
      · rintro ⟨h1, h2⟩
        refine ⟨h1, ?_⟩
        cases hq : cov p c with
        | false => rfl
        | true => exact absurd ((hc p hp c (inL h1)).1 hq) h2
    rw [stepN, if_neg hany]
    refine ⟨?_, fun d hd => ?_, fun q hq => ?_, fun d hd q hq hqd => ?_⟩
    · rw [List.pairwise_append]
      refine ⟨h.up.filter _, by simp, fun a ha b hb => ?_⟩
      have hb' : b = p := by simpa using hb
      subst hb'
      have ha' := hf.1 ha
      rcases hs a (h.sub a ha'.1) with e | e
      · exact absurd (e ▸ refl a) (hno a ha'.1)
      · exact e
    · rcases List.mem_append.1 hd with hd | hd
      · exact inL (hf.1 hd).1
      · have e : d = p := by simpa using hd
        rw [e]; exact hp
    · rcases split hq with hq | hq
      · obtain ⟨c, h1, h2⟩ := h.cov q hq
        by_cases hpc : C p c
        · exact ⟨p, by simp, trans hpc h2⟩
        · exact ⟨c, List.mem_append_left _ (hf.2 ⟨h1, hpc⟩), h2⟩
      · rw [hq]; exact ⟨p, by simp, refl p⟩
    · rcases List.mem_append.1 hd with hd | hd
      · obtain ⟨h1, h2⟩ := hf.1 hd
        rcases split hq with hq | hq
        · exact h.top d h1 q hq hqd
        · rw [hq] at hqd; exact absurd hqd h2
      · have e : d = p := by simpa using hd
        subst e
        rcases split hq with hq | hq
        · obtain ⟨c, h1, h2⟩ := h.cov q hq
          exact absurd (trans h2 hqd) (hno c h1)
        · rw [hq]; exact ⟨refl d, .inl rfl⟩
theorem inv_fold {C : β → β → Prop} {plt : β → β → Prop} {cov : β → β → Bool} (refl : ∀ a, C a a) (trans : ∀ {a b c}, C a b → C b c → C a c) : ∀ (M L out : List β), (∀ a ∈ L ++ M, ∀ b ∈ L ++ M, cov a b = true ↔ C a b) → (L ++ M).Pairwise (fun a b => a = b ∨ plt a b) → Inv C plt L out → Inv C plt (L ++ M) (M.foldl (stepN cov) out)
  | [], L, out, _, _, h => by simpa using h
  | p :: M, L, out, hc, hs, h => by
    have e : L ++ p :: M = (L ++ [p]) ++ M := by simp
    rw [e] at hc hs ⊢
    refine inv_fold refl trans M (L ++ [p]) _ hc hs (inv_step refl trans (fun a ha b hb => hc a (List.mem_append_left _ ha) b (List.mem_append_left _ hb)) (fun q hq => ?_) h)
    have := (List.pairwise_append.1 (List.pairwise_append.1 hs).1).2.2 q hq p (by simp)
    exact this
/- What the pass leaves is the normal form. -/
theorem norm_fold {lt : α → α → Prop} {plt : α × List α → α × List α → Prop} {ps : List (α × α)} {cov : α × List α → α × List α → Bool} {x R : List (α × List α)} (ho : Order plt) (hR : ∀ c, c ∈ R ↔ cleaned lt x c) (hs : R.Pairwise (fun a b => a = b ∨ plt a b)) (hc : ∀ a ∈ R, ∀ b ∈ R, cov a b = true ↔ covers ps a b) : Norm lt plt ps x (R.foldl (stepN cov) []) := by
  have h := inv_fold (C := covers ps) (plt := plt) (cov := cov) (covers_refl ps) covers_trans R [] [] (by simpa using hc) (by simpa using hs) (inv_nil _ _)
  simp only [List.nil_append] at h
  refine ⟨h.up, fun c => ⟨fun hcn => ⟨(hR c).1 (h.sub c hcn), fun q hq hne hqc => ?_⟩, fun ⟨hcl, hst⟩ => ?_⟩⟩
  · obtain ⟨k1, k2⟩ := h.top c hcn q ((hR q).2 hq) hqc
    rcases k2 with e | e
    · exact absurd e hne
    · exact ⟨k1, e⟩
  · obtain ⟨d, h1, h2⟩ := h.cov c ((hR c).2 hcl)
    by_cases e : d = c
    · rw [← e]; exact h1
    · obtain ⟨k1, k2⟩ := hst d ((hR d).1 (h.sub d h1)) e h2
      obtain ⟨_, k4⟩ := h.top d h1 c ((hR c).2 hcl) k1
      rcases k4 with e' | e'
      · exact absurd e'.symm e
      · exact absurd (ho.trans k2 e') (ho.irr c)

/- All parts of a list. -/
def parts : List α → List (List α)
  | [] => [[]]
  | a :: l => parts l ++ (parts l).map (a :: ·)
theorem parts_len (l : List α) : (parts l).length = 2 ^ l.length := by
  induction l with
  | nil => rfl
  | cons a l ih => simp [parts, ih, Nat.pow_succ]; omega
theorem filter_part (P : α → Bool) (l : List α) : l.filter P ∈ parts l := by
  induction l with
  | nil => simp [parts]
  | cons a l ih =>
    rw [List.filter_cons]
    split
    · exact List.mem_append_right _ (List.mem_map.2 ⟨_, ih, rfl⟩)
    · exact List.mem_append_left _ ih
theorem flat_len {l : List α} {f : α → List β} {m : Nat} (h : ∀ a ∈ l, (f a).length ≤ m) : (l.flatMap f).length ≤ l.length * m := by
  induction l with
  | nil => simp
  | cons a l ih =>
    have h1 := h a (by simp)
    have h2 := ih fun b hb => h b (by simp [hb])
    rw [List.flatMap_cons, List.length_append, List.length_cons, Nat.succ_mul]
    omega
theorem sorted_nodup {lt : β → β → Prop} (ho : Order lt) {l : List β} (h : l.Pairwise lt) : l.Nodup := by
  refine List.Pairwise.imp (S := fun a b => a ≠ b) ?_ h
  intro a b hab e
  exact ho.irr a (by rw [← e] at hab; exact hab)
/- Of six names there are at most 192 policies that are clean. -/
theorem norm_few {lt : α → α → Prop} {plt : α × List α → α × List α → Prop} (hl : Order lt) (ho : Order plt) {ls : List α} (h6 : ls.length ≤ 6) {n : List (α × List α)} (hn : n.Pairwise plt) (hcl : ∀ c ∈ n, CleanOf lt c c) (hof : ∀ c ∈ n, c.1 ∈ ls ∧ ∀ r ∈ c.2, r ∈ ls) : n.length ≤ 192 := by
  classical
  have hS : ∀ o : α, ∃ S : List α, S.Pairwise lt ∧ ∀ r, r ∈ S ↔ r ∈ ls ∧ r ≠ o := fun o => sorted_exists hl (fun r => r ≠ o) ls
  let S := fun o => Classical.choose (hS o)
  have hS1 : ∀ o, (S o).Pairwise lt := fun o => (Classical.choose_spec (hS o)).1
  have hS2 : ∀ o r, r ∈ S o ↔ r ∈ ls ∧ r ≠ o := fun o => (Classical.choose_spec (hS o)).2
  have hlen : ∀ o ∈ ls, (S o).length ≤ 5 := by
    intro o ho'
    have : (o :: S o).length ≤ ls.length := List.Nodup.length_le_of_subset (List.nodup_cons.2 ⟨fun h => ((hS2 o o).1 h).2 rfl, sorted_nodup hl (hS1 o)⟩) (fun r hr => by
      rcases List.mem_cons.1 hr with e | e
      · rw [e]; exact ho'
      · exact ((hS2 o r).1 e).1)
    simp at this; omega
  have hsub : ∀ c ∈ n, c ∈ ls.flatMap fun o => (parts (S o)).map fun r => (o, r) := by
    intro c hc
    obtain ⟨o, r⟩ := c
    have hcl' := hcl _ hc
    obtain ⟨k1, k2⟩ := hof _ hc
    rw [List.mem_flatMap]
    refine ⟨o, k1, List.mem_map.2 ⟨r, ?_, rfl⟩⟩
    have e : r = (S o).filter (fun a => decide (a ∈ r)) := sorted_unique hl hcl'.up ((hS1 o).filter _) (fun a => by
      simp only [List.mem_filter, decide_eq_true_eq, hS2]
      constructor
      · intro ha; exact ⟨⟨k2 a ha, ((hcl'.mem a).1 ha).2⟩, ha⟩
      · exact fun ha => ha.2)
    rw [e]; exact filter_part _ _
  have h1 := List.Nodup.length_le_of_subset (sorted_nodup ho hn) hsub
  have h2 : (ls.flatMap fun o => (parts (S o)).map fun r => (o, r)).length ≤ ls.length * 32 := flat_len fun o ho' => by
    rw [List.length_map, parts_len]
    have := hlen o ho'
    exact Nat.le_trans (Nat.pow_le_pow_right (by omega) this) (by decide)
  have h3 : ls.length * 32 ≤ 6 * 32 := Nat.mul_le_mul_right _ h6
  omega
end Lab
end Go.Proofs.YtpbknhhjfhpkmaaGreatDoor

namespace Go.Proofs.YtpbknhhjfhpkmaaGreatDoor
namespace Lab
variable {α β : Type}

theorem few_nodup {lt : α → α → Prop} (hl : Order lt) {ls : List α} (h6 : ls.length ≤ 6) {n : List (α × List α)} (hn : n.Nodup) (hcl : ∀ c ∈ n, CleanOf lt c c) (hof : ∀ c ∈ n, c.1 ∈ ls ∧ ∀ r ∈ c.2, r ∈ ls) : n.length ≤ 192 := by
  classical
  have hS : ∀ o : α, ∃ S : List α, S.Pairwise lt ∧ ∀ r, r ∈ S ↔ r ∈ ls ∧ r ≠ o := fun o => sorted_exists hl (fun r => r ≠ o) ls
  let S := fun o => Classical.choose (hS o)
  have hS1 : ∀ o, (S o).Pairwise lt := fun o => (Classical.choose_spec (hS o)).1
  have hS2 : ∀ o r, r ∈ S o ↔ r ∈ ls ∧ r ≠ o := fun o => (Classical.choose_spec (hS o)).2
  have hlen : ∀ o ∈ ls, (S o).length ≤ 5 := by
    intro o ho'
    have : (o :: S o).length ≤ ls.length := List.Nodup.length_le_of_subset (List.nodup_cons.2 ⟨fun h => ((hS2 o o).1 h).2 rfl, sorted_nodup hl (hS1 o)⟩) (fun r hr => by
      rcases List.mem_cons.1 hr with e | e
      · rw [e]; exact ho'
      · exact ((hS2 o r).1 e).1)
    simp at this; omega
  have hsub : ∀ c ∈ n, c ∈ ls.flatMap fun o => (parts (S o)).map fun r => (o, r) := by
    intro c hc
    obtain ⟨o, r⟩ := c
    have hcl' := hcl _ hc
    obtain ⟨k1, k2⟩ := hof _ hc
    rw [List.mem_flatMap]
    refine ⟨o, k1, List.mem_map.2 ⟨r, ?_, rfl⟩⟩
    have e : r = (S o).filter (fun a => decide (a ∈ r)) := sorted_unique hl hcl'.up ((hS1 o).filter _) (fun a => by
      simp only [List.mem_filter, decide_eq_true_eq, hS2]
      constructor
      · intro ha; exact ⟨⟨k2 a ha, ((hcl'.mem a).1 ha).2⟩, ha⟩
      · exact fun ha => ha.2)
    rw [e]; exact filter_part _ _
  have h1 := List.Nodup.length_le_of_subset hn hsub
  have h2 : (ls.flatMap fun o => (parts (S o)).map fun r => (o, r)).length ≤ ls.length * 32 := flat_len fun o ho' => by
    rw [List.length_map, parts_len]
    have := hlen o ho'
    exact Nat.le_trans (Nat.pow_le_pow_right (by omega) this) (by decide)
  have h3 : ls.length * 32 ≤ 6 * 32 := Nat.mul_le_mul_right _ h6
  omega
end Lab
end Go.Proofs.YtpbknhhjfhpkmaaGreatDoor
