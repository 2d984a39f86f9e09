/- Policies and labels, in plain words on lists: whom they let, what covers what, what may go where, the normal form. -/
import Derived.Test.YtcdeicfegfedfaaGreatDoorAct
namespace Go.Proofs.YtcdeicfegfedfaaGreatDoor
namespace Lab
open Act (Way)
variable {α : Type}

/- A policy: its owner and its readers. -/
def lets (ps : List (α × α)) (p : α × List α) (s : α) : Prop := Way ps s p.1 ∨ ∃ r ∈ p.2, Way ps s r
def covers (ps : List (α × α)) (p q : α × List α) : Prop := Way ps p.1 q.1 ∧ ∀ r ∈ p.2, lets ps q r
def mayGo (ps : List (α × α)) (a b : List (α × List α)) : Prop := ∀ q ∈ a, ∃ p ∈ b, covers ps p q
def reads (ps : List (α × α)) (x : List (α × List α)) (s : α) : Prop := ∀ p ∈ x, lets ps p s

theorem lets_way {ps : List (α × α)} {p : α × List α} {s t : α} (h : lets ps p s) (w : Way ps t s) : lets ps p t := by
  rcases h with h | ⟨r, hr, h⟩
  · exact .inl (w.trans h)
  · exact .inr ⟨r, hr, w.trans h⟩
theorem covers_refl (ps : List (α × α)) (p : α × List α) : covers ps p p := ⟨.refl _, fun r hr => .inr ⟨r, hr, .refl _⟩⟩
theorem covers_lets {ps : List (α × α)} {p q : α × List α} (h : covers ps p q) {s : α} (hs : lets ps p s) : lets ps q s := by
  rcases hs with hs | ⟨r, hr, hs⟩
  · exact .inl (hs.trans h.1)
  · exact lets_way (h.2 r hr) hs
theorem covers_trans {ps : List (α × α)} {p q r : α × List α} (h : covers ps p q) (g : covers ps q r) : covers ps p r :=
  ⟨h.1.trans g.1, fun s hs => covers_lets g (h.2 s hs)⟩
theorem mayGo_refl (ps : List (α × α)) (a : List (α × List α)) : mayGo ps a a := fun q hq => ⟨q, hq, covers_refl ps q⟩
theorem mayGo_trans {ps : List (α × α)} {a b c : List (α × List α)} (h : mayGo ps a b) (g : mayGo ps b c) : mayGo ps a c := by
  intro q hq
  obtain ⟨p, hp, h1⟩ := h q hq
  obtain ⟨r, hr, h2⟩ := g p hp
  exact ⟨r, hr, covers_trans h2 h1⟩
theorem mayGo_sub {ps : List (α × α)} {a b : List (α × List α)} (h : ∀ p ∈ a, p ∈ b) : mayGo ps a b := fun q hq => ⟨q, h q hq, covers_refl ps q⟩
/- Where something may go fewer read. -/
theorem fewer {ps : List (α × α)} {a b : List (α × List α)} (h : mayGo ps a b) {s : α} (hs : reads ps b s) : reads ps a s := by
  intro q hq
  obtain ⟨p, hp, h1⟩ := h q hq
  exact covers_lets h1 (hs p hp)
/- Whoever else acts for whom. -/
theorem lets_more {ps qs : List (α × α)} (hs : ∀ p ∈ ps, p ∈ qs) {p : α × List α} {s : α} (h : lets ps p s) : lets qs p s := by
  rcases h with h | ⟨r, hr, h⟩
  · exact .inl (h.mono hs)
  · exact .inr ⟨r, hr, h.mono hs⟩
theorem covers_more {ps qs : List (α × α)} (hs : ∀ p ∈ ps, p ∈ qs) {p q : α × List α} (h : covers ps p q) : covers qs p q := ⟨h.1.mono hs, fun r hr => lets_more hs (h.2 r hr)⟩
theorem mayGo_more {ps qs : List (α × α)} (hs : ∀ p ∈ ps, p ∈ qs) {a b : List (α × List α)} (h : mayGo ps a b) : mayGo qs a b := by
  intro q hq
  obtain ⟨p, hp, h1⟩ := h q hq
  exact ⟨p, hp, covers_more hs h1⟩

/- A strict order in which of two different ones one is first. -/
structure Order {β : Type} (lt : β → β → Prop) : Prop where
  irr : ∀ a, ¬ lt a a
  trans : ∀ {a b c}, lt a b → lt b c → lt a c
  tot : ∀ {a b}, a ≠ b → lt a b ∨ lt b a
/- What is sorted is known by its members. -/
theorem sorted_unique {β : Type} {lt : β → β → Prop} (ho : Order lt) : ∀ {l m : List β}, l.Pairwise lt → m.Pairwise lt → (∀ x, x ∈ l ↔ x ∈ m) → l = m
  | [], [], _, _, _ => rfl
  | [], b :: _, _, _, h => by have := (h b).2 (by simp); simp at this
  | a :: _, [], _, _, h => by have := (h a).1 (by simp); simp at this
  | a :: l, b :: m, hl, hm, h => by
    have ha := List.pairwise_cons.1 hl
    have hb := List.pairwise_cons.1 hm
    have e : a = b := by
      by_cases e : a = b
      · exact e
      · have h1 : a ∈ m := by
          rcases List.mem_cons.1 ((h a).1 (by simp)) with e' | e'
          · exact absurd e' e
          · exact e'
        have h2 : b ∈ l := by
          rcases List.mem_cons.1 ((h b).2 (by simp)) with e' | e'
          · exact absurd e'.symm e
          · exact e'
        exact absurd (ho.trans (ha.1 b h2) (hb.1 a h1)) (ho.irr a)
    subst e
    have hn : ∀ {x}, x ∈ l → x ≠ a := fun hx e => ho.irr a (by have := ha.1 _ hx; rwa [e] at this)
    have hn' : ∀ {x}, x ∈ m → x ≠ a := fun hx e => ho.irr a (by have := hb.1 _ hx; rwa [e] at this)
    rw [sorted_unique ho ha.2 hb.2 (fun x => ?_)]
    constructor
    · intro hx
      rcases List.mem_cons.1 ((h x).1 (by simp [hx])) with e | e
      · exact absurd e (hn hx)
      · exact e
    · intro hx
      rcases List.mem_cons.1 ((h x).2 (by simp [hx])) with e | e
      · exact absurd e (hn' hx)
      · exact e

theorem sorted_insert {β : Type} {lt : β → β → Prop} (ho : Order lt) (a : β) : ∀ m : List β, m.Pairwise lt → a ∉ m → ∃ m' : List β, m'.Pairwise lt ∧ ∀ x, x ∈ m' ↔ x = a ∨ x ∈ m
  | [], _, _ => ⟨[a], by simp, by simp⟩
  | b :: m, hm, hn => by
    have hb := List.pairwise_cons.1 hm
    have hab : a ≠ b := fun e => hn (by simp [e])
    rcases ho.tot hab with h | h
    · refine ⟨a :: b :: m, List.pairwise_cons.2 ⟨fun x hx => ?_, hm⟩, by simp⟩
      rcases List.mem_cons.1 hx with e | e
      · rw [e]; exact h
      · exact ho.trans h (hb.1 x e)
    · obtain ⟨m', h1, h2⟩ := sorted_insert ho a m hb.2 (fun e => hn (by simp [e]))
      refine ⟨b :: m', List.pairwise_cons.2 ⟨fun x hx => ?_, h1⟩, fun x => ?_⟩
      · rcases (h2 x).1 hx with e | e
        · rw [e]; exact h
        · exact hb.1 x e
      · simp only [List.mem_cons, h2 x]
        constructor
        · rintro (h | h | h)
          · exact .inr (.inl h)
          · exact .inl h
          · exact .inr (.inr h)
        · rintro (h | h | h)
          · exact .inr (.inl h)
          · exact .inl h
          · exact .inr (.inr h)
theorem sorted_exists {β : Type} {lt : β → β → Prop} (ho : Order lt) (P : β → Prop) (l : List β) : ∃ m : List β, m.Pairwise lt ∧ ∀ x, x ∈ m ↔ x ∈ l ∧ P x := by
  induction l with
  | nil => exact ⟨[], by simp, by simp⟩
  | cons a r ih =>
    obtain ⟨m, h1, h2⟩ := ih
    by_cases hp : P a
    · by_cases hm : a ∈ m
      · refine ⟨m, h1, fun x => ?_⟩
        rw [h2 x, List.mem_cons]
        constructor
        · rintro ⟨h, g⟩; exact ⟨.inr h, g⟩
        · rintro ⟨h | h, g⟩
          · rw [h]; exact (h2 a).1 hm
          · exact ⟨h, g⟩
      · obtain ⟨m', h3, h4⟩ := sorted_insert ho a m h1 hm
        refine ⟨m', h3, fun x => ?_⟩
        rw [h4 x, h2 x, List.mem_cons]
        constructor
        · rintro (h | ⟨h, g⟩)
          · rw [h]; exact ⟨.inl rfl, hp⟩
          · exact ⟨.inr h, g⟩
        · rintro ⟨h | h, g⟩
          · exact .inl h
          · exact .inr ⟨h, g⟩
    · refine ⟨m, h1, fun x => ?_⟩
      rw [h2 x, List.mem_cons]
      constructor
      · rintro ⟨h, g⟩; exact ⟨.inr h, g⟩
      · rintro ⟨h | h, g⟩
        · exact absurd (by rw [← h]; exact g) hp
        · exact ⟨h, g⟩

/- c is p with its readers rising, each once, without its owner. -/
structure CleanOf (lt : α → α → Prop) (p c : α × List α) : Prop where
  own : c.1 = p.1
  up : c.2.Pairwise lt
  mem : ∀ r, r ∈ c.2 ↔ r ∈ p.2 ∧ r ≠ p.1
theorem clean_unique {lt : α → α → Prop} (ho : Order lt) {p c d : α × List α} (h : CleanOf lt p c) (g : CleanOf lt p d) : c = d := by
  obtain ⟨c1, c2⟩ := c
  obtain ⟨d1, d2⟩ := d
  have e1 : c1 = d1 := h.own.trans g.own.symm
  have e2 : c2 = d2 := sorted_unique ho h.up g.up (fun r => (h.mem r).trans (g.mem r).symm)
  rw [e1, e2]
theorem clean_exists {lt : α → α → Prop} (ho : Order lt) (p : α × List α) : ∃ c, CleanOf lt p c := by
  obtain ⟨m, h1, h2⟩ := sorted_exists ho (fun r => r ≠ p.1) p.2
  exact ⟨(p.1, m), rfl, h1, h2⟩
theorem clean_covers {lt : α → α → Prop} (ps : List (α × α)) {p c : α × List α} (h : CleanOf lt p c) : covers ps c p ∧ covers ps p c := by
  refine ⟨⟨by rw [h.own]; exact .refl _, fun r hr => .inr ⟨r, ((h.mem r).1 hr).1, .refl _⟩⟩, ⟨by rw [h.own]; exact .refl _, fun r hr => ?_⟩⟩
  by_cases e : r = p.1
  · exact .inl (by rw [h.own, e]; exact .refl _)
  · exact .inr ⟨r, (h.mem r).2 ⟨hr, e⟩, .refl _⟩
theorem clean_clean {lt : α → α → Prop} {p c : α × List α} (h : CleanOf lt p c) : CleanOf lt c c :=
  ⟨rfl, h.up, fun r => ⟨fun hr => ⟨hr, by rw [h.own]; exact ((h.mem r).1 hr).2⟩, fun hr => hr.1⟩⟩

/- The normal form: rising, each once, what stays of the cleaned ones. -/
def cleaned (lt : α → α → Prop) (x : List (α × List α)) (c : α × List α) : Prop := ∃ p ∈ x, CleanOf lt p c
def stays (lt : α → α → Prop) (plt : α × List α → α × List α → Prop) (ps : List (α × α)) (x : List (α × List α)) (c : α × List α) : Prop := ∀ q, cleaned lt x q → q ≠ c → covers ps q c → covers ps c q ∧ plt c q
structure Norm (lt : α → α → Prop) (plt : α × List α → α × List α → Prop) (ps : List (α × α)) (x n : List (α × List α)) : Prop where
  up : n.Pairwise plt
  mem : ∀ c, c ∈ n ↔ cleaned lt x c ∧ stays lt plt ps x c
theorem norm_unique {lt : α → α → Prop} {plt : α × List α → α × List α → Prop} (ho : Order plt) {ps : List (α × α)} {x n m : List (α × List α)} (h : Norm lt plt ps x n) (g : Norm lt plt ps x m) : n = m :=
  sorted_unique ho h.up g.up (fun c => (h.mem c).trans (g.mem c).symm)
theorem norm_same {lt : α → α → Prop} {plt : α × List α → α × List α → Prop} {ps : List (α × α)} {x y n : List (α × List α)} (hxy : ∀ c, cleaned lt x c ↔ cleaned lt y c) (h : Norm lt plt ps x n) : Norm lt plt ps y n := by
  refine ⟨h.up, fun c => (h.mem c).trans ?_⟩
  rw [hxy c]
  constructor
  · rintro ⟨h1, h2⟩; exact ⟨h1, fun q hq => h2 q ((hxy q).2 hq)⟩
  · rintro ⟨h1, h2⟩; exact ⟨h1, fun q hq => h2 q ((hxy q).1 hq)⟩
/- Of what is at hand there is one above which there is none. -/
theorem top {β : Type} (R : β → β → Prop) (hi : ∀ a, ¬ R a a) (ht : ∀ {a b c}, R a b → R b c → R a c) : ∀ (l : List β) (a : β), a ∈ l → ∃ t ∈ l, (t = a ∨ R t a) ∧ ∀ b ∈ l, ¬ R b t := by
  intro l
  induction l with
  | nil => intro a ha; cases ha
  | cons x r ih =>
    intro a ha
    have key : ∃ t ∈ x :: r, (t = a ∨ R t a) ∧ ∀ b ∈ r, ¬ R b t := by
      rcases List.mem_cons.1 ha with e | e
      · subst e
        by_cases hex : ∃ b ∈ r, R b a
        · obtain ⟨b, hb, hba⟩ := hex
          obtain ⟨t, ht', h1, h2⟩ := ih b hb
          refine ⟨t, by simp [ht'], .inr ?_, h2⟩
          rcases h1 with h1 | h1
          · subst h1; exact hba
          · exact ht h1 hba
        · exact ⟨a, by simp, .inl rfl, fun b hb h => hex ⟨b, hb, h⟩⟩
      · obtain ⟨t, ht', h1, h2⟩ := ih a e
        exact ⟨t, by simp [ht'], h1, h2⟩
    obtain ⟨t, ht', h1, h2⟩ := key
    by_cases hx : R x t
    · refine ⟨x, by simp, .inr ?_, ?_⟩
      · rcases h1 with h1 | h1
        · subst h1; exact hx
        · exact ht hx h1
      · intro b hb hbx
        rcases List.mem_cons.1 hb with e | e
        · subst e; exact hi _ hbx
        · exact h2 b e (ht hbx hx)
    · refine ⟨t, ht', h1, fun b hb hbt => ?_⟩
      rcases List.mem_cons.1 hb with e | e
      · subst e; exact hx hbt
      · exact h2 b e hbt
section
variable {lt : α → α → Prop} {plt : α × List α → α × List α → Prop} {ps : List (α × α)} {x n : List (α × List α)}
/- cs: all the cleaned ones, in a list. -/
theorem norm_to (hl : Order lt) (ho : Order plt) (h : Norm lt plt ps x n) : mayGo ps x n := by
  have hall : ∀ p ∈ x, ∃ c, CleanOf lt p c := fun p _ => clean_exists hl p
  have hlist : ∀ y : List (α × List α), (∀ p ∈ y, ∃ c, CleanOf lt p c) → ∃ cs : List (α × List α), (∀ c ∈ cs, cleaned lt y c) ∧ ∀ p ∈ y, ∃ c ∈ cs, CleanOf lt p c := by
    intro y
    induction y with
    | nil => intro _; exact ⟨[], by simp, by simp⟩
    | cons a r ih =>
      intro hy
      obtain ⟨c, hc⟩ := hy a (by simp)
      obtain ⟨cs, h1, h2⟩ := ih (fun p hp => hy p (by simp [hp]))
      refine ⟨c :: cs, ?_, ?_⟩
      · intro d hd
        rcases List.mem_cons.1 hd with e | e
        · subst e; exact ⟨a, by simp, hc⟩
        · obtain ⟨p, hp, g⟩ := h1 d e
          exact ⟨p, by simp [hp], g⟩
      · intro p hp
        rcases List.mem_cons.1 hp with e | e
        · subst e; exact ⟨c, by simp, hc⟩
        · obtain ⟨d, hd, g⟩ := h2 p e
          exact ⟨d, by simp [hd], g⟩
  obtain ⟨cs, h1, h2⟩ := hlist x hall
  intro q hq
  obtain ⟨c, hc, hqc⟩ := h2 q hq
  have hR := top (fun r p => r ≠ p ∧ covers ps r p ∧ (¬ covers ps p r ∨ plt r p)) (fun a h => h.1 rfl)
    (by
      rintro a b d ⟨_, h2, h3⟩ ⟨_, g2, g3⟩
      have had := covers_trans h2 g2
      by_cases hda : covers ps d a
      · have hdb : covers ps d b := covers_trans hda h2
        have hba : covers ps b a := covers_trans g2 hda
        have l1 : plt a b := by
          rcases h3 with h3 | h3
          · exact absurd hba h3
          · exact h3
        have l2 : plt b d := by
          rcases g3 with g3 | g3
          · exact absurd hdb g3
          · exact g3
        have l3 := ho.trans l1 l2
        exact ⟨fun e => ho.irr d (by rw [e] at l3; exact l3), had, .inr l3⟩
      · refine ⟨fun e => hda (by rw [e]; exact covers_refl ps d), had, .inl hda⟩) cs c hc
  obtain ⟨t, ht, h3, h4⟩ := hR
  have hqt : covers ps t q := by
    have hc1 := (clean_covers ps hqc).1
    rcases h3 with h3 | h3
    · subst h3; exact hc1
    · exact covers_trans h3.2.1 hc1
  refine ⟨t, (h.mem t).2 ⟨h1 t ht, ?_⟩, hqt⟩
  intro u hu hne hcov
  obtain ⟨p, hp, hpu⟩ := hu
  obtain ⟨v, hv, hpv⟩ := h2 p hp
  obtain rfl : v = u := clean_unique hl hpv hpu
  have hno := h4 v hv
  have hct : covers ps t v := by
    by_cases hc' : covers ps t v
    · exact hc'
    · exact absurd ⟨hne, hcov, .inl hc'⟩ hno
  have hnl : ¬ plt v t := fun hl' => hno ⟨hne, hcov, .inr hl'⟩
  refine ⟨hct, ?_⟩
  rcases ho.tot hne with h5 | h5
  · exact absurd h5 hnl
  · exact h5
theorem norm_from (h : Norm lt plt ps x n) : mayGo ps n x := by
  intro c hc
  obtain ⟨⟨p, hp, hpc⟩, _⟩ := (h.mem c).1 hc
  exact ⟨p, hp, (clean_covers ps hpc).2⟩
/- The normal form's own normal form is itself. -/
theorem norm_norm (hl : Order lt) (h : Norm lt plt ps x n) : Norm lt plt ps n n := by
  have hcl : ∀ c, cleaned lt n c ↔ c ∈ n := by
    intro c
    constructor
    · rintro ⟨p, hp, hpc⟩
      obtain ⟨⟨q, _, hqp⟩, _⟩ := (h.mem p).1 hp
      obtain rfl := clean_unique hl hpc (clean_clean hqp)
      exact hp
    · intro hc
      obtain ⟨⟨q, _, hqc⟩, _⟩ := (h.mem c).1 hc
      exact ⟨c, hc, clean_clean hqc⟩
  refine ⟨h.up, fun c => ?_⟩
  rw [hcl c]
  constructor
  · intro hc
    refine ⟨hc, fun q hq hne hcov => ?_⟩
    exact ((h.mem c).1 hc).2 q ((h.mem q).1 ((hcl q).1 hq)).1 hne hcov
  · exact fun hc => hc.1
/- A join: least of those to which both may go. -/
theorem join_both {a b j : List (α × List α)} (hl : Order lt) (ho : Order plt) (h : Norm lt plt ps (a ++ b) j) : mayGo ps a j ∧ mayGo ps b j :=
  ⟨mayGo_trans (mayGo_sub fun _ hp => List.mem_append_left _ hp) (norm_to hl ho h), mayGo_trans (mayGo_sub fun _ hp => List.mem_append_right _ hp) (norm_to hl ho h)⟩
theorem join_least {a b c j : List (α × List α)} (h : Norm lt plt ps (a ++ b) j) (ha : mayGo ps a c) (hb : mayGo ps b c) : mayGo ps j c := by
  refine mayGo_trans (norm_from h) ?_
  intro q hq
  rcases List.mem_append.1 hq with hq | hq
  · exact ha q hq
  · exact hb q hq
/- Without the policies for whose owner one of some acts. -/
def Left (ps : List (α × α)) (bs : List α) (p : α × List α) : Prop := ∃ s ∈ bs, Way ps s p.1
theorem less_to {bs : List α} {y n : List (α × List α)} (hy : ∀ p ∈ y, p ∈ x ∧ ¬ Left ps bs p) (h : Norm lt plt ps y n) : mayGo ps n x :=
  mayGo_trans (norm_from h) (mayGo_sub fun p hp => (hy p hp).1)
theorem less_kept {bs : List α} {y n : List (α × List α)} (hy : ∀ p ∈ y, ¬ Left ps bs p) (h : Norm lt plt ps y n) : ∀ c ∈ n, ¬ Left ps bs c := by
  intro c hc
  obtain ⟨⟨p, hp, hpc⟩, _⟩ := (h.mem c).1 hc
  rintro ⟨s, hs, w⟩
  exact hy p hp ⟨s, hs, by rw [← hpc.own]; exact w⟩
theorem less_none {bs : List α} {y n : List (α × List α)} (hx : ∀ p ∈ x, p.1 ∈ bs) (hy : ∀ p ∈ y, p ∈ x ∧ ¬ Left ps bs p) (h : Norm lt plt ps y n) : n = [] := by
  rw [List.eq_nil_iff_forall_not_mem]
  intro c hc
  obtain ⟨⟨p, hp, _⟩, _⟩ := (h.mem c).1 hc
  exact (hy p hp).2 ⟨p.1, hx p (hy p hp).1, .refl _⟩
end
end Lab
end Go.Proofs.YtcdeicfegfedfaaGreatDoor
