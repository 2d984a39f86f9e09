/- Who acts for whom, in plain words on lists. -/
namespace Go.Proofs.YtcdeicfegfedfaaGreatDoor
namespace Act
variable {α : Type} [DecidableEq α]

/- Is it one of them, and at which place? -/
def has (ls : List α) (v : α) : Bool := decide (v ∈ ls)
def pos (ls : List α) (v : α) : Nat := ls.idxOf v
def posI (ls : List α) (v : α) : Int := if v ∈ ls then (pos ls v : Int) else -1
theorem has_iff {ls : List α} {v : α} : has ls v = true ↔ v ∈ ls := by simp [has]
theorem has_not {ls : List α} {v : α} : has ls v = false ↔ v ∉ ls := by simp [has]
theorem posI_mem {ls : List α} {v : α} (h : v ∈ ls) : posI ls v = (pos ls v : Int) := by simp [posI, h]
theorem posI_not {ls : List α} {v : α} (h : v ∉ ls) : posI ls v = -1 := by simp [posI, h]
theorem pos_hit {ls : List α} {v : α} {k : Nat} (hk : k < ls.length) (hn : v ∉ ls.take k) (e : ls[k] = v) : pos ls v = k := by
  have : ls = ls.take k ++ ls[k] :: ls.drop (k + 1) := by simp
  unfold pos
  rw [this, List.idxOf_append, if_neg hn, e]
  simp
  omega
theorem posI_hit {ls : List α} {v : α} {k : Nat} (hk : k < ls.length) (hn : v ∉ ls.take k) (e : ls[k] = v) : posI ls v = (k : Int) := by
  rw [posI_mem (e ▸ List.getElem_mem hk), pos_hit hk hn e]
theorem posI_geq {ls : List α} {v : α} : decide (0 ≤ posI ls v) = has ls v := by
  by_cases h : v ∈ ls
  · rw [posI_mem h]; simp [h, has]
  · rw [posI_not h]; simp [h, has]
theorem pos_lt {ls : List α} {v : α} (h : v ∈ ls) : pos ls v < ls.length := List.idxOf_lt_length_of_mem h
theorem pos_at {ls : List α} (hn : ls.Nodup) {k : Nat} (hk : k < ls.length) : pos ls ls[k] = k := hn.idxOf_getElem k hk
theorem at_pos {ls : List α} {v : α} (h : v ∈ ls) : ls[pos ls v]'(pos_lt h) = v := List.getElem_idxOf (pos_lt h)
omit [DecidableEq α] in
theorem not_take_succ {ls : List α} {v : α} {k : Nat} (hk : k < ls.length) (hn : v ∉ ls.take k) (e : ls[k] ≠ v) : v ∉ ls.take (k + 1) := by
  rw [List.take_succ_eq_append_getElem hk]
  simp only [List.mem_append, List.mem_singleton, not_or]
  exact ⟨hn, fun g => e g.symm⟩

/- There is a way from one to the other by pairs. -/
inductive Way (ps : List (α × α)) : α → α → Prop
  | refl (a : α) : Way ps a a
  | step {a b c : α} : (a, b) ∈ ps → Way ps b c → Way ps a c
omit [DecidableEq α] in
theorem Way.trans {ps : List (α × α)} {a b c : α} (h : Way ps a b) (g : Way ps b c) : Way ps a c := by
  induction h with
  | refl => exact g
  | step e _ ih => exact .step e (ih g)
omit [DecidableEq α] in
theorem Way.one {ps : List (α × α)} {a b : α} (h : (a, b) ∈ ps) : Way ps a b := .step h (.refl _)
omit [DecidableEq α] in
theorem Way.mono {ps qs : List (α × α)} (hs : ∀ p ∈ ps, p ∈ qs) {a b : α} (h : Way ps a b) : Way qs a b := by
  induction h with
  | refl => exact .refl _
  | step e _ ih => exact .step (hs _ e) ih

/- The table by rounds: by way of those below k. -/
def D (E : Nat → Nat → Bool) (n : Nat) : Nat → Nat → Nat → Bool
  | 0, x, y => decide (x = y ∧ x < n) || E x y
  | k + 1, x, y => D E n k x y || (D E n k x k && D E n k k y)
variable (E : Nat → Nat → Bool) (n : Nat)
theorem D_col (k x : Nat) : D E n (k + 1) x k = D E n k x k := by
  simp only [D]; cases D E n k x k <;> simp
theorem D_row (k y : Nat) : D E n (k + 1) k y = D E n k k y := by
  simp only [D]; cases D E n k k y <;> simp
theorem D_up {k x y : Nat} (h : D E n k x y = true) : D E n (k + 1) x y = true := by simp [D, h]
theorem D_of0 {x y : Nat} (h : D E n 0 x y = true) (k : Nat) : D E n k x y = true := by
  induction k with
  | zero => exact h
  | succ k ih => exact D_up E n ih
theorem D_pivot (k : Nat) : ∀ v x y, v < k → D E n k x v = true → D E n k v y = true → D E n k x y = true := by
  induction k with
  | zero => intro v x y h; omega
  | succ k ih =>
    intro v x y hv h1 h2
    by_cases hk : v = k
    · subst hk
      rw [D_col] at h1; rw [D_row] at h2
      simp [D, h1, h2]
    · have hv' : v < k := by omega
      simp only [D, Bool.or_eq_true, Bool.and_eq_true] at h1 h2 ⊢
      rcases h1 with h1 | ⟨h1, h1'⟩ <;> rcases h2 with h2 | ⟨h2, h2'⟩
      · exact .inl (ih v x y hv' h1 h2)
      · exact .inr ⟨ih v x k hv' h1 h2, h2'⟩
      · exact .inr ⟨h1, ih v k y hv' h1' h2⟩
      · exact .inr ⟨h1, h2'⟩

def edge (ls : List α) (ps : List (α × α)) (x y : Nat) : Bool := ps.any fun p => pos ls p.1 == x && pos ls p.2 == y
theorem edge_iff (ls : List α) (ps : List (α × α)) (x y : Nat) : edge ls ps x y = true ↔ ∃ p ∈ ps, pos ls p.1 = x ∧ pos ls p.2 = y := by
  simp [edge, List.any_eq_true]
/- Right: no one twice, and all pairs are of them. -/
structure Right (ls : List α) (ps : List (α × α)) : Prop where
  nd : ls.Nodup
  mem : ∀ p ∈ ps, p.1 ∈ ls ∧ p.2 ∈ ls
def whole (ls : List α) (ps : List (α × α)) (x y : Nat) : Bool := D (edge ls ps) ls.length ls.length x y
theorem D_in (ls : List α) (ps : List (α × α)) (hr : Right ls ps) (k : Nat) : ∀ x y, D (edge ls ps) ls.length k x y = true → ∃ (hx : x < ls.length) (hy : y < ls.length), Way ps ls[x] ls[y] := by
  induction k with
  | zero =>
    intro x y h
    simp only [D, Bool.or_eq_true, decide_eq_true_eq, edge_iff] at h
    rcases h with ⟨rfl, h⟩ | ⟨p, hp, rfl, rfl⟩
    · exact ⟨h, h, .refl _⟩
    · have h1 := pos_lt (hr.mem p hp).1
      have h2 := pos_lt (hr.mem p hp).2
      refine ⟨h1, h2, ?_⟩
      rw [at_pos (hr.mem p hp).1, at_pos (hr.mem p hp).2]
      exact .one hp
  | succ k ih =>
    intro x y h
    simp only [D, Bool.or_eq_true, Bool.and_eq_true] at h
    rcases h with h | ⟨h, h'⟩
    · exact ih x y h
    · obtain ⟨hx, hk, w1⟩ := ih x k h
      obtain ⟨_, hy, w2⟩ := ih k y h'
      exact ⟨hx, hy, w1.trans w2⟩
theorem whole_of (ls : List α) (ps : List (α × α)) (hr : Right ls ps) {a b : α} (h : Way ps a b) (ha : a ∈ ls) : b ∈ ls ∧ whole ls ps (pos ls a) (pos ls b) = true := by
  induction h with
  | refl a =>
    refine ⟨ha, D_of0 _ _ ?_ _⟩
    simp [D]; exact .inl (pos_lt ha)
  | @step a b c e _ ih =>
    obtain ⟨hc, h2⟩ := ih (hr.mem _ e).2
    refine ⟨hc, ?_⟩
    refine D_pivot _ _ _ (pos ls b) _ _ (pos_lt (hr.mem _ e).2) (D_of0 _ _ ?_ _) h2
    simp only [D, Bool.or_eq_true, edge_iff]
    exact .inr ⟨_, e, rfl, rfl⟩
theorem whole_iff (ls : List α) (ps : List (α × α)) (hr : Right ls ps) {a b : α} (ha : a ∈ ls) (hb : b ∈ ls) : whole ls ps (pos ls a) (pos ls b) = true ↔ Way ps a b := by
  constructor
  · intro h
    obtain ⟨_, _, w⟩ := D_in ls ps hr _ _ _ h
    rwa [at_pos ha, at_pos hb] at w
  · intro h
    exact (whole_of ls ps hr h ha).2
theorem whole_at (ls : List α) (ps : List (α × α)) (hr : Right ls ps) {x y : Nat} (hx : x < ls.length) (hy : y < ls.length) : whole ls ps x y = true ↔ Way ps ls[x] ls[y] := by
  rw [← whole_iff ls ps hr (List.getElem_mem hx) (List.getElem_mem hy), pos_at hr.nd, pos_at hr.nd]
theorem whole_lt (ls : List α) (ps : List (α × α)) (hr : Right ls ps) {x y : Nat} (h : whole ls ps x y = true) : x < ls.length ∧ y < ls.length := by
  obtain ⟨hx, hy, _⟩ := D_in ls ps hr _ _ _ h
  exact ⟨hx, hy⟩

/- Does a act for b; all that act for b. -/
def acts (ls : List α) (ps : List (α × α)) (a b : α) : Bool := whole ls ps (pos ls a) (pos ls b)
def forF (ls : List α) (ps : List (α × α)) (b : α) : List α := ls.filter fun a => acts ls ps a b
theorem acts_iff {ls : List α} {ps : List (α × α)} (hr : Right ls ps) {a b : α} (ha : a ∈ ls) (hb : b ∈ ls) : acts ls ps a b = true ↔ Way ps a b := whole_iff ls ps hr ha hb
theorem forF_mem {ls : List α} {ps : List (α × α)} (hr : Right ls ps) {a b : α} (hb : b ∈ ls) : a ∈ forF ls ps b ↔ a ∈ ls ∧ Way ps a b := by
  simp only [forF, List.mem_filter]
  constructor
  · rintro ⟨h, g⟩; exact ⟨h, (acts_iff hr h hb).1 g⟩
  · rintro ⟨h, g⟩; exact ⟨h, (acts_iff hr h hb).2 g⟩

/- The pairs with no third one between. -/
def mid (ls : List α) (ps : List (α × α)) (a b : α) : List α := ls.filter fun c => decide (c ≠ a) && decide (c ≠ b) && acts ls ps a c && acts ls ps c b
def cover (ls : List α) (ps : List (α × α)) (a b : α) : Bool := decide (a ≠ b) && acts ls ps a b && (mid ls ps a b).isEmpty
def row (ls : List α) (ps : List (α × α)) (a : α) (l : List α) : List (α × α) := (l.filter fun b => cover ls ps a b).map fun b => (a, b)
def leastF (ls : List α) (ps : List (α × α)) : List (α × α) := ls.flatMap fun a => row ls ps a ls
/- Two act for one another. -/
def mutual2 (ls : List α) (ps : List (α × α)) (a b : α) : Bool := decide (a ≠ b) && acts ls ps a b && acts ls ps b a
def Both (ls : List α) (ps : List (α × α)) : Prop := ∃ a ∈ ls, ∃ b ∈ ls, mutual2 ls ps a b = true

theorem least_mem {ls : List α} {ps : List (α × α)} {p : α × α} : p ∈ leastF ls ps ↔ p.1 ∈ ls ∧ p.2 ∈ ls ∧ cover ls ps p.1 p.2 = true := by
  simp only [leastF, row, List.mem_flatMap, List.mem_map, List.mem_filter]
  constructor
  · rintro ⟨a, ha, b, ⟨hb, hc⟩, rfl⟩; exact ⟨ha, hb, hc⟩
  · rintro ⟨h1, h2, h3⟩; exact ⟨p.1, h1, p.2, ⟨h2, h3⟩, rfl⟩
theorem least_right {ls : List α} {ps : List (α × α)} (hr : Right ls ps) : Right ls (leastF ls ps) :=
  ⟨hr.nd, fun _ hp => ⟨(least_mem.1 hp).1, (least_mem.1 hp).2.1⟩⟩
theorem cover_acts {ls : List α} {ps : List (α × α)} {a b : α} (h : cover ls ps a b = true) : a ≠ b ∧ acts ls ps a b = true ∧ mid ls ps a b = [] := by
  simp only [cover, Bool.and_eq_true, decide_eq_true_eq, List.isEmpty_iff] at h
  exact ⟨h.1.1, h.1.2, h.2⟩
theorem least_way {ls : List α} {ps : List (α × α)} (hr : Right ls ps) {a b : α} (h : Way (leastF ls ps) a b) : Way ps a b := by
  induction h with
  | refl => exact .refl _
  | step e _ ih =>
    have := least_mem.1 e
    exact ((acts_iff hr this.1 this.2.1).1 (cover_acts this.2.2).2.1).trans ih
theorem mid_mem {ls : List α} {ps : List (α × α)} {a b c : α} : c ∈ mid ls ps a b ↔ c ∈ ls ∧ c ≠ a ∧ c ≠ b ∧ acts ls ps a c = true ∧ acts ls ps c b = true := by
  simp only [mid, List.mem_filter, Bool.and_eq_true, decide_eq_true_eq]
  constructor
  · rintro ⟨h, ⟨⟨h1, h2⟩, h3⟩, h4⟩; exact ⟨h, h1, h2, h3, h4⟩
  · rintro ⟨h, h1, h2, h3, h4⟩; exact ⟨h, ⟨⟨h1, h2⟩, h3⟩, h4⟩
theorem acts_trans {ls : List α} {ps : List (α × α)} (hr : Right ls ps) {a b c : α} (ha : a ∈ ls) (hb : b ∈ ls) (hc : c ∈ ls) (h : acts ls ps a b = true) (g : acts ls ps b c = true) : acts ls ps a c = true :=
  (acts_iff hr ha hc).2 (((acts_iff hr ha hb).1 h).trans ((acts_iff hr hb hc).1 g))
theorem no_both {ls : List α} {ps : List (α × α)} (hb : ¬ Both ls ps) {a b : α} (ha : a ∈ ls) (hb' : b ∈ ls) (h : acts ls ps a b = true) (g : acts ls ps b a = true) : a = b := by
  by_cases e : a = b
  · exact e
  · exact absurd ⟨a, ha, b, hb', by simp [mutual2, e, h, g]⟩ hb
omit [DecidableEq α] in
theorem shorter {l m : List α} (hl : l.Nodup) (hs : ∀ x ∈ l, x ∈ m) {c : α} (hc : c ∈ m) (hn : c ∉ l) : l.length < m.length := by
  have : (c :: l).length ≤ m.length := List.Nodup.length_le_of_subset (List.nodup_cons.2 ⟨hn, hl⟩) (fun x hx => by
    rcases List.mem_cons.1 hx with rfl | hx
    · exact hc
    · exact hs x hx)
  simp at this; omega
theorem way_least {ls : List α} {ps : List (α × α)} (hr : Right ls ps) (hb : ¬ Both ls ps) : ∀ (k : Nat) (a b : α), (mid ls ps a b).length = k → a ∈ ls → b ∈ ls → acts ls ps a b = true → Way (leastF ls ps) a b := by
  intro k
  induction k using Nat.strongRecOn with
  | _ k ih =>
    intro a b hk ha hb' h
    by_cases e : a = b
    · subst e; exact .refl _
    · by_cases hm : mid ls ps a b = []
      · exact .one (least_mem.2 ⟨ha, hb', by simp [cover, e, h, hm]⟩)
      · obtain ⟨c, hc⟩ := List.exists_mem_of_ne_nil _ hm
        obtain ⟨hcl, hca, hcb, h1, h2⟩ := mid_mem.1 hc
        have l1 : (mid ls ps a c).length < (mid ls ps a b).length := by
          refine shorter (hr.nd.filter _) (fun x hx => ?_) hc (fun g => (mid_mem.1 g).2.2.1 rfl)
          obtain ⟨hxl, hxa, hxc, g1, g2⟩ := mid_mem.1 hx
          refine mid_mem.2 ⟨hxl, hxa, ?_, g1, acts_trans hr hxl hcl hb' g2 h2⟩
          rintro rfl
          exact hcb (no_both hb hcl hb' h2 g2)
        have l2 : (mid ls ps c b).length < (mid ls ps a b).length := by
          refine shorter (hr.nd.filter _) (fun x hx => ?_) hc (fun g => (mid_mem.1 g).2.1 rfl)
          obtain ⟨hxl, hxa, hxc, g1, g2⟩ := mid_mem.1 hx
          refine mid_mem.2 ⟨hxl, ?_, hxc, acts_trans hr ha hcl hxl h1 g1, g2⟩
          rintro rfl
          exact hca (no_both hb hcl ha g1 h1)
        exact (ih _ (by omega) a c rfl ha hcl h1).trans (ih _ (by omega) c b rfl hcl hb' h2)
theorem acts_least {ls : List α} {ps : List (α × α)} (hr : Right ls ps) (hb : ¬ Both ls ps) {a b : α} (ha : a ∈ ls) (hb' : b ∈ ls) : acts ls (leastF ls ps) a b = acts ls ps a b := by
  rw [Bool.eq_iff_iff, acts_iff (least_right hr) ha hb', acts_iff hr ha hb']
  exact ⟨fun h => least_way hr h, fun h => way_least hr hb _ a b rfl ha hb' ((acts_iff hr ha hb').2 h)⟩
theorem for_least {ls : List α} {ps : List (α × α)} (hr : Right ls ps) (hb : ¬ Both ls ps) {b : α} (hb' : b ∈ ls) : forF ls (leastF ls ps) b = forF ls ps b := by
  unfold forF
  exact List.filter_congr fun a ha => acts_least hr hb ha hb'
theorem row_nodup {ls : List α} {ps : List (α × α)} (a : α) {l : List α} (hl : l.Nodup) : (row ls ps a l).Nodup := by
  unfold row
  refine List.Pairwise.map _ ?_ (hl.filter _)
  intro x y hxy h
  exact hxy (by injection h)
theorem least_nodup {ls : List α} {ps : List (α × α)} (hr : Right ls ps) : (leastF ls ps).Nodup := by
  unfold leastF
  have : ∀ l : List α, l.Nodup → (l.flatMap fun a => row ls ps a ls).Nodup := by
    intro l hl
    induction l with
    | nil => simp
    | cons x r ih =>
      rw [List.flatMap_cons, List.nodup_append]
      have hx := List.nodup_cons.1 hl
      refine ⟨row_nodup x hr.nd, ih hx.2, ?_⟩
      intro p hp q hq e
      subst e
      simp only [row, List.mem_flatMap, List.mem_map] at hp hq
      obtain ⟨b, _, rfl⟩ := hp
      obtain ⟨y, hy, c, _, e⟩ := hq
      injection e with e1 e2
      subst e1
      exact hx.1 hy
  exact this ls hr.nd
theorem least_needed {ls : List α} {ps : List (α × α)} (hr : Right ls ps) {k : Nat} (hk : k < (leastF ls ps).length) : acts ls ((leastF ls ps).eraseIdx k) (leastF ls ps)[k].1 (leastF ls ps)[k].2 = false := by
  obtain ⟨h1, h2, h3⟩ := least_mem.1 (List.getElem_mem hk)
  obtain ⟨c1, c2, c3⟩ := cover_acts h3
  have hsub : ∀ p ∈ (leastF ls ps).eraseIdx k, p ∈ leastF ls ps := fun p hp => (List.eraseIdx_subset) hp
  have hr' : Right ls ((leastF ls ps).eraseIdx k) := ⟨hr.nd, fun p hp => (least_right hr).mem p (hsub p hp)⟩
  cases hq : acts ls ((leastF ls ps).eraseIdx k) (leastF ls ps)[k].1 (leastF ls ps)[k].2 with
  | false => rfl
  | true =>
    have w := (acts_iff hr' h1 h2).1 hq
    have hne : ∀ p ∈ (leastF ls ps).eraseIdx k, p ≠ (leastF ls ps)[k] := by
      intro p hp e
      have hnd := least_nodup hr
      rw [List.mem_eraseIdx_iff_getElem] at hp
      obtain ⟨i, hi, hik, e'⟩ := hp
      rw [← e'] at e
      exact hik ((List.getElem_inj hnd).mp e)
    generalize hpk : (leastF ls ps)[k] = pk at *
    obtain ⟨a, b⟩ := pk
    simp only at *
    cases w with
    | refl => exact absurd rfl c1
    | @step _ c _ e w' =>
      have hac := hsub _ e
      obtain ⟨_, g2, g3⟩ := least_mem.1 hac
      obtain ⟨d1, d2, _⟩ := cover_acts g3
      have hcb : c ≠ b := by
        rintro rfl
        exact hne _ e rfl
      have wcb : Way ps c b := least_way hr (w'.mono hsub)
      have : c ∈ mid ls ps a b := mid_mem.2 ⟨g2, fun e => d1 e.symm, hcb, d2, (acts_iff hr g2 h2).2 wcb⟩
      rw [c3] at this
      cases this
end Act
end Go.Proofs.YtcdeicfegfedfaaGreatDoor
