/- The normal form by one pass over what is sorted; how many policies it can have. -/
import Derived.Test.YtjidnkecjkngnaaLabB
namespace Go.Proofs.Ytjidnkecjkngnaa
namespace Lab
variable {α β : Type}

/- One pass: what is covered is left out; what the new one covers goes. -/
def stepN (cov : β → β → Bool) (out : List β) (p : β) : List β := if (out.any fun q => cov q p) = true then out else (out.filter fun q => !cov p q) ++ [p]
structure Inv (C : β → β → Prop) (plt : β → β → Prop) (L out : List β) : Prop where
  up : out.Pairwise plt
  sub : ∀ c ∈ out, c ∈ L
  cov : ∀ q ∈ L, ∃ c ∈ out, C c q
  top : ∀ c ∈ out, ∀ q ∈ L, C q c → C c q ∧ (q = c ∨ plt c q)
theorem inv_nil (C : β → β → Prop) (plt : β → β → Prop) : Inv C plt [] [] := ⟨.nil, (fun c h => by cases h), (fun q h => by cases h), (fun c h => by cases h)⟩
theorem inv_step {C : β → β → Prop} {plt : β → β → Prop} {cov : β → β → Bool} {L out : List β} {p : β} (refl : ∀ a, C a a) (trans : ∀ {a b c}, C a b → C b c → C a c)
    (hc : ∀ a ∈ L ++ [p], ∀ b ∈ L ++ [p], cov a b = true ↔ C a b) (hs : ∀ q ∈ L, q = p ∨ plt q p) (h : Inv C plt L out) : Inv C plt (L ++ [p]) (stepN cov out p) := by
  have inL : ∀ {c}, c ∈ out → c ∈ L ++ [p] := fun hc => List.mem_append_left _ (h.sub _ hc)
  have hp : p ∈ L ++ [p] := by simp
  have split : ∀ {q}, q ∈ L ++ [p] → q ∈ L ∨ q = p := fun hq => by simpa using hq
  by_cases hany : (out.any fun q => cov q p) = true
  · obtain ⟨c, hco, hcp⟩ := List.any_eq_true.1 hany
    have hcp' : C c p := (hc c (inL hco) p hp).1 hcp
    rw [stepN, if_pos hany]
    refine ⟨h.up, fun d hd => inL hd, fun q hq => ?_, fun d hd q hq hqd => ?_⟩
    · rcases split hq with hq | hq
      · exact h.cov q hq
      · rw [hq]; exact ⟨c, hco, hcp'⟩
    · rcases split hq with hq | hq
      · exact h.top d hd q hq hqd
      · subst hq
        obtain ⟨k1, _⟩ := h.top d hd c (h.sub c hco) (trans hcp' hqd)
        refine ⟨trans k1 hcp', ?_⟩
        rcases hs d (h.sub d hd) with e | e
        · exact .inl e.symm
        · exact .inr e
  · have hno : ∀ c ∈ out, ¬ C c p := fun c hco hcp => hany (List.any_eq_true.2 ⟨c, hco, (hc c (inL hco) p hp).2 hcp⟩)
    have hf : ∀ {c}, c ∈ out.filter (fun q => !cov p q) ↔ c ∈ out ∧ ¬ C p c := by
      intro c
      rw [List.mem_filter]
      constructor
      · rintro ⟨h1, h2⟩
        refine ⟨h1, fun hpc => ?_⟩
        rw [(hc p hp c (inL h1)).2 hpc] at h2
        cases h2
      · rintro ⟨h1, h2⟩
        refine ⟨h1, ?_⟩
        cases hq : cov p c with
        | false => rfl
        | true => exact absurd ((hc p hp c (inL h1)).1 hq) h2
    rw [stepN, if_neg hany]
    refine ⟨?_, fun d hd => ?_, fun q hq => ?_, fun d hd q hq hqd => ?_⟩
    · rw [List.pairwise_append]
      refine ⟨h.up.filter _, by simp, fun a ha b hb => ?_⟩
      have hb' : b = p := by simpa using hb
      subst hb'
      have ha' := hf.1 ha
      rcases hs a (h.sub a ha'.1) with e | e
      · exact absurd (e ▸ refl a) (hno a ha'.1)
      · exact e
    · rcases List.mem_append.1 hd with hd | hd
      · exact inL (hf.1 hd).1
      · have e : d = p := by simpa using hd
        rw [e]; exact hp
    · rcases split hq with hq | hq
      · obtain ⟨c, h1, h2⟩ := h.cov q hq
        by_cases hpc : C p c
        · exact ⟨p, by simp, trans hpc h2⟩
        · exact ⟨c, List.mem_append_left _ (hf.2 ⟨h1, hpc⟩), h2⟩
      · rw [hq]; exact ⟨p, by simp, refl p⟩
    · rcases List.mem_append.1 hd with hd | hd
      · obtain ⟨h1, h2⟩ := hf.1 hd
        rcases split hq with hq | hq
        · exact h.top d h1 q hq hqd
        · rw [hq] at hqd; exact absurd hqd h2
      · have e : d = p := by simpa using hd
        subst e
        rcases split hq with hq | hq
        · obtain ⟨c, h1, h2⟩ := h.cov q hq
          exact absurd (trans h2 hqd) (hno c h1)
        · rw [hq]; exact ⟨refl d, .inl rfl⟩
theorem inv_fold {C : β → β → Prop} {plt : β → β → Prop} {cov : β → β → Bool} (refl : ∀ a, C a a) (trans : ∀ {a b c}, C a b → C b c → C a c) : ∀ (M L out : List β), (∀ a ∈ L ++ M, ∀ b ∈ L ++ M, cov a b = true ↔ C a b) → (L ++ M).Pairwise (fun a b => a = b ∨ plt a b) → Inv C plt L out → Inv C plt (L ++ M) (M.foldl (stepN cov) out)
  | [], L, out, _, _, h => by simpa using h
  | p :: M, L, out, hc, hs, h => by
    have e : L ++ p :: M = (L ++ [p]) ++ M := by simp
    rw [e] at hc hs ⊢
    refine inv_fold refl trans M (L ++ [p]) _ hc hs (inv_step refl trans (fun a ha b hb => hc a (List.mem_append_left _ ha) b (List.mem_append_left _ hb)) (fun q hq => ?_) h)
    have := (List.pairwise_append.1 (List.pairwise_append.1 hs).1).2.2 q hq p (by simp)
    exact this
/- What the pass leaves is the normal form. -/
theorem norm_fold {lt : α → α → Prop} {plt : α × List α → α × List α → Prop} {ps : List (α × α)} {cov : α × List α → α × List α → Bool} {x R : List (α × List α)} (ho : Order plt) (hR : ∀ c, c ∈ R ↔ cleaned lt x c) (hs : R.Pairwise (fun a b => a = b ∨ plt a b)) (hc : ∀ a ∈ R, ∀ b ∈ R, cov a b = true ↔ covers ps a b) : Norm lt plt ps x (R.foldl (stepN cov) []) := by
  have h := inv_fold (C := covers ps) (plt := plt) (cov := cov) (covers_refl ps) covers_trans R [] [] (by simpa using hc) (by simpa using hs) (inv_nil _ _)
  simp only [List.nil_append] at h
  refine ⟨h.up, fun c => ⟨fun hcn => ⟨(hR c).1 (h.sub c hcn), fun q hq hne hqc => ?_⟩, fun ⟨hcl, hst⟩ => ?_⟩⟩
  · obtain ⟨k1, k2⟩ := h.top c hcn q ((hR q).2 hq) hqc
    rcases k2 with e | e
    · exact absurd e hne
    · exact ⟨k1, e⟩
  · obtain ⟨d, h1, h2⟩ := h.cov c ((hR c).2 hcl)
    by_cases e : d = c
    · rw [← e]; exact h1
    · obtain ⟨k1, k2⟩ := hst d ((hR d).1 (h.sub d h1)) e h2
      obtain ⟨_, k4⟩ := h.top d h1 c ((hR c).2 hcl) k1
      rcases k4 with e' | e'
      · exact absurd e'.symm e
      · exact absurd (ho.trans k2 e') (ho.irr c)

/- All parts of a list. -/
def parts : List α → List (List α)
  | [] => [[]]
  | a :: l => parts l ++ (parts l).map (a :: ·)
theorem parts_len (l : List α) : (parts l).length = 2 ^ l.length := by
  induction l with
  | nil => rfl
  | cons a l ih => simp [parts, ih, Nat.pow_succ]; omega
theorem filter_part (P : α → Bool) (l : List α) : l.filter P ∈ parts l := by
  induction l with
  | nil => simp [parts]
  | cons a l ih =>
    rw [List.filter_cons]
    split
    · exact List.mem_append_right _ (List.mem_map.2 ⟨_, ih, rfl⟩)
    · exact List.mem_append_left _ ih
theorem flat_len {l : List α} {f : α → List β} {m : Nat} (h : ∀ a ∈ l, (f a).length ≤ m) : (l.flatMap f).length ≤ l.length * m := by
  induction l with
  | nil => simp
  | cons a l ih =>
    have h1 := h a (by simp)
    have h2 := ih fun b hb => h b (by simp [hb])
    rw [List.flatMap_cons, List.length_append, List.length_cons, Nat.succ_mul]
    omega
theorem sorted_nodup {lt : β → β → Prop} (ho : Order lt) {l : List β} (h : l.Pairwise lt) : l.Nodup := by
  refine List.Pairwise.imp (S := fun a b => a ≠ b) ?_ h
  intro a b hab e
  exact ho.irr a (by rw [← e] at hab; exact hab)
/- Of six names there are at most 192 policies that are clean. -/
theorem norm_few {lt : α → α → Prop} {plt : α × List α → α × List α → Prop} (hl : Order lt) (ho : Order plt) {ls : List α} (h6 : ls.length ≤ 6) {n : List (α × List α)} (hn : n.Pairwise plt) (hcl : ∀ c ∈ n, CleanOf lt c c) (hof : ∀ c ∈ n, c.1 ∈ ls ∧ ∀ r ∈ c.2, r ∈ ls) : n.length ≤ 192 := by
  classical
  have hS : ∀ o : α, ∃ S : List α, S.Pairwise lt ∧ ∀ r, r ∈ S ↔ r ∈ ls ∧ r ≠ o := fun o => sorted_exists hl (fun r => r ≠ o) ls
  let S := fun o => Classical.choose (hS o)
  have hS1 : ∀ o, (S o).Pairwise lt := fun o => (Classical.choose_spec (hS o)).1
  have hS2 : ∀ o r, r ∈ S o ↔ r ∈ ls ∧ r ≠ o := fun o => (Classical.choose_spec (hS o)).2
  have hlen : ∀ o ∈ ls, (S o).length ≤ 5 := by
    intro o ho'
    have : (o :: S o).length ≤ ls.length := List.Nodup.length_le_of_subset (List.nodup_cons.2 ⟨fun h => ((hS2 o o).1 h).2 rfl, sorted_nodup hl (hS1 o)⟩) (fun r hr => by
      rcases List.mem_cons.1 hr with e | e
      · rw [e]; exact ho'
      · exact ((hS2 o r).1 e).1)
    simp at this; omega
  have hsub : ∀ c ∈ n, c ∈ ls.flatMap fun o => (parts (S o)).map fun r => (o, r) := by
    intro c hc
    obtain ⟨o, r⟩ := c
    have hcl' := hcl _ hc
    obtain ⟨k1, k2⟩ := hof _ hc
    rw [List.mem_flatMap]
    refine ⟨o, k1, List.mem_map.2 ⟨r, ?_, rfl⟩⟩
    have e : r = (S o).filter (fun a => decide (a ∈ r)) := sorted_unique hl hcl'.up ((hS1 o).filter _) (fun a => by
      simp only [List.mem_filter, decide_eq_true_eq, hS2]
      constructor
      · intro ha; exact ⟨⟨k2 a ha, ((hcl'.mem a).1 ha).2⟩, ha⟩
      · exact fun ha => ha.2)
    rw [e]; exact filter_part _ _
  have h1 := List.Nodup.length_le_of_subset (sorted_nodup ho hn) hsub
  have h2 : (ls.flatMap fun o => (parts (S o)).map fun r => (o, r)).length ≤ ls.length * 32 := flat_len fun o ho' => by
    rw [List.length_map, parts_len]
    have := hlen o ho'
    exact Nat.le_trans (Nat.pow_le_pow_right (by omega) this) (by decide)
  have h3 : ls.length * 32 ≤ 6 * 32 := Nat.mul_le_mul_right _ h6
  omega
end Lab
end Go.Proofs.Ytjidnkecjkngnaa
