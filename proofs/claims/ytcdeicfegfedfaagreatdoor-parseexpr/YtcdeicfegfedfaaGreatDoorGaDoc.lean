/- What a Name is, in plain words. How a text is read as tokens, wherever they stand. Tokens as a text has them; what stands alone, in the order in which the document's own reader asks. Plain words. What the document's stack has come to, in plain words: what is left of the tokens decides. -/
import Derived.Test.YtcdeicfegfedfaaGreatDoorGaLex
import Derived.Test.YtcdeicfegfedfaaGreatDoorGaPar
namespace Go.Proofs.YtcdeicfegfedfaaGreatDoor
namespace Lex
def nameF (l : List UInt8) : Bool := !l.isEmpty && decide (l.length ≤ 12) && alphaB (c0 l) && decide (runLen nameB l = l.length) && !wordB l
theorem nameF_end {l : List UInt8} (h0 : l ≠ []) (h : l.length ≤ 12) (ha : alphaB (c0 l) = true) (hr : runLen nameB l = l.length) : nameF l = !wordB l := by
  have e : l.isEmpty = false := by simpa using h0
  simp [nameF, e, h, ha, hr]
theorem nameF_long {l : List UInt8} (h : ¬ l.length ≤ 12) : nameF l = false := by simp [nameF, h]
theorem nameF_first {l : List UInt8} (h : alphaB (c0 l) = false) : nameF l = false := by simp [nameF, h]
theorem nameF_run {l : List UInt8} (h : ¬ runLen nameB l = l.length) : nameF l = false := by simp [nameF, h]
theorem nameF_word {l : List UInt8} (h : wordB l = true) : nameF l = false := by simp [nameF, h]
end Lex
end Go.Proofs.YtcdeicfegfedfaaGreatDoor

namespace Go.Proofs.YtcdeicfegfedfaaGreatDoor
namespace Lex

/- A token without its place. -/
abbrev KT := Int × List UInt8
def bare (t : Tok) : KT := (t.1, t.2.2)
inductive Sc : List UInt8 → List KT → Prop
  | nil {l : List UInt8} (h : l.drop (gapF false l) = []) : Sc l []
  | cons {l r t : List UInt8} {k : Int} {ks : List KT} (hr : l.drop (gapF false l) = r) (h0 : r ≠ []) (hf : firstF r = (k, t, 0)) (hs : Sc (r.drop t.length) ks) : Sc l ((k, t) :: ks)
theorem Sc.det {l : List UInt8} {a b : List KT} (h : Sc l a) (g : Sc l b) : a = b := by
  induction h generalizing b with
  | nil h =>
    cases g with
    | nil _ => rfl
    | cons hr h0 _ _ => exact absurd (hr.symm.trans h) h0
  | cons hr h0 hf _ ih =>
    cases g with
    | nil h => exact absurd (hr.symm.trans h) h0
    | cons hr' h0' hf' hs' =>
      have e := hr.symm.trans hr'
      subst e
      have e2 := hf.symm.trans hf'
      simp only [Prod.mk.injEq, and_true] at e2
      obtain ⟨rfl, rfl⟩ := e2
      rw [ih hs']
theorem scan_sc (l : List UInt8) : ∀ (f p : Nat) (acc out : List Tok) (q : Nat), p ≤ l.length → l.length - p < f → scanF l f p acc = (out, 0, q) → ∃ ks, Sc (l.drop p) ks ∧ out.map bare = acc.map bare ++ ks := by
  intro f
  induction f with
  | zero => intro p acc out q hp hf; omega
  | succ f ih =>
    intro p acc out q hp hfl h
    have hg := gap_end_le l p hp
    obtain ⟨a, ha⟩ : ∃ a, a = p + gapF false (l.drop p) := ⟨_, rfl⟩
    have hd : (l.drop p).drop (gapF false (l.drop p)) = l.drop a := by rw [List.drop_drop, ha]
    by_cases he : a = l.length
    · rw [scan_end (step_end ha.symm he)] at h
      simp only [Prod.mk.injEq] at h
      obtain ⟨rfl, _, _⟩ := h
      exact ⟨[], .nil (by rw [hd, he, List.drop_length]), by simp⟩
    · obtain ⟨k, t, c, hff⟩ : ∃ k t c, firstF (l.drop a) = (k, t, c) := ⟨_, _, _, rfl⟩
      have hne : l.drop a ≠ [] := by
        intro e
        have := congrArg List.length e
        rw [List.length_drop, List.length_nil] at this
        omega
      by_cases hc : c = 0
      · subst hc
        have hst := step_tok ha.symm he hff
        obtain ⟨hk, ht0, _, htl⟩ := first_ok hff hne
        rw [List.length_drop] at htl
        by_cases h6 : acc.length = 600
        · rw [scan_full hst hk h6] at h
          simp at h
        · rw [scan_on hst hk h6] at h
          obtain ⟨ks, h1, h2⟩ := ih (a + t.length) _ out q (by omega) (by omega) h
          refine ⟨(k, t) :: ks, .cons hd hne hff ?_, ?_⟩
          · rw [List.drop_drop]; exact h1
          · rw [h2]; simp [bare]
      · rw [scan_bad (step_bad ha.symm he hff hc) hc] at h
        simp only [Prod.mk.injEq] at h
        exact absurd h.2.1 hc
theorem all_sc {l : List UInt8} {out : List Tok} {q : Nat} (h : scanAll l = (out, 0, q)) : Sc l (out.map bare) := by
  unfold scanAll at h
  split at h
  · simp at h
  · obtain ⟨ks, h1, h2⟩ := scan_sc l _ 0 [] out q (Nat.zero_le _) (by omega) h
    rw [h2]
    simpa using h1
/- A blank more. -/
theorem Sc.blank {l : List UInt8} {ks : List KT} (h : Sc l ks) : Sc (32 :: l) ks := by
  have e : (32 :: l).drop (gapF false (32 :: l)) = l.drop (gapF false l) := by
    have : gapF false (32 :: l) = gapF false l + 1 := by simp [gapF, blankB]
    rw [this, List.drop_succ_cons]
  cases h with
  | nil h => exact .nil (e.trans h)
  | cons hr h0 hf hs => exact .cons (e.trans hr) h0 hf hs
/- A token more. -/
theorem Sc.tok {t r : List UInt8} {k : Int} {ks : List KT} (h0 : t ≠ []) (hg : gapF false (t ++ r) = 0) (hf : firstF (t ++ r) = (k, t, 0)) (h : Sc r ks) : Sc (t ++ r) ((k, t) :: ks) := by
  refine .cons (r := t ++ r) (by rw [hg]; rfl) (by simp [h0]) hf ?_
  rw [List.drop_left]; exact h
/- What follows goes on no name and no number. -/
def Stop (r : List UInt8) : Prop := r = [] ∨ nameB (c0 r) = false
theorem stop_cons {c : UInt8} {r : List UInt8} (h : nameB (c.toNat : Int) = false) : Stop (c :: r) := .inr h
theorem run_stops (p : Int → Bool) (hp : ∀ c, p c = true → nameB c = true) (t r : List UInt8) (ht : ∀ c ∈ t, p (c.toNat : Int) = true) (hr : Stop r) : runLen p (t ++ r) = t.length := by
  induction t with
  | nil =>
    match r, hr with
    | [], _ => rfl
    | c :: r, hr =>
      have h : nameB (c.toNat : Int) = false := by
        rcases hr with h | h
        · cases h
        · exact h
      have : p (c.toNat : Int) = false := by
        cases hq : p (c.toNat : Int) with
        | false => rfl
        | true => rw [hp _ hq] at h; cases h
      simp [runLen, this]
  | cons a t ih =>
    simp only [List.cons_append, runLen, ht a (by simp), if_true, List.length_cons]
    rw [ih (fun c hc => ht c (by simp [hc]))]
theorem run_all {p : Int → Bool} {t : List UInt8} (h : runLen p t = t.length) : ∀ c ∈ t, p (c.toNat : Int) = true := by
  have := (run_take p t).2
  rw [h, List.take_length] at this
  exact this
/- A name; a word; a number; signs. -/
theorem sc_letters {t r : List UInt8} {k : Int} {ks : List KT} (h0 : t ≠ []) (ha : alphaB (c0 t) = true) (hn : ∀ c ∈ t, nameB (c.toNat : Int) = true) (hl : lettersF t = (k, t, 0)) (hr : Stop r) (h : Sc r ks) : Sc (t ++ r) ((k, t) :: ks) := by
  have hc : c0 (t ++ r) = c0 t := c0_append h0 r
  refine Sc.tok h0 (gap_zero ?_ ?_) ?_ h
  · rw [hc]; exact (alpha_gap ha).1
  · rw [hc]; exact (alpha_gap ha).2
  · rw [first_alpha (by rw [hc]; exact ha), run_stops nameB (fun _ h => h) t r hn hr, List.take_left, hl]
theorem sc_name {t r : List UInt8} {ks : List KT} (hn : nameF t = true) (hr : Stop r) (h : Sc r ks) : Sc (t ++ r) ((1, t) :: ks) := by
  unfold nameF at hn
  simp only [Bool.and_eq_true, Bool.not_eq_true', decide_eq_true_eq] at hn
  obtain ⟨⟨⟨⟨h1, h2⟩, h3⟩, h4⟩, h5⟩ := hn
  have h0 : t ≠ [] := by intro e; rw [e] at h1; cases h1
  refine sc_letters h0 h3 (run_all h4) ?_ hr h
  unfold lettersF
  rw [if_neg (by omega), if_neg (by simp [h5])]
theorem sc_word {t r : List UInt8} {ks : List KT} (hw : wordB t = true) (h12 : t.length ≤ 12) (h0 : t ≠ []) (ha : alphaB (c0 t) = true) (hn : ∀ c ∈ t, nameB (c.toNat : Int) = true) (hr : Stop r) (h : Sc r ks) : Sc (t ++ r) ((3, t) :: ks) := by
  refine sc_letters h0 ha hn ?_ hr h
  unfold lettersF
  rw [if_neg (by omega), if_pos hw]
theorem digit_alpha {c : Int} (h : digitB c = true) : alphaB c = false := by
  simp [digitB] at h; simp [alphaB]; omega
theorem sc_digits {t r : List UInt8} {ks : List KT} (h0 : t ≠ []) (hd : ∀ c ∈ t, digitB (c.toNat : Int) = true) (h9 : t.length ≤ 9) (hz : 1 < t.length → t.head? ≠ some 48) (hr : Stop r) (h : Sc r ks) : Sc (t ++ r) ((2, t) :: ks) := by
  have hc : c0 (t ++ r) = c0 t := c0_append h0 r
  have hd0 : digitB (c0 t) = true := by
    match t, h0 with
    | a :: t, _ => exact hd a (by simp)
  refine Sc.tok h0 (gap_zero ?_ ?_) ?_ h
  · rw [hc]; exact (digit_gap hd0).1
  · rw [hc]; exact (digit_gap hd0).2
  · rw [first_digit (by rw [hc]; exact digit_alpha hd0) (by rw [hc]; exact hd0), run_stops digitB (fun c h => by simp [nameB, h]) t r hd hr, List.take_left]
    unfold digitsF
    rw [if_neg]
    rintro (h' | ⟨h', h''⟩)
    · omega
    · exact hz h' h''
theorem sc_one {a : UInt8} {r : List UInt8} {ks : List KT} (ha : oneB (a.toNat : Int) = true) (h2 : twoB ((a :: r).take 2) = false) (h : Sc r ks) : Sc (a :: r) ((4, [a]) :: ks) := by
  obtain ⟨g1, g2, g3, g4⟩ := one_gap ha
  refine Sc.tok (t := [a]) (by simp) (gap_zero g1 g2) ?_ h
  have hs : signF ([a] ++ r) = [a] := by
    show signF (a :: r) = [a]
    unfold signF
    rw [if_neg (by rw [h2]; simp)]
    have : oneB (c0 (a :: r)) = true := ha
    rw [if_pos this]; rfl
  rw [first_sign (l := [a] ++ r) (show alphaB (c0 (a :: r)) = false from g3) (show digitB (c0 (a :: r)) = false from g4) (by rw [hs]; simp), hs]
theorem sc_two {a b : UInt8} {r : List UInt8} {ks : List KT} (h2 : twoB [a, b] = true) (h : Sc r ks) : Sc (a :: b :: r) ((4, [a, b]) :: ks) := by
  obtain ⟨g1, g2, g3, g4, _, _⟩ := two_gap h2
  refine Sc.tok (t := [a, b]) (by simp) (gap_zero g1 g2) ?_ h
  have hs : signF ([a, b] ++ r) = [a, b] := by
    show signF (a :: b :: r) = [a, b]
    unfold signF
    have : (a :: b :: r).take 2 = [a, b] := rfl
    rw [this, if_pos h2]
  rw [first_sign (l := [a, b] ++ r) (show alphaB (c0 (a :: b :: r)) = false from g3) (show digitB (c0 (a :: b :: r)) = false from g4) (by rw [hs]; simp), hs]
/- A sign that starts no other one. -/
theorem lone_two {a : UInt8} (h : a ≠ 38) (h1 : a ≠ 124) (h2 : a ≠ 61) (h3 : a ≠ 33) (h4 : a ≠ 60) (h5 : a ≠ 62) (r : List UInt8) : twoB ((a :: r).take 2) = false := by
  cases r with
  | nil => simp [twoB]
  | cons b r => simp [twoB, h, h1, h2, h3, h4, h5]
end Lex
end Go.Proofs.YtcdeicfegfedfaaGreatDoor

namespace Go.Proofs.YtcdeicfegfedfaaGreatDoor
namespace Lex

/- A word, a sign, a name, a number: what can't be taken for one another. -/
def GoodK (k : KT) : Prop := (k.1 = 3 ∧ wordB k.2 = true) ∨ (k.1 = 4 ∧ nameB (c0 k.2) = false ∧ k.2 ≠ []) ∨ (k.1 = 1 ∧ alphaB (c0 k.2) = true ∧ wordB k.2 = false) ∨ (k.1 = 2 ∧ digitB (c0 k.2) = true)
theorem word_alpha {s : List UInt8} (h : wordB s = true) : alphaB (c0 s) = true := by
  simp only [wordB, Bool.or_eq_true, beq_iff_eq] at h
  rcases h with (((((((((((((((((((h | h) | h) | h) | h) | h) | h) | h) | h) | h) | h) | h) | h) | h) | h) | h) | h) | h) | h) | h) | h <;> rw [h] <;> decide
theorem take_c0 {p : Int → Bool} {l : List UInt8} (h0 : l ≠ []) (h : p (c0 l) = true) : c0 (l.take (runLen p l)) = c0 l := by
  match l, h0 with
  | a :: r, _ =>
    have h' : p (a.toNat : Int) = true := h
    have e : runLen p (a :: r) = runLen p r + 1 := by simp [runLen, h']
    rw [e]; rfl
theorem first_goodK {l t : List UInt8} {k : Int} (h : firstF l = (k, t, 0)) (h0 : l ≠ []) : GoodK (k, t) := by
  unfold firstF at h
  split at h
  · rename_i ha
    have hc : c0 (l.take (runLen nameB l)) = c0 l := take_c0 h0 (by simp [nameB, ha])
    unfold lettersF at h
    split at h
    · simp at h
    · split at h
      · rename_i hw
        simp only [Prod.mk.injEq, and_true] at h
        obtain ⟨rfl, rfl⟩ := h
        exact .inl ⟨rfl, hw⟩
      · rename_i hw
        simp only [Prod.mk.injEq, and_true] at h
        obtain ⟨rfl, rfl⟩ := h
        exact .inr (.inr (.inl ⟨rfl, by show alphaB (c0 _) = true; rw [hc]; exact ha, by simpa using hw⟩))
  · rename_i ha
    split at h
    · rename_i hd
      have hc : c0 (l.take (runLen digitB l)) = c0 l := take_c0 h0 hd
      unfold digitsF at h
      split at h
      · simp at h
      · simp only [Prod.mk.injEq, and_true] at h
        obtain ⟨rfl, rfl⟩ := h
        exact .inr (.inr (.inr ⟨rfl, by show digitB (c0 _) = true; rw [hc]; exact hd⟩))
    · rename_i hd
      split at h
      · simp at h
      · rename_i hs
        simp only [Prod.mk.injEq, and_true] at h
        obtain ⟨rfl, rfl⟩ := h
        have hne : signF l ≠ [] := by simpa using hs
        refine .inr (.inl ⟨rfl, ?_, hne⟩)
        show nameB (c0 (signF l)) = false
        have hn : nameB (c0 l) = false := by simp [nameB, ha, hd]
        have hc : c0 (signF l) = c0 l := by
          unfold signF at hne ⊢
          match l, h0 with
          | a :: r, _ =>
            split
            · cases r <;> rfl
            · rename_i h2
              rw [if_neg h2] at hne
              split
              · rfl
              · rename_i h3
                rw [if_neg h3] at hne
                exact absurd rfl hne
        rw [hc]; exact hn
theorem sc_good {l : List UInt8} {ks : List KT} (h : Sc l ks) : ∀ k ∈ ks, GoodK k := by
  induction h with
  | nil _ => intro k hk; cases hk
  | cons _ h0 hf _ ih =>
    intro k hk
    rcases List.mem_cons.1 hk with rfl | hk
    · exact first_goodK hf h0
    · exact ih k hk
theorem scan_good {l : List UInt8} {out : List Tok} {q : Nat} (h : scanAll l = (out, 0, q)) : ∀ t ∈ out, GoodK (bare t) := fun t ht => sc_good (all_sc h) _ (List.mem_map.2 ⟨t, ht, rfl⟩)
end Lex
namespace Par
open Lex (KT bare GoodK)

def Good (ts : List Tok) : Prop := ∀ t ∈ ts, GoodK (bare t)
theorem Good.tail {ts : List Tok} (h : Good ts) : Good ts.tail := fun t ht => h t (List.mem_of_mem_tail ht)
theorem Good.sfx {a b : List Tok} (h : Good b) (hs : a <:+ b) : Good a := fun t ht => h t (hs.subset ht)
/- A word or a sign. -/
def Fix (s : List UInt8) : Prop := Lex.wordB s = true ∨ Lex.nameB (Lex.c0 s) = false
theorem fix_kind {t : Tok} (hg : GoodK (bare t)) {s : List UInt8} (hs : Fix s) (he : t.2.2 = s) : t.1 = 3 ∨ t.1 = 4 := by
  subst he
  rcases hg with ⟨h, _⟩ | ⟨h, _⟩ | ⟨_, h1, h2⟩ | ⟨_, h1⟩
  · exact .inl h
  · exact .inr h
  · have h1' : Lex.alphaB (Lex.c0 t.2.2) = true := h1
    have h2' : Lex.wordB t.2.2 = false := h2
    rcases hs with hs | hs
    · rw [h2'] at hs; cases hs
    · simp [Lex.nameB, h1'] at hs
  · have h1' : Lex.digitB (Lex.c0 t.2.2) = true := h1
    rcases hs with hs | hs
    · have := Lex.word_alpha hs
      rw [Lex.digit_alpha h1'] at this; cases this
    · simp [Lex.nameB, h1'] at hs
def seesB (s : List UInt8) (ts : List Tok) : Bool := isT s ts && ((nx ts).1 == 3 || (nx ts).1 == 4)
theorem sees_eq {s : List UInt8} {ts : List Tok} (hg : Good ts) (hs : Fix s) (h0 : s ≠ []) : seesB s ts = isT s ts := by
  unfold seesB
  cases hi : isT s ts with
  | false => rfl
  | true =>
    match ts with
    | [] =>
      unfold isT nx at hi
      simp at hi
      exact absurd hi h0
    | t :: q =>
      have he : t.2.2 = s := by
        unfold isT nx at hi
        simpa using hi
      rcases fix_kind (hg t (by simp)) hs he with h | h
      · simp [nx, h]
      · simp [nx, h]
def wTrue : List UInt8 := [116, 114, 117, 101]
def wFalse : List UInt8 := [102, 97, 108, 115, 101]
def wRelease : List UInt8 := [114, 101, 108, 101, 97, 115, 101]
/- What stands alone, as the document's own reader asks. -/
def oneD (e : Nat) (E P : List Tok → Res Tr) (ts : List Tok) : Res Tr :=
  if (nx ts).1 = 2 then .ok (.mk 1 (nx ts).2.1 (numV (nx ts).2.2) 1 (ba []) [] []) ts.tail
  else if seesB wTrue ts = true then .ok (.mk 1 (nx ts).2.1 1 2 (ba []) [] []) ts.tail
  else if seesB wFalse ts = true then .ok (.mk 1 (nx ts).2.1 0 2 (ba []) [] []) ts.tail
  else if seesB [45] ts = true ∨ seesB [33] ts = true then (P ts.tail).bind fun x r => .ok (opT (nx ts) [x]) r
  else if seesB [40] ts = true then (E ts.tail).bind fun x r => (must e [41] r).bind fun _ r2 => .ok x r2
  else if seesB wRelease ts = true then relR e E ts
  else (nameR e ts).bind fun s r => if isT [40] r = true then (encl e [40] [44] [41] 4 E r).bind fun a r2 => .ok (.mk 4 (nx ts).2.1 0 0 s [] a) r2 else .ok (.mk 2 (nx ts).2.1 0 0 s [] []) r
theorem nx_head (t : Tok) (q : List Tok) : nx (t :: q) = t := rfl
theorem one_prim {e : Nat} {E P : List Tok → Res Tr} {ts : List Tok} (hg : Good ts) : oneD e E P ts = primF e E P ts := by
  have s1 := sees_eq hg (s := wTrue) (.inl (by decide)) (by decide)
  have s2 := sees_eq hg (s := wFalse) (.inl (by decide)) (by decide)
  have s3 := sees_eq hg (s := [45]) (.inr (by decide)) (by decide)
  have s4 := sees_eq hg (s := [33]) (.inr (by decide)) (by decide)
  have s5 := sees_eq hg (s := [40]) (.inr (by decide)) (by decide)
  have s6 := sees_eq hg (s := wRelease) (.inl (by decide)) (by decide)
  match ts with
  | [] => rfl
  | t :: q =>
    have ht := hg t (by simp)
    have yes : ∀ {s : List UInt8}, t.2.2 = s → isT s (t :: q) = true := fun {s} h => by unfold isT; rw [nx_head, h]; simp
    have no : ∀ {s : List UInt8}, t.2.2 ≠ s → ¬ isT s (t :: q) = true := fun {s} h => by unfold isT; rw [nx_head]; simpa using h
    rcases ht with ⟨h, hw⟩ | ⟨h, hn, h0⟩ | ⟨h, ha, hw⟩ | ⟨h, hd⟩
    · -- a word
      have h' : t.1 = 3 := h
      have hw' : Lex.wordB t.2.2 = true := hw
      have n45 : t.2.2 ≠ [45] := fun e => by rw [e] at hw'; revert hw'; decide
      have n33 : t.2.2 ≠ [33] := fun e => by rw [e] at hw'; revert hw'; decide
      have n40 : t.2.2 ≠ [40] := fun e => by rw [e] at hw'; revert hw'; decide
      have k2 : ¬ (nx (t :: q)).1 = 2 := by rw [nx_head]; omega
      have k1 : ¬ (nx (t :: q)).1 = 1 := by rw [nx_head]; omega
      have nsR : ¬ ((nx (t :: q)).2.2 = [45] ∨ (nx (t :: q)).2.2 = [33]) := by
        rw [nx_head]
        rintro (h | h)
        · exact n45 h
        · exact n33 h
      have nsL : ¬ (isT [45] (t :: q) = true ∨ isT [33] (t :: q) = true) := by
        rintro (h | h)
        · exact no n45 h
        · exact no n33 h
      by_cases e1 : t.2.2 = wTrue
      · have L : oneD e E P (t :: q) = .ok (.mk 1 (nx (t :: q)).2.1 1 2 (ba []) [] []) (t :: q).tail := by
          unfold oneD
          rw [s1, if_neg k2, if_pos (yes e1)]
        have R : primF e E P (t :: q) = .ok (.mk 1 (nx (t :: q)).2.1 1 2 (ba []) [] []) (t :: q).tail := by
          unfold primF
          rw [if_neg k2, if_neg k1, if_neg (by rw [nx_head, e1]; decide), if_neg nsR, if_pos (by rw [nx_head, e1]; rfl)]
        rw [L, R]
      by_cases e2 : t.2.2 = wFalse
      · have L : oneD e E P (t :: q) = .ok (.mk 1 (nx (t :: q)).2.1 0 2 (ba []) [] []) (t :: q).tail := by
          unfold oneD
          rw [s1, s2, if_neg k2, if_neg (no e1), if_pos (yes e2)]
        have R : primF e E P (t :: q) = .ok (.mk 1 (nx (t :: q)).2.1 0 2 (ba []) [] []) (t :: q).tail := by
          unfold primF
          rw [if_neg k2, if_neg k1, if_neg (by rw [nx_head, e2]; decide), if_neg nsR, if_neg (by rw [nx_head]; exact e1), if_pos (by rw [nx_head, e2]; rfl)]
        rw [L, R]
      by_cases e3 : t.2.2 = wRelease
      · have L : oneD e E P (t :: q) = relR e E (t :: q) := by
          unfold oneD
          rw [s1, s2, s3, s4, s5, s6, if_neg k2, if_neg (no e1), if_neg (no e2), if_neg nsL, if_neg (no n40), if_pos (yes e3)]
        have R : primF e E P (t :: q) = relR e E (t :: q) := by
          unfold primF
          rw [if_neg k2, if_neg k1, if_pos (by rw [nx_head, e3]; rfl)]
        rw [L, R]
      · have L : oneD e E P (t :: q) = .no 1 (atP e (t :: q)) := by
          unfold oneD
          rw [s1, s2, s3, s4, s5, s6, if_neg k2, if_neg (no e1), if_neg (no e2), if_neg nsL, if_neg (no n40), if_neg (no e3)]
          unfold nameR
          rw [if_neg k1]; rfl
        have R : primF e E P (t :: q) = .no 1 (atP e (t :: q)) := by
          unfold primF
          rw [if_neg k2, if_neg k1, if_neg (by rw [nx_head]; exact e3), if_neg nsR, if_neg (by rw [nx_head]; exact e1), if_neg (by rw [nx_head]; exact e2)]
          unfold innR must
          rw [if_neg (no n40)]; rfl
        rw [L, R]
    · -- a sign
      have h' : t.1 = 4 := h
      have hn' : Lex.nameB (Lex.c0 t.2.2) = false := hn
      have n1 : t.2.2 ≠ wTrue := fun e => by rw [e] at hn'; revert hn'; decide
      have n2 : t.2.2 ≠ wFalse := fun e => by rw [e] at hn'; revert hn'; decide
      have n3 : t.2.2 ≠ wRelease := fun e => by rw [e] at hn'; revert hn'; decide
      have k2 : ¬ (nx (t :: q)).1 = 2 := by rw [nx_head]; omega
      have k1 : ¬ (nx (t :: q)).1 = 1 := by rw [nx_head]; omega
      by_cases e1 : t.2.2 = [45] ∨ t.2.2 = [33]
      · have L : oneD e E P (t :: q) = (P (t :: q).tail).bind fun x r => .ok (opT (nx (t :: q)) [x]) r := by
          unfold oneD
          rw [s1, s2, s3, s4, if_neg k2, if_neg (no n1), if_neg (no n2), if_pos]
          rcases e1 with h | h
          · exact .inl (yes h)
          · exact .inr (yes h)
        have R : primF e E P (t :: q) = (P (t :: q).tail).bind fun x r => .ok (opT (nx (t :: q)) [x]) r := by
          unfold primF
          rw [if_neg k2, if_neg k1, if_neg (by rw [nx_head]; exact n3), if_pos (by rw [nx_head]; exact e1)]
        rw [L, R]
      have nsL : ¬ (isT [45] (t :: q) = true ∨ isT [33] (t :: q) = true) := by
        rintro (h | h)
        · exact no (fun g => e1 (.inl g)) h
        · exact no (fun g => e1 (.inr g)) h
      have R : primF e E P (t :: q) = innR e E (t :: q) := by
        unfold primF
        rw [if_neg k2, if_neg k1, if_neg (by rw [nx_head]; exact n3), if_neg (by rw [nx_head]; exact e1), if_neg (by rw [nx_head]; exact n1), if_neg (by rw [nx_head]; exact n2)]
      rw [R]
      unfold innR must
      by_cases e2 : t.2.2 = [40]
      · have L : oneD e E P (t :: q) = (E (t :: q).tail).bind fun x r => (must e [41] r).bind fun _ r2 => .ok x r2 := by
          unfold oneD
          rw [s1, s2, s3, s4, s5, if_neg k2, if_neg (no n1), if_neg (no n2), if_neg nsL, if_pos (yes e2)]
        rw [L, if_pos (yes e2)]; rfl
      · have L : oneD e E P (t :: q) = .no 1 (atP e (t :: q)) := by
          unfold oneD
          rw [s1, s2, s3, s4, s5, s6, if_neg k2, if_neg (no n1), if_neg (no n2), if_neg nsL, if_neg (no e2), if_neg (no n3)]
          unfold nameR
          rw [if_neg k1]; rfl
        rw [L, if_neg (no e2)]; rfl
    · -- a name
      have h' : t.1 = 1 := h
      have hw' : Lex.wordB t.2.2 = false := hw
      have ha' : Lex.alphaB (Lex.c0 t.2.2) = true := ha
      have n1 : t.2.2 ≠ wTrue := fun e => by rw [e] at hw'; revert hw'; decide
      have n2 : t.2.2 ≠ wFalse := fun e => by rw [e] at hw'; revert hw'; decide
      have n3 : t.2.2 ≠ wRelease := fun e => by rw [e] at hw'; revert hw'; decide
      have n45 : t.2.2 ≠ [45] := fun e => by rw [e] at ha'; revert ha'; decide
      have n33 : t.2.2 ≠ [33] := fun e => by rw [e] at ha'; revert ha'; decide
      have n40 : t.2.2 ≠ [40] := fun e => by rw [e] at ha'; revert ha'; decide
      have k2 : ¬ (nx (t :: q)).1 = 2 := by rw [nx_head]; omega
      have k1 : (nx (t :: q)).1 = 1 := by rw [nx_head]; omega
      have nsL : ¬ (isT [45] (t :: q) = true ∨ isT [33] (t :: q) = true) := by
        rintro (h | h)
        · exact no n45 h
        · exact no n33 h
      have R : primF e E P (t :: q) = namedR e E (t :: q) := by
        unfold primF
        rw [if_neg k2, if_pos k1]
      rw [R]
      unfold oneD
      rw [s1, s2, s3, s4, s5, s6, if_neg k2, if_neg (no n1), if_neg (no n2), if_neg nsL, if_neg (no n40), if_neg (no n3)]
      unfold nameR namedR
      rw [if_pos k1]; rfl
    · -- a number
      have h' : t.1 = 2 := h
      have k2 : (nx (t :: q)).1 = 2 := by rw [nx_head]; omega
      unfold oneD primF
      rw [if_pos k2, if_pos k2]
end Par
end Go.Proofs.YtcdeicfegfedfaaGreatDoor

namespace Go.Proofs.YtcdeicfegfedfaaGreatDoor
namespace Par

/- The stack (its top first) and the last operand, with so many tokens left: what the whole comes to. -/
def Cont (P : List Tok → Res Tr) (R : Res Tr) (st : List (Tr × Tok)) (x : Tr) (ts : List Tok) : Prop :=
  (∀ l r, Left P r ts l → R = .ok (runS st x l) r) ∧ ∀ s q c p, ts = s :: q → 0 < lvT s → SeqNo P q c p → R = .no c p
theorem cont_first {P : List Tok → Res Tr} (hP : Sfx P) {ts q : List Tok} {x : Tr} (h : P ts = .ok x q) : Cont P (bd P 5 ts) [] x q := by
  refine ⟨fun l r hl => ?_, fun s q' c p e hs hn => ?_⟩
  · cases hl with
    | none h0 => exact expr_seq hP (.last h h0)
    | some hs hq => exact expr_seq hP (.more h hs hq)
  · subst e
    exact expr_no hP (.more h hs hn)
theorem cont_no {P : List Tok → Res Tr} (hP : Sfx P) {ts : List Tok} {c : Int} {p : Nat} (h : P ts = .no c p) : bd P 5 ts = .no c p := expr_no hP (.here h)
theorem cont_step {P : List Tok → Res Tr} {R : Res Tr} {st : List (Tr × Tok)} {x y : Tr} {s : Tok} {q q2 : List Tok} (h : Cont P R st x (s :: q)) (hs : 0 < lvT s) (hy : P q = .ok y q2) : Cont P R (((popS st x (lvT s)).2, s) :: (popS st x (lvT s)).1) y q2 := by
  refine ⟨fun l r hl => ?_, fun s' q' c p e hs' hn => ?_⟩
  · have hq : Seq P q y l r := by
      cases hl with
      | none h0 => exact .last hy h0
      | some h1 h2 => exact .more hy h1 h2
    exact h.1 _ r (.some hs hq)
  · subst e
    exact h.2 s q c p rfl hs (.more hy hs' hn)
theorem cont_fail {P : List Tok → Res Tr} {R : Res Tr} {st : List (Tr × Tok)} {x : Tr} {s : Tok} {q : List Tok} {c : Int} {p : Nat} (h : Cont P R st x (s :: q)) (hs : 0 < lvT s) (hy : P q = .no c p) : R = .no c p := h.2 s q c p rfl hs (.here hy)
theorem cont_end {P : List Tok → Res Tr} {R : Res Tr} {st : List (Tr × Tok)} {x : Tr} {ts : List Tok} (h : Cont P R st x ts) (h0 : levF (nx ts).2.2 = 0) : R = .ok (popS st x 0).2 ts := h.1 [] ts (.none h0)
/- The two stacks as they lie: operands (but the last one) and signs. -/
def stk (xs : List Tr) (ss : List Tok) : List (Tr × Tok) := (xs.zip ss).reverse
theorem stk_nil : stk [] [] = [] := rfl
theorem stk_push {xs : List Tr} {ss : List Tok} {x : Tr} {s : Tok} (h : xs.length = ss.length) : stk (xs ++ [x]) (ss ++ [s]) = (x, s) :: stk xs ss := by
  unfold stk
  rw [List.zip_append h]
  simp
theorem pop_more {xs : List Tr} {ss : List Tok} {o x : Tr} {s : Tok} {v : Nat} (h : xs.length = ss.length) (hv : v ≤ lvT s) : popS (stk (xs ++ [o]) (ss ++ [s])) x v = popS (stk xs ss) (opT s [o, x]) v := by
  rw [stk_push h]
  show (if v ≤ lvT s then _ else _) = _
  rw [if_pos hv]
theorem pop_stop {xs : List Tr} {ss : List Tok} {o x : Tr} {s : Tok} {v : Nat} (h : xs.length = ss.length) (hv : ¬ v ≤ lvT s) : popS (stk (xs ++ [o]) (ss ++ [s])) x v = (stk (xs ++ [o]) (ss ++ [s]), x) := by
  rw [stk_push h]
  show (if v ≤ lvT s then _ else _) = _
  rw [if_neg hv]
theorem pop_none {x : Tr} {v : Nat} : popS (stk [] []) x v = (stk [] [], x) := rfl
/- Only signs have a level. -/
theorem lev_name {l : List UInt8} (hl : Lex.nameB (Lex.c0 l) = true) : levF l = 0 := by
  apply Classical.byContradiction
  intro h
  have hm : l ∈ [[124, 124], [38, 38], [61, 61], [33, 61], [60], [60, 61], [62], [62, 61], [43], [45], [42], [47], [37]] := by
    apply Classical.byContradiction
    intro hn
    apply h
    simp only [List.mem_cons, List.not_mem_nil, or_false, not_or] at hn
    unfold levF
    simp [hn]
  simp only [List.mem_cons, List.not_mem_nil, or_false] at hm
  rcases hm with rfl | rfl | rfl | rfl | rfl | rfl | rfl | rfl | rfl | rfl | rfl | rfl | rfl <;> revert hl <;> decide
theorem lev_sign {t : Tok} (hg : Lex.GoodK (Lex.bare t)) (h : t.1 ≠ 4) : levF t.2.2 = 0 := by
  rcases hg with ⟨_, hw⟩ | ⟨h4, _⟩ | ⟨_, ha, _⟩ | ⟨_, hd⟩
  · exact lev_name (by have h1 : Lex.alphaB (Lex.c0 t.2.2) = true := Lex.word_alpha hw; unfold Lex.nameB; rw [h1]; rfl)
  · exact absurd h4 h
  · exact lev_name (by have h1 : Lex.alphaB (Lex.c0 t.2.2) = true := ha; unfold Lex.nameB; rw [h1]; rfl)
  · exact lev_name (by have h1 : Lex.digitB (Lex.c0 t.2.2) = true := hd; unfold Lex.nameB; rw [h1]; simp)
end Par
end Go.Proofs.YtcdeicfegfedfaaGreatDoor
