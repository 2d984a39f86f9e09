/- slices.EqualFunc with the law's own test: rows of tokens of the same kinds and texts are told to be equal. -/
import Derived.Test.YtmnjoemglpapfaaTokRow
import Derived.Test.YtmnjoemglpapfaaLexF
namespace Go.Proofs.Ytmnjoemglpapfaa
open Go.RowKit

theorem same_any (k q q' : Int) (t : ByteArray) (w : World) :
    Calls Try.prog 12 #[.agg #[.int .i64 k, .int .i64 q, .string t], .agg #[.int .i64 k, .int .i64 q', .string t]] w fun e w' => e = .returned (.bool true) ∧ Below w.heap.size w w' := by
  go_enter Try.func12, Try.ntmps12
  go_wp2
  go_ret
  exact ⟨rfl, ((Below.refl _ _).alloc (Nat.le_refl _) _).alloc (by simp) _⟩

set_option maxHeartbeats 1000000 in
theorem eqFun_at (ao bo : Option Addr) (g h n c d : Nat) (K Q Q' : Nat → Int) (T : Nat → ByteArray) (w : World) (hn : n ≤ 1000) (t1 : Toks w ao g 0 n K Q T) (t2 : Toks w bo h 0 n K Q' T) :
    Calls Try.prog 11 #[.slice ao n c, .slice bo n d, .func (.func 12) #[] #[]] w fun e w' => e = .returned (.bool true) ∧ Below w.heap.size w w' := by
  go_enter Try.func11, Try.ntmps11
  go_wp2
  go_loopw [17] (fun i wr => ∃ k : Nat, k ≤ n ∧ i = .int .i64 k ∧ Below w.heap.size w wr) (fun i _ => n - (intOf i).toNat)
  case atStart => exact ⟨0, Nat.zero_le _, rfl, Below.refl _ _⟩
  case round =>
    obtain ⟨k, hk, rfl, hbel⟩ := hrel
    have hle := hbel.size
    by_cases hlt : k < n
    · have e1 := t1.adr (by omega)
      have e2 := t2.adr (by omega)
      subst e1 e2
      have u1 := t1.later hbel
      have u2 := t2.later hbel
      have f0 := u1.c0 k hlt
      have f1 := u1.c1 k hlt
      have f2 := u1.c2 k hlt
      have g0 := u2.c0 k hlt
      have g1 := u2.c1 k hlt
      have g2 := u2.c2 k hlt
      have lg := u1.lt (by omega)
      have lh := u2.lt (by omega)
      simp only [Nat.zero_add] at f0 f1 f2 g0 g1 g2
      clear u1 u2
      go_wp2_with fail
      refine (same_any _ _ _ _ _).mono ?_
      rintro e w1 ⟨rfl, hb1⟩
      go_wp2
      go_roundw
      case rel => exact ⟨k + 1, by omega, by go_num, ((hbel.alloc hle _).alloc (by simp; omega) _).trans (hb1.mono (by simp; omega))⟩
      case measure => simp [intOf]; omega
    · go_wp2
      go_ret
      exact ⟨rfl, hbel⟩

theorem tok_eq {l m : List Lex.Tok} (h : l.map (fun t => (t.1, t.2.2)) = m.map (fun t => (t.1, t.2.2))) : l.length = m.length ∧ tk l = tk m ∧ tt l = tt m := by
  have hl : l.length = m.length := by simpa using congrArg List.length h
  have key : ∀ k, ((l.getD k tokD).1, (l.getD k tokD).2.2) = ((m.getD k tokD).1, (m.getD k tokD).2.2) := by
    intro k
    have h1 := congrArg (fun x : List (Int × List UInt8) => x.getD k (0, [])) h
    simp only [List.getD_eq_getElem?_getD, List.getElem?_map] at h1 ⊢
    cases e1 : l[k]? <;> cases e2 : m[k]? <;> simp [e1, e2, tokD] at h1 ⊢ <;> exact h1
  refine ⟨hl, funext fun k => ?_, funext fun k => ?_⟩
  · have := congrArg (fun x : Int × List UInt8 => x.1) (key k)
    exact this
  · have := congrArg Prod.snd (key k)
    simp only [tt]
    exact congrArg (fun x : List UInt8 => (⟨x.toArray⟩ : ByteArray)) this

theorem eqFun_own {w : World} {B C : Nat} {v1 v2 : Value} {l m : List Lex.Tok} (hl : l.length ≤ 600) (he : l.map (fun t => (t.1, t.2.2)) = m.map (fun t => (t.1, t.2.2))) (h1 : w.ownsRow B 31 3 v1 l.length (Lex.cellsOf l)) (h2 : w.ownsRow C 31 3 v2 m.length (Lex.cellsOf m)) :
    Calls Try.prog 11 #[v1, v2, .func (.func 12) #[] #[]] w fun e w' => e = .returned (.bool true) ∧ Below w.heap.size w w' := by
  obtain ⟨ao, b, c, rfl, _, t1⟩ := toks_of_own h1
  obtain ⟨bo, b', d, rfl, _, t2⟩ := toks_of_own h2
  obtain ⟨e1, e2, e3⟩ := tok_eq he
  rw [← e1, ← e2, ← e3] at t2
  rw [← e1]
  exact eqFun_at _ _ _ _ _ _ _ _ _ _ _ _ (by omega) t1 t2

theorem join_glue (a : Lex.Tok) (r : List Lex.Tok) : ∀ k, k ≤ r.length → joinUp (tt (a :: r)) (k + 1) = a.2.2 ++ Lex.tailG ((r.take k).map fun t => (t.1, t.2.2)) := by
  intro k
  induction k with
  | zero => intro _; simp [joinUp, tt, Lex.tailG]
  | succ k ih =>
    intro hk
    have e : joinUp (tt (a :: r)) (k + 1 + 1) = joinUp (tt (a :: r)) (k + 1) ++ [32] ++ (tt (a :: r) (k + 1)).data.toList := by
      rw [joinUp]; rw [if_neg (by omega)]
    have hlt : k < r.length := by omega
    rw [e, ih (by omega), List.take_succ_eq_append_getElem hlt]
    have e2 : (tt (a :: r) (k + 1)).data.toList = r[k].2.2 := by simp [tt, List.getD_eq_getElem?_getD, List.getElem?_eq_getElem hlt]
    have e3 : Lex.tailG ((r.take k ++ [r[k]]).map fun t => (t.1, t.2.2)) = Lex.tailG ((r.take k).map fun t => (t.1, t.2.2)) ++ 32 :: r[k].2.2 := by
      rw [List.map_append]; unfold Lex.tailG; rw [List.flatMap_append]; simp only [List.map_cons, List.map_nil, List.flatMap_cons, List.flatMap_nil, List.append_nil]
    rw [e2, e3]
    simp only [List.append_assoc, List.cons_append, List.nil_append]
theorem scan_back {l : List UInt8} {out : List Lex.Tok} {q : Nat} (h : Lex.scanAll l = (out, 0, q)) (hs : (joinUp (tt out) out.length).length ≤ 4000) :
    ∃ m, Lex.scanAll (joinUp (tt out) out.length) = (m, 0, 0) ∧ out.map (fun t => (t.1, t.2.2)) = m.map (fun t => (t.1, t.2.2)) := by
  obtain ⟨hf, hn, _⟩ := Lex.all_from h
  match out, hf, hn, hs with
  | [], _, _, _ => exact ⟨[], Lex.scan_nil, rfl⟩
  | a :: r, hf, hn, hs =>
    have e := join_glue a r r.length (Nat.le_refl _)
    rw [List.take_length] at e
    simp only [List.length_cons] at hs ⊢
    rw [e] at hs ⊢
    obtain ⟨m, hm, he⟩ := Lex.scan_glue a.1 a.2.2 (r.map fun t => (t.1, t.2.2)) (hf a (by simp)).2.2.1 (by
      intro t ht
      obtain ⟨x, hx, rfl⟩ := List.mem_map.1 ht
      exact (hf x (by simp [hx])).2.2.1) (by simp only [List.length_cons, List.length_map] at hn ⊢; omega) hs
    exact ⟨m, hm, by rw [he]; rfl⟩
end Go.Proofs.Ytmnjoemglpapfaa
