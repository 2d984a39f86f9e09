/- From a row of tokens that a call owns to what Join and Equal ask of it. -/
import Derived.Test.YtilapnfdijjobaaDoorJoin
import Derived.Test.YtilapnfdijjobaaDoorEqTok
namespace Go.Proofs.YtilapnfdijjobaaDoor
open Go.RowKit

def tokD : Lex.Tok := (0, 0, [])
def tk (l : List Lex.Tok) (k : Nat) : Int := (l.getD k tokD).1
def tq (l : List Lex.Tok) (k : Nat) : Int := ((l.getD k tokD).2.1 : Int)
def tt (l : List Lex.Tok) (k : Nat) : ByteArray := ⟨(l.getD k tokD).2.2.toArray⟩

theorem cells_at (l : List Lex.Tok) (k : Nat) (h : k < l.length) : (Lex.cellsOf l)[k * 3]? = some (.int .i64 (tk l k)) ∧ (Lex.cellsOf l)[k * 3 + 1]? = some (.int .i64 (tq l k)) ∧ (Lex.cellsOf l)[k * 3 + 2]? = some (.string (tt l k)) := by
  induction l generalizing k with
  | nil => simp at h
  | cons a r ih =>
    have e : Lex.cellsOf (a :: r) = .int .i64 a.1 :: .int .i64 (a.2.1 : Int) :: .string ⟨a.2.2.toArray⟩ :: Lex.cellsOf r := rfl
    rw [e]
    match k with
    | 0 => exact ⟨rfl, rfl, rfl⟩
    | j + 1 =>
      obtain ⟨h0, h1, h2⟩ := ih j (by simpa using h)
      have e3 : (j + 1) * 3 = j * 3 + 1 + 1 + 1 := by omega
      rw [e3]
      exact ⟨by simpa [tk] using h0, by simpa [tq] using h1, by simpa [tt] using h2⟩

theorem toks_of_own {w : World} {B : Nat} {v : Value} {l : List Lex.Tok} (h : w.ownsRow B 31 3 v l.length (Lex.cellsOf l)) :
    ∃ ao b cap, v = .slice ao l.length cap ∧ (0 < l.length → B ≤ b) ∧ Toks w ao b 0 l.length (tk l) (tq l) (tt l) := by
  rcases h.2 with ⟨hv, h0⟩ | ⟨g, cap, cur, hv, hg, hh, _, _, hsz, htk⟩
  · refine ⟨none, 0, 0, by rw [hv, h0], fun hp => by omega, ⟨fun hp => by omega, fun k hk => by omega, fun k hk => by omega, fun k hk => by omega, fun hp => by omega⟩⟩
  · have key : ∀ i u, (Lex.cellsOf l)[i]? = some u → i < l.length * 3 → w.cell? ⟨g, 0 + i, none⟩ = some u := by
      intro i u hu hi
      rw [← htk, List.getElem?_take] at hu
      simp only [hi, if_true] at hu
      rw [Nat.zero_add]
      simp [World.cell?, hh]
      simpa using hu
    refine ⟨some ⟨g, 0, none⟩, g, cap, hv, fun _ => hg, ⟨fun _ => rfl, fun k hk => key _ _ (cells_at l k hk).1 (by omega), fun k hk => ?_, fun k hk => ?_, fun _ => lt_of_block hh⟩⟩
    · have := key _ _ (cells_at l k hk).2.1 (by omega); rwa [← Nat.add_assoc] at this
    · have := key _ _ (cells_at l k hk).2.2 (by omega); rwa [← Nat.add_assoc] at this

theorem eqTok_none (a b : Option Addr) (c d : Nat) (w : World) :
    Calls Tryd.prog 9 #[.slice a 0 c, .slice b 0 d] w fun e w' => e = .returned (.bool true) ∧ ∃ m, w' = w.drewN m := by
  go_enter Tryd.func9, Tryd.ntmps9
  go_wp2
  go_loop [13] (fun i => i = .int .i64 0) (fun _ => 0)
  case atStart => rfl
  case round =>
    subst hrel
    go_wp2
    go_ret
    exact ⟨rfl, 0, rfl⟩

theorem eqTok_own {w : World} {B C : Nat} {v1 v2 : Value} {l : List Lex.Tok} (hl : l.length ≤ 600) (h1 : w.ownsRow B 31 3 v1 l.length (Lex.cellsOf l)) (h2 : w.ownsRow C 31 3 v2 l.length (Lex.cellsOf l)) :
    Calls Tryd.prog 9 #[v1, v2] w fun e w' => e = .returned (.bool true) ∧ ∃ m, w' = w.drewN m := by
  obtain ⟨ao, b, c, rfl, _, t1⟩ := toks_of_own h1
  obtain ⟨bo, b', d, rfl, _, t2⟩ := toks_of_own h2
  by_cases h0 : l.length = 0
  · rw [h0]; exact eqTok_none _ _ _ _ _
  · have e1 := t1.adr (by omega)
    have e2 := t2.adr (by omega)
    subst e1 e2
    refine eqTok_at b b' l.length c d (tk l) (tq l) (tt l) w (by omega) ?_ ?_ ?_ ?_ ?_ ?_
    · intro k hk; have := t1.c0 k hk; rwa [Nat.zero_add] at this
    · intro k hk; have := t1.c1 k hk; rwa [Nat.zero_add] at this
    · intro k hk; have := t1.c2 k hk; rwa [Nat.zero_add] at this
    · intro k hk; have := t2.c0 k hk; rwa [Nat.zero_add] at this
    · intro k hk; have := t2.c1 k hk; rwa [Nat.zero_add] at this
    · intro k hk; have := t2.c2 k hk; rwa [Nat.zero_add] at this
end Go.Proofs.YtilapnfdijjobaaDoor
