/- What is right; the arguments of the chiefs' functions. -/
import Derived.Test.YtpbknhhjfhpkmaaGreatDoorGaTab
namespace Go.Proofs.YtpbknhhjfhpkmaaGreatDoor
open Go.RowKit

theorem right_of {ls : List ByteArray} {ps : List (ByteArray × ByteArray)} (h : checkF ls ps = 0) : ls.length ≤ 6 ∧ ps.length ≤ 10 ∧ Act.Right ls ps ∧ ∀ s ∈ ls, Lex.nameF s.data.toList = true := by
  have hb : ¬ (6 < ls.length ∨ 10 < ps.length) := by
    intro hb; rw [checkF_many hb] at h; cases h
  by_cases hn : chkN [] ls = 0
  · rw [checkF_p hb hn] at h
    have key : ∀ (l seen : List ByteArray), chkN seen l = 0 → seen.Nodup → (seen ++ l).Nodup ∧ ∀ s ∈ l, Lex.nameF s.data.toList = true := by
      intro l
      induction l with
      | nil => intro seen _ hs; exact ⟨by simpa using hs, by simp⟩
      | cons a r ih =>
        intro seen hc hs
        rw [chkN] at hc
        split at hc
        · cases hc
        · rename_i hf
          split at hc
          · cases hc
          · rename_i hh
            have hna : a ∉ seen := by
              intro hm; exact hh (Act.has_iff.2 hm)
            have hs' : (seen ++ [a]).Nodup := by
              rw [List.nodup_append]
              refine ⟨hs, by simp, ?_⟩
              intro x hx y hy e
              simp at hy; subst hy; subst e; exact hna hx
            obtain ⟨h1, h2⟩ := ih (seen ++ [a]) hc hs'
            refine ⟨by simpa using h1, ?_⟩
            intro s hs0
            rcases List.mem_cons.1 hs0 with rfl | hs0
            · simpa using hf
            · exact h2 s hs0
    obtain ⟨h1, h2⟩ := key ls [] hn (by simp)
    have keyP : ∀ l : List (ByteArray × ByteArray), chkP ls l = 0 → ∀ p ∈ l, p.1 ∈ ls ∧ p.2 ∈ ls := by
      intro l
      induction l with
      | nil => intro _ p hp; cases hp
      | cons a r ih =>
        intro hc p hp
        rw [chkP] at hc
        split at hc
        · rename_i hh
          rcases List.mem_cons.1 hp with rfl | hp
          · exact ⟨Act.has_iff.1 hh.1, Act.has_iff.1 hh.2⟩
          · exact ih hc p hp
        · cases hc
    exact ⟨by omega, by omega, ⟨by simpa using h1, keyP ps h⟩, h2⟩
  · rw [checkF_n hb hn] at h; exact absurd h hn

theorem right_back {ls : List ByteArray} {ps : List (ByteArray × ByteArray)} (h1 : ls.length ≤ 6) (h2 : ps.length ≤ 10) (hr : Act.Right ls ps) (hn : ∀ s ∈ ls, Lex.nameF s.data.toList = true) : checkF ls ps = 0 := by
  have key : ∀ (l seen : List ByteArray), (seen ++ l).Nodup → (∀ s ∈ l, Lex.nameF s.data.toList = true) → chkN seen l = 0 := by
    intro l
    induction l with
    | nil => intro _ _ _; rfl
    | cons a r ih =>
      intro seen hd hf
      have ha : a ∉ seen := by
        intro hm
        have := (List.nodup_append.1 hd).2.2 a hm a (by simp)
        exact this rfl
      rw [chkN, if_neg (by rw [hf a (by simp)]; simp), if_neg (by rw [Act.has_not.2 ha]; simp)]
      exact ih _ (by simpa using hd) (fun s hs => hf s (by simp [hs]))
  have keyP : ∀ l : List (ByteArray × ByteArray), (∀ p ∈ l, p.1 ∈ ls ∧ p.2 ∈ ls) → chkP ls l = 0 := by
    intro l
    induction l with
    | nil => intro _; rfl
    | cons a r ih =>
      intro hp
      rw [chkP, if_pos ⟨Act.has_iff.2 (hp a (by simp)).1, Act.has_iff.2 (hp a (by simp)).2⟩]
      exact ih fun p h => hp p (by simp [h])
  rw [checkF_p (by omega) (key ls [] (by simpa using hr.nd) hn)]
  exact keyP ps hr.mem

/- The row of a table, and one of its places, by value. -/
theorem ix_row (cs : Array Value) (p : Nat) (hp : p < 6) (w : World) : (Instr.index 154 (.agg cs) (.int .i64 p)).run Tryz.prog w = .ok (.agg (cs.extract (p * 6) (p * 6 + 6))) w := by
  simp [Instr.index, asIntOf, run_underlying Tryz.underlying154, part, go_sem]
  omega
theorem ix_cell (cs : Array Value) (p : Nat) (v : Value) (hp : p < 6) (hv : cs[p]? = some v) (w : World) : (Instr.index 152 (.agg cs) (.int .i64 p)).run Tryz.prog w = .ok v w := by
  simp [Instr.index, asIntOf, run_underlying Tryz.underlying152, part, go_sem, hv]
  omega
theorem tabC_row (T : Nat → Nat → Bool) {p q : Nat} (hp : p < 6) (hq : q < 6) : ((tabC T).extract (p * 6) (p * 6 + 6))[q]? = some (.bool (T p q)) := by
  have h := tabC_get T hp hq
  rw [Array.getElem?_extract]
  simp only [tabC_size]
  rw [if_pos (by omega)]
  exact h

def actsE (ls : List ByteArray) (ps : List (ByteArray × ByteArray)) (a b : ByteArray) : Int := if checkF ls ps = 0 then (if Act.has ls a = true ∧ Act.has ls b = true then 0 else 5) else checkF ls ps
def actsV (ls : List ByteArray) (ps : List (ByteArray × ByteArray)) (a b : ByteArray) : Bool := decide (actsE ls ps a b = 0) && Act.acts ls ps a b

/- The arguments of the chiefs' functions. -/
structure Chiefs (w : World) (ao po : Option Addr) (b off b' off' n m c : Nat) (ls : List ByteArray) (ps : List (ByteArray × ByteArray)) : Prop where
  ln : n = ls.length
  lm : m = ps.length
  mn : n ≤ maxLen
  mm : m ≤ maxLen
  cap : n ≤ c
  strs : Strs w ao b off ls
  prs : Prs w po b' off' ps
  sz : ∀ s ∈ ls, s.size ≤ maxLen
theorem Chiefs.later {w w' : World} {ao po : Option Addr} {b off b' off' n m c : Nat} {ls : List ByteArray} {ps : List (ByteArray × ByteArray)} (h : Chiefs w ao po b off b' off' n m c ls ps) (hb : Below w.heap.size w w') : Chiefs w' ao po b off b' off' n m c ls ps :=
  ⟨h.ln, h.lm, h.mn, h.mm, h.cap, h.strs.later hb, h.prs.later hb, h.sz⟩
theorem check_of {w : World} {ao po : Option Addr} {b off b' off' n m c d : Nat} {ls : List ByteArray} {ps : List (ByteArray × ByteArray)} (h : Hid (Chiefs w ao po b off b' off' n m c ls ps)) :
    Calls Tryz.prog 44 #[.slice ao n c, .slice po m d] w fun e w' => e = .returned (.int .i64 (checkF ls ps)) ∧ Below w.heap.size w w' :=
  check_any ao po b off b' off' n m c d ls ps w h.out.ln h.out.lm h.out.mn h.out.mm h.out.cap h.out.strs h.out.prs h.out.sz
theorem index_of {w : World} {ao po : Option Addr} {b off b' off' n m c : Nat} {ls : List ByteArray} {ps : List (ByteArray × ByteArray)} (h : Hid (Chiefs w ao po b off b' off' n m c ls ps)) (v : ByteArray) :
    Calls Tryz.prog 60 #[.slice ao n c, .string v] w fun e w' => e = .returned (.int .i64 (Act.posI ls v)) ∧ w' = w :=
  index_any ao b off n c ls v w h.out.ln h.out.mn h.out.strs
theorem contains_of {w : World} {ao po : Option Addr} {b off b' off' n m c : Nat} {ls : List ByteArray} {ps : List (ByteArray × ByteArray)} (h : Hid (Chiefs w ao po b off b' off' n m c ls ps)) (v : ByteArray) :
    Calls Tryz.prog 25 #[.slice ao n c, .string v] w fun e w' => e = .returned (.bool (Act.has ls v)) ∧ w' = w :=
  contains_any ao b off n c ls v w h.out.ln h.out.mn h.out.strs
theorem whole_of {w : World} {ao po : Option Addr} {b off b' off' n m c d : Nat} {ls : List ByteArray} {ps : List (ByteArray × ByteArray)} (h : Hid (Chiefs w ao po b off b' off' n m c ls ps)) (hz : Hid (checkF ls ps = 0)) :
    Calls Tryz.prog 85 #[.slice ao n c, .slice po m d] w fun e w' => e = .returned (.agg (tabC (Act.whole ls ps))) ∧ Below w.heap.size w w' := by
  obtain ⟨h1, h2, h3, _⟩ := right_of hz.out
  exact whole_any ao po b off b' off' n m c d ls ps w h.out.ln h.out.lm (by have := h.out.ln; omega) (by have := h.out.lm; omega) h.out.strs h.out.prs h3

end Go.Proofs.YtpbknhhjfhpkmaaGreatDoor
