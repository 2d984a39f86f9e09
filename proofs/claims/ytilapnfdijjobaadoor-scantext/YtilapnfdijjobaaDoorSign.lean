/- Contract of scan.sign. -/
import Derived.Test.YtilapnfdijjobaaDoorRun
import Derived.Test.YtilapnfdijjobaaDoorLexB
namespace Go.Proofs.YtilapnfdijjobaaDoor
open Go.RowKit

set_option maxHeartbeats 2000000 in
theorem sign_any (s : ByteArray) (w : World) (h0 : 0 < s.size) (hs : s.size ≤ 100000) :
    Calls Tryd.prog 68 #[.string s] w fun e w' => e = .returned (.string ⟨(Lex.signF s.data.toList).toArray⟩) ∧ w' = w := by
  by_cases h1 : 1 < s.size
  · go_enter Tryd.func68, Tryd.ntmps68
    go_wp2
    all_goals first
      | (exfalso; have hq := ‹((s.extract 0 2).toList == _) = true›; exact Lex.no_two hq (by assumption))
      | (exfalso; have hq := ‹(((s[0].toNat : Nat) : Int) == _) = true›; exact Lex.no_two hq (by assumption))
      | (have hq := ‹((s.extract 0 2).toList == _) = true›; go_ret; exact ⟨Lex.sign_two (Lex.two_yes hq rfl), rfl⟩)
      | (have hq := ‹(((s[0].toNat : Nat) : Int) == _) = true›; have hn := (Lex.two_no ‹((s.extract 0 2).toList == [38, 38]) = false› ‹((s.extract 0 2).toList == [124, 124]) = false› ‹((s.extract 0 2).toList == [61, 61]) = false› ‹((s.extract 0 2).toList == [33, 61]) = false› ‹((s.extract 0 2).toList == [60, 61]) = false› ‹((s.extract 0 2).toList == [62, 61]) = false›); go_ret; exact ⟨Lex.sign_one h0 hn (Lex.one_yes hq rfl), rfl⟩)
      | (have hq := (Lex.one_no ‹(((s[0].toNat : Nat) : Int) == 43) = false› ‹(((s[0].toNat : Nat) : Int) == 45) = false› ‹(((s[0].toNat : Nat) : Int) == 42) = false› ‹(((s[0].toNat : Nat) : Int) == 47) = false› ‹(((s[0].toNat : Nat) : Int) == 37) = false› ‹(((s[0].toNat : Nat) : Int) == 60) = false› ‹(((s[0].toNat : Nat) : Int) == 62) = false› ‹(((s[0].toNat : Nat) : Int) == 33) = false› ‹(((s[0].toNat : Nat) : Int) == 40) = false› ‹(((s[0].toNat : Nat) : Int) == 41) = false› ‹(((s[0].toNat : Nat) : Int) == 123) = false› ‹(((s[0].toNat : Nat) : Int) == 125) = false› ‹(((s[0].toNat : Nat) : Int) == 44) = false› ‹(((s[0].toNat : Nat) : Int) == 59) = false› ‹(((s[0].toNat : Nat) : Int) == 58) = false› ‹(((s[0].toNat : Nat) : Int) == 61) = false›); have hn := (Lex.two_no ‹((s.extract 0 2).toList == [38, 38]) = false› ‹((s.extract 0 2).toList == [124, 124]) = false› ‹((s.extract 0 2).toList == [61, 61]) = false› ‹((s.extract 0 2).toList == [33, 61]) = false› ‹((s.extract 0 2).toList == [60, 61]) = false› ‹((s.extract 0 2).toList == [62, 61]) = false›); go_ret; exact ⟨Lex.sign_no h0 hn hq, rfl⟩)
  · have h2 := Lex.two_short s h1
    go_enter Tryd.func68, Tryd.ntmps68
    go_wp2
    all_goals first
      | (exfalso; have hq := ‹(((s[0].toNat : Nat) : Int) == _) = true›; exact Lex.no_two hq (by assumption))
      | (have hq := ‹(((s[0].toNat : Nat) : Int) == _) = true›; go_ret; exact ⟨Lex.sign_one h0 h2 (Lex.one_yes hq rfl), rfl⟩)
      | (have hq := (Lex.one_no ‹(((s[0].toNat : Nat) : Int) == 43) = false› ‹(((s[0].toNat : Nat) : Int) == 45) = false› ‹(((s[0].toNat : Nat) : Int) == 42) = false› ‹(((s[0].toNat : Nat) : Int) == 47) = false› ‹(((s[0].toNat : Nat) : Int) == 37) = false› ‹(((s[0].toNat : Nat) : Int) == 60) = false› ‹(((s[0].toNat : Nat) : Int) == 62) = false› ‹(((s[0].toNat : Nat) : Int) == 33) = false› ‹(((s[0].toNat : Nat) : Int) == 40) = false› ‹(((s[0].toNat : Nat) : Int) == 41) = false› ‹(((s[0].toNat : Nat) : Int) == 123) = false› ‹(((s[0].toNat : Nat) : Int) == 125) = false› ‹(((s[0].toNat : Nat) : Int) == 44) = false› ‹(((s[0].toNat : Nat) : Int) == 59) = false› ‹(((s[0].toNat : Nat) : Int) == 58) = false› ‹(((s[0].toNat : Nat) : Int) == 61) = false›); go_ret; exact ⟨Lex.sign_no h0 h2 hq, rfl⟩)
end Go.Proofs.YtilapnfdijjobaaDoor
