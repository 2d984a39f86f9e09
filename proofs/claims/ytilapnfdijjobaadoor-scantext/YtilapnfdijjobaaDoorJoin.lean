/- Contract of scan.Join. -/
import Derived.Test.YtilapnfdijjobaaDoorChecked
import Derived.Test.YtilapnfdijjobaaDoorShelfB
import Derived.Test.YtilapnfdijjobaaDoorLexE
import Derived.Test.YtilapnfdijjobaaDoorGrow
import Derived.WalkKit
import Derived.ProofKit
import Derived.Lib.OthersKept
namespace Go.Proofs.YtilapnfdijjobaaDoor
open Go.RowKit

/- The first k texts with a blank between each two. -/
def joinUp (T : Nat → ByteArray) : Nat → List UInt8
  | 0 => []
  | k + 1 => (if k = 0 then joinUp T k else joinUp T k ++ [32]) ++ (T k).data.toList
theorem joinUp_le (T : Nat → ByteArray) (n : Nat) (h : ∀ k, k < n → (T k).size ≤ 4000) : (joinUp T n).length ≤ n * 4001 := by
  induction n with
  | zero => simp [joinUp]
  | succ k ih =>
    have := ih (fun j hj => h j (by omega))
    have := h k (by omega)
    unfold joinUp
    split <;> simp <;> omega

/- What a slice of tokens holds. -/
structure Toks (w : World) (ao : Option Addr) (b off n : Nat) (K Q : Nat → Int) (T : Nat → ByteArray) : Prop where
  adr : 0 < n → ao = some ⟨b, off, none⟩
  c0 : ∀ k, k < n → w.cell? ⟨b, off + k * 3, none⟩ = some (.int .i64 (K k))
  c1 : ∀ k, k < n → w.cell? ⟨b, off + k * 3 + 1, none⟩ = some (.int .i64 (Q k))
  c2 : ∀ k, k < n → w.cell? ⟨b, off + k * 3 + 2, none⟩ = some (.string (T k))
  lt : 0 < n → b < w.heap.size
theorem Toks.later {w w' : World} {ao : Option Addr} {b off n : Nat} {K Q : Nat → Int} {T : Nat → ByteArray} (h : Toks w ao b off n K Q T) (hb : Below w.heap.size w w') : Toks w' ao b off n K Q T :=
  ⟨h.adr, fun k hk => (hb.cell (p := ⟨b, off + k * 3, none⟩) (h.lt (by omega))).trans (h.c0 k hk), fun k hk => (hb.cell (p := ⟨b, off + k * 3 + 1, none⟩) (h.lt (by omega))).trans (h.c1 k hk), fun k hk => (hb.cell (p := ⟨b, off + k * 3 + 2, none⟩) (h.lt (by omega))).trans (h.c2 k hk), fun hn => Nat.lt_of_lt_of_le (h.lt hn) hb.size⟩

theorem join_many (ao : Option Addr) (n c : Nat) (w : World) (hn : 600 < n) (hm : n ≤ maxLen) :
    Calls Tryd.prog 34 #[.slice ao n c] w fun e w' => e = .returned (.tuple #[.string ⟨#[]⟩, .int .i64 2]) ∧ w' = w := by
  unfold maxLen at hm
  go_enter Tryd.func34, Tryd.ntmps34
  go_wp2
  go_ret2
  exact ⟨rfl, rfl⟩

set_option maxHeartbeats 1000000 in
theorem join_big (ao : Option Addr) (b off n c i : Nat) (K Q : Nat → Int) (T : Nat → ByteArray) (w : World) (hn : n ≤ 600) (ht : Toks w ao b off n K Q T) (hsz : ∀ k, k < n → (T k).size ≤ maxLen) (hi : i < n) (hb : 4000 < (T i).size) (hs : ∀ k, k < i → (T k).size ≤ 4000) :
    Calls Tryd.prog 34 #[.slice ao n c] w fun e w' => e = .returned (.tuple #[.string ⟨#[]⟩, .int .i64 2]) ∧ Below w.heap.size w w' := by
  have hao := ht.adr (by omega)
  subst hao
  unfold maxLen at hsz
  go_enter Tryd.func34, Tryd.ntmps34
  go_wp2
  go_loopw [14] (fun v wr => ∃ k : Nat, k ≤ i ∧ v = .int .i64 k ∧ Below w.heap.size w wr) (fun v _ => n - (intOf v).toNat)
  case atStart => exact ⟨0, Nat.zero_le _, rfl, Below.refl _ _⟩
  case round =>
    obtain ⟨k, hk, rfl, hbel⟩ := hrel
    have ht' := ht.later hbel
    have hkn : k < n := by omega
    have f0 := ht'.c0 k hkn
    have f1 := ht'.c1 k hkn
    have f2 := ht'.c2 k hkn
    have hz := hsz k hkn
    have hle := hbel.size
    clear ht'
    by_cases hki : k = i
    · subst hki
      go_wp2
      go_ret2
      exact ⟨rfl, hbel.alloc hle _⟩
    · have hz4 := hs k (by omega)
      go_wp2
      go_roundw
      case rel => exact ⟨k + 1, by omega, by go_num, hbel.alloc hle _⟩
      case measure => simp [intOf]; omega

theorem lt_builder {B b : Nat} {bs : List Value} {w : World} (h : Lib.IsBuilderF 88 5 B b bs w) : b < w.heap.size := by
  rcases h with h | h <;> exact h.lt
theorem kept_tok {wx w1 : World} {b : Nat} {v0 v1 v2 : Value} (hk : Lib.OthersKept 5 (some b) (wx.alloc (.cells #[v0, v1, v2] 31)) w1) (hb : b < wx.heap.size) : w1.heap[wx.heap.size]? = some (.cells #[v0, v1, v2] 31 (0, 0)) :=
  hk _ _ (heap_at_alloc _ _ _ rfl) (by simp; omega) (by simp)
theorem join_step0 (T : Nat → ByteArray) (j : Nat) (h : j = 0) : Lib.byteCells (joinUp T j) ++ Lib.strCells (T j) = Lib.byteCells (joinUp T (j + 1)) := by
  subst h
  simp [joinUp, Lib.strCells_eq, Lib.byteCells]
theorem join_step (T : Nat → ByteArray) (j : Nat) (h : 0 < j) : (Lib.byteCells (joinUp T j) ++ [.int .u8 32]) ++ Lib.strCells (T j) = Lib.byteCells (joinUp T (j + 1)) := by
  have h' : ¬ j = 0 := by omega
  simp only [joinUp, h', if_false, Lib.strCells_eq, Lib.byteCells_append, List.append_assoc]
  rfl

set_option maxHeartbeats 2000000 in
theorem join_ok (ao : Option Addr) (b off n c : Nat) (K Q : Nat → Int) (T : Nat → ByteArray) (w : World) (hn : n ≤ 600) (ht : Toks w ao b off n K Q T) (hs : ∀ k, k < n → (T k).size ≤ 4000) :
    Calls Tryd.prog 34 #[.slice ao n c] w fun e w' => e = .returned (.tuple #[.string ⟨(joinUp T n).toArray⟩, .int .i64 0]) ∧ Below w.heap.size w w' := by
  go_enter Tryd.func34, Tryd.ntmps34
  go_wp2
  go_loopw [14] (fun v wr => ∃ k : Nat, k ≤ n ∧ v = .int .i64 k ∧ Below w.heap.size w wr) (fun v _ => n - (intOf v).toNat)
  case atStart => exact ⟨0, Nat.zero_le _, rfl, Below.refl _ _⟩
  case round =>
    obtain ⟨k, hk, rfl, hbel⟩ := hrel
    have hle := hbel.size
    by_cases hkn : k < n
    · have ht' := ht.later hbel
      have hao := ht.adr (by omega)
      subst hao
      have f0 := ht'.c0 k hkn
      have f1 := ht'.c1 k hkn
      have f2 := ht'.c2 k hkn
      have hz4 := hs k hkn
      clear ht'
      go_wp2
      go_roundw
      case rel => exact ⟨k + 1, by omega, by go_num, hbel.alloc hle _⟩
      case measure => simp [intOf]; omega
    · go_wp2
      obtain ⟨wq, hq⟩ : ∃ wq, wq = wr := ⟨wr, rfl⟩
      subst hq
      go_loopw [25] (fun v wx => ∃ j : Nat, j ≤ n ∧ v = .int .i64 j ∧ Below wq.heap.size wq wx ∧ Lib.IsBuilderF 88 5 wq.heap.size wq.heap.size (Lib.byteCells (joinUp T j)) wx) (fun v _ => n - (intOf v).toNat)
      case atStart => exact ⟨0, Nat.zero_le _, rfl, (Below.refl _ _).alloc (Nat.le_refl _) _, Lib.IsBuilderF.of (Lib.fresh_isBuilder _ _ _)⟩
      case round =>
        obtain ⟨j, hj, rfl, hbx, hB⟩ := hrel
        have hlx := hbx.size
        have hltB := lt_builder hB
        have hJ := joinUp_le T j (fun i hi => hs i (by omega))
        have hwx : Below w.heap.size w wr := hbel.trans (hbx.mono hle)
        by_cases hjn : j < n
        · have ht' := ht.later hwx
          have hao := ht.adr (by omega)
          subst hao
          have f0 := ht'.c0 j hjn
          have f1 := ht'.c1 j hjn
          have f2 := ht'.c2 j hjn
          have hz4 := hs j hjn
          have HBB : Hid (Lib.IsBuilderF 88 5 wq.heap.size wq.heap.size (Lib.byteCells (joinUp T j)) wr) := hB
          clear ht' hB
          by_cases hj0 : j = 0
          · have hp : ¬ (0 : Int) < (j : Int) := by omega
            have H0 : Hid (j = 0) := hj0
            clear hj0
            go_wp2_with fail
            refine (Tryd.Builder_WriteString _ _ _ _ _ (HBB.out.alloc _) (by rw [Lib.byteCells_length]; omega) (by simp; omega)).mono ?_
            rintro e w1 ⟨rfl, hB1, hbb1, _⟩
            rw [join_step0 T j H0.out] at hB1
            have HB1 : Hid (Lib.BuilderAtF 88 5 wq.heap.size wq.heap.size (.pointer (some ⟨wq.heap.size, 0, none⟩)) (Lib.byteCells (joinUp T (j + 1))) w1) := hB1
            clear hB1
            go_wp2
            go_roundw
            case rel => exact ⟨j + 1, by omega, by go_num, (hbx.alloc hlx _).trans hbb1, .inr HB1.out⟩
            case measure => simp [intOf]; omega
          · have hp : (0 : Int) < (j : Int) := by omega
            go_wp2_with fail
            refine (Tryd.Builder_WriteByte _ _ _ _ _ (HBB.out.alloc _) (by rw [Lib.byteCells_length]; omega) (by simp; omega)).mono ?_
            rintro e w1 ⟨rfl, hB1, hbb1, hok1⟩
            have hT := kept_tok hok1 hltB
            have t2 : w1.cell? ⟨wr.heap.size, 2, none⟩ = some (.string (T j)) := by simp [World.cell?, hT]
            have lT := lt_of_block hT
            have HB1 : Hid (Lib.BuilderAtF 88 5 wq.heap.size wq.heap.size (.pointer (some ⟨wq.heap.size, 0, none⟩)) (Lib.byteCells (joinUp T j) ++ [.int .u8 32]) w1) := hB1
            clear hB1 hT hok1
            go_wp2_with fail
            refine (Tryd.Builder_WriteString _ _ _ _ _ (.inr HB1.out) (by simp [Lib.byteCells_length]; omega) (by omega)).mono ?_
            rintro e w2 ⟨rfl, hB2, hbb2, _⟩
            rw [join_step T j (by omega)] at hB2
            have HB2 : Hid (Lib.BuilderAtF 88 5 wq.heap.size wq.heap.size (.pointer (some ⟨wq.heap.size, 0, none⟩)) (Lib.byteCells (joinUp T (j + 1))) w2) := hB2
            clear hB2
            go_wp2
            go_roundw
            case rel => exact ⟨j + 1, by omega, by go_num, ((hbx.alloc hlx _).trans hbb1).trans hbb2, .inr HB2.out⟩
            case measure => simp [intOf]; omega
        · obtain rfl : j = n := by omega
          have HBB : Hid (Lib.IsBuilderF 88 5 wq.heap.size wq.heap.size (Lib.byteCells (joinUp T j)) wr) := hB
          clear hB
          go_wp2_with fail
          refine (Tryd.Builder_String_any _ _ _ _ HBB.out hlx).mono ?_
          rintro e w1 ⟨rfl, _, hbb, _⟩
          go_wp2
          go_ret2
          exact ⟨rfl, hwx.trans (hbb.mono hle)⟩
end Go.Proofs.YtilapnfdijjobaaDoor
