/- The builder that lies within tree.writer: its contracts there. How long what is written may be, in plain words. What tree.writer holds; contracts of its small parts. -/
import Derived.Test.YtcdeicfegfedfaaGreatDoorGaShB
import Derived.Test.YtcdeicfegfedfaaGreatDoorChecked
import Derived.Test.YtcdeicfegfedfaaGreatDoorGaRow
import Derived.Shelf.Strings.Builder1
import Derived.Shelf.Abstract
import Derived.Lib.OthersKept
import Derived.WalkKit
import Derived.ProofKit
import Derived.Test.YtcdeicfegfedfaaGreatDoorGaFrm
import Derived.Lib.ItoaLen
import Derived.Test.YtcdeicfegfedfaaGreatDoorFmB
namespace Go.Proofs.YtcdeicfegfedfaaGreatDoor
open Go.RowKit Go.Lib

theorem sizeBld : (Tryz.prog.info? 112).map (·.size) = some 2 := by kernel_rfl
theorem liesWr : liesAt Tryz.prog Tryz.prog.depth 114 (2 / Tryz.prog.cellsOf 114) 0 112 1 = true := by kernel_rfl
theorem infoU8 : (Tryz.prog.info? 5).map (fun i => (i.zero, i.size, i.bytes)) = some (some (.int .u8 0), 1, 1) := by kernel_rfl
theorem cellsU8 : Tryz.prog.cellsOf 5 = 1 := by kernel_rfl
theorem wrNe : (114 : TypeId) ≠ 5 := by decide

set_option maxHeartbeats 1000000 in
set_option maxRecDepth 100000 in
theorem wCopy_fresh (b : Nat) (w : World) (h0 : w.cell? ⟨b, 0, none⟩ = some (.pointer none)) (hsh : w.shape? b = some (114, 2)) (hfz : w.frozen? ⟨b, 0, none⟩ = false) :
    Calls Tryz.prog 149 #[.pointer (some ⟨b, 0, none⟩)] w fun e w' => e = .returned (.tuple #[]) ∧ w' = w.setCell ⟨b, 0, none⟩ (.pointer (some ⟨b, 0, none⟩)) := by
  obtain ⟨j, hj, hjs⟩ := Option.map_eq_some_iff.1 sizeBld
  have hto := run_to_unsafe w ⟨b, 0, none⟩ Tryz.underlying109 Tryz.underlying201 hj (by rw [hjs]; decide) hsh (Nat.zero_lt_succ 1)
  have hfrom := run_from_unsafe w ⟨b, 0, none⟩ Tryz.underlying201 Tryz.underlying109 hj hsh liesWr
  clear hsh hjs hj
  go_enter Tryz.func149, Tryz.ntmps149
  go_wp2
  rw [run_callFunc_extern Tryz.func170 (by kernel_rfl) (by kernel_rfl) (by kernel_rfl) (e := Extern.AbiNoEscape.same) (by kernel_rfl)]
  rw [run_noEscape]
  simp only [Result.andThen]
  rw [Oper.upon_value]
  go_wp2
  go_end0
  exact ⟨rfl, rfl⟩
set_option maxHeartbeats 1000000 in
set_option maxRecDepth 100000 in
theorem wCopy_used (b : Nat) (w : World) (h0 : w.cell? ⟨b, 0, none⟩ = some (.pointer (some ⟨b, 0, none⟩))) :
    Calls Tryz.prog 149 #[.pointer (some ⟨b, 0, none⟩)] w fun e w' => e = .returned (.tuple #[]) ∧ w' = w := by
  obtain ⟨j, hj, hjs⟩ := Option.map_eq_some_iff.1 sizeBld
  have hne := run_neq_ptr_same w ⟨b, 0, none⟩ Tryz.underlying109 hj
  clear hj hjs
  go_enter Tryz.func149, Tryz.ntmps149
  go_wp2
  go_end0
  exact ⟨rfl, rfl⟩
theorem wCopy (B b : Nat) (bs : List Value) (w : World) (h : IsBuilder 114 5 B b bs w) :
    Calls Tryz.prog 149 #[.pointer (some ⟨b, 0, none⟩)] w fun e w' => e = .returned (.tuple #[]) ∧ BuilderAt 114 5 B b (.pointer (some ⟨b, 0, none⟩)) bs w' ∧ Below B w w' ∧ OthersKept 5 (some b) w w' := by
  rcases h with h | h
  · refine (wCopy_fresh b w h.cell0 h.shape h.frozen0).mono ?_
    rintro e w' ⟨rfl, rfl⟩
    exact ⟨rfl, h.used _, (Below.refl B w).setCell (p := ⟨b, 0, none⟩) h.1 _, (OthersKept.refl _ _ w).setCell ⟨b, 0, none⟩ rfl _⟩
  · refine (wCopy_used b w h.cell0).mono ?_
    rintro e w' ⟨rfl, rfl⟩
    exact ⟨rfl, h, Below.refl B _, OthersKept.refl _ _ _⟩
set_option maxHeartbeats 2000000 in
set_option maxRecDepth 100000 in
theorem wWrite (B b : Nat) (bs : List Value) (s : ByteArray) (w : World) (h : IsBuilder 114 5 B b bs w) (hlen : bs.length + s.size ≤ 140737488355328) (hBw : B ≤ w.heap.size) :
    Calls Tryz.prog 110 #[.pointer (some ⟨b, 0, none⟩), .string s] w fun e w' => e = .returned (.tuple #[.int .i64 s.size, .nilIface]) ∧ BuilderAt 114 5 B b (.pointer (some ⟨b, 0, none⟩)) (bs ++ strCells s) w' ∧ Below B w w' ∧ OthersKept 5 (some b) w w' := by
  obtain ⟨i0, hi, hz0, hz1, hz2⟩ := info_parts infoU8
  have hcp := wCopy B b bs w h
  clear h
  go_enter Tryz.func110, Tryz.ntmps110
  go_wp2_with fail
  refine hcp.mono ?_
  rintro e w1 ⟨rfl, h1, hb1, hk1⟩
  obtain ⟨hB, v, hbk, hown, hne⟩ := h1
  have c1 : w1.cell? ⟨b, 1, none⟩ = some v := by rw [cell_of_heap hbk]; rfl
  have hlt := lt_of_block hbk
  go_wp2_with (at_builtin; refine wpList_append_own_string _ rfl _ _ 110 9 rfl B 5 i0 Tryz.underlying110 Tryz.underlying9 hi hz0 hz1 hz2 _ _ _ rfl hown s rfl ?c3 ?c4 ?c5 ?_)
  case c3 => unfold maxLen; omega
  case c4 => omega
  case c5 => have := hb1.size; omega
  intro v' w2 hown' hgrow _
  have hb2 : w2.heap[b]? = some (.cells #[.pointer (some ⟨b, 0, none⟩), v] 114 (0, 0)) := by
    rw [hgrow.block b hlt (fun e => hne e.symm)]
    exact hbk
  have d1 : w2.cell? ⟨b, 1, none⟩ = some v := by rw [cell_of_heap hb2]; rfl
  have f1 : w2.frozen? ⟨b, 1, none⟩ = false := frozen_of_heap hb2 1
  obtain ⟨ao, n', cap, rfl⟩ : ∃ ao n' cap, v' = .slice ao n' cap := by
    rcases hown'.2 with ⟨hv, _⟩ | ⟨g, cap, cur, hv, _⟩
    · exact ⟨_, _, _, hv⟩
    · exact ⟨_, _, _, hv⟩
  have HE : Hid (BuilderAt 114 5 B b (.pointer (some ⟨b, 0, none⟩)) (bs ++ strCells s) (w2.setCell ⟨b, 1, none⟩ (.slice ao n' cap)) ∧ Below B w (w2.setCell ⟨b, 1, none⟩ (.slice ao n' cap)) ∧ OthersKept 5 (some b) w (w2.setCell ⟨b, 1, none⟩ (.slice ao n' cap))) :=
    ⟨BuilderAt.put hB hb2 (bs' := bs ++ strCells s) (by simpa [strCells_length] using hown') wrNe, (hb1.grown hgrow (by have := hb1.size; omega) (fun k hk => (hown.lt k hk).1)).setCell (p := ⟨b, 1, none⟩) hB _, (hk1.grown hgrow (ownsRowF_kind (World.ownsRowF_of hown))).setCell ⟨b, 1, none⟩ rfl _⟩
  clear hown' hgrow hown hbk hb1 hb2 hk1 hcp hne hi hz0 hz1 hz2
  go_wp2
  go_ret2
  exact ⟨rfl, HE.out⟩
set_option maxHeartbeats 1000000 in
set_option maxRecDepth 100000 in
theorem wString (B b : Nat) (l : List UInt8) (w : World) (h : IsBuilder 114 5 B b (byteCells l) w) (h0 : l ≠ []) :
    Calls Tryz.prog 76 #[.pointer (some ⟨b, 0, none⟩)] w fun e w' => e = .returned (.string ⟨l.toArray⟩) ∧ Below B w w' := by
  obtain ⟨p, hB, v, hbk, hown, hne⟩ : ∃ p, BuilderAt 114 5 B b p (byteCells l) w := by
    rcases h with h | h
    · exact ⟨_, h⟩
    · exact ⟨_, h⟩
  have hl0 : l.length ≠ 0 := by simpa using h0
  rw [byteCells_length] at hown
  obtain ⟨g, cap, cur, rfl, hbg, hg, hnc, hcm, hcs, htake⟩ : ∃ g cap cur, v = .slice (some ⟨g, 0, none⟩) l.length cap ∧ B ≤ g ∧ w.heap[g]? = some (.cells cur 5 (0, 0)) ∧ l.length ≤ cap ∧ cap ≤ maxLen ∧ cur.size = cap * 1 ∧ cur.toList.take (l.length * 1) = byteCells l := by
    rcases hown.2 with ⟨_, hz⟩ | ⟨g, cap, cur, hv, r⟩
    · exact absurd hz hl0
    · exact ⟨g, cap, cur, hv, r⟩
  have c1 : w.drew.cell? ⟨b, 1, none⟩ = some (.slice (some ⟨g, 0, none⟩) l.length cap) := by
    have : w.drew.heap[b]? = some (.cells #[p, .slice (some ⟨g, 0, none⟩) l.length cap] 114 (0, 0)) := hbk
    rw [cell_of_heap this]; rfl
  have hSD : (Builtin.unsafeSliceData_ #[110] 150 #[.slice (some ⟨g, 0, none⟩) l.length cap]).run Tryz.prog w.drew = .ok (.pointer (some ⟨g, 0, none⟩)) w.drew :=
    run_unsafeSliceData_row _ _ _ _ _ _ (by omega)
  have hUS : (Builtin.unsafeString_ #[150, 3] 9 #[.pointer (some ⟨g, 0, none⟩), .int .i64 l.length]).run Tryz.prog w.drew = .ok (.string ⟨l.toArray⟩) (w.drew.freeze ⟨g, 0, none⟩ l.length) := by
    refine run_unsafeString_row w.drew 150 3 9 5 Tryz.underlying150 cellsU8 g cur.size (by have hg' : w.drew.heap[g]? = some (.cells cur 5 (0, 0)) := hg; simp [World.shape?, hg']) l h0 (by omega) (by unfold maxLen at hcm; omega) ?_
    intro j x hx
    have := hown.cells (g := g) rfl j (.int .u8 x.toNat) (by simp [byteCells, hx])
    exact this
  have hbl := lt_of_block hbk
  clear h hown hg htake hcs hbk hne
  go_enter Tryz.func76, Tryz.ntmps76
  go_wp2
  go_region
  all_goals (try go_wp2)
  all_goals (go_ret; exact ⟨rfl, below_freeze (Below.drew (Below.refl B w)) (p := ⟨g, 0, none⟩) hbg _⟩)
end Go.Proofs.YtcdeicfegfedfaaGreatDoor

namespace Go.Proofs.YtcdeicfegfedfaaGreatDoor
namespace Par

def Bd (m : Nat) : Nat := 20000 * 5 ^ m
theorem Bd_succ (m : Nat) : Bd (m + 1) = 5 * Bd m := by unfold Bd; rw [Nat.pow_succ]; omega
theorem Bd_pos (m : Nat) : 20000 ≤ Bd m := by unfold Bd; have : 0 < 5 ^ m := Nat.pow_pos (by omega); omega
theorem Bd_mono {a b : Nat} (h : a ≤ b) : Bd a ≤ Bd b := Nat.mul_le_mul_left _ (Nat.pow_le_pow_right (by omega) h)
theorem Bd_12 : Bd 12 = 4882812500000 := by decide
theorem alone_cases {k p n ty : Int} {s : ByteArray} {l : List Po} {a : List Tr} (h : aloneF (.mk k p n ty s l a) = true) :
    (k = 1 ∧ numOK ty n = true ∧ a = []) ∨ (k = 2 ∧ nameOK s = true ∧ a = []) ∨ (k = 3 ∧ a.length = 2 ∧ 0 < levF s.data.toList) ∨ (k = 3 ∧ a.length = 1 ∧ (s.data.toList = [45] ∨ s.data.toList = [33])) ∨ (k = 4 ∧ nameOK s = true ∧ a.length ≤ 4) ∨ (k = 5 ∧ labOK l = true ∧ a.length = 1) := by
  simp only [aloneF] at h
  split at h
  · cases h
  split at h
  · cases h
  split at h
  · rename_i hk
    simp only [Bool.and_eq_true, beq_iff_eq] at h
    exact .inl ⟨hk, h.1.1, List.length_eq_zero_iff.1 h.2⟩
  split at h
  · rename_i hk
    simp only [Bool.and_eq_true, beq_iff_eq] at h
    exact .inr (.inl ⟨hk, h.1, List.length_eq_zero_iff.1 h.2⟩)
  split at h
  · rename_i hk
    simp only [Bool.or_eq_true, Bool.and_eq_true, beq_iff_eq, decide_eq_true_eq] at h
    rcases h with h | h
    · exact .inr (.inr (.inl ⟨hk, h.1, h.2⟩))
    · exact .inr (.inr (.inr (.inl ⟨hk, h.1, h.2⟩)))
  split at h
  · rename_i hk
    simp only [Bool.and_eq_true, decide_eq_true_eq] at h
    exact .inr (.inr (.inr (.inr (.inl ⟨hk, h.1, h.2⟩))))
  split at h
  · rename_i hk
    simp only [Bool.and_eq_true, beq_iff_eq] at h
    exact .inr (.inr (.inr (.inr (.inr ⟨hk, h.1.1, h.2⟩))))
  · cases h
theorem form_parts {m : Nat} {k p n ty : Int} {s : ByteArray} {l : List Po} {a : List Tr} (h : formD (m + 1) (.mk k p n ty s l a) = true) : aloneF (.mk k p n ty s l a) = true ∧ ∀ x ∈ a, formD m x = true := by
  simp only [formD, Bool.and_eq_true, Bool.or_eq_true, kidsOf, List.isEmpty_iff] at h
  refine ⟨h.1, fun x hx => ?_⟩
  rcases h.2 with h2 | h2
  · rw [h2] at hx; cases hx
  · exact List.all_eq_true.1 h2.2 x hx
theorem name_size {s : ByteArray} (h : nameOK s = true) : s.size ≤ 12 ∧ s.data.toList ≠ [] := by
  unfold nameOK Lex.nameF at h
  simp only [Bool.and_eq_true, decide_eq_true_eq, Bool.not_eq_true'] at h
  refine ⟨by have := h.1.1.1.2; rwa [Lex.len_of] at this, fun e => ?_⟩
  rw [e] at h
  cases h.1.1.1.1
theorem lev_size {s : List UInt8} (h : 0 < levF s) : s.length ≤ 2 ∧ s ≠ [] := by
  unfold levF at h
  split at h
  · rename_i hs; simp at hs; subst hs; simp
  split at h
  · rename_i hs; simp at hs; subst hs; simp
  split at h
  · rename_i hs; simp at hs; rcases hs with rfl | rfl | rfl | rfl | rfl | rfl <;> simp
  split at h
  · rename_i hs; simp at hs; rcases hs with rfl | rfl <;> simp
  split at h
  · rename_i hs; simp at hs; rcases hs with rfl | rfl | rfl <;> simp
  · omega
theorem lab_len {l : List Po} (h : labOK l = true) : (labelT l).length ≤ 19000 ∧ printE l = 0 := by
  unfold labOK at h
  simp only [Bool.and_eq_true, decide_eq_true_eq] at h
  refine ⟨?_, h.1⟩
  have h0 := h.1
  unfold printE at h0
  split at h0
  · cases h0
  · rename_i hh
    have hl : l.length ≤ 200 := by omega
    have hp : ∀ p ∈ l, longB p = false := fun p hp => by
      cases hb : longB p with
      | false => rfl
      | true => exact absurd (.inr (List.any_eq_true.2 ⟨p, hp, hb⟩)) hh
    have := bodyT_len hp
    have : l.length * 92 ≤ 200 * 92 := Nat.mul_le_mul_right _ hl
    have e : (labelT l).length = (bodyT l).length + 2 := by unfold labelT; simp
    omega
theorem num_len {t n : Int} (h : numOK t n = true) : (numT t n).length ≤ 20 ∧ numT t n ≠ [] := by
  unfold numOK at h
  simp only [Bool.or_eq_true, Bool.and_eq_true, beq_iff_eq, decide_eq_true_eq] at h
  unfold numT
  split
  · split <;> simp
  · rename_i ht
    rcases h with h | h
    · have hn : n = ((n.toNat : Nat) : Int) := by omega
      have e : Lib.itoa n = Lib.decDigits n.toNat := by unfold Lib.itoa; rw [if_neg (by omega)]
      rw [e]
      have hl := Lib.decDigits_length n.toNat
      have h1 := Lib.nDigits_le20 n.toNat (by omega)
      have h2 := Lib.nDigits_pos n.toNat
      exact ⟨by omega, fun e => by rw [e] at hl; simp at hl; omega⟩
    · exact absurd h.1 ht
theorem wrap_len (b : Bool) (l : List UInt8) : (wrapT b l).length ≤ l.length + 2 := by
  unfold wrapT
  split <;> simp
theorem txt1 (m : Nat) (p n ty : Int) (s : ByteArray) (l : List Po) (a : List Tr) : txt (m + 1) (.mk 1 p n ty s l a) = numT ty n := rfl
theorem txt2 (m : Nat) (p n ty : Int) (s : ByteArray) (l : List Po) (a : List Tr) : txt (m + 1) (.mk 2 p n ty s l a) = s.data.toList := rfl
theorem txt3a (m : Nat) (p n ty : Int) (s : ByteArray) (l : List Po) (x : Tr) : txt (m + 1) (.mk 3 p n ty s l [x]) = s.data.toList ++ wrapT (lessB 6 x) (txt m x) := rfl
theorem txt3b (m : Nat) (p n ty : Int) (s : ByteArray) (l : List Po) (x y : Tr) : txt (m + 1) (.mk 3 p n ty s l [x, y]) = wrapT (lessB (levF s.data.toList) x) (txt m x) ++ (32 :: (s.data.toList ++ (32 :: wrapT (lessB (levF s.data.toList + 1) y) (txt m y)))) := rfl
theorem txt4 (m : Nat) (p n ty : Int) (s : ByteArray) (l : List Po) (a : List Tr) : txt (m + 1) (.mk 4 p n ty s l a) = s.data.toList ++ (40 :: (Lib.join (a.map (txt m)) [44, 32] ++ [41])) := rfl
theorem txt5 (m : Nat) (p n ty : Int) (s : ByteArray) (l : List Po) (x : Tr) : txt (m + 1) (.mk 5 p n ty s l [x]) = [114, 101, 108, 101, 97, 115, 101, 40] ++ (txt m x ++ ([32, 116, 111, 32] ++ (labelT l ++ [41]))) := rfl
theorem kids_len {m : Nat} {a : List Tr} (h : ∀ x ∈ a, (txt m x).length ≤ Bd m) : (Lib.join (a.map (txt m)) [44, 32]).length ≤ a.length * (Bd m + 2) := by
  have := join_len (a.map (txt m)) [44, 32] (Bd m + 2) (fun b hb => by
    obtain ⟨x, hx, rfl⟩ := List.mem_map.1 hb
    have := h x hx
    simp; omega)
  simpa using this
theorem one_of {a : List Tr} (h : a.length = 1) : ∃ x, a = [x] := by
  match a, h with
  | [x], _ => exact ⟨x, rfl⟩
theorem two_of {a : List Tr} (h : a.length = 2) : ∃ x y, a = [x, y] := by
  match a, h with
  | [x, y], _ => exact ⟨x, y, rfl⟩
theorem txt_len : ∀ m t, formD m t = true → (txt m t).length ≤ Bd m ∧ txt m t ≠ [] := by
  intro m
  induction m with
  | zero => intro t h; cases h
  | succ m ih =>
    intro t h
    obtain ⟨k, p, n, ty, s, l, a⟩ := t
    obtain ⟨h1, h2⟩ := form_parts h
    have hb := Bd_succ m
    have hp := Bd_pos m
    rcases alone_cases h1 with ⟨rfl, hn, rfl⟩ | ⟨rfl, hn, rfl⟩ | ⟨rfl, hl, hv⟩ | ⟨rfl, hl, hv⟩ | ⟨rfl, hn, hl⟩ | ⟨rfl, hn, hl⟩
    · rw [txt1]
      have := num_len hn
      exact ⟨by omega, this.2⟩
    · rw [txt2]
      have := name_size hn
      rw [Lex.len_of]
      exact ⟨by omega, this.2⟩
    · obtain ⟨x, y, rfl⟩ := two_of hl
      rw [txt3b]
      have i1 := (ih x (h2 x (by simp))).1
      have i2 := (ih y (h2 y (by simp))).1
      have w1 := wrap_len (lessB (levF s.data.toList) x) (txt m x)
      have w2 := wrap_len (lessB (levF s.data.toList + 1) y) (txt m y)
      have hs := (lev_size hv).1
      refine ⟨?_, by simp⟩
      rw [List.length_append, List.length_cons, List.length_append, List.length_cons]
      omega
    · obtain ⟨x, rfl⟩ := one_of hl
      rw [txt3a]
      have i1 := (ih x (h2 x (by simp))).1
      have w1 := wrap_len (lessB 6 x) (txt m x)
      have hs : s.data.toList.length = 1 := by rcases hv with h | h <;> rw [h] <;> rfl
      refine ⟨?_, fun e => ?_⟩
      · rw [List.length_append]; omega
      · rw [List.append_eq_nil_iff] at e; rw [e.1] at hs; cases hs
    · rw [txt4]
      have i1 := kids_len (m := m) (a := a) fun x hx => (ih x (h2 x hx)).1
      have hs := (name_size hn).1
      rw [← Lex.len_of] at hs
      have : a.length * (Bd m + 2) ≤ 4 * (Bd m + 2) := Nat.mul_le_mul_right _ hl
      refine ⟨?_, by simp⟩
      rw [List.length_append, List.length_cons, List.length_append]
      simp only [List.length_cons, List.length_nil]
      omega
    · obtain ⟨x, rfl⟩ := one_of hl
      rw [txt5]
      have i1 := (ih x (h2 x (by simp))).1
      have hs := (lab_len hn).1
      refine ⟨?_, by simp⟩
      rw [List.length_append, List.length_append, List.length_append, List.length_append]
      simp only [List.length_cons, List.length_nil]
      omega
end Par
end Go.Proofs.YtcdeicfegfedfaaGreatDoor

namespace Go.Proofs.YtcdeicfegfedfaaGreatDoor
open Go.RowKit
open Par (Tok Po Tr nx atP isT ba Res)

structure WS (wq wr : World) (wb : Nat) (l : List UInt8) : Prop where
  bel : Below wq.heap.size wq wr
  bld : Lib.IsBuilder 114 5 wq.heap.size wb (Lib.byteCells l) wr
theorem isB_later {B b : Nat} {bs : List Value} {W W' : World} (h : Lib.IsBuilder 114 5 B b bs W) (hb : Below W.heap.size W W') : Lib.IsBuilder 114 5 B b bs W' := by
  have one : ∀ p, Lib.BuilderAt 114 5 B b p bs W → Lib.BuilderAt 114 5 B b p bs W' := by
    intro p h
    have hlt := h.lt
    obtain ⟨hB, v, hv, hown, hne⟩ := h
    exact ⟨hB, v, (hb.block b hlt).trans hv, hown.kept (row := none) ⟨hb.os, hb.tape, hb.output, hb.size, fun k hk _ => hb.block k hk⟩ (Classical.em _), hne⟩
  exact h.elim (fun x => .inl (one _ x)) (fun x => .inr (one _ x))
theorem WS.later {wq wr w' : World} {wb : Nat} {l : List UInt8} (h : WS wq wr wb l) (hb : Below wr.heap.size wr w') : WS wq w' wb l := ⟨h.bel.trans (hb.mono h.bel.size), isB_later h.bld hb⟩
theorem WS.lt {wq wr : World} {wb : Nat} {l : List UInt8} (h : WS wq wr wb l) : wb < wr.heap.size := by rcases h.bld with h | h <;> exact h.lt
theorem WS.low {wq wr : World} {wb : Nat} {l : List UInt8} (h : WS wq wr wb l) : wq.heap.size ≤ wb := by rcases h.bld with h | h <;> exact h.1
theorem WS.str {wq wr : World} {wb : Nat} {l : List UInt8} (h : WS wq wr wb l) (s : ByteArray) (hl : l.length + s.size ≤ 100000000000000) :
    Calls Tryz.prog 110 #[.pointer (some ⟨wb, 0, none⟩), .string s] wr fun e w' => e = .returned (.tuple #[.int .i64 s.size, .nilIface]) ∧ WS wq w' wb (l ++ s.data.toList) ∧ Lib.OthersKept 5 (some wb) wr w' := by
  refine (wWrite _ _ _ s _ h.bld (by rw [Lib.byteCells_length]; omega) h.bel.size).mono ?_
  rintro e w' ⟨rfl, h1, h2, h3⟩
  refine ⟨rfl, ⟨h.bel.trans h2, .inr ?_⟩, h3⟩
  rw [Lib.byteCells_append, ← Lib.strCells_eq]
  exact h1
def ItoaC (wq : World) : Prop := ∀ (n : Int) (V : World), 0 ≤ n → n ≤ 999999999 → Below wq.heap.size wq V → Calls Tryz.prog 151 #[.int .i64 n] V fun x w' => x = .returned (.string ⟨(Lib.itoa n).toArray⟩) ∧ Below V.heap.size V w'
set_option maxRecDepth 100000 in
theorem fmtIn (b : Bool) (w : World) : Calls Tryz.prog 171 #[.bool b] w fun x w' => x = .returned (.string ⟨(if b then [116, 114, 117, 101] else [102, 97, 108, 115, 101] : List UInt8).toArray⟩) ∧ w' = w := by
  cases b <;>
  · go_enter Tryz.func171, Tryz.ntmps171
    go_wp2
    go_ret
    exact ⟨rfl, rfl⟩
theorem fmtC (b : Bool) (w : World) : Calls Tryz.prog 150 #[.bool b] w fun x w' => x = .returned (.string ⟨(if b then [116, 114, 117, 101] else [102, 97, 108, 115, 101] : List UInt8).toArray⟩) ∧ w' = w := by
  have h := fmtIn b w
  obtain ⟨s, hs⟩ : ∃ s : ByteArray, s = ⟨(if b then [116, 114, 117, 101] else [102, 97, 108, 115, 101] : List UInt8).toArray⟩ := ⟨_, rfl⟩
  rw [← hs] at h ⊢
  clear hs
  go_enter Tryz.func150, Tryz.ntmps150
  go_wp2_with fail
  refine h.mono ?_
  rintro x w' ⟨rfl, hw⟩
  have hw' := hw.symm
  subst hw'
  go_wp2
  go_ret
  exact ⟨rfl, rfl⟩
theorem numberC {wq w : World} (hI : ItoaC wq) (hb : Below wq.heap.size wq w) {ty n : Int} (h : Par.numOK ty n = true) : Calls Tryz.prog 111 #[.int .i64 ty, .int .i64 n] w fun x w' => x = .returned (.string ⟨(Par.numT ty n).toArray⟩) ∧ Below w.heap.size w w' := by
  by_cases h2 : ty = 2
  · subst h2
    have HF := fmtC (n == 1) w
    have e : Par.numT 2 n = (if (n == 1) = true then [116, 114, 117, 101] else [102, 97, 108, 115, 101]) := by
      unfold Par.numT; rw [if_pos rfl]; by_cases hn : n = 1 <;> simp [hn]
    rw [e]
    obtain ⟨s, hs⟩ : ∃ s : ByteArray, s = ⟨(if (n == 1) = true then [116, 114, 117, 101] else [102, 97, 108, 115, 101] : List UInt8).toArray⟩ := ⟨_, rfl⟩
    rw [← hs] at HF ⊢
    clear hs e h
    go_enter Tryz.func111, Tryz.ntmps111
    go_wp2_with fail
    refine HF.mono ?_
    rintro x w' ⟨rfl, hw⟩
    have hw' := hw.symm
    subst hw'
    go_wp2
    go_ret
    exact ⟨rfl, Below.refl _ _⟩
  · have b2 : (ty == 2) = false := by simp [h2]
    have hn : 0 ≤ n ∧ n ≤ 999999999 := by
      unfold Par.numOK at h
      simp only [b2, Bool.false_and, Bool.or_false, Bool.and_eq_true, decide_eq_true_eq] at h
      exact h.2
    have HI := hI n w hn.1 hn.2 hb
    have e : Par.numT ty n = Lib.itoa n := by unfold Par.numT; rw [if_neg h2]
    rw [e]
    obtain ⟨s, hs⟩ : ∃ s : ByteArray, s = ⟨(Lib.itoa n).toArray⟩ := ⟨_, rfl⟩
    rw [← hs] at HI ⊢
    clear hs e h h2 hn
    go_enter Tryz.func111, Tryz.ntmps111
    go_wp2_with fail
    refine HI.mono ?_
    rintro x w' ⟨rfl, hw⟩
    go_wp2
    go_ret
    exact ⟨rfl, hw⟩
theorem labTC {w : World} {S : Nat → Prop} {v : Value} {l : List Po} (h : LabV w S v l) (h0 : Par.labOK l = true) : Calls Tryz.prog 114 #[v] w fun x w' => x = .returned (.string ⟨(labelT l).toArray⟩) ∧ Below w.heap.size w w' := by
  obtain ⟨ao, b, off, c, rfl, hc, hm, hp⟩ := h.toP
  have hpr := printC ao b off l.length c l w hp
  have e0 := (Par.lab_len h0).2
  have ev : printV l = ⟨(labelT l).toArray⟩ := by unfold printV; rw [e0]; rfl
  rw [e0, ev] at hpr
  obtain ⟨s, hs⟩ : ∃ s : ByteArray, s = ⟨(labelT l).toArray⟩ := ⟨_, rfl⟩
  rw [← hs] at hpr ⊢
  clear hs ev e0 hp h h0
  go_enter Tryz.func114, Tryz.ntmps114
  go_wp2_with fail
  refine hpr.mono ?_
  rintro x w' ⟨rfl, hw⟩
  go_wp2
  go_ret
  exact ⟨rfl, hw⟩
def flatB (l : List ByteArray) : List UInt8 := (l.map (·.data.toList)).flatten
theorem flatB_snoc (l : List ByteArray) (s : ByteArray) : flatB (l ++ [s]) = flatB l ++ s.data.toList := by simp [flatB]
theorem flatB_le {ls : List ByteArray} (k : Nat) : (flatB (ls.take k)).length ≤ (flatB ls).length := by
  have e : flatB ls = flatB (ls.take k) ++ flatB (ls.drop k) := by
    unfold flatB
    rw [← List.flatten_append, ← List.map_append, List.take_append_drop]
  rw [e, List.length_append]; omega
theorem bsize (s : ByteArray) : s.data.toList.length = s.size := Lex.len_of s
set_option maxRecDepth 100000 in
set_option maxHeartbeats 2000000 in
theorem partsC {wq w : World} {wb pb n : Nat} {l : List UInt8} (ls : List ByteArray) (cs : Array Value) (hn : n = ls.length) (hm : n ≤ 100) (hcs : ∀ k (h : k < ls.length), cs[k]? = some (.string ls[k])) (h : WS wq w wb l) (hp : w.heap[pb]? = some (.cells cs 9 (0, 0))) (hpb : pb ≠ wb) (hl : l.length + (flatB ls).length ≤ 100000000000000) :
    Calls Tryz.prog 113 #[.pointer (some ⟨wb, 0, none⟩), .slice (some ⟨pb, 0, none⟩) n n] w fun x w' => x = .returned (.tuple #[]) ∧ WS wq w' wb (l ++ flatB ls) := by
  have HN : Hid (n = ls.length) := hn
  have HC : Hid (∀ k (h : k < ls.length), cs[k]? = some (.string ls[k])) := hcs
  have HS : Hid (WS wq w wb l) := h
  have HP : Hid (w.heap[pb]? = some (.cells cs 9 (0, 0))) := hp
  have HL : Hid (l.length + (flatB ls).length ≤ 100000000000000) := hl
  clear hn hcs h hp hl
  go_enter Tryz.func113, Tryz.ntmps113
  go_wp2
  go_loopw [8] (fun i wz => ∃ k : Nat, k ≤ n ∧ i = .int .i64 k ∧ Hid (WS wq wz wb (l ++ flatB (ls.take k)) ∧ wz.heap[pb]? = some (.cells cs 9 (0, 0)))) (fun i _ => n - (intOf i).toNat)
  case atStart => exact ⟨0, Nat.zero_le _, rfl, by show _ ∧ _; simpa [flatB] using ⟨HS.out, HP.out⟩⟩
  case round =>
    obtain ⟨k, hk, rfl, HK⟩ := hrel
    by_cases hlt : k < n
    · have hkl : k < ls.length := by have := HN.out; omega
      have hpl := lt_of_block HK.out.2
      have c0 : wr.cell? ⟨pb, k, none⟩ = some (.string ls[k]) := by
        simp only [World.cell?, HK.out.2]; exact HC.out k hkl
      have hs1 : (flatB (ls.take (k + 1))) = flatB (ls.take k) ++ ls[k].data.toList := by rw [List.take_succ_eq_append_getElem hkl, flatB_snoc]
      have hle := flatB_le (ls := ls) (k + 1)
      have hsz := bsize ls[k]
      have hw := HK.out.1.str ls[k] (by
        have := HL.out
        rw [hs1] at hle
        simp only [List.length_append] at hle ⊢
        omega)
      have HS1 : Hid (flatB (ls.take (k + 1)) = flatB (ls.take k) ++ ls[k].data.toList) := hs1
      obtain ⟨x, hx⟩ : ∃ x, x = ls[k] := ⟨_, rfl⟩
      have HX : Hid (x = ls[k]) := hx
      rw [← hx] at c0 hw
      clear hs1 hle hsz hx
      go_wp2_with fail
      refine hw.mono ?_
      rintro y w2 ⟨rfl, hs2, hk2⟩
      have HK2 : Hid (WS wq w2 wb (l ++ flatB (ls.take (k + 1))) ∧ w2.heap[pb]? = some (.cells cs 9 (0, 0))) := ⟨by rw [HS1.out, ← List.append_assoc, ← HX.out]; exact hs2, hk2 _ _ HK.out.2 (by simp [hpb]) (by simp)⟩
      clear hs2 hk2 hw
      go_wp2
      go_roundw
      case rel => exact ⟨k + 1, by omega, by go_num, HK2⟩
      case measure => simp [intOf]; omega
    · have HF : Hid (WS wq wr wb (l ++ flatB ls)) := by
        have := HK.out.1
        rwa [List.take_of_length_le (by have := HN.out; omega)] at this
      go_wp2
      go_end0
      exact ⟨rfl, HF.out⟩
end Go.Proofs.YtcdeicfegfedfaaGreatDoor
