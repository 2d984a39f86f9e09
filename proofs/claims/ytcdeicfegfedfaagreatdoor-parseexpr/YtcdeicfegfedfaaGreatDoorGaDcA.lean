/- The document's own reader of texts: where it stands; wrong, peek, sees, skip, need, name. The document's own reader: wrong, skip, need, name. The document's own reader where it has stopped: label and args come back at once. -/
import Derived.Test.YtcdeicfegfedfaaGreatDoorGaDoc
import Derived.Test.YtcdeicfegfedfaaGreatDoorGaRow
import Derived.Test.YtcdeicfegfedfaaGreatDoorGaRd
import Derived.BigQuiet
import Derived.Deep.RegionHeld3
namespace Go.Proofs.YtcdeicfegfedfaaGreatDoor
open Go.RowKit
open Par (Tok nx atP isT seesB ba)

/- The reader's block: its tokens, how far, the text's end, what is wrong and where, how deep. -/
def txC (v : Value) (k e : Nat) (c p bl al : Int) : Array Value := #[v, .int .i64 (k : Int), .int .i64 (e : Int), .int .i64 c, .int .i64 p, .int .i64 bl, .int .i64 al]
structure Tx (w : World) (tb e : Nat) (ts : List Tok) (v : Value) (k : Nat) (c p bl al : Int) : Prop where
  blk : w.heap[tb]? = some (.cells (txC v k e c p bl al) 78 (0, 0))
  le : k ≤ ts.length
  few : ts.length ≤ 100000
  big : e ≤ 1000000000000
  row : ∃ lo b off cap, v = .slice lo ts.length cap ∧ (0 < ts.length → lo = some ⟨b, off, none⟩ ∧ b ≠ tb ∧ b < w.heap.size) ∧ ∀ i (h : i < ts.length), w.cell? ⟨b, off + i * 3, none⟩ = some (.int .i64 ts[i].1) ∧ w.cell? ⟨b, off + i * 3 + 1, none⟩ = some (.int .i64 (ts[i].2.1 : Int)) ∧ w.cell? ⟨b, off + i * 3 + 2, none⟩ = some (.string (ba ts[i].2.2))
theorem Tx.lt {w : World} {tb e : Nat} {ts : List Tok} {v : Value} {k : Nat} {c p bl al : Int} (h : Tx w tb e ts v k c p bl al) : tb < w.heap.size := lt_of_block h.blk
theorem Tx.kept {w w' : World} {tb e e' : Nat} {ts : List Tok} {v : Value} {k k' : Nat} {c p bl al c' p' bl' al' : Int} (h : Tx w tb e ts v k c p bl al) (hg : w.grownBy w' (some tb)) (hb : w'.heap[tb]? = some (.cells (txC v k' e' c' p' bl' al') 78 (0, 0))) (hk : k' ≤ ts.length) (he : e' ≤ 1000000000000) : Tx w' tb e' ts v k' c' p' bl' al' := by
  obtain ⟨lo, b, off, cap, hv, h1, h2⟩ := h.row
  refine ⟨hb, hk, h.few, he, lo, b, off, cap, hv, fun hp => ?_, fun i hi => ?_⟩
  · obtain ⟨a1, a2, a3⟩ := h1 hp
    exact ⟨a1, a2, Nat.lt_of_lt_of_le a3 hg.size⟩
  · obtain ⟨_, a2, a3⟩ := h1 (by omega)
    have hbl := hg.block b a3 (by simp; omega)
    obtain ⟨c0, c1, c2⟩ := h2 i hi
    exact ⟨(World.cell?_of_block (a := ⟨b, off + i * 3, none⟩) hbl).trans c0, (World.cell?_of_block (a := ⟨b, off + i * 3 + 1, none⟩) hbl).trans c1, (World.cell?_of_block (a := ⟨b, off + i * 3 + 2, none⟩) hbl).trans c2⟩
theorem grown_of_below {w w' : World} {row : Option Nat} (h : Below w.heap.size w w') : w.grownBy w' row := ⟨h.os, h.tape, h.output, h.size, fun j hj _ => h.block j hj⟩
theorem Tx.later {w w' : World} {tb e : Nat} {ts : List Tok} {v : Value} {k : Nat} {c p bl al : Int} (h : Tx w tb e ts v k c p bl al) (hb : Below w.heap.size w w') : Tx w' tb e ts v k c p bl al := h.kept (grown_of_below hb) ((hb.block _ h.lt).trans h.blk) h.le h.big
theorem Tx.cells {w : World} {tb e : Nat} {ts : List Tok} {v : Value} {k : Nat} {c p bl al : Int} (h : Tx w tb e ts v k c p bl al) : w.cell? ⟨tb, 0, none⟩ = some v ∧ w.cell? ⟨tb, 1, none⟩ = some (.int .i64 (k : Int)) ∧ w.cell? ⟨tb, 2, none⟩ = some (.int .i64 (e : Int)) ∧ w.cell? ⟨tb, 3, none⟩ = some (.int .i64 c) ∧ w.cell? ⟨tb, 4, none⟩ = some (.int .i64 p) ∧ w.cell? ⟨tb, 5, none⟩ = some (.int .i64 bl) ∧ w.cell? ⟨tb, 6, none⟩ = some (.int .i64 al) := by
  have hb := h.blk
  refine ⟨?_, ?_, ?_, ?_, ?_, ?_, ?_⟩ <;> simp [World.cell?, hb, txC]
theorem Tx.free {w : World} {tb e : Nat} {ts : List Tok} {v : Value} {k : Nat} {c p bl al : Int} (h : Tx w tb e ts v k c p bl al) (i : Nat) : w.frozen? ⟨tb, i, none⟩ = false := by simp [World.frozen?, h.blk]
/- What stands next. -/
theorem nx_drop {ts : List Tok} {k : Nat} (h : k < ts.length) : nx (ts.drop k) = ts[k] := by rw [List.drop_eq_getElem_cons h]; rfl
theorem nx_end {ts : List Tok} {k : Nat} (h : ts.length ≤ k) : nx (ts.drop k) = (0, 0, []) := by rw [List.drop_of_length_le h]; rfl
theorem atP_drop {ts : List Tok} {k e : Nat} (h : k < ts.length) : atP e (ts.drop k) = ts[k].2.1 := by rw [List.drop_eq_getElem_cons h]; rfl
theorem atP_end {ts : List Tok} {k e : Nat} (h : ts.length ≤ k) : atP e (ts.drop k) = e := by rw [List.drop_of_length_le h]; rfl
def tkV (t : Tok) : Value := .agg #[.int .i64 t.1, .int .i64 (t.2.1 : Int), .string (ba t.2.2)]

theorem tok_new (w : World) (q : Nat) (x0 x1 x2 : Value) : let W := ((((w.alloc (.cells #[.int .i64 0, .int .i64 0, .string ⟨#[]⟩] 80)).drewN q).setCell ⟨w.heap.size, 0, none⟩ x0).setCell ⟨w.heap.size, 1, none⟩ x1).setCell ⟨w.heap.size, 2, none⟩ x2
    W.heap[w.heap.size]? = some (.cells #[x0, x1, x2] 80 (0, 0)) ∧ Below w.heap.size w W := by
  have h0 : ((w.alloc (.cells #[.int .i64 0, .int .i64 0, .string ⟨#[]⟩] 80)).drewN q).heap[w.heap.size]? = some (.cells #[.int .i64 0, .int .i64 0, .string ⟨#[]⟩] 80 (0, 0)) := heap_at_alloc _ _ _ rfl
  refine ⟨?_, ?_⟩
  · simp only [World.setCell, Array.getElem?_modify, h0]
    rfl
  · have hb := (Below.refl w.heap.size w).alloc (Nat.le_refl _) (.cells #[.int .i64 0, .int .i64 0, .string ⟨#[]⟩] 80)
    have hd : Below w.heap.size w ((w.alloc (.cells #[.int .i64 0, .int .i64 0, .string ⟨#[]⟩] 80)).drewN q) := ⟨hb.os, hb.tape, hb.output, hb.size, hb.block⟩
    exact ((hd.setCell (Nat.le_refl _) _).setCell (Nat.le_refl _) _).setCell (Nat.le_refl _) _

set_option maxRecDepth 100000 in
set_option maxHeartbeats 4000000 in
theorem peekD {w : World} {tb e : Nat} {ts : List Tok} {v : Value} {k : Nat} {c p bl al : Int} (h : Tx w tb e ts v k c p bl al) :
    Calls Tryz.prog 40 #[.pointer (some ⟨tb, 0, none⟩)] w fun x w' => x = .returned (tkV (nx (ts.drop k))) ∧ Below w.heap.size w w' := by
  obtain ⟨q0, q1, _⟩ := h.cells
  have hlt := h.lt
  obtain ⟨lo, b, off, cap, hv, h1, h2⟩ := h.row
  obtain ⟨n, hn⟩ : ∃ n, n = ts.length := ⟨_, rfl⟩
  have hf := h.few
  rw [← hn] at hv h1 hf
  subst hv
  have HN : Hid (n = ts.length) := hn
  by_cases hk : k < n
  · have hkl : k < ts.length := by omega
    obtain ⟨a1, _, a3⟩ := h1 (by omega)
    obtain ⟨c0, c1, c2⟩ := h2 k hkl
    rw [nx_drop hkl]
    obtain ⟨t, ht⟩ : ∃ t, t = ts[k] := ⟨_, rfl⟩
    rw [← ht] at c0 c1 c2 ⊢
    obtain ⟨t0, t1, t2⟩ := t
    simp only at c0 c1 c2
    unfold tkV
    simp only
    obtain ⟨s2, hs2⟩ : ∃ s2, s2 = ba t2 := ⟨_, rfl⟩
    rw [← hs2] at c2 ⊢
    subst a1
    clear h h1 h2 hn ht hkl hs2
    go_enter Tryz.func40, Tryz.ntmps40
    go_wp2
    go_quiet (fail)
    go_wp2
    go_region
    all_goals go_wp2
    obtain ⟨g1, g2⟩ := tok_new w (nq + 1) (.int .i64 t0) (.int .i64 (t1 : Int)) (.string s2)
    obtain ⟨wz, hwz⟩ : ∃ wz, wz = ((((w.alloc (.cells #[.int .i64 0, .int .i64 0, .string ⟨#[]⟩] 80)).drewN (nq + 1)).setCell ⟨w.heap.size, 0, none⟩ (.int .i64 t0)).setCell ⟨w.heap.size, 1, none⟩ (.int .i64 (t1 : Int))).setCell ⟨w.heap.size, 2, none⟩ (.string s2) := ⟨_, rfl⟩
    rw [← hwz] at g1 g2 ⊢
    have e0 : wz.cell? ⟨w.heap.size, 0, none⟩ = some (.int .i64 t0) := by simp [World.cell?, g1]
    have e1 : wz.cell? ⟨w.heap.size, 1, none⟩ = some (.int .i64 (t1 : Int)) := by simp [World.cell?, g1]
    have e2 : wz.cell? ⟨w.heap.size, 2, none⟩ = some (.string s2) := by simp [World.cell?, g1]
    exact bodyPost_ret (v := .agg #[.int .i64 t0, .int .i64 (t1 : Int), .string s2]) (by simp [results, Tryz.results40, go_sem, e0, e1, e2]) rfl ⟨rfl, g2⟩
  · have hkl : ts.length ≤ k := by omega
    rw [nx_end hkl]
    unfold tkV
    simp only
    have hba : ba [] = ⟨#[]⟩ := rfl
    rw [hba]
    have hkn : decide ((k : Int) < (n : Int)) = false := by simp; omega
    clear h h1 h2 hn hkl hba
    go_enter Tryz.func40, Tryz.ntmps40
    go_wp2
    go_quiet (fail)
    go_wp2
    obtain ⟨g1, g2⟩ := tok_new w nq (.int .i64 0) (.int .i64 0) (.string ⟨#[]⟩)
    obtain ⟨wz, hwz⟩ : ∃ wz, wz = ((((w.alloc (.cells #[.int .i64 0, .int .i64 0, .string ⟨#[]⟩] 80)).drewN nq).setCell ⟨w.heap.size, 0, none⟩ (.int .i64 0)).setCell ⟨w.heap.size, 1, none⟩ (.int .i64 0)).setCell ⟨w.heap.size, 2, none⟩ (.string ⟨#[]⟩) := ⟨_, rfl⟩
    rw [← hwz] at g1 g2 ⊢
    have e0 : wz.cell? ⟨w.heap.size, 0, none⟩ = some (.int .i64 0) := by simp [World.cell?, g1]
    have e1 : wz.cell? ⟨w.heap.size, 1, none⟩ = some (.int .i64 0) := by simp [World.cell?, g1]
    have e2 : wz.cell? ⟨w.heap.size, 2, none⟩ = some (.string ⟨#[]⟩) := by simp [World.cell?, g1]
    exact bodyPost_ret (v := .agg #[.int .i64 0, .int .i64 0, .string ⟨#[]⟩]) (by simp [results, Tryz.results40, go_sem, e0, e1, e2]) rfl ⟨rfl, g2⟩

/- sees: the next token is that word or sign. -/
theorem ba_list (l : List UInt8) : (ba l).toList = l := by simp [ba, ByteArray.toList_eq]
set_option maxRecDepth 100000 in
set_option maxHeartbeats 4000000 in
theorem seesD {w : World} {tb e : Nat} {ts : List Tok} {v : Value} {k : Nat} {c p bl al : Int} (s : List UInt8) (h : Tx w tb e ts v k c p bl al) :
    Calls Tryz.prog 47 #[.pointer (some ⟨tb, 0, none⟩), .string (ba s)] w fun x w' => x = .returned (.bool (seesB s (ts.drop k))) ∧ Below w.heap.size w w' := by
  have hpk := peekD h
  obtain ⟨t, ht⟩ : ∃ t, t = nx (ts.drop k) := ⟨_, rfl⟩
  have HE : Hid (seesB s (ts.drop k) = (t.2.2 == s && (t.1 == 3 || t.1 == 4))) := by show _ = _; rw [ht]; rfl
  rw [← ht] at hpk
  obtain ⟨t0, t1, t2⟩ := t
  unfold tkV at hpk
  simp only at hpk HE
  rw [HE.out]
  have hq : ((ba t2).toList == (ba s).toList) = (t2 == s) := by rw [ba_list, ba_list]
  obtain ⟨b1, hb1⟩ : ∃ b1, b1 = (t2 == s) := ⟨_, rfl⟩
  rw [← hb1] at hq ⊢
  obtain ⟨s1, hs1⟩ : ∃ s1, s1 = ba s := ⟨_, rfl⟩
  obtain ⟨s2, hs2⟩ : ∃ s2, s2 = ba t2 := ⟨_, rfl⟩
  rw [← hs1] at hq ⊢
  rw [← hs2] at hq hpk
  obtain ⟨b3, hb3⟩ : ∃ b3, b3 = (t0 == 3) := ⟨_, rfl⟩
  obtain ⟨b4, hb4⟩ : ∃ b4, b4 = (t0 == 4) := ⟨_, rfl⟩
  rw [← hb3, ← hb4]
  have hb3' := hb3.symm
  have hb4' := hb4.symm
  clear h ht HE hb1 hs1 hs2 hb3 hb4
  go_enter Tryz.func47, Tryz.ntmps47
  go_wp2_with fail
  refine hpk.mono ?_
  rintro x w1 ⟨rfl, hbl⟩
  have HB : Hid (Below w.heap.size w w1) := hbl
  clear hbl hpk
  cases b1 <;> cases b3 <;> cases b4
  all_goals go_wp2
  all_goals go_ret
  all_goals exact ⟨rfl, HB.out.alloc HB.out.size _⟩
end Go.Proofs.YtcdeicfegfedfaaGreatDoor

namespace Go.Proofs.YtcdeicfegfedfaaGreatDoor
open Go.RowKit
open Par (Tok nx atP isT seesB ba)

theorem below_dN (w : World) (m : Nat) : Below w.heap.size w (w.drewN m) := ⟨rfl, rfl, rfl, Nat.le_refl _, fun _ _ => rfl⟩
/- What is wrong stays, the reader is at its end. -/
def WrP (w : World) (tb e : Nat) (ts : List Tok) (v : Value) (k : Nat) (c p bl al cd : Int) (w' : World) : Prop :=
  w.grownBy w' (some tb) ∧ Tx w' tb e ts v ts.length (if c = 0 then cd else c) (if c = 0 then (atP e (ts.drop k) : Int) else p) bl al
theorem tx_set1 {W : World} {tb : Nat} {v : Value} {k e k' : Nat} {c p bl al : Int} (h : W.heap[tb]? = some (.cells (txC v k e c p bl al) 78 (0, 0))) : (W.setCell ⟨tb, 1, none⟩ (.int .i64 (k' : Int))).heap[tb]? = some (.cells (txC v k' e c p bl al) 78 (0, 0)) := by
  simp only [World.setCell, Array.getElem?_modify, h]
  simp [txC]
theorem tx_set34 {W : World} {tb : Nat} {v : Value} {k e : Nat} {c p bl al c' p' : Int} (h : W.heap[tb]? = some (.cells (txC v k e c p bl al) 78 (0, 0))) : ((W.setCell ⟨tb, 3, none⟩ (.int .i64 c')).setCell ⟨tb, 4, none⟩ (.int .i64 p')).heap[tb]? = some (.cells (txC v k e c' p' bl al) 78 (0, 0)) := by
  simp only [World.setCell, Array.getElem?_modify, h]
  simp [txC]

set_option maxRecDepth 100000 in
set_option maxHeartbeats 4000000 in
theorem wrongD {w : World} {tb e : Nat} {ts : List Tok} {v : Value} {k : Nat} {c p bl al : Int} (cd : Int) (h : Tx w tb e ts v k c p bl al) :
    Calls Tryz.prog 37 #[.pointer (some ⟨tb, 0, none⟩), .int .i64 cd] w fun x w' => x = .returned (.tuple #[]) ∧ WrP w tb e ts v k c p bl al cd w' := by
  obtain ⟨q0, q1, q2, q3, q4, q5, q6⟩ := h.cells
  have z1 := h.free 1
  have z3 := h.free 3
  have z4 := h.free 4
  have hlt := h.lt
  have H : Hid (Tx w tb e ts v k c p bl al) := h
  obtain ⟨lo, b, off, cap, hv, h1, h2⟩ := h.row
  obtain ⟨n, hn⟩ : ∃ n, n = ts.length := ⟨_, rfl⟩
  have hf := h.few
  have hbg := h.big
  have HV : Hid (v = .slice lo ts.length cap) := hv
  rw [← hn] at hv h1 hf
  have HN : Hid (n = ts.length) := hn
  rw [hv] at q0
  by_cases hc : c = 0
  · subst hc
    by_cases hk : k < n
    · have hkl : k < ts.length := by omega
      obtain ⟨a1, _, a3⟩ := h1 (by omega)
      have c1 := (h2 k hkl).2.1
      have HA : Hid (atP e (ts.drop k) = ts[k].2.1) := atP_drop hkl
      obtain ⟨t1, ht1⟩ : ∃ t1, t1 = ts[k].2.1 := ⟨_, rfl⟩
      rw [← ht1] at c1 HA
      have hd : decide ((k : Int) < (n : Int)) = true := by simp; omega
      have HF : Hid (∀ q, WrP w tb e ts v k 0 p bl al cd ((((w.drewN q).setCell ⟨tb, 3, none⟩ (.int .i64 cd)).setCell ⟨tb, 4, none⟩ (.int .i64 (t1 : Int))).setCell ⟨tb, 1, none⟩ (.int .i64 (n : Int)))) := fun q => by
        have hg : w.grownBy ((((w.drewN q).setCell ⟨tb, 3, none⟩ (.int .i64 cd)).setCell ⟨tb, 4, none⟩ (.int .i64 (t1 : Int))).setCell ⟨tb, 1, none⟩ (.int .i64 (n : Int))) (some tb) := by
          refine grown_set ?_ rfl _
          refine grown_set ?_ rfl _
          refine grown_set ?_ rfl _
          exact grown_of_below (below_dN w q)
        refine ⟨hg, ?_⟩
        rw [if_pos rfl, if_pos rfl, HA.out, ← HN.out]
        have hb0 : (w.drewN q).heap[tb]? = some (.cells (txC v k e 0 p bl al) 78 (0, 0)) := H.out.blk
        have hb1 := tx_set34 (c' := cd) (p' := (t1 : Int)) hb0
        have hb2 := tx_set1 (k' := n) hb1
        exact H.out.kept hg hb2 (by rw [HN.out]; exact Nat.le_refl _) H.out.big
      subst a1
      clear h h1 h2 hn ht1 hkl hv HV HA
      go_enter Tryz.func37, Tryz.ntmps37
      go_wp2
      go_quiet (fail)
      go_wp2
      go_quiet (fail)
      go_wp2
      go_end0
      exact ⟨rfl, HF.out _⟩
    · have hkl : ts.length ≤ k := by omega
      have HA : Hid (atP e (ts.drop k) = e) := atP_end hkl
      have hd : decide ((k : Int) < (n : Int)) = false := by simp; omega
      have HF : Hid (∀ q, WrP w tb e ts v k 0 p bl al cd ((((w.drewN q).setCell ⟨tb, 3, none⟩ (.int .i64 cd)).setCell ⟨tb, 4, none⟩ (.int .i64 (e : Int))).setCell ⟨tb, 1, none⟩ (.int .i64 (n : Int)))) := fun q => by
        have hg : w.grownBy ((((w.drewN q).setCell ⟨tb, 3, none⟩ (.int .i64 cd)).setCell ⟨tb, 4, none⟩ (.int .i64 (e : Int))).setCell ⟨tb, 1, none⟩ (.int .i64 (n : Int))) (some tb) := by
          refine grown_set ?_ rfl _
          refine grown_set ?_ rfl _
          refine grown_set ?_ rfl _
          exact grown_of_below (below_dN w q)
        refine ⟨hg, ?_⟩
        rw [if_pos rfl, if_pos rfl, HA.out, ← HN.out]
        have hb0 : (w.drewN q).heap[tb]? = some (.cells (txC v k e 0 p bl al) 78 (0, 0)) := H.out.blk
        have hb1 := tx_set34 (c' := cd) (p' := (e : Int)) hb0
        have hb2 := tx_set1 (k' := n) hb1
        exact H.out.kept hg hb2 (by rw [HN.out]; exact Nat.le_refl _) H.out.big
      clear h h1 h2 hn hkl hv HV HA
      go_enter Tryz.func37, Tryz.ntmps37
      go_wp2
      go_quiet (fail)
      go_wp2
      go_end0
      exact ⟨rfl, HF.out _⟩
  · have hce : (c == 0) = false := by simpa using hc
    have HC : Hid (¬ c = 0) := hc
    have HF : Hid (WrP w tb e ts v k c p bl al cd (w.setCell ⟨tb, 1, none⟩ (.int .i64 (n : Int)))) := by
      have hg : w.grownBy (w.setCell ⟨tb, 1, none⟩ (.int .i64 (n : Int))) (some tb) := grown_set (grown_refl _ _) rfl _
      refine ⟨hg, ?_⟩
      rw [if_neg HC.out, if_neg HC.out, ← HN.out]
      exact H.out.kept hg (tx_set1 (k' := n) H.out.blk) (by rw [HN.out]; exact Nat.le_refl _) H.out.big
    clear h h1 h2 hn hv HV hc
    go_enter Tryz.func37, Tryz.ntmps37
    go_wp2
    go_end0
    exact ⟨rfl, HF.out⟩

/- skip: goes on behind that word or sign, if it is there. -/
def SkP (w : World) (tb e : Nat) (ts : List Tok) (v : Value) (k : Nat) (c p bl al : Int) (r : Bool) (w' : World) : Prop :=
  w.grownBy w' (some tb) ∧ (r = true → k < ts.length) ∧ Tx w' tb e ts v (if r = true then k + 1 else k) c p bl al
set_option maxRecDepth 100000 in
set_option maxHeartbeats 4000000 in
theorem skipD {w : World} {tb e : Nat} {ts : List Tok} {v : Value} {k : Nat} {c p bl al : Int} (s : List UInt8) (h : Tx w tb e ts v k c p bl al) :
    Calls Tryz.prog 45 #[.pointer (some ⟨tb, 0, none⟩), .string (ba s)] w fun x w' => x = .returned (.bool (seesB s (ts.drop k))) ∧ SkP w tb e ts v k c p bl al (seesB s (ts.drop k)) w' := by
  have hs := seesD s h
  have H : Hid (Tx w tb e ts v k c p bl al) := h
  have hkb : k ≤ 100000 := Nat.le_trans h.le h.few
  obtain ⟨r, hr⟩ : ∃ r, r = seesB s (ts.drop k) := ⟨_, rfl⟩
  have HR : Hid (r = seesB s (ts.drop k)) := hr
  rw [← hr] at hs ⊢
  obtain ⟨s1, hs1⟩ : ∃ s1, s1 = ba s := ⟨_, rfl⟩
  rw [← hs1] at hs ⊢
  clear h hr hs1
  go_enter Tryz.func45, Tryz.ntmps45
  go_wp2_with fail
  refine hs.mono ?_
  rintro x w1 ⟨rfl, hb⟩
  have H1 : Hid (Tx w1 tb e ts v k c p bl al) := H.out.later hb
  have HB : Hid (Below w.heap.size w w1) := hb
  clear hb hs
  cases r with
  | false =>
    go_wp2
    go_ret
    exact ⟨rfl, grown_of_below HB.out, fun h => (by cases h), H1.out⟩
  | true =>
    obtain ⟨q0, q1, _⟩ := H1.out.cells
    have z1 := H1.out.free 1
    have hlt := H1.out.lt
    have hk : k < ts.length := by
      apply Classical.byContradiction
      intro hne
      have h9 := HR.out
      rw [List.drop_of_length_le (by omega)] at h9
      have : seesB s [] = false := by simp [seesB, nx]
      rw [this] at h9
      cases h9
    have HF : Hid (w.grownBy (w1.setCell ⟨tb, 1, none⟩ (.int .i64 ((k + 1 : Nat) : Int))) (some tb) ∧ Tx (w1.setCell ⟨tb, 1, none⟩ (.int .i64 ((k + 1 : Nat) : Int))) tb e ts v (k + 1) c p bl al) := by
      have hg : w1.grownBy (w1.setCell ⟨tb, 1, none⟩ (.int .i64 ((k + 1 : Nat) : Int))) (some tb) := grown_set (grown_refl _ _) rfl _
      have hg0 : w.grownBy (w1.setCell ⟨tb, 1, none⟩ (.int .i64 ((k + 1 : Nat) : Int))) (some tb) := grown_set (grown_of_below HB.out) rfl _
      exact ⟨hg0, H1.out.kept hg (tx_set1 (k' := k + 1) H1.out.blk) (by omega) H1.out.big⟩
    have HK : Hid (k < ts.length) := hk
    have e1 : ((k + 1 : Nat) : Int) = (k : Int) + 1 := by omega
    rw [e1] at HF
    clear hk e1
    go_wp2
    go_ret
    exact ⟨rfl, HF.out.1, fun _ => HK.out, HF.out.2⟩

/- What a step of the reader comes to: on behind some tokens, or stopped. -/
def must' (e : Nat) (s : List UInt8) (ts : List Tok) : Par.Res Nat := if seesB s ts = true then .ok (nx ts).2.1 ts.tail else .no 1 (atP e ts)
/- The reader behind a step that came to r: it goes on (c = 0) with what is left, or has stopped. -/
structure On (w : World) (tb e : Nat) (ts : List Tok) (v : Value) (bl al : Int) (rest : List Tok) : Prop where
  ex : ∃ k p, Tx w tb e ts v k 0 p bl al ∧ rest = ts.drop k
structure Off' (w : World) (tb e : Nat) (ts : List Tok) (v : Value) (bl al : Int) (c : Int) (p : Nat) : Prop where
  ne : c ≠ 0
  st : Tx w tb e ts v ts.length c (p : Int) bl al
theorem On.later {w w' : World} {tb e : Nat} {ts : List Tok} {v : Value} {bl al : Int} {rest : List Tok} (h : On w tb e ts v bl al rest) (hb : Below w.heap.size w w') : On w' tb e ts v bl al rest := by
  obtain ⟨k, p, h1, h2⟩ := h.ex
  exact ⟨k, p, h1.later hb, h2⟩
theorem Off'.later {w w' : World} {tb e : Nat} {ts : List Tok} {v : Value} {bl al c : Int} {p : Nat} (h : Off' w tb e ts v bl al c p) (hb : Below w.heap.size w w') : Off' w' tb e ts v bl al c p := ⟨h.ne, h.st.later hb⟩
theorem drop_tail {ts : List Tok} {k : Nat} : (ts.drop k).tail = ts.drop (k + 1) := by simp
/- need: behind that word or sign, or stopped. -/
def NdP (w : World) (tb e : Nat) (ts : List Tok) (v : Value) (k : Nat) (c p bl al : Int) (r : Bool) (w' : World) : Prop :=
  w.grownBy w' (some tb) ∧ (r = true → k < ts.length ∧ Tx w' tb e ts v (k + 1) c p bl al) ∧ (r = false → Tx w' tb e ts v ts.length (if c = 0 then 1 else c) (if c = 0 then (atP e (ts.drop k) : Int) else p) bl al)
set_option maxRecDepth 100000 in
set_option maxHeartbeats 4000000 in
theorem needD {w : World} {tb e : Nat} {ts : List Tok} {v : Value} {k : Nat} {c p bl al : Int} (s : List UInt8) (h : Tx w tb e ts v k c p bl al) :
    Calls Tryz.prog 44 #[.pointer (some ⟨tb, 0, none⟩), .string (ba s)] w fun x w' => x = .returned (.tuple #[]) ∧ NdP w tb e ts v k c p bl al (seesB s (ts.drop k)) w' := by
  have hs := skipD s h
  obtain ⟨r, hr⟩ : ∃ r, r = seesB s (ts.drop k) := ⟨_, rfl⟩
  rw [← hr] at hs ⊢
  obtain ⟨s1, hs1⟩ : ∃ s1, s1 = ba s := ⟨_, rfl⟩
  rw [← hs1] at hs ⊢
  clear h hr hs1
  go_enter Tryz.func44, Tryz.ntmps44
  go_wp2_with fail
  refine hs.mono ?_
  rintro x w1 ⟨rfl, hsk⟩
  have HS : Hid (SkP w tb e ts v k c p bl al r w1) := hsk
  clear hsk hs
  cases r with
  | true =>
    go_wp2
    go_end0
    obtain ⟨h1, h2, h3⟩ := HS.out
    exact ⟨rfl, h1, fun _ => ⟨h2 rfl, h3⟩, fun h => (by cases h)⟩
  | false =>
    have hw := wrongD 1 HS.out.2.2
    rw [if_neg (by decide)] at hw
    go_wp2_with fail
    refine hw.mono ?_
    rintro x w2 ⟨rfl, hwr⟩
    have HW : Hid (WrP w1 tb e ts v k c p bl al 1 w2) := hwr
    clear hwr hw
    go_wp2
    go_end0
    exact ⟨rfl, HS.out.1.trans HW.out.1, fun h => (by cases h), fun _ => HW.out.2⟩

/- name: the next one's text, or stopped. -/
def NmP (w : World) (tb e : Nat) (ts : List Tok) (v : Value) (k : Nat) (c p bl al : Int) (w' : World) : Prop :=
  w.grownBy w' (some tb) ∧ ((nx (ts.drop k)).1 = 1 → k < ts.length ∧ Tx w' tb e ts v (k + 1) c p bl al) ∧ ((nx (ts.drop k)).1 ≠ 1 → Tx w' tb e ts v ts.length (if c = 0 then 1 else c) (if c = 0 then (atP e (ts.drop k) : Int) else p) bl al)
set_option maxRecDepth 100000 in
set_option maxHeartbeats 4000000 in
theorem nameD {w : World} {tb e : Nat} {ts : List Tok} {v : Value} {k : Nat} {c p bl al : Int} (h : Tx w tb e ts v k c p bl al) :
    Calls Tryz.prog 46 #[.pointer (some ⟨tb, 0, none⟩)] w fun x w' => x = .returned (.string (if (nx (ts.drop k)).1 = 1 then ba (nx (ts.drop k)).2.2 else ⟨#[]⟩)) ∧ NmP w tb e ts v k c p bl al w' := by
  have hpk := peekD h
  have H : Hid (Tx w tb e ts v k c p bl al) := h
  have hkb : k ≤ 100000 := Nat.le_trans h.le h.few
  obtain ⟨t, ht⟩ : ∃ t, t = nx (ts.drop k) := ⟨_, rfl⟩
  have HT : Hid (nx (ts.drop k) = t) := ht.symm
  rw [← ht] at hpk ⊢
  obtain ⟨t0, t1, t2⟩ := t
  unfold tkV at hpk
  simp only at hpk ⊢
  obtain ⟨s2, hs2⟩ : ∃ s2, s2 = ba t2 := ⟨_, rfl⟩
  rw [← hs2] at hpk ⊢
  clear h ht hs2
  by_cases h1 : t0 = 1
  · subst h1
    rw [if_pos rfl]
    go_enter Tryz.func46, Tryz.ntmps46
    go_wp2_with fail
    refine hpk.mono ?_
    rintro x w1 ⟨rfl, hb⟩
    have H1 : Hid (Tx w1 tb e ts v k c p bl al) := H.out.later hb
    obtain ⟨q0, q1, _⟩ := (H.out.later hb).cells
    have z1 := (H.out.later hb).free 1
    have hlt := (H.out.later hb).lt
    have HK : Hid (k < ts.length) := by
      show k < ts.length
      apply Classical.byContradiction
      intro hne
      have h9 := HT.out
      rw [nx_end (by omega)] at h9
      simp at h9
    have HF : Hid (NmP w tb e ts v k c p bl al ((w1.setCell ⟨tb, 1, none⟩ (.int .i64 ((k + 1 : Nat) : Int))).alloc (.cells #[.int .i64 1, .int .i64 (t1 : Int), .string s2] 80))) := by
      have hg : w1.grownBy ((w1.setCell ⟨tb, 1, none⟩ (.int .i64 ((k + 1 : Nat) : Int))).alloc (.cells #[.int .i64 1, .int .i64 (t1 : Int), .string s2] 80)) (some tb) := by
        refine grown_alloc ?_ _
        exact grown_set (grown_refl _ _) rfl _
      refine ⟨(grown_of_below hb).trans hg, fun _ => ⟨HK.out, H1.out.kept hg (heap_past_alloc (tx_set1 (k' := k + 1) H1.out.blk)) (by have := HK.out; omega) H1.out.big⟩, fun hne => ?_⟩
      rw [HT.out] at hne
      exact absurd rfl hne
    have e1 : ((k + 1 : Nat) : Int) = (k : Int) + 1 := by omega
    rw [e1] at HF
    clear hb hpk e1 H1
    go_wp2
    go_ret
    exact ⟨rfl, HF.out⟩
  · have h1' : (t0 != 1) = true := by simpa using h1
    have h1e : (t0 == 1) = false := by simpa using h1
    rw [if_neg h1]
    have HN : Hid (¬ t0 = 1) := h1
    go_enter Tryz.func46, Tryz.ntmps46
    go_wp2_with fail
    refine hpk.mono ?_
    rintro x w1 ⟨rfl, hb⟩
    obtain ⟨wy, hwy⟩ : ∃ wy, wy = w1.alloc (.cells #[.int .i64 t0, .int .i64 (t1 : Int), .string s2] 80) := ⟨_, rfl⟩
    have hby : Below w.heap.size w wy := by rw [hwy]; exact hb.alloc hb.size _
    have hw := wrongD 1 (H.out.later hby)
    have HB : Hid (Below w.heap.size w wy) := hby
    have HWY : Hid (wy = w1.alloc (.cells #[.int .i64 t0, .int .i64 (t1 : Int), .string s2] 80)) := hwy
    clear hb hpk hby hwy h1
    go_wp2_with fail
    rw [← HWY.out]
    refine hw.mono ?_
    rintro x w2 ⟨rfl, hwr⟩
    have HF : Hid (NmP w tb e ts v k c p bl al w2) := by
      refine ⟨(grown_of_below HB.out).trans hwr.1, fun h9 => ?_, fun _ => hwr.2⟩
      rw [HT.out] at h9
      exact absurd h9 HN.out
    clear hwr hw
    go_wp2
    go_ret
    exact ⟨rfl, HF.out⟩
end Go.Proofs.YtcdeicfegfedfaaGreatDoor

namespace Go.Proofs.YtcdeicfegfedfaaGreatDoor
open Go.RowKit
open Par (Tok nx atP isT seesB ba)

/- Stopped: nothing changes but new memory (and the reader's place, which stays at the end). -/
def StP (w : World) (tb e : Nat) (ts : List Tok) (v : Value) (c p bl al : Int) (w' : World) : Prop :=
  w.grownBy w' (some tb) ∧ Tx w' tb e ts v ts.length c p bl al
theorem sees_end (s : List UInt8) (ts : List Tok) : seesB s (ts.drop ts.length) = false := by
  rw [List.drop_of_length_le (Nat.le_refl _)]
  simp [seesB, nx]

set_option maxRecDepth 100000 in
set_option maxHeartbeats 4000000 in
theorem labelS {w : World} {tb e : Nat} {ts : List Tok} {v : Value} {c p bl al : Int} (hc : c ≠ 0) (h : Tx w tb e ts v ts.length c p bl al) :
    Calls Tryz.prog 21 #[.pointer (some ⟨tb, 0, none⟩)] w fun x w' => x = .returned (.slice none 0 0) ∧ StP w tb e ts v c p bl al w' := by
  have hn := needD [123] h
  rw [sees_end] at hn
  have hce : (c != 0) = true := by simpa using hc
  have HC : Hid (c ≠ 0) := hc
  clear h hc
  go_enter Tryz.func21, Tryz.ntmps21
  go_wp2_with fail
  refine hn.mono ?_
  rintro x w1 ⟨rfl, hnd⟩
  have h1 := hnd.2.2 rfl
  rw [if_neg HC.out, if_neg HC.out] at h1
  have HG : Hid (w.grownBy w1 (some tb)) := hnd.1
  have hs := skipD [125] h1
  rw [sees_end] at hs
  have H1 : Hid (Tx w1 tb e ts v ts.length c p bl al) := h1
  clear hnd hn h1
  go_wp2_with fail
  refine hs.mono ?_
  rintro x w2 ⟨rfl, hsk⟩
  have H2 : Hid (Tx w2 tb e ts v ts.length c p bl al) := hsk.2.2
  obtain ⟨q0, q1, q2, q3, q4, q5, q6⟩ := H2.out.cells
  have hlt := H2.out.lt
  have HF : Hid (StP w tb e ts v c p bl al w2) := ⟨HG.out.trans hsk.1, H2.out⟩
  clear hsk hs
  go_wp2
  go_ret
  exact ⟨rfl, HF.out⟩

set_option maxRecDepth 100000 in
set_option maxHeartbeats 4000000 in
theorem argsS {w : World} {tb e : Nat} {ts : List Tok} {v : Value} {c p bl al : Int} (hc : c ≠ 0) (h : Tx w tb e ts v ts.length c p bl al) :
    Calls Tryz.prog 72 #[.pointer (some ⟨tb, 0, none⟩)] w fun x w' => x = .returned (.slice none 0 0) ∧ StP w tb e ts v c p bl al w' := by
  have hn := needD [40] h
  rw [sees_end] at hn
  have hce : (c != 0) = true := by simpa using hc
  have HC : Hid (c ≠ 0) := hc
  clear h hc
  go_enter Tryz.func72, Tryz.ntmps72
  go_wp2_with fail
  refine hn.mono ?_
  rintro x w1 ⟨rfl, hnd⟩
  have h1 := hnd.2.2 rfl
  rw [if_neg HC.out, if_neg HC.out] at h1
  have HG : Hid (w.grownBy w1 (some tb)) := hnd.1
  have hs := skipD [41] h1
  rw [sees_end] at hs
  have H1 : Hid (Tx w1 tb e ts v ts.length c p bl al) := h1
  clear hnd hn h1
  go_wp2_with fail
  refine hs.mono ?_
  rintro x w2 ⟨rfl, hsk⟩
  have H2 : Hid (Tx w2 tb e ts v ts.length c p bl al) := hsk.2.2
  obtain ⟨q0, q1, q2, q3, q4, q5, q6⟩ := H2.out.cells
  have hlt := H2.out.lt
  have HF : Hid (StP w tb e ts v c p bl al w2) := ⟨HG.out.trans hsk.1, H2.out⟩
  clear hsk hs
  go_wp2
  go_ret
  exact ⟨rfl, HF.out⟩

/- An expression's cells are set. -/
def set7 (w : World) (b : Nat) (x0 x1 x2 x3 x4 x5 x6 : Value) : World :=
  ((((((w.setCell ⟨b, 0, none⟩ x0).setCell ⟨b, 1, none⟩ x1).setCell ⟨b, 2, none⟩ x2).setCell ⟨b, 3, none⟩ x3).setCell ⟨b, 4, none⟩ x4).setCell ⟨b, 5, none⟩ x5).setCell ⟨b, 6, none⟩ x6
theorem ex_set7 {w : World} {b : Nat} {y0 y1 y2 y3 y4 y5 y6 : Value} (h : w.heap[b]? = some (.cells #[y0, y1, y2, y3, y4, y5, y6] 26 (0, 0))) (x0 x1 x2 x3 x4 x5 x6 : Value) : (set7 w b x0 x1 x2 x3 x4 x5 x6).heap[b]? = some (.cells #[x0, x1, x2, x3, x4, x5, x6] 26 (0, 0)) := by
  simp only [set7, World.setCell, Array.getElem?_modify, h]
  rfl
theorem below_set7 {B : Nat} {a w : World} (h : Below B a w) {b : Nat} (hb : B ≤ b) (x0 x1 x2 x3 x4 x5 x6 : Value) : Below B a (set7 w b x0 x1 x2 x3 x4 x5 x6) :=
  ((((((h.setCell hb _).setCell hb _).setCell hb _).setCell hb _).setCell hb _).setCell hb _).setCell hb _
theorem ex_cells {w : World} {b : Nat} {y0 y1 y2 y3 y4 y5 y6 : Value} (h : w.heap[b]? = some (.cells #[y0, y1, y2, y3, y4, y5, y6] 26 (0, 0))) : w.cell? ⟨b, 0, none⟩ = some y0 ∧ w.cell? ⟨b, 1, none⟩ = some y1 ∧ w.cell? ⟨b, 2, none⟩ = some y2 ∧ w.cell? ⟨b, 3, none⟩ = some y3 ∧ w.cell? ⟨b, 4, none⟩ = some y4 ∧ w.cell? ⟨b, 5, none⟩ = some y5 ∧ w.cell? ⟨b, 6, none⟩ = some y6 := by
  simp [World.cell?, h]

/- A bare expression. -/
def nilE : Value := .agg #[.int .i64 0, .int .i64 0, .int .i64 0, .int .i64 0, .string ⟨#[]⟩, .slice none 0 0, .slice none 0 0]
set_option maxRecDepth 100000 in
set_option maxHeartbeats 4000000 in
theorem oneS {w : World} {tb e : Nat} {ts : List Tok} {v : Value} {c p bl al : Int} (hc : c ≠ 0) (h : Tx w tb e ts v ts.length c p bl al) :
    Calls Tryz.prog 38 #[.pointer (some ⟨tb, 0, none⟩)] w fun x w' => x = .returned nilE ∧ Below w.heap.size w w' := by
  obtain ⟨q0, q1, q2, q3, q4, q5, q6⟩ := h.cells
  have hlt := h.lt
  have hce : (c != 0) = true := by simpa using hc
  clear h hc
  go_enter Tryz.func38, Tryz.ntmps38
  go_wp2
  obtain ⟨wy, hwy⟩ : ∃ wy, wy = w.alloc (.cells #[.pointer (some ⟨tb, 0, none⟩)] 48) := ⟨_, rfl⟩
  have hy : Below w.heap.size w wy := by rw [hwy]; exact (Below.refl w.heap.size w).alloc (Nat.le_refl _) _
  have hsz : wy.heap.size = w.heap.size + 1 := by rw [hwy]; exact Array.size_push _
  rw [← hwy]
  obtain ⟨wz, hwz⟩ : ∃ wz, wz = wy.alloc (.cells #[.int .i64 0, .int .i64 0, .int .i64 0, .int .i64 0, .string ⟨#[]⟩, .slice none 0 0, .slice none 0 0] 26) := ⟨_, rfl⟩
  have hz : Below w.heap.size w wz := by rw [hwz]; exact hy.alloc hy.size _
  have g1 : wz.heap[w.heap.size + 1]? = some (.cells #[.int .i64 0, .int .i64 0, .int .i64 0, .int .i64 0, .string ⟨#[]⟩, .slice none 0 0, .slice none 0 0] 26 (0, 0)) := by rw [hwz, ← hsz]; exact heap_at_alloc _ _ _ rfl
  rw [← hwz]
  have e0 : wz.cell? ⟨w.heap.size + 1, 0, none⟩ = some (.int .i64 0) := by simp [World.cell?, g1]
  have e1 : wz.cell? ⟨w.heap.size + 1, 1, none⟩ = some (.int .i64 0) := by simp [World.cell?, g1]
  have e2 : wz.cell? ⟨w.heap.size + 1, 2, none⟩ = some (.int .i64 0) := by simp [World.cell?, g1]
  have e3 : wz.cell? ⟨w.heap.size + 1, 3, none⟩ = some (.int .i64 0) := by simp [World.cell?, g1]
  have e4 : wz.cell? ⟨w.heap.size + 1, 4, none⟩ = some (.string ⟨#[]⟩) := by simp [World.cell?, g1]
  have e5 : wz.cell? ⟨w.heap.size + 1, 5, none⟩ = some (.slice none 0 0) := by simp [World.cell?, g1]
  have e6 : wz.cell? ⟨w.heap.size + 1, 6, none⟩ = some (.slice none 0 0) := by simp [World.cell?, g1]
  exact bodyPost_ret (v := nilE) (by simp [results, Tryz.results38, go_sem, e0, e1, e2, e3, e4, e5, e6, nilE]) rfl ⟨rfl, hz⟩

set_option maxRecDepth 100000 in
set_option maxHeartbeats 4000000 in
theorem exprS {w : World} {tb e : Nat} {ts : List Tok} {v : Value} {c p bl al : Int} (hc : c ≠ 0) (h : Tx w tb e ts v ts.length c p bl al) :
    Calls Tryz.prog 18 #[.pointer (some ⟨tb, 0, none⟩)] w fun x w' => x = .returned nilE ∧ Below w.heap.size w w' := by
  have H : Hid (Tx w tb e ts v ts.length c p bl al) := h
  have HC : Hid (c ≠ 0) := hc
  have hlt := h.lt
  clear h hc
  go_enter Tryz.func18, Tryz.ntmps18
  obtain ⟨wa, hwa⟩ : ∃ wa, wa = w.alloc (.cells #[.int .i64 0, .int .i64 0, .int .i64 0, .int .i64 0, .string ⟨#[]⟩, .slice none 0 0, .slice none 0 0] 26) := ⟨_, rfl⟩
  have hba : Below w.heap.size w wa := by rw [hwa]; exact (Below.refl w.heap.size w).alloc (Nat.le_refl _) _
  have hsa : wa.heap.size = w.heap.size + 1 := by rw [hwa]; exact Array.size_push _
  have ha : Tx wa tb e ts v ts.length c p bl al := H.out.later hba
  have h1 := oneS HC.out ha
  have HA : Hid (wa = w.alloc (.cells #[.int .i64 0, .int .i64 0, .int .i64 0, .int .i64 0, .string ⟨#[]⟩, .slice none 0 0, .slice none 0 0] 26)) := hwa
  have HBA : Hid (Below w.heap.size w wa) := hba
  have HSA : Hid (wa.heap.size = w.heap.size + 1) := hsa
  have HTA : Hid (Tx wa tb e ts v ts.length c p bl al) := ha
  clear hwa hba hsa ha
  go_wp2_with fail
  rw [← HA.out]
  refine h1.mono ?_
  rintro x w1 ⟨rfl, hb1⟩
  have HB1 : Hid (Below wa.heap.size wa w1) := hb1
  clear h1 hb1
  unfold nilE
  go_wp2_with fail
  obtain ⟨wb, hwb⟩ : ∃ wb, wb = ((w1.alloc (.cells #[.int .i64 0, .int .i64 0, .int .i64 0, .int .i64 0, .string ⟨#[]⟩, .slice none 0 0, .slice none 0 0] 26)).alloc (.cells #[.slice (some ⟨w1.heap.size, 0, none⟩) 1 1] 24)).alloc (.cells #[.slice none 0 0] 59) := ⟨_, rfl⟩
  rw [← hwb]
  have hbb : Below w1.heap.size w1 wb ∧ wb.heap[w1.heap.size]? = some (.cells #[.int .i64 0, .int .i64 0, .int .i64 0, .int .i64 0, .string ⟨#[]⟩, .slice none 0 0, .slice none 0 0] 26 (0, 0)) ∧ wb.heap[w1.heap.size + 1]? = some (.cells #[.slice (some ⟨w1.heap.size, 0, none⟩) 1 1] 24 (0, 0)) ∧ wb.heap[w1.heap.size + 1 + 1]? = some (.cells #[.slice none 0 0] 59 (0, 0)) := by
    obtain ⟨u1, hu1⟩ : ∃ u1, u1 = w1.alloc (.cells #[.int .i64 0, .int .i64 0, .int .i64 0, .int .i64 0, .string ⟨#[]⟩, .slice none 0 0, .slice none 0 0] 26) := ⟨_, rfl⟩
    obtain ⟨u2, hu2⟩ : ∃ u2, u2 = u1.alloc (.cells #[.slice (some ⟨w1.heap.size, 0, none⟩) 1 1] 24) := ⟨_, rfl⟩
    rw [← hu1, ← hu2] at hwb
    have s1 : u1.heap.size = w1.heap.size + 1 := by rw [hu1]; exact Array.size_push _
    have s2 : u2.heap.size = w1.heap.size + 1 + 1 := by rw [← s1, hu2]; exact Array.size_push _
    have b1 : Below w1.heap.size w1 u1 := by rw [hu1]; exact (Below.refl _ w1).alloc (Nat.le_refl _) _
    have b2 : Below w1.heap.size w1 u2 := by rw [hu2]; exact b1.alloc b1.size _
    have b3 : Below w1.heap.size w1 wb := by rw [hwb]; exact b2.alloc b2.size _
    refine ⟨b3, ?_, ?_, ?_⟩
    · rw [hwb]
      refine heap_past_alloc ?_
      rw [hu2]
      refine heap_past_alloc ?_
      rw [hu1]
      exact heap_at_alloc _ _ _ rfl
    · rw [hwb]
      refine heap_past_alloc ?_
      rw [hu2, ← s1]
      exact heap_at_alloc _ _ _ rfl
    · rw [hwb, ← s2]
      exact heap_at_alloc _ _ _ rfl
  have hsz0 := HSA.out
  have hsz1 := HB1.out.size
  obtain ⟨hb2, k0, k1, k2⟩ := hbb
  have HT : Hid (Tx wb tb e ts v ts.length c p bl al) := (HTA.out.later HB1.out).later hb2
  have hpk := peekD HT.out
  rw [nx_end (Nat.le_refl _)] at hpk
  unfold tkV at hpk
  have hba : ba [] = ⟨#[]⟩ := rfl
  simp only [hba] at hpk
  have hle : w.heap.size + 1 ≤ w1.heap.size := by rw [← hsz0]; exact hsz1
  have HG : Hid (Below w.heap.size w wb) := (HBA.out.trans (HB1.out.mono (by rw [hsz0]; omega))).trans (hb2.mono (by omega))
  have h0 : wb.heap[w.heap.size]? = some (.cells #[.int .i64 0, .int .i64 0, .int .i64 0, .int .i64 0, .string ⟨#[]⟩, .slice none 0 0, .slice none 0 0] 26 (0, 0)) := by
    rw [hb2.block _ (by omega), HB1.out.block _ (by rw [hsz0]; omega), HA.out]
    exact heap_at_alloc _ _ _ rfl
  have hs2 := hb2.size
  clear hwb hb2
  refine wp_loop_once ?_
  go_wp2_with fail
  refine hpk.mono ?_
  rintro x w2 ⟨rfl, hb3⟩
  have l2 : w1.heap.size + 1 + 1 < wb.heap.size := lt_of_block k2
  have j0 := (hb3.block _ (by omega)).trans k0
  have j1 := (hb3.block _ (by omega)).trans k1
  have j2 := (hb3.block _ (by omega)).trans k2
  have jr := (hb3.block _ (by omega)).trans h0
  have l3 := hb3.size
  have HB3 : Hid (Below wb.heap.size wb w2) := hb3
  clear hb3 hpk k0 k1 k2 h0
  go_wp2_with fail
  obtain ⟨w3, hw3⟩ : ∃ w3, w3 = w2.alloc (.cells #[.int .i64 0, .int .i64 0, .string ⟨#[]⟩] 80) := ⟨_, rfl⟩
  have i0 : w3.heap[w1.heap.size]? = some (.cells #[.int .i64 0, .int .i64 0, .int .i64 0, .int .i64 0, .string ⟨#[]⟩, .slice none 0 0, .slice none 0 0] 26 (0, 0)) := by rw [hw3]; exact heap_past_alloc j0
  have i1 : w3.heap[w1.heap.size + 1]? = some (.cells #[.slice (some ⟨w1.heap.size, 0, none⟩) 1 1] 24 (0, 0)) := by rw [hw3]; exact heap_past_alloc j1
  have i2 : w3.heap[w1.heap.size + 1 + 1]? = some (.cells #[.slice none 0 0] 59 (0, 0)) := by rw [hw3]; exact heap_past_alloc j2
  have ir : w3.heap[w.heap.size]? = some (.cells #[.int .i64 0, .int .i64 0, .int .i64 0, .int .i64 0, .string ⟨#[]⟩, .slice none 0 0, .slice none 0 0] 26 (0, 0)) := by rw [hw3]; exact heap_past_alloc jr
  have HG3 : Hid (Below w.heap.size w w3) := by
    rw [hw3]
    have h9 := HG.out.trans (HB3.out.mono (by omega))
    exact h9.alloc h9.size _
  rw [← hw3]
  have c1 : w3.cell? ⟨w1.heap.size + 1, 0, none⟩ = some (.slice (some ⟨w1.heap.size, 0, none⟩) 1 1) := by simp [World.cell?, i1]
  have c2 : w3.cell? ⟨w1.heap.size + 1 + 1, 0, none⟩ = some (.slice none 0 0) := by simp [World.cell?, i2]
  have e0 : w3.cell? ⟨w1.heap.size, 0, none⟩ = some (.int .i64 0) := by simp [World.cell?, i0]
  have e1 : w3.cell? ⟨w1.heap.size, 1, none⟩ = some (.int .i64 0) := by simp [World.cell?, i0]
  have e2 : w3.cell? ⟨w1.heap.size, 2, none⟩ = some (.int .i64 0) := by simp [World.cell?, i0]
  have e3 : w3.cell? ⟨w1.heap.size, 3, none⟩ = some (.int .i64 0) := by simp [World.cell?, i0]
  have e4 : w3.cell? ⟨w1.heap.size, 4, none⟩ = some (.string ⟨#[]⟩) := by simp [World.cell?, i0]
  have e5 : w3.cell? ⟨w1.heap.size, 5, none⟩ = some (.slice none 0 0) := by simp [World.cell?, i0]
  have e6 : w3.cell? ⟨w1.heap.size, 6, none⟩ = some (.slice none 0 0) := by simp [World.cell?, i0]
  have r0 : w3.cell? ⟨w.heap.size, 0, none⟩ = some (.int .i64 0) := by simp [World.cell?, ir]
  have r1 : w3.cell? ⟨w.heap.size, 1, none⟩ = some (.int .i64 0) := by simp [World.cell?, ir]
  have r2 : w3.cell? ⟨w.heap.size, 2, none⟩ = some (.int .i64 0) := by simp [World.cell?, ir]
  have r3 : w3.cell? ⟨w.heap.size, 3, none⟩ = some (.int .i64 0) := by simp [World.cell?, ir]
  have r4 : w3.cell? ⟨w.heap.size, 4, none⟩ = some (.string ⟨#[]⟩) := by simp [World.cell?, ir]
  have r5 : w3.cell? ⟨w.heap.size, 5, none⟩ = some (.slice none 0 0) := by simp [World.cell?, ir]
  have r6 : w3.cell? ⟨w.heap.size, 6, none⟩ = some (.slice none 0 0) := by simp [World.cell?, ir]
  have f0 : ∀ i, w3.frozen? ⟨w.heap.size, i, none⟩ = false := fun i => by simp [World.frozen?, ir]
  have f1 := f0 0
  have f2 := f0 1
  have f3 := f0 2
  have f4 := f0 3
  have f5 := f0 4
  have f6 := f0 5
  have f7 := f0 6
  have HR : Hid (w3.heap[w.heap.size]? = some (.cells #[.int .i64 0, .int .i64 0, .int .i64 0, .int .i64 0, .string ⟨#[]⟩, .slice none 0 0, .slice none 0 0] 26 (0, 0))) := ir
  have l4 : w1.heap.size + 1 + 1 < w3.heap.size := lt_of_block i2
  clear hw3 i0 i1 i2 ir j0 j1 j2 jr
  refine wp_loop_once ?_
  go_wp2
  obtain ⟨wz, hwz⟩ : ∃ wz, wz = set7 w3 w.heap.size (.int .i64 0) (.int .i64 0) (.int .i64 0) (.int .i64 0) (.string ⟨#[]⟩) (.slice none 0 0) (.slice none 0 0) := ⟨_, rfl⟩
  have hgz : Below w.heap.size w wz := by rw [hwz]; exact below_set7 HG3.out (Nat.le_refl _) _ _ _ _ _ _ _
  obtain ⟨z0, z1, z2, z3, z4, z5, z6⟩ := ex_cells (by rw [hwz]; exact ex_set7 HR.out _ _ _ _ _ _ _ : wz.heap[w.heap.size]? = some (.cells #[.int .i64 0, .int .i64 0, .int .i64 0, .int .i64 0, .string ⟨#[]⟩, .slice none 0 0, .slice none 0 0] 26 (0, 0)))
  unfold set7 at hwz
  rw [← hwz]
  exact bodyPost_ret (v := nilE) (by simp [results, Tryz.results18, go_sem, z0, z1, z2, z3, z4, z5, z6, nilE]) rfl ⟨rfl, hgz⟩
end Go.Proofs.YtcdeicfegfedfaaGreatDoor
