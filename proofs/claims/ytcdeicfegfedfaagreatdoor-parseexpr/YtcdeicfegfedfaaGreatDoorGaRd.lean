/- The table of signs (tree.levels) in memory; contract of tree.Level. The reader of package parse: what it holds; its small steps. The reader's steps: giving up, a word or sign, a name. The step into what lies within, and the step out. -/
import Derived.Test.YtcdeicfegfedfaaGreatDoorGaAct
import Derived.Test.YtcdeicfegfedfaaGreatDoorGaRow
import Derived.Test.YtcdeicfegfedfaaGreatDoorChecked
import Derived.WalkKit
import Derived.ProofKit
import Derived.Defers
import Derived.Recover
namespace Go.Proofs.YtcdeicfegfedfaaGreatDoor
open Go.RowKit
open Par (levF ba)

def sgn : Nat → List ByteArray
  | 0 => [ba [124, 124]]
  | 1 => [ba [38, 38]]
  | 2 => [ba [61, 61], ba [33, 61], ba [60], ba [60, 61], ba [62], ba [62, 61]]
  | 3 => [ba [43], ba [45]]
  | _ => [ba [42], ba [47], ba [37]]
structure LevAt (w : World) (lim : Nat) : Prop where
  glt : 0 < lim
  gw : 0 < w.heap.size
  row : ∀ i, i < 5 → ∃ ao b off c, w.cell? ⟨0, i, none⟩ = some (.slice ao (sgn i).length c) ∧ Strs w ao b off (sgn i) ∧ b < lim
theorem LevAt.keeps {w w' : World} {lim : Nat} (h : LevAt w lim) (hz : w.heap.size ≤ w'.heap.size) (hb : ∀ b, b < lim → w'.heap[b]? = w.heap[b]?) : LevAt w' lim := by
  refine ⟨h.glt, Nat.lt_of_lt_of_le h.gw hz, fun i hi => ?_⟩
  obtain ⟨ao, b, off, c, h1, h2, h3⟩ := h.row i hi
  refine ⟨ao, b, off, c, (World.cell?_of_block (a := ⟨_, i, none⟩) (hb _ h.glt)).trans h1, ⟨h2.adr, fun k hk => (World.cell?_of_block (a := ⟨b, _, none⟩) (hb b h3)).trans (h2.cell k hk), fun hp => Nat.lt_of_lt_of_le (h2.lt hp) hz⟩, h3⟩
theorem LevAt.mono {w : World} {lim lim' : Nat} (h : LevAt w lim) (hl : lim ≤ lim') : LevAt w lim' :=
  ⟨Nat.lt_of_lt_of_le h.glt hl, h.gw, fun i hi => by obtain ⟨ao, b, off, c, h1, h2, h3⟩ := h.row i hi; exact ⟨ao, b, off, c, h1, h2, by omega⟩⟩
theorem has_sgn (s : ByteArray) (i : Nat) : Act.has (sgn i) s = decide (s.data.toList ∈ (sgn i).map (·.data.toList)) := by
  rw [Bool.eq_iff_iff, Act.has_iff, decide_eq_true_iff, List.mem_map]
  refine ⟨fun h => ⟨s, h, rfl⟩, fun ⟨t, ht, e⟩ => ?_⟩
  have : t = s := ByteArray.ext (Array.ext' e)
  rw [← this]; exact ht
theorem lev_of (s : ByteArray) : levF s.data.toList = if Act.has (sgn 0) s = true then 1 else if Act.has (sgn 1) s = true then 2 else if Act.has (sgn 2) s = true then 3 else if Act.has (sgn 3) s = true then 4 else if Act.has (sgn 4) s = true then 5 else 0 := by
  simp only [has_sgn, decide_eq_true_eq]
  rfl
theorem ixL0 (a b c d e : Value) (w : World) : (Instr.index 123 (.agg #[a, b, c, d, e]) (.int .i64 0)).run Tryz.prog w = .ok a w := by kernel_rfl
theorem ixL1 (a b c d e : Value) (w : World) : (Instr.index 123 (.agg #[a, b, c, d, e]) (.int .i64 1)).run Tryz.prog w = .ok b w := by kernel_rfl
theorem ixL2 (a b c d e : Value) (w : World) : (Instr.index 123 (.agg #[a, b, c, d, e]) (.int .i64 2)).run Tryz.prog w = .ok c w := by kernel_rfl
theorem ixL3 (a b c d e : Value) (w : World) : (Instr.index 123 (.agg #[a, b, c, d, e]) (.int .i64 3)).run Tryz.prog w = .ok d w := by kernel_rfl
theorem ixL4 (a b c d e : Value) (w : World) : (Instr.index 123 (.agg #[a, b, c, d, e]) (.int .i64 4)).run Tryz.prog w = .ok e w := by kernel_rfl
set_option maxRecDepth 100000 in
set_option maxHeartbeats 4000000 in
theorem levelC {w : World} {lim : Nat} (h : LevAt w lim) (s : ByteArray) :
    Calls Tryz.prog 53 #[.string s] w fun x w' => x = .returned (.int .i64 (levF s.data.toList : Nat)) ∧ w' = w := by
  obtain ⟨a0, b0, f0, c0, k0, s0, _⟩ := h.row 0 (by omega)
  obtain ⟨a1, b1, f1, c1, k1, s1, _⟩ := h.row 1 (by omega)
  obtain ⟨a2, b2, f2, c2, k2, s2, _⟩ := h.row 2 (by omega)
  obtain ⟨a3, b3, f3, c3, k3, s3, _⟩ := h.row 3 (by omega)
  obtain ⟨a4, b4, f4, c4, k4, s4, _⟩ := h.row 4 (by omega)
  have n0 := contains_any a0 b0 f0 _ c0 (sgn 0) s w rfl (by decide) s0
  have n1 := contains_any a1 b1 f1 _ c1 (sgn 1) s w rfl (by decide) s1
  have n2 := contains_any a2 b2 f2 _ c2 (sgn 2) s w rfl (by decide) s2
  have n3 := contains_any a3 b3 f3 _ c3 (sgn 3) s w rfl (by decide) s3
  have n4 := contains_any a4 b4 f4 _ c4 (sgn 4) s w rfl (by decide) s4
  have hl := lev_of s
  have hg := h.gw
  obtain ⟨L, hL⟩ : ∃ L, L = levF s.data.toList := ⟨_, rfl⟩
  rw [← hL] at hl ⊢
  obtain ⟨t0, e0⟩ : ∃ t, t = Act.has (sgn 0) s := ⟨_, rfl⟩
  obtain ⟨t1, e1⟩ : ∃ t, t = Act.has (sgn 1) s := ⟨_, rfl⟩
  obtain ⟨t2, e2⟩ : ∃ t, t = Act.has (sgn 2) s := ⟨_, rfl⟩
  obtain ⟨t3, e3⟩ : ∃ t, t = Act.has (sgn 3) s := ⟨_, rfl⟩
  obtain ⟨t4, e4⟩ : ∃ t, t = Act.has (sgn 4) s := ⟨_, rfl⟩
  rw [← e0, ← e1, ← e2, ← e3, ← e4] at hl
  rw [← e0] at n0
  rw [← e1] at n1
  rw [← e2] at n2
  rw [← e3] at n3
  rw [← e4] at n4
  have HL : Hid (L = if t0 = true then 1 else if t1 = true then 2 else if t2 = true then 3 else if t3 = true then 4 else if t4 = true then 5 else 0) := hl
  clear hL e0 e1 e2 e3 e4 hl h s0 s1 s2 s3 s4
  go_enter Tryz.func53, Tryz.ntmps53
  go_wp2
  go_loop [6] (fun i => ∃ k : Nat, k ≤ 5 ∧ i = .int .i64 k ∧ Hid ((0 < k → t0 = false) ∧ (1 < k → t1 = false) ∧ (2 < k → t2 = false) ∧ (3 < k → t3 = false) ∧ (4 < k → t4 = false))) (fun i => 5 - (intOf i).toNat)
  case atStart => exact ⟨0, by omega, rfl, by refine ⟨?_, ?_, ?_, ?_, ?_⟩ <;> intro h <;> omega⟩
  case round =>
    obtain ⟨k, hk, rfl, HK⟩ := hrel
    match k, hk with
    | 0, _ =>
      have hx := ixL0
      cases hq : t0 with
      | true =>
        rw [hq] at n0
        have HF : Hid (L = 1) := by show _ = _; rw [HL.out]; simp [hq]
        clear n1 n2 n3 n4 HK hq
        go_wp2_with fail
        refine n0.mono ?_
        rintro x w' ⟨rfl, rfl⟩
        go_wp2
        go_ret
        exact ⟨by rw [HF.out]; rfl, rfl⟩
      | false =>
        rw [hq] at n0
        have HN : Hid ((0 < 1 → t0 = false) ∧ (1 < 1 → t1 = false) ∧ (2 < 1 → t2 = false) ∧ (3 < 1 → t3 = false) ∧ (4 < 1 → t4 = false)) := by
          refine ⟨?_, ?_, ?_, ?_, ?_⟩ <;> intro hh <;> first | omega | assumption
        clear n1 n2 n3 n4 HK hq
        go_wp2_with fail
        refine n0.mono ?_
        rintro x w' ⟨rfl, rfl⟩
        go_wp2
        go_round
        case rel => exact ⟨1, by omega, by go_num, by obtain ⟨r0, r1, r2, r3, r4⟩ := HN.out; exact ⟨fun h => by first | trivial | exact r0 h, fun h => by first | trivial | exact r1 h, fun h => by first | trivial | exact r2 h, fun h => by first | trivial | exact r3 h, fun h => by first | trivial | exact r4 h⟩⟩
        case measure => simp [intOf]
    | 1, _ =>
      have q0 : t0 = false := HK.out.1 (by omega)
      have hx := ixL1
      cases hq : t1 with
      | true =>
        rw [hq] at n1
        have HF : Hid (L = 2) := by show _ = _; rw [HL.out]; simp [q0, hq]
        clear n0 n2 n3 n4 HK hq
        go_wp2_with fail
        refine n1.mono ?_
        rintro x w' ⟨rfl, rfl⟩
        go_wp2
        go_ret
        exact ⟨by rw [HF.out]; rfl, rfl⟩
      | false =>
        rw [hq] at n1
        have HN : Hid ((0 < 2 → t0 = false) ∧ (1 < 2 → t1 = false) ∧ (2 < 2 → t2 = false) ∧ (3 < 2 → t3 = false) ∧ (4 < 2 → t4 = false)) := by
          refine ⟨?_, ?_, ?_, ?_, ?_⟩ <;> intro hh <;> first | omega | assumption
        clear n0 n2 n3 n4 HK hq
        go_wp2_with fail
        refine n1.mono ?_
        rintro x w' ⟨rfl, rfl⟩
        go_wp2
        go_round
        case rel => exact ⟨2, by omega, by go_num, by obtain ⟨r0, r1, r2, r3, r4⟩ := HN.out; exact ⟨fun h => by first | trivial | exact r0 h, fun h => by first | trivial | exact r1 h, fun h => by first | trivial | exact r2 h, fun h => by first | trivial | exact r3 h, fun h => by first | trivial | exact r4 h⟩⟩
        case measure => simp [intOf]
    | 2, _ =>
      have q0 : t0 = false := HK.out.1 (by omega)
      have q1 : t1 = false := HK.out.2.1 (by omega)
      have hx := ixL2
      cases hq : t2 with
      | true =>
        rw [hq] at n2
        have HF : Hid (L = 3) := by show _ = _; rw [HL.out]; simp [q0, q1, hq]
        clear n0 n1 n3 n4 HK hq
        go_wp2_with fail
        refine n2.mono ?_
        rintro x w' ⟨rfl, rfl⟩
        go_wp2
        go_ret
        exact ⟨by rw [HF.out]; rfl, rfl⟩
      | false =>
        rw [hq] at n2
        have HN : Hid ((0 < 3 → t0 = false) ∧ (1 < 3 → t1 = false) ∧ (2 < 3 → t2 = false) ∧ (3 < 3 → t3 = false) ∧ (4 < 3 → t4 = false)) := by
          refine ⟨?_, ?_, ?_, ?_, ?_⟩ <;> intro hh <;> first | omega | assumption
        clear n0 n1 n3 n4 HK hq
        go_wp2_with fail
        refine n2.mono ?_
        rintro x w' ⟨rfl, rfl⟩
        go_wp2
        go_round
        case rel => exact ⟨3, by omega, by go_num, by obtain ⟨r0, r1, r2, r3, r4⟩ := HN.out; exact ⟨fun h => by first | trivial | exact r0 h, fun h => by first | trivial | exact r1 h, fun h => by first | trivial | exact r2 h, fun h => by first | trivial | exact r3 h, fun h => by first | trivial | exact r4 h⟩⟩
        case measure => simp [intOf]
    | 3, _ =>
      have q0 : t0 = false := HK.out.1 (by omega)
      have q1 : t1 = false := HK.out.2.1 (by omega)
      have q2 : t2 = false := HK.out.2.2.1 (by omega)
      have hx := ixL3
      cases hq : t3 with
      | true =>
        rw [hq] at n3
        have HF : Hid (L = 4) := by show _ = _; rw [HL.out]; simp [q0, q1, q2, hq]
        clear n0 n1 n2 n4 HK hq
        go_wp2_with fail
        refine n3.mono ?_
        rintro x w' ⟨rfl, rfl⟩
        go_wp2
        go_ret
        exact ⟨by rw [HF.out]; rfl, rfl⟩
      | false =>
        rw [hq] at n3
        have HN : Hid ((0 < 4 → t0 = false) ∧ (1 < 4 → t1 = false) ∧ (2 < 4 → t2 = false) ∧ (3 < 4 → t3 = false) ∧ (4 < 4 → t4 = false)) := by
          refine ⟨?_, ?_, ?_, ?_, ?_⟩ <;> intro hh <;> first | omega | assumption
        clear n0 n1 n2 n4 HK hq
        go_wp2_with fail
        refine n3.mono ?_
        rintro x w' ⟨rfl, rfl⟩
        go_wp2
        go_round
        case rel => exact ⟨4, by omega, by go_num, by obtain ⟨r0, r1, r2, r3, r4⟩ := HN.out; exact ⟨fun h => by first | trivial | exact r0 h, fun h => by first | trivial | exact r1 h, fun h => by first | trivial | exact r2 h, fun h => by first | trivial | exact r3 h, fun h => by first | trivial | exact r4 h⟩⟩
        case measure => simp [intOf]
    | 4, _ =>
      have q0 : t0 = false := HK.out.1 (by omega)
      have q1 : t1 = false := HK.out.2.1 (by omega)
      have q2 : t2 = false := HK.out.2.2.1 (by omega)
      have q3 : t3 = false := HK.out.2.2.2.1 (by omega)
      have hx := ixL4
      cases hq : t4 with
      | true =>
        rw [hq] at n4
        have HF : Hid (L = 5) := by show _ = _; rw [HL.out]; simp [q0, q1, q2, q3, hq]
        clear n0 n1 n2 n3 HK hq
        go_wp2_with fail
        refine n4.mono ?_
        rintro x w' ⟨rfl, rfl⟩
        go_wp2
        go_ret
        exact ⟨by rw [HF.out]; rfl, rfl⟩
      | false =>
        rw [hq] at n4
        have HN : Hid ((0 < 5 → t0 = false) ∧ (1 < 5 → t1 = false) ∧ (2 < 5 → t2 = false) ∧ (3 < 5 → t3 = false) ∧ (4 < 5 → t4 = false)) := by
          refine ⟨?_, ?_, ?_, ?_, ?_⟩ <;> intro hh <;> first | omega | assumption
        clear n0 n1 n2 n3 HK hq
        go_wp2_with fail
        refine n4.mono ?_
        rintro x w' ⟨rfl, rfl⟩
        go_wp2
        go_round
        case rel => exact ⟨5, by omega, by go_num, by obtain ⟨r0, r1, r2, r3, r4⟩ := HN.out; exact ⟨fun h => by first | trivial | exact r0 h, fun h => by first | trivial | exact r1 h, fun h => by first | trivial | exact r2 h, fun h => by first | trivial | exact r3 h, fun h => by first | trivial | exact r4 h⟩⟩
        case measure => simp [intOf]
    | 5, _ =>
      have q0 : t0 = false := HK.out.1 (by omega)
      have q1 : t1 = false := HK.out.2.1 (by omega)
      have q2 : t2 = false := HK.out.2.2.1 (by omega)
      have q3 : t3 = false := HK.out.2.2.2.1 (by omega)
      have q4 : t4 = false := HK.out.2.2.2.2 (by omega)
      have HF : Hid (L = 0) := by show _ = _; rw [HL.out]; simp [q0, q1, q2, q3, q4]
      clear n0 n1 n2 n3 n4 HK
      go_wp2
      go_ret
      exact ⟨by rw [HF.out]; rfl, rfl⟩
end Go.Proofs.YtcdeicfegfedfaaGreatDoor

namespace Go.Proofs.YtcdeicfegfedfaaGreatDoor
open Go.RowKit
open Par (Tok Po Tr nx atP isT ba)

def tokC (t : Tok) : List Value := [.int .i64 t.1, .int .i64 (t.2.1 : Int), .string (ba t.2.2)]
def Good (t : Tok) : Prop := t.2.2.length ≤ 4000 ∧ t.2.1 ≤ 4000 ∧ (t.1 = 2 → t.2.2.length ≤ 18 ∧ Lib.atoi t.2.2 = some (Par.numV t.2.2))
structure Rd (w : World) (rb e : Nat) (bl pr : Int) (ts : List Tok) (v : Value) : Prop where
  blk : w.heap[rb]? = some (.cells #[v, .int .i64 (e : Int), .int .i64 bl, .int .i64 pr] 65 (0, 0))
  row : RowV w (fun b => b < rb) 3 v (ts.map tokC)
  len : ts.length ≤ 600
  good : ∀ t ∈ ts, Good t
  lv : LevAt w rb
def stopV (c : Int) (q : Nat) : Value := .iface 62 (.agg #[.int .i64 c, .int .i64 (q : Int)])
def goneE (c : Int) (q : Nat) : Ending := .panicked [{ v := stopV c q, recovered := false }]

theorem blk3 {w : World} {b : Nat} {x y z : Value} {e : TypeId} (h : w.heap[b]? = some (.cells #[x, y, z] e (0, 0))) :
    (w.cell? ⟨b, 0, none⟩ = some x ∧ w.cell? ⟨b, 1, none⟩ = some y ∧ w.cell? ⟨b, 2, none⟩ = some z) ∧ w.frozen? ⟨b, 0, none⟩ = false ∧ w.frozen? ⟨b, 1, none⟩ = false ∧ w.frozen? ⟨b, 2, none⟩ = false := by
  refine ⟨⟨?_, ?_, ?_⟩, ?_, ?_, ?_⟩ <;> simp [World.cell?, World.frozen?, h]
theorem Rd.cells {w : World} {rb e : Nat} {bl pr : Int} {ts : List Tok} {v : Value} (h : Rd w rb e bl pr ts v) :
    w.cell? ⟨rb, 0, none⟩ = some v ∧ w.cell? ⟨rb, 1, none⟩ = some (.int .i64 (e : Int)) ∧ w.cell? ⟨rb, 2, none⟩ = some (.int .i64 bl) ∧ w.cell? ⟨rb, 3, none⟩ = some (.int .i64 pr) := by
  have := h.blk
  refine ⟨?_, ?_, ?_, ?_⟩ <;> simp [World.cell?, this]
theorem Rd.frozen {w : World} {rb e : Nat} {bl pr : Int} {ts : List Tok} {v : Value} (h : Rd w rb e bl pr ts v) (k : Nat) : w.frozen? ⟨rb, k, none⟩ = false := by
  simp [World.frozen?, h.blk]
theorem Rd.lt {w : World} {rb e : Nat} {bl pr : Int} {ts : List Tok} {v : Value} (h : Rd w rb e bl pr ts v) : rb < w.heap.size := lt_of_block h.blk
theorem Rd.keeps {w w' : World} {rb e B : Nat} {bl pr : Int} {ts : List Tok} {v : Value} (h : Rd w rb e bl pr ts v) (k : Below B w w') (hB : rb < B) : Rd w' rb e bl pr ts v :=
  ⟨(k.block _ hB).trans h.blk, h.row.keeps ⟨k.size, fun b hb _ => k.block b (by omega)⟩, h.len, h.good, h.lv.keeps k.size fun b hb => k.block b (by omega)⟩
theorem Rd.none {w : World} {rb e : Nat} {bl pr : Int} {v : Value} (h : Rd w rb e bl pr [] v) : ∃ ao c, v = .slice ao 0 c := by
  obtain ⟨ao, b, off, c, hv, _⟩ := h.row
  exact ⟨ao, c, hv⟩
theorem Rd.some {w : World} {rb e : Nat} {bl pr : Int} {t : Tok} {r : List Tok} {v : Value} (h : Rd w rb e bl pr (t :: r) v) :
    ∃ b off c, v = .slice (.some ⟨b, off, .none⟩) (r.length + 1) c ∧ b < rb ∧ r.length + 1 ≤ c ∧ c ≤ maxLen ∧ w.cell? ⟨b, off, .none⟩ = .some (.int .i64 t.1) ∧ w.cell? ⟨b, off + 1, .none⟩ = .some (.int .i64 (t.2.1 : Int)) ∧ w.cell? ⟨b, off + 2, .none⟩ = .some (.string (ba t.2.2)) ∧
      RowV w (fun b => b < rb) 3 (.slice (.some ⟨b, off + 3, .none⟩) r.length (c - 1)) (r.map tokC) := by
  obtain ⟨ao, b, off, c, hv, hr⟩ := h.row
  have hp : 0 < ((t :: r).map tokC).length := by simp
  have ha := hr.adr hp
  subst ha
  have hcell := hr.cell 0 hp
  refine ⟨b, off, c, by simpa using hv, hr.ok hp, by simpa using hr.cap, hr.mx, ?_, ?_, ?_, ?_⟩
  · have := hcell 0 (.int .i64 t.1) rfl; simpa using this
  · have := hcell 1 (.int .i64 (t.2.1 : Int)) rfl; simpa using this
  · have := hcell 2 (.string (ba t.2.2)) rfl; simpa using this
  · have hc := hr.cap
    refine ⟨_, b, off + 3, c - 1, by rw [List.length_map], ⟨by simp, ?_, by have := hr.mx; omega, fun _ => rfl, fun _ => hr.ok hp, fun _ => hr.pl hp, fun i hi => ?_, fun i hi j u hu => ?_⟩⟩
    · simp at hc ⊢; omega
    · simp [tokC]
    · have := hr.cell (i + 1) (by simpa using hi) j u (by simpa using hu)
      rw [← this]; congr 2; omega
theorem Rd.goods {w : World} {rb e : Nat} {bl pr : Int} {t : Tok} {r : List Tok} {v : Value} (h : Rd w rb e bl pr (t :: r) v) : Good t := h.good t (by simp)
/- One token on. -/
theorem Rd.step {w : World} {rb e : Nat} {bl pr : Int} {t : Tok} {r : List Tok} {v v' : Value} (h : Rd w rb e bl pr (t :: r) v) (hr : RowV w (fun b => b < rb) 3 v' (r.map tokC)) : Rd (w.setCell ⟨rb, 0, .none⟩ v') rb e bl pr r v' := by
  refine ⟨?_, hr.keeps ⟨by simp [World.setCell], fun b hb _ => ?_⟩, by have := h.len; simp at this; omega, fun x hx => h.good x (by simp [hx]), h.lv.keeps (by simp [World.setCell]) fun b hb => Below.heap_setCell _ _ _ _ (by show b ≠ rb; omega)⟩
  · simp [World.setCell, Array.getElem?_modify, h.blk]
  · exact Below.heap_setCell _ _ _ _ (by show b ≠ rb; omega)
theorem step_grown {w : World} {rb : Nat} (v : Value) (k : Nat) : w.grownBy (w.setCell ⟨rb, k, none⟩ v) (some rb) :=
  ⟨rfl, rfl, rfl, by simp [World.setCell], fun b _ hb => Below.heap_setCell _ _ _ _ (by intro h; exact hb (by rw [h]))⟩

set_option maxHeartbeats 1000000 in
theorem rAt_any {w : World} {rb e : Nat} {bl pr : Int} {ts : List Tok} {v : Value} (h : Rd w rb e bl pr ts v) :
    Calls Tryz.prog 51 #[.pointer (some ⟨rb, 0, none⟩)] w fun x w' => x = .returned (.int .i64 (atP e ts : Nat)) ∧ w' = w := by
  have hlt := h.lt
  cases ts with
  | nil =>
    obtain ⟨ao, c, rfl⟩ := h.none
    obtain ⟨c0, c1, c2, c3⟩ := h.cells
    clear h
    go_enter Tryz.func51, Tryz.ntmps51
    go_wp2
    go_ret
    exact ⟨rfl, rfl⟩
  | cons t r =>
    obtain ⟨b, off, c, rfl, hb, hc, hm, k0, k1, k2, _⟩ := h.some
    obtain ⟨c0, c1, c2, c3⟩ := h.cells
    have hl := h.len
    have hbw : b < w.heap.size := by omega
    unfold maxLen at hm
    clear h
    go_enter Tryz.func51, Tryz.ntmps51
    go_wp2
    go_ret
    exact ⟨rfl, rfl⟩
set_option maxHeartbeats 1000000 in
theorem rNext_any {w : World} {rb e : Nat} {bl pr : Int} {ts : List Tok} {v : Value} (h : Rd w rb e bl pr ts v) :
    Calls Tryz.prog 54 #[.pointer (some ⟨rb, 0, none⟩)] w fun x w' => x = .returned (.agg #[.int .i64 (nx ts).1, .int .i64 ((nx ts).2.1 : Int), .string (ba (nx ts).2.2)]) ∧ Below w.heap.size w w' := by
  have hlt := h.lt
  cases ts with
  | nil =>
    obtain ⟨ao, c, rfl⟩ := h.none
    obtain ⟨c0, c1, c2, c3⟩ := h.cells
    clear h
    go_enter Tryz.func54, Tryz.ntmps54
    go_wp2
    exact bodyPost_ret (v := .agg #[.int .i64 0, .int .i64 0, .string ⟨#[]⟩]) (by simp [results, Tryz.results54, go_sem]) rfl ⟨rfl, (Below.refl _ _).alloc (Nat.le_refl _) _⟩
  | cons t r =>
    obtain ⟨b, off, c, rfl, hb, hc, hm, k0, k1, k2, _⟩ := h.some
    obtain ⟨c0, c1, c2, c3⟩ := h.cells
    have hl := h.len
    have hbw : b < w.heap.size := by omega
    unfold maxLen at hm
    clear h
    go_enter Tryz.func54, Tryz.ntmps54
    go_wp2
    exact bodyPost_ret (v := .agg #[.int .i64 t.1, .int .i64 (t.2.1 : Int), .string (ba t.2.2)]) (by simp [results, Tryz.results54, go_sem]) rfl ⟨rfl, (Below.refl _ _).alloc (Nat.le_refl _) _⟩
end Go.Proofs.YtcdeicfegfedfaaGreatDoor

namespace Go.Proofs.YtcdeicfegfedfaaGreatDoor
open Go.RowKit
open Par (Tok Po Tr nx atP isT ba Res)

theorem ba_list (l : List UInt8) : (ba l).toList = l := by rw [Lex.list_of]; simp [ba]
theorem ba_data (l : List UInt8) : (ba l).data.toList = l := by simp [ba]
theorem is_of (s : ByteArray) (ts : List Tok) : ((ba (nx ts).2.2).toList == s.toList) = isT s.data.toList ts := by
  rw [ba_list, Lex.list_of]; rfl

theorem fTok0 (x y z : Value) (w : World) : (Instr.field 80 (.agg #[x, y, z]) 0).run Tryz.prog w = .ok x w := by kernel_rfl
theorem fTok1 (x y z : Value) (w : World) : (Instr.field 80 (.agg #[x, y, z]) 1).run Tryz.prog w = .ok y w := by kernel_rfl
theorem fTok2 (x y z : Value) (w : World) : (Instr.field 80 (.agg #[x, y, z]) 2).run Tryz.prog w = .ok z w := by kernel_rfl
/- What a call of a reading function comes to. -/
structure Fr (B rb : Nat) (w w' : World) : Prop where
  os : w'.os = w.os
  tape : w'.tape = w.tape
  output : w'.output = w.output
  size : w.heap.size ≤ w'.heap.size
  block : ∀ k, k < B → k ≠ rb → w'.heap[k]? = w.heap[k]?
theorem Fr.of_grown {B rb : Nat} {w w' : World} (h : w.grownBy w' (some rb)) (hB : B ≤ w.heap.size) : Fr B rb w w' := ⟨h.os, h.tape, h.output, h.size, fun k hk hn => h.block k (by omega) (by simp; exact hn)⟩
theorem Fr.of_below {B rb : Nat} {w w' : World} (h : Below B w w') : Fr B rb w w' := ⟨h.os, h.tape, h.output, h.size, fun k hk _ => h.block k hk⟩
theorem Fr.trans {B rb : Nat} {a b c : World} (h : Fr B rb a b) (k : Fr B rb b c) : Fr B rb a c := ⟨k.os.trans h.os, k.tape.trans h.tape, k.output.trans h.output, Nat.le_trans h.size k.size, fun i hi hn => (k.block i hi hn).trans (h.block i hi hn)⟩
theorem Fr.grown {rb : Nat} {w w' : World} (h : Fr w.heap.size rb w w') : w.grownBy w' (some rb) := ⟨h.os, h.tape, h.output, h.size, fun k hk hn => h.block k hk (fun hh => hn (by rw [hh]))⟩
theorem Fr.mono {B B' rb : Nat} {w w' : World} (h : Fr B rb w w') (hB : B' ≤ B) : Fr B' rb w w' := ⟨h.os, h.tape, h.output, h.size, fun k hk hn => h.block k (by omega) hn⟩
def PostB {α : Type} (B : Nat) (w : World) (rb e : Nat) (bl pr : Int) (res : Res α) (V : World → α → Value → Prop) (x : Ending) (w' : World) : Prop :=
  Fr B rb w w' ∧ ((∃ a r, res = .ok a r ∧ ∃ u v', x = .returned u ∧ V w' a u ∧ Rd w' rb e bl pr r v') ∨ (∃ c q, res = .no c q ∧ x = goneE c q ∧ ∃ r v', Rd w' rb e bl pr r v'))
def Post {α : Type} (w : World) (rb e : Nat) (bl pr : Int) (res : Res α) (V : World → α → Value → Prop) (x : Ending) (w' : World) : Prop :=
  w.grownBy w' (some rb) ∧ ((∃ a r, res = .ok a r ∧ ∃ u v', x = .returned u ∧ V w' a u ∧ Rd w' rb e bl pr r v') ∨ (∃ c q, res = .no c q ∧ x = goneE c q ∧ ∃ r v', Rd w' rb e bl pr r v'))
theorem grown_of_below {w w' : World} (o : Option Nat) (h : Below w.heap.size w w') : w.grownBy w' o := ⟨h.os, h.tape, h.output, h.size, fun k hk _ => h.block k hk⟩

set_option maxRecDepth 100000 in
set_option maxHeartbeats 1000000 in
theorem rGive_any {w : World} {rb e : Nat} {bl pr : Int} {ts : List Tok} {v : Value} (c : Int) (h : Rd w rb e bl pr ts v) :
    Calls Tryz.prog 29 #[.pointer (some ⟨rb, 0, none⟩), .int .i64 c] w fun x w' => x = goneE c (atP e ts) ∧ w' = w := by
  have H : Hid (Rd w rb e bl pr ts v) := h
  clear h
  go_enter Tryz.func29, Tryz.ntmps29
  go_wp2_with (go_at_call 51; refine (rAt_any H.out).mono ?_; rintro x w' ⟨rfl, rfl⟩)
  exact ⟨rfl, rfl, rfl⟩
set_option maxRecDepth 100000 in
set_option maxHeartbeats 1000000 in
theorem rIs_any {w : World} {rb e : Nat} {bl pr : Int} {ts : List Tok} {v : Value} (s : ByteArray) (h : Rd w rb e bl pr ts v) :
    Calls Tryz.prog 59 #[.pointer (some ⟨rb, 0, none⟩), .string s] w fun x w' => x = .returned (.bool (isT s.data.toList ts)) ∧ Below w.heap.size w w' := by
  have H : Hid (Rd w rb e bl pr ts v) := h
  have E : Hid (((ba (nx ts).2.2).toList == s.toList) = isT s.data.toList ts) := is_of s ts
  have f2 := fTok2
  clear h
  go_enter Tryz.func59, Tryz.ntmps59
  go_wp2_with (go_at_call 54; refine (rNext_any H.out).mono ?_; rintro x w1 ⟨rfl, hb1⟩)
  go_ret
  exact ⟨by rw [← E.out]; rfl, hb1⟩
theorem take_below {w : World} {n : Nat} (hn : n ≤ w.heap.size) {x y z : Value} {k : Nat} {v : Value} {rb : Nat} {o : Obj} : Below n (w.setCell ⟨rb, k, none⟩ v) (((((w.setCell ⟨rb, k, none⟩ v).setCell ⟨n, 0, none⟩ x).setCell ⟨n, 1, none⟩ y).setCell ⟨n, 2, none⟩ z).alloc o) :=
  ((((Below.refl _ _).setCell (Nat.le_refl n) _).setCell (Nat.le_refl n) _).setCell (Nat.le_refl n) _).alloc (by simpa [World.setCell] using hn) _
theorem take_grown {w w1 : World} {x y z : Value} {k : Nat} {v : Value} {rb : Nat} {o : Obj} (hb : Below w.heap.size w w1) : w.grownBy (((((w1.setCell ⟨rb, k, none⟩ v).setCell ⟨w.heap.size, 0, none⟩ x).setCell ⟨w.heap.size, 1, none⟩ y).setCell ⟨w.heap.size, 2, none⟩ z).alloc o) (some rb) :=
  grown_alloc (grown_setNew (grown_setNew (grown_setNew (grown_set (grown_of_below _ hb) rfl v) (Nat.le_refl _) _) (Nat.le_refl _) _) (Nat.le_refl _) _) _
set_option maxRecDepth 100000 in
set_option maxHeartbeats 1000000 in
theorem rTake_any {w : World} {rb e : Nat} {bl pr : Int} {t : Tok} {r : List Tok} {v : Value} (h : Rd w rb e bl pr (t :: r) v) :
    Calls Tryz.prog 55 #[.pointer (some ⟨rb, 0, none⟩)] w fun x w' => x = .returned (.agg #[.int .i64 t.1, .int .i64 (t.2.1 : Int), .string (ba t.2.2)]) ∧ w.grownBy w' (some rb) ∧ ∃ v', Rd w' rb e bl pr r v' := by
  have hlt := h.lt
  obtain ⟨w0, hw0⟩ : ∃ w0, w0 = w.alloc (.cells #[.int .i64 0, .int .i64 0, .string ⟨#[]⟩] 80) := ⟨_, rfl⟩
  have HB0 : Hid (Below w.heap.size w w0) := by rw [hw0]; exact (Below.refl _ _).alloc (Nat.le_refl _) _
  have H0 : Hid (Rd w0 rb e bl pr (t :: r) v) := h.keeps HB0.out h.lt
  clear h
  go_enter Tryz.func55, Tryz.ntmps55
  go_wp2_with fail
  rw [← hw0]
  refine (rNext_any H0.out).mono ?_
  rintro x w1 ⟨rfl, hb1⟩
  rw [show nx (t :: r) = t from rfl]
  have h1 := H0.out.keeps hb1 H0.out.lt
  have hres : w1.heap[w.heap.size]? = some (.cells #[.int .i64 0, .int .i64 0, .string ⟨#[]⟩] 80 (0, 0)) := by
    rw [hb1.block _ (by rw [hw0]; simp), hw0]; exact heap_at_alloc _ _ _ rfl
  have hrl := lt_of_block hres
  obtain ⟨⟨q0, q1, q2⟩, y0, y1, y2⟩ := blk3 hres
  obtain ⟨b, off, c, rfl, hb, hc, hm, k0, k1, k2, hr⟩ := h1.some
  obtain ⟨c0, c1, c2, c3⟩ := h1.cells
  have z0 := h1.frozen 0
  have hl := h1.len
  have hl1 := h1.lt
  have HB1 : Hid (Below w.heap.size w w1) := HB0.out.trans (hb1.mono HB0.out.size)
  unfold maxLen at hm
  simp only [List.length_cons] at hl
  by_cases hc1 : c = 1
  · subst hc1
    obtain rfl : r = [] := List.length_eq_zero_iff.1 (by omega)
    have HR : Hid (Rd (w1.setCell ⟨rb, 0, none⟩ (.slice (some ⟨b, off, none⟩) 0 0)) rb e bl pr [] (.slice (some ⟨b, off, none⟩) 0 0)) := h1.step (RowV.none _ _ _ _)
    simp only [List.length_nil, Nat.zero_add] at c0
    clear h1 k0 k1 k2 hr hb1 hres H0
    go_wp2
    exact bodyPost_ret (v := .agg #[.int .i64 t.1, .int .i64 (t.2.1 : Int), .string (ba t.2.2)]) (by simp [results, Tryz.results55, go_sem, q0, q1, q2, hrl]) rfl ⟨rfl, take_grown HB1.out, _, HR.out.keeps (take_below (Nat.le_of_lt hrl)) hlt⟩
  · have HR : Hid (Rd (w1.setCell ⟨rb, 0, none⟩ (.slice (some ⟨b, off + 3, none⟩) r.length (c - 1))) rb e bl pr r (.slice (some ⟨b, off + 3, none⟩) r.length (c - 1))) := h1.step hr
    clear h1 k0 k1 k2 hr hb1 hres H0
    go_wp2
    exact bodyPost_ret (v := .agg #[.int .i64 t.1, .int .i64 (t.2.1 : Int), .string (ba t.2.2)]) (by simp [results, Tryz.results55, go_sem, q0, q1, q2, hrl]) rfl ⟨rfl, take_grown HB1.out, _, HR.out.keeps (take_below (Nat.le_of_lt hrl)) hlt⟩
theorem is_some {s : List UInt8} {ts : List Tok} (hs : s ≠ []) (h : isT s ts = true) : ∃ t r, ts = t :: r := by
  cases ts with
  | nil =>
    simp only [isT, nx, beq_iff_eq] at h
    exact absurd h.symm hs
  | cons t r => exact ⟨t, r, rfl⟩
set_option maxRecDepth 100000 in
set_option maxHeartbeats 1000000 in
theorem rMay_any {w : World} {rb e : Nat} {bl pr : Int} {ts : List Tok} {v : Value} (s : ByteArray) (hs : s.data.toList ≠ []) (h : Rd w rb e bl pr ts v) :
    Calls Tryz.prog 85 #[.pointer (some ⟨rb, 0, none⟩), .string s] w fun x w' => x = .returned (.bool (isT s.data.toList ts)) ∧ w.grownBy w' (some rb) ∧ ∃ v', Rd w' rb e bl pr (if isT s.data.toList ts = true then ts.tail else ts) v' := by
  have H : Hid (Rd w rb e bl pr ts v) := h
  clear h
  cases hi : isT s.data.toList ts with
  | false =>
    go_enter Tryz.func85, Tryz.ntmps85
    go_wp2_with fail
    refine (rIs_any _ H.out).mono ?_
    rintro x w1 ⟨rfl, hb1⟩
    rw [hi]
    have H1 : Hid (Rd w1 rb e bl pr ts v) := H.out.keeps hb1 H.out.lt
    have HB1 : Hid (Below w.heap.size w w1) := hb1
    clear hb1
    go_wp2
    go_ret
    exact ⟨rfl, grown_of_below _ HB1.out, _, H1.out⟩
  | true =>
    obtain ⟨t, r, rfl⟩ := is_some hs hi
    go_enter Tryz.func85, Tryz.ntmps85
    go_wp2_with fail
    refine (rIs_any _ H.out).mono ?_
    rintro x w1 ⟨rfl, hb1⟩
    rw [hi]
    have H1 : Hid (Rd w1 rb e bl pr (t :: r) v) := H.out.keeps hb1 H.out.lt
    have HB1 : Hid (w.grownBy w1 (some rb)) := grown_of_below _ hb1
    clear hb1
    go_wp2_with fail
    refine (rTake_any H1.out).mono ?_
    rintro x w2 ⟨rfl, hg, v2, h2⟩
    have H2 : Hid (Rd w2 rb e bl pr r v2) := h2
    have HG : Hid (w1.grownBy w2 (some rb)) := hg
    clear h2 hg
    go_wp2
    go_ret
    exact ⟨rfl, grown_trans HB1.out HG.out, _, H2.out⟩
set_option maxRecDepth 100000 in
set_option maxHeartbeats 1000000 in
theorem rMust_any {w : World} {rb e : Nat} {bl pr : Int} {ts : List Tok} {v : Value} (s : ByteArray) (hs : s.data.toList ≠ []) (h : Rd w rb e bl pr ts v) :
    Calls Tryz.prog 58 #[.pointer (some ⟨rb, 0, none⟩), .string s] w (Post w rb e bl pr (Par.must e s.data.toList ts) fun _ a u => u = .int .i64 (a : Int)) := by
  have H : Hid (Rd w rb e bl pr ts v) := h
  have f1 := fTok1
  clear h
  cases hi : isT s.data.toList ts with
  | false =>
    have HM : Hid (Par.must e s.data.toList ts = .no 1 (atP e ts)) := by show _ = _; unfold Par.must; rw [if_neg (by simp [hi])]
    go_enter Tryz.func58, Tryz.ntmps58
    go_wp2_with fail
    refine (rIs_any _ H.out).mono ?_
    rintro x w1 ⟨rfl, hb1⟩
    rw [hi]
    have H1 : Hid (Rd w1 rb e bl pr ts v) := H.out.keeps hb1 H.out.lt
    have HB1 : Hid (Below w.heap.size w w1) := hb1
    clear hb1
    go_wp2_with fail
    refine (rGive_any _ H1.out).mono ?_
    rintro x w2 ⟨rfl, hw2⟩
    subst hw2
    exact ⟨rfl, grown_of_below _ HB1.out, .inr ⟨_, _, HM.out, rfl, _, _, H1.out⟩⟩
  | true =>
    obtain ⟨t, r, rfl⟩ := is_some hs hi
    have HM : Hid (Par.must e s.data.toList (t :: r) = .ok t.2.1 r) := by show _ = _; unfold Par.must; rw [if_pos hi]; rfl
    go_enter Tryz.func58, Tryz.ntmps58
    go_wp2_with fail
    refine (rIs_any _ H.out).mono ?_
    rintro x w1 ⟨rfl, hb1⟩
    rw [hi]
    have H1 : Hid (Rd w1 rb e bl pr (t :: r) v) := H.out.keeps hb1 H.out.lt
    have HB1 : Hid (w.grownBy w1 (some rb)) := grown_of_below _ hb1
    clear hb1
    go_wp2_with fail
    refine (rTake_any H1.out).mono ?_
    rintro x w2 ⟨rfl, hg, v2, h2⟩
    have H2 : Hid (Rd w2 rb e bl pr r v2) := h2
    have HG : Hid (w1.grownBy w2 (some rb)) := hg
    clear h2 hg
    go_wp2
    go_ret
    exact ⟨grown_trans HB1.out HG.out, .inl ⟨_, _, HM.out, _, _, rfl, rfl, H2.out⟩⟩
theorem ba_size (l : List UInt8) : (ba l).size = l.length := by simp [ba, ByteArray.size]
set_option maxRecDepth 100000 in
set_option maxHeartbeats 1000000 in
theorem rName_any {w : World} {rb e : Nat} {bl pr : Int} {ts : List Tok} {v : Value} (h : Rd w rb e bl pr ts v) :
    Calls Tryz.prog 61 #[.pointer (some ⟨rb, 0, none⟩)] w (Post w rb e bl pr (Par.nameR e ts) fun _ a u => u = .string a ∧ a.size ≤ maxLen) := by
  have H : Hid (Rd w rb e bl pr ts v) := h
  have f0 := fTok0
  have f2 := fTok2
  clear h
  by_cases hk : (nx ts).1 = 1
  · obtain ⟨t, r, rfl⟩ : ∃ t r, ts = t :: r := by
      cases ts with
      | nil => cases hk
      | cons t r => exact ⟨t, r, rfl⟩
    have hk' : t.1 = 1 := hk
    have hb : (t.1 != 1) = false := by simp [hk']
    have HM : Hid (Par.nameR e (t :: r) = .ok (ba t.2.2) r) := by show _ = _; unfold Par.nameR; rw [if_pos hk]; rfl
    have HZ : Hid ((ba t.2.2).size ≤ maxLen) := by
      show _ ≤ _
      have := H.out.goods.1
      rw [ba_size]; unfold maxLen; omega
    clear hk hk'
    go_enter Tryz.func61, Tryz.ntmps61
    go_wp2_with fail
    refine (rNext_any H.out).mono ?_
    rintro x w1 ⟨rfl, hb1⟩
    rw [show nx (t :: r) = t from rfl]
    have H1 : Hid (Rd w1 rb e bl pr (t :: r) v) := H.out.keeps hb1 H.out.lt
    have HB1 : Hid (w.grownBy w1 (some rb)) := grown_of_below _ hb1
    clear hb1
    go_wp2_with fail
    refine (rTake_any H1.out).mono ?_
    rintro x w2 ⟨rfl, hg, v2, h2⟩
    have H2 : Hid (Rd w2 rb e bl pr r v2) := h2
    have HG : Hid (w1.grownBy w2 (some rb)) := hg
    clear h2 hg
    go_wp2
    go_ret
    exact ⟨grown_trans HB1.out HG.out, .inl ⟨_, _, HM.out, _, _, rfl, ⟨rfl, HZ.out⟩, H2.out⟩⟩
  · have hb : ((nx ts).1 != 1) = true := by simp [hk]
    have HM : Hid (Par.nameR e ts = .no 1 (atP e ts)) := by show _ = _; unfold Par.nameR; rw [if_neg hk]
    clear hk
    go_enter Tryz.func61, Tryz.ntmps61
    go_wp2_with fail
    refine (rNext_any H.out).mono ?_
    rintro x w1 ⟨rfl, hb1⟩
    have H1 : Hid (Rd w1 rb e bl pr ts v) := H.out.keeps hb1 H.out.lt
    have HB1 : Hid (w.grownBy w1 (some rb)) := grown_of_below _ hb1
    clear hb1
    go_wp2_with fail
    refine (rGive_any _ H1.out).mono ?_
    rintro x w2 ⟨rfl, hw2⟩
    subst hw2
    exact ⟨rfl, HB1.out, .inr ⟨_, _, HM.out, rfl, _, _, H1.out⟩⟩
end Go.Proofs.YtcdeicfegfedfaaGreatDoor

namespace Go.Proofs.YtcdeicfegfedfaaGreatDoor
open Go.RowKit
open Par (Tok Po Tr nx atP isT ba Res)

theorem Rd.setPr {w : World} {rb e : Nat} {bl pr : Int} {ts : List Tok} {v : Value} (h : Rd w rb e bl pr ts v) (n : Int) : Rd (w.setCell ⟨rb, 3, .none⟩ (.int .i64 n)) rb e bl n ts v := by
  refine ⟨?_, h.row.keeps ⟨by simp [World.setCell], fun b hb _ => Below.heap_setCell _ _ _ _ (by show b ≠ rb; omega)⟩, h.len, h.good, h.lv.keeps (by simp [World.setCell]) fun b hb => Below.heap_setCell _ _ _ _ (by show b ≠ rb; omega)⟩
  simp [World.setCell, Array.getElem?_modify, h.blk]
theorem Rd.setBl {w : World} {rb e : Nat} {bl pr : Int} {ts : List Tok} {v : Value} (h : Rd w rb e bl pr ts v) (n : Int) : Rd (w.setCell ⟨rb, 2, .none⟩ (.int .i64 n)) rb e n pr ts v := by
  refine ⟨?_, h.row.keeps ⟨by simp [World.setCell], fun b hb _ => Below.heap_setCell _ _ _ _ (by show b ≠ rb; omega)⟩, h.len, h.good, h.lv.keeps (by simp [World.setCell]) fun b hb => Below.heap_setCell _ _ _ _ (by show b ≠ rb; omega)⟩
  simp [World.setCell, Array.getElem?_modify, h.blk]

set_option maxRecDepth 100000 in
set_option maxHeartbeats 1000000 in
theorem rIn_many {w : World} {rb e : Nat} {bl : Int} {ts : List Tok} {v : Value} (h : Rd w rb e bl 12 ts v) :
    Calls Tryz.prog 81 #[.pointer (some ⟨rb, 0, none⟩), .pointer (some ⟨rb, 3, none⟩)] w fun x w' => x = goneE 2 (atP e ts) ∧ Below w.heap.size w w' := by
  have hmf : ∀ (fn : Fn) (first cap : Array Value) (w : World), (Instr.makeFunc fn first cap).run Tryz.prog w = .ok (.func fn first cap) w := fun _ _ _ _ => rfl
  obtain ⟨c0, c1, c2, c3⟩ := h.cells
  have hlt := h.lt
  have H : Hid (∀ o, Rd (w.alloc o) rb e bl 12 ts v) := fun o => h.keeps ((Below.refl _ _).alloc (Nat.le_refl _) o) h.lt
  clear h
  go_enter Tryz.func81, Tryz.ntmps81
  go_wp2_with fail
  refine (rGive_any _ (H.out _)).mono ?_
  rintro x w2 ⟨rfl, hw2⟩
  subst hw2
  exact ⟨rfl, rfl, (Below.refl _ _).alloc (Nat.le_refl _) _⟩
set_option maxRecDepth 100000 in
set_option maxHeartbeats 1000000 in
theorem rIn_some {w : World} {rb e d : Nat} {bl : Int} {ts : List Tok} {v : Value} (h : Rd w rb e bl d ts v) (hd : d < 12) :
    Calls Tryz.prog 81 #[.pointer (some ⟨rb, 0, none⟩), .pointer (some ⟨rb, 3, none⟩)] w fun x w' => x = .returned (.func (.func 125) #[] #[.pointer (some ⟨w.heap.size, 0, none⟩)]) ∧ w.grownBy w' (some rb) ∧ w.heap.size < w'.heap.size ∧ Rd w' rb e bl ((d + 1 : Nat) : Int) ts v ∧ w'.heap[w.heap.size]? = some (.cells #[.pointer (some ⟨rb, 3, none⟩)] 120 (0, 0)) := by
  have hmf : ∀ (fn : Fn) (first cap : Array Value) (w : World), (Instr.makeFunc fn first cap).run Tryz.prog w = .ok (.func fn first cap) w := fun _ _ _ _ => rfl
  obtain ⟨c0, c1, c2, c3⟩ := h.cells
  have z3 := h.frozen 3
  have hlt := h.lt
  have hn : (((d : Nat) : Int) == 12) = false := by simp; omega
  have H : Hid (∀ o, Rd ((w.setCell ⟨rb, 3, none⟩ (.int .i64 ((d + 1 : Nat) : Int))).alloc o) rb e bl ((d + 1 : Nat) : Int) ts v) := fun o => (h.setPr _).keeps ((Below.refl _ _).alloc (Nat.le_refl _) o) (by simpa [World.setCell] using h.lt)
  clear h
  go_enter Tryz.func81, Tryz.ntmps81
  go_wp2
  go_ret
  refine ⟨rfl, grown_alloc (grown_set (grown_refl _ _) rfl _) _, by simp [World.setCell], H.out _, heap_at_alloc _ _ _ (by simp [World.setCell])⟩
set_option maxRecDepth 100000 in
set_option maxHeartbeats 1000000 in
/- The step out, called where the step in's caller leaves. -/
theorem rOut {w : World} {rb e d bx : Nat} {bl : Int} {ts : List Tok} {v : Value} (u : FrameMode) (h : Rd w rb e bl ((d + 1 : Nat) : Int) ts v) (hb : w.heap[bx]? = some (.cells #[.pointer (some ⟨rb, 3, none⟩)] 120 (0, 0))) (hd : d ≤ 12) :
    CallsD Tryz.prog 125 #[.pointer (some ⟨bx, 0, none⟩)] u w fun x u' w' => u' = u ∧ (x = .returned (.tuple #[]) ∧ w' = w.setCell ⟨rb, 3, none⟩ (.int .i64 d) ∧ Rd w' rb e bl d ts v) := by
  obtain ⟨c0, c1, c2, c3⟩ := h.cells
  have z3 := h.frozen 3
  have hlt := h.lt
  have k0 : w.cell? ⟨bx, 0, none⟩ = some (.pointer (some ⟨rb, 3, none⟩)) := by simp [World.cell?, hb]
  have H : Hid (Rd (w.setCell ⟨rb, 3, none⟩ (.int .i64 (d : Int))) rb e bl d ts v) := h.setPr _
  clear h
  go_enter_d Tryz.func125, Tryz.ntmps125
  go_wp2
  go_end0
  exact ⟨rfl, rfl, H.out⟩
end Go.Proofs.YtcdeicfegfedfaaGreatDoor
