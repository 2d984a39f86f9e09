/- The table of signs (tree.levels) in memory; contract of tree.Level. The reader of package parse: what it holds; its small steps. -/
import Derived.Test.YtcdeicfegfedfaaGreatDoorCStr
import Derived.Test.YtcdeicfegfedfaaGreatDoorGaRow
import Derived.Test.YtcdeicfegfedfaaGreatDoorChecked
import Derived.WalkKit
import Derived.ProofKit
namespace Go.Proofs.YtcdeicfegfedfaaGreatDoor
open Go.RowKit
open Par (levF ba)

def sgn : Nat → List ByteArray
  | 0 => [ba [124, 124]]
  | 1 => [ba [38, 38]]
  | 2 => [ba [61, 61], ba [33, 61], ba [60], ba [60, 61], ba [62], ba [62, 61]]
  | 3 => [ba [43], ba [45]]
  | _ => [ba [42], ba [47], ba [37]]
structure LevAt (w : World) (lim : Nat) : Prop where
  glt : 0 < lim
  gw : 0 < w.heap.size
  row : ∀ i, i < 5 → ∃ ao b off c, w.cell? ⟨0, i, none⟩ = some (.slice ao (sgn i).length c) ∧ Strs w ao b off (sgn i) ∧ b < lim
theorem LevAt.keeps {w w' : World} {lim : Nat} (h : LevAt w lim) (hz : w.heap.size ≤ w'.heap.size) (hb : ∀ b, b < lim → w'.heap[b]? = w.heap[b]?) : LevAt w' lim := by
  refine ⟨h.glt, Nat.lt_of_lt_of_le h.gw hz, fun i hi => ?_⟩
  obtain ⟨ao, b, off, c, h1, h2, h3⟩ := h.row i hi
  refine ⟨ao, b, off, c, (World.cell?_of_block (a := ⟨_, i, none⟩) (hb _ h.glt)).trans h1, ⟨h2.adr, fun k hk => (World.cell?_of_block (a := ⟨b, _, none⟩) (hb b h3)).trans (h2.cell k hk), fun hp => Nat.lt_of_lt_of_le (h2.lt hp) hz⟩, h3⟩
theorem LevAt.mono {w : World} {lim lim' : Nat} (h : LevAt w lim) (hl : lim ≤ lim') : LevAt w lim' :=
  ⟨Nat.lt_of_lt_of_le h.glt hl, h.gw, fun i hi => by obtain ⟨ao, b, off, c, h1, h2, h3⟩ := h.row i hi; exact ⟨ao, b, off, c, h1, h2, by omega⟩⟩
theorem has_sgn (s : ByteArray) (i : Nat) : Act.has (sgn i) s = decide (s.data.toList ∈ (sgn i).map (·.data.toList)) := by
  rw [Bool.eq_iff_iff, Act.has_iff, decide_eq_true_iff, List.mem_map]
  refine ⟨fun h => ⟨s, h, rfl⟩, fun ⟨t, ht, e⟩ => ?_⟩
  have : t = s := ByteArray.ext (Array.ext' e)
  rw [← this]; exact ht
theorem lev_of (s : ByteArray) : levF s.data.toList = if Act.has (sgn 0) s = true then 1 else if Act.has (sgn 1) s = true then 2 else if Act.has (sgn 2) s = true then 3 else if Act.has (sgn 3) s = true then 4 else if Act.has (sgn 4) s = true then 5 else 0 := by
  simp only [has_sgn, decide_eq_true_eq]
  rfl
theorem ixL0 (a b c d e : Value) (w : World) : (Instr.index 123 (.agg #[a, b, c, d, e]) (.int .i64 0)).run Tryz.prog w = .ok a w := by kernel_rfl
theorem ixL1 (a b c d e : Value) (w : World) : (Instr.index 123 (.agg #[a, b, c, d, e]) (.int .i64 1)).run Tryz.prog w = .ok b w := by kernel_rfl
theorem ixL2 (a b c d e : Value) (w : World) : (Instr.index 123 (.agg #[a, b, c, d, e]) (.int .i64 2)).run Tryz.prog w = .ok c w := by kernel_rfl
theorem ixL3 (a b c d e : Value) (w : World) : (Instr.index 123 (.agg #[a, b, c, d, e]) (.int .i64 3)).run Tryz.prog w = .ok d w := by kernel_rfl
theorem ixL4 (a b c d e : Value) (w : World) : (Instr.index 123 (.agg #[a, b, c, d, e]) (.int .i64 4)).run Tryz.prog w = .ok e w := by kernel_rfl
set_option maxRecDepth 100000 in
set_option maxHeartbeats 4000000 in
theorem levelC {w : World} {lim : Nat} (h : LevAt w lim) (s : ByteArray) :
    Calls Tryz.prog 53 #[.string s] w fun x w' => x = .returned (.int .i64 (levF s.data.toList : Nat)) ∧ w' = w := by
  obtain ⟨a0, b0, f0, c0, k0, s0, _⟩ := h.row 0 (by omega)
  obtain ⟨a1, b1, f1, c1, k1, s1, _⟩ := h.row 1 (by omega)
  obtain ⟨a2, b2, f2, c2, k2, s2, _⟩ := h.row 2 (by omega)
  obtain ⟨a3, b3, f3, c3, k3, s3, _⟩ := h.row 3 (by omega)
  obtain ⟨a4, b4, f4, c4, k4, s4, _⟩ := h.row 4 (by omega)
  have n0 := contains_any a0 b0 f0 _ c0 (sgn 0) s w rfl (by decide) s0
  have n1 := contains_any a1 b1 f1 _ c1 (sgn 1) s w rfl (by decide) s1
  have n2 := contains_any a2 b2 f2 _ c2 (sgn 2) s w rfl (by decide) s2
  have n3 := contains_any a3 b3 f3 _ c3 (sgn 3) s w rfl (by decide) s3
  have n4 := contains_any a4 b4 f4 _ c4 (sgn 4) s w rfl (by decide) s4
  have hl := lev_of s
  have hg := h.gw
  obtain ⟨L, hL⟩ : ∃ L, L = levF s.data.toList := ⟨_, rfl⟩
  rw [← hL] at hl ⊢
  obtain ⟨t0, e0⟩ : ∃ t, t = Act.has (sgn 0) s := ⟨_, rfl⟩
  obtain ⟨t1, e1⟩ : ∃ t, t = Act.has (sgn 1) s := ⟨_, rfl⟩
  obtain ⟨t2, e2⟩ : ∃ t, t = Act.has (sgn 2) s := ⟨_, rfl⟩
  obtain ⟨t3, e3⟩ : ∃ t, t = Act.has (sgn 3) s := ⟨_, rfl⟩
  obtain ⟨t4, e4⟩ : ∃ t, t = Act.has (sgn 4) s := ⟨_, rfl⟩
  rw [← e0, ← e1, ← e2, ← e3, ← e4] at hl
  rw [← e0] at n0
  rw [← e1] at n1
  rw [← e2] at n2
  rw [← e3] at n3
  rw [← e4] at n4
  have HL : Hid (L = if t0 = true then 1 else if t1 = true then 2 else if t2 = true then 3 else if t3 = true then 4 else if t4 = true then 5 else 0) := hl
  clear hL e0 e1 e2 e3 e4 hl h s0 s1 s2 s3 s4
  go_enter Tryz.func53, Tryz.ntmps53
  go_wp2
  go_loop [6] (fun i => ∃ k : Nat, k ≤ 5 ∧ i = .int .i64 k ∧ Hid ((0 < k → t0 = false) ∧ (1 < k → t1 = false) ∧ (2 < k → t2 = false) ∧ (3 < k → t3 = false) ∧ (4 < k → t4 = false))) (fun i => 5 - (intOf i).toNat)
  case atStart => exact ⟨0, by omega, rfl, by refine ⟨?_, ?_, ?_, ?_, ?_⟩ <;> intro h <;> omega⟩
  case round =>
    obtain ⟨k, hk, rfl, HK⟩ := hrel
    match k, hk with
    | 0, _ =>
      have hx := ixL0
      cases hq : t0 with
      | true =>
        rw [hq] at n0
        have HF : Hid (L = 1) := by show _ = _; rw [HL.out]; simp [hq]
        clear n1 n2 n3 n4 HK hq
        go_wp2_with fail
        refine n0.mono ?_
        rintro x w' ⟨rfl, rfl⟩
        go_wp2
        go_ret
        exact ⟨by rw [HF.out]; rfl, rfl⟩
      | false =>
        rw [hq] at n0
        have HN : Hid ((0 < 1 → t0 = false) ∧ (1 < 1 → t1 = false) ∧ (2 < 1 → t2 = false) ∧ (3 < 1 → t3 = false) ∧ (4 < 1 → t4 = false)) := by
          refine ⟨?_, ?_, ?_, ?_, ?_⟩ <;> intro hh <;> first | omega | assumption
        clear n1 n2 n3 n4 HK hq
        go_wp2_with fail
        refine n0.mono ?_
        rintro x w' ⟨rfl, rfl⟩
        go_wp2
        go_round
        case rel => exact ⟨1, by omega, by go_num, by obtain ⟨r0, r1, r2, r3, r4⟩ := HN.out; exact ⟨fun h => by first | trivial | exact r0 h, fun h => by first | trivial | exact r1 h, fun h => by first | trivial | exact r2 h, fun h => by first | trivial | exact r3 h, fun h => by first | trivial | exact r4 h⟩⟩
        case measure => simp [intOf]
    | 1, _ =>
      have q0 : t0 = false := HK.out.1 (by omega)
      have hx := ixL1
      cases hq : t1 with
      | true =>
        rw [hq] at n1
        have HF : Hid (L = 2) := by show _ = _; rw [HL.out]; simp [q0, hq]
        clear n0 n2 n3 n4 HK hq
        go_wp2_with fail
        refine n1.mono ?_
        rintro x w' ⟨rfl, rfl⟩
        go_wp2
        go_ret
        exact ⟨by rw [HF.out]; rfl, rfl⟩
      | false =>
        rw [hq] at n1
        have HN : Hid ((0 < 2 → t0 = false) ∧ (1 < 2 → t1 = false) ∧ (2 < 2 → t2 = false) ∧ (3 < 2 → t3 = false) ∧ (4 < 2 → t4 = false)) := by
          refine ⟨?_, ?_, ?_, ?_, ?_⟩ <;> intro hh <;> first | omega | assumption
        clear n0 n2 n3 n4 HK hq
        go_wp2_with fail
        refine n1.mono ?_
        rintro x w' ⟨rfl, rfl⟩
        go_wp2
        go_round
        case rel => exact ⟨2, by omega, by go_num, by obtain ⟨r0, r1, r2, r3, r4⟩ := HN.out; exact ⟨fun h => by first | trivial | exact r0 h, fun h => by first | trivial | exact r1 h, fun h => by first | trivial | exact r2 h, fun h => by first | trivial | exact r3 h, fun h => by first | trivial | exact r4 h⟩⟩
        case measure => simp [intOf]
    | 2, _ =>
      have q0 : t0 = false := HK.out.1 (by omega)
      have q1 : t1 = false := HK.out.2.1 (by omega)
      have hx := ixL2
      cases hq : t2 with
      | true =>
        rw [hq] at n2
        have HF : Hid (L = 3) := by show _ = _; rw [HL.out]; simp [q0, q1, hq]
        clear n0 n1 n3 n4 HK hq
        go_wp2_with fail
        refine n2.mono ?_
        rintro x w' ⟨rfl, rfl⟩
        go_wp2
        go_ret
        exact ⟨by rw [HF.out]; rfl, rfl⟩
      | false =>
        rw [hq] at n2
        have HN : Hid ((0 < 3 → t0 = false) ∧ (1 < 3 → t1 = false) ∧ (2 < 3 → t2 = false) ∧ (3 < 3 → t3 = false) ∧ (4 < 3 → t4 = false)) := by
          refine ⟨?_, ?_, ?_, ?_, ?_⟩ <;> intro hh <;> first | omega | assumption
        clear n0 n1 n3 n4 HK hq
        go_wp2_with fail
        refine n2.mono ?_
        rintro x w' ⟨rfl, rfl⟩
        go_wp2
        go_round
        case rel => exact ⟨3, by omega, by go_num, by obtain ⟨r0, r1, r2, r3, r4⟩ := HN.out; exact ⟨fun h => by first | trivial | exact r0 h, fun h => by first | trivial | exact r1 h, fun h => by first | trivial | exact r2 h, fun h => by first | trivial | exact r3 h, fun h => by first | trivial | exact r4 h⟩⟩
        case measure => simp [intOf]
    | 3, _ =>
      have q0 : t0 = false := HK.out.1 (by omega)
      have q1 : t1 = false := HK.out.2.1 (by omega)
      have q2 : t2 = false := HK.out.2.2.1 (by omega)
      have hx := ixL3
      cases hq : t3 with
      | true =>
        rw [hq] at n3
        have HF : Hid (L = 4) := by show _ = _; rw [HL.out]; simp [q0, q1, q2, hq]
        clear n0 n1 n2 n4 HK hq
        go_wp2_with fail
        refine n3.mono ?_
        rintro x w' ⟨rfl, rfl⟩
        go_wp2
        go_ret
        exact ⟨by rw [HF.out]; rfl, rfl⟩
      | false =>
        rw [hq] at n3
        have HN : Hid ((0 < 4 → t0 = false) ∧ (1 < 4 → t1 = false) ∧ (2 < 4 → t2 = false) ∧ (3 < 4 → t3 = false) ∧ (4 < 4 → t4 = false)) := by
          refine ⟨?_, ?_, ?_, ?_, ?_⟩ <;> intro hh <;> first | omega | assumption
        clear n0 n1 n2 n4 HK hq
        go_wp2_with fail
        refine n3.mono ?_
        rintro x w' ⟨rfl, rfl⟩
        go_wp2
        go_round
        case rel => exact ⟨4, by omega, by go_num, by obtain ⟨r0, r1, r2, r3, r4⟩ := HN.out; exact ⟨fun h => by first | trivial | exact r0 h, fun h => by first | trivial | exact r1 h, fun h => by first | trivial | exact r2 h, fun h => by first | trivial | exact r3 h, fun h => by first | trivial | exact r4 h⟩⟩
        case measure => simp [intOf]
    | 4, _ =>
      have q0 : t0 = false := HK.out.1 (by omega)
      have q1 : t1 = false := HK.out.2.1 (by omega)
      have q2 : t2 = false := HK.out.2.2.1 (by omega)
      have q3 : t3 = false := HK.out.2.2.2.1 (by omega)
      have hx := ixL4
      cases hq : t4 with
      | true =>
        rw [hq] at n4
        have HF : Hid (L = 5) := by show _ = _; rw [HL.out]; simp [q0, q1, q2, q3, hq]
        clear n0 n1 n2 n3 HK hq
        go_wp2_with fail
        refine n4.mono ?_
        rintro x w' ⟨rfl, rfl⟩
        go_wp2
        go_ret
        exact ⟨by rw [HF.out]; rfl, rfl⟩
      | false =>
        rw [hq] at n4
        have HN : Hid ((0 < 5 → t0 = false) ∧ (1 < 5 → t1 = false) ∧ (2 < 5 → t2 = false) ∧ (3 < 5 → t3 = false) ∧ (4 < 5 → t4 = false)) := by
          refine ⟨?_, ?_, ?_, ?_, ?_⟩ <;> intro hh <;> first | omega | assumption
        clear n0 n1 n2 n3 HK hq
        go_wp2_with fail
        refine n4.mono ?_
        rintro x w' ⟨rfl, rfl⟩
        go_wp2
        go_round
        case rel => exact ⟨5, by omega, by go_num, by obtain ⟨r0, r1, r2, r3, r4⟩ := HN.out; exact ⟨fun h => by first | trivial | exact r0 h, fun h => by first | trivial | exact r1 h, fun h => by first | trivial | exact r2 h, fun h => by first | trivial | exact r3 h, fun h => by first | trivial | exact r4 h⟩⟩
        case measure => simp [intOf]
    | 5, _ =>
      have q0 : t0 = false := HK.out.1 (by omega)
      have q1 : t1 = false := HK.out.2.1 (by omega)
      have q2 : t2 = false := HK.out.2.2.1 (by omega)
      have q3 : t3 = false := HK.out.2.2.2.1 (by omega)
      have q4 : t4 = false := HK.out.2.2.2.2 (by omega)
      have HF : Hid (L = 0) := by show _ = _; rw [HL.out]; simp [q0, q1, q2, q3, q4]
      clear n0 n1 n2 n3 n4 HK
      go_wp2
      go_ret
      exact ⟨by rw [HF.out]; rfl, rfl⟩
end Go.Proofs.YtcdeicfegfedfaaGreatDoor

namespace Go.Proofs.YtcdeicfegfedfaaGreatDoor
open Go.RowKit
open Par (Tok Po Tr nx atP isT ba)

def tokC (t : Tok) : List Value := [.int .i64 t.1, .int .i64 (t.2.1 : Int), .string (ba t.2.2)]
def Good (t : Tok) : Prop := t.2.2.length ≤ 4000 ∧ t.2.1 ≤ 4000 ∧ (t.1 = 2 → t.2.2.length ≤ 18 ∧ Lib.atoi t.2.2 = some (Par.numV t.2.2))
structure Rd (w : World) (rb e : Nat) (bl pr : Int) (ts : List Tok) (v : Value) : Prop where
  blk : w.heap[rb]? = some (.cells #[v, .int .i64 (e : Int), .int .i64 bl, .int .i64 pr] 65 (0, 0))
  row : RowV w (fun b => b < rb) 3 v (ts.map tokC)
  len : ts.length ≤ 600
  good : ∀ t ∈ ts, Good t
  lv : LevAt w rb
def stopV (c : Int) (q : Nat) : Value := .iface 62 (.agg #[.int .i64 c, .int .i64 (q : Int)])
def goneE (c : Int) (q : Nat) : Ending := .panicked [{ v := stopV c q, recovered := false }]

theorem blk3 {w : World} {b : Nat} {x y z : Value} {e : TypeId} (h : w.heap[b]? = some (.cells #[x, y, z] e (0, 0))) :
    (w.cell? ⟨b, 0, none⟩ = some x ∧ w.cell? ⟨b, 1, none⟩ = some y ∧ w.cell? ⟨b, 2, none⟩ = some z) ∧ w.frozen? ⟨b, 0, none⟩ = false ∧ w.frozen? ⟨b, 1, none⟩ = false ∧ w.frozen? ⟨b, 2, none⟩ = false := by
  refine ⟨⟨?_, ?_, ?_⟩, ?_, ?_, ?_⟩ <;> simp [World.cell?, World.frozen?, h]
theorem Rd.cells {w : World} {rb e : Nat} {bl pr : Int} {ts : List Tok} {v : Value} (h : Rd w rb e bl pr ts v) :
    w.cell? ⟨rb, 0, none⟩ = some v ∧ w.cell? ⟨rb, 1, none⟩ = some (.int .i64 (e : Int)) ∧ w.cell? ⟨rb, 2, none⟩ = some (.int .i64 bl) ∧ w.cell? ⟨rb, 3, none⟩ = some (.int .i64 pr) := by
  have := h.blk
  refine ⟨?_, ?_, ?_, ?_⟩ <;> simp [World.cell?, this]
theorem Rd.frozen {w : World} {rb e : Nat} {bl pr : Int} {ts : List Tok} {v : Value} (h : Rd w rb e bl pr ts v) (k : Nat) : w.frozen? ⟨rb, k, none⟩ = false := by
  simp [World.frozen?, h.blk]
theorem Rd.lt {w : World} {rb e : Nat} {bl pr : Int} {ts : List Tok} {v : Value} (h : Rd w rb e bl pr ts v) : rb < w.heap.size := lt_of_block h.blk
theorem Rd.keeps {w w' : World} {rb e B : Nat} {bl pr : Int} {ts : List Tok} {v : Value} (h : Rd w rb e bl pr ts v) (k : Below B w w') (hB : rb < B) : Rd w' rb e bl pr ts v :=
  ⟨(k.block _ hB).trans h.blk, h.row.keeps ⟨k.size, fun b hb _ => k.block b (by omega)⟩, h.len, h.good, h.lv.keeps k.size fun b hb => k.block b (by omega)⟩
theorem Rd.none {w : World} {rb e : Nat} {bl pr : Int} {v : Value} (h : Rd w rb e bl pr [] v) : ∃ ao c, v = .slice ao 0 c := by
  obtain ⟨ao, b, off, c, hv, _⟩ := h.row
  exact ⟨ao, c, hv⟩
theorem Rd.some {w : World} {rb e : Nat} {bl pr : Int} {t : Tok} {r : List Tok} {v : Value} (h : Rd w rb e bl pr (t :: r) v) :
    ∃ b off c, v = .slice (.some ⟨b, off, .none⟩) (r.length + 1) c ∧ b < rb ∧ r.length + 1 ≤ c ∧ c ≤ maxLen ∧ w.cell? ⟨b, off, .none⟩ = .some (.int .i64 t.1) ∧ w.cell? ⟨b, off + 1, .none⟩ = .some (.int .i64 (t.2.1 : Int)) ∧ w.cell? ⟨b, off + 2, .none⟩ = .some (.string (ba t.2.2)) ∧
      RowV w (fun b => b < rb) 3 (.slice (.some ⟨b, off + 3, .none⟩) r.length (c - 1)) (r.map tokC) := by
  obtain ⟨ao, b, off, c, hv, hr⟩ := h.row
  have hp : 0 < ((t :: r).map tokC).length := by simp
  have ha := hr.adr hp
  subst ha
  have hcell := hr.cell 0 hp
  refine ⟨b, off, c, by simpa using hv, hr.ok hp, by simpa using hr.cap, hr.mx, ?_, ?_, ?_, ?_⟩
  · have := hcell 0 (.int .i64 t.1) rfl; simpa using this
  · have := hcell 1 (.int .i64 (t.2.1 : Int)) rfl; simpa using this
  · have := hcell 2 (.string (ba t.2.2)) rfl; simpa using this
  · have hc := hr.cap
    refine ⟨_, b, off + 3, c - 1, by rw [List.length_map], ⟨by simp, ?_, by have := hr.mx; omega, fun _ => rfl, fun _ => hr.ok hp, fun _ => hr.pl hp, fun i hi => ?_, fun i hi j u hu => ?_⟩⟩
    · simp at hc ⊢; omega
    · simp [tokC]
    · have := hr.cell (i + 1) (by simpa using hi) j u (by simpa using hu)
      rw [← this]; congr 2; omega
theorem Rd.goods {w : World} {rb e : Nat} {bl pr : Int} {t : Tok} {r : List Tok} {v : Value} (h : Rd w rb e bl pr (t :: r) v) : Good t := h.good t (by simp)
/- One token on. -/
theorem Rd.step {w : World} {rb e : Nat} {bl pr : Int} {t : Tok} {r : List Tok} {v v' : Value} (h : Rd w rb e bl pr (t :: r) v) (hr : RowV w (fun b => b < rb) 3 v' (r.map tokC)) : Rd (w.setCell ⟨rb, 0, .none⟩ v') rb e bl pr r v' := by
  refine ⟨?_, hr.keeps ⟨by simp [World.setCell], fun b hb _ => ?_⟩, by have := h.len; simp at this; omega, fun x hx => h.good x (by simp [hx]), h.lv.keeps (by simp [World.setCell]) fun b hb => Below.heap_setCell _ _ _ _ (by show b ≠ rb; omega)⟩
  · simp [World.setCell, Array.getElem?_modify, h.blk]
  · exact Below.heap_setCell _ _ _ _ (by show b ≠ rb; omega)
theorem step_grown {w : World} {rb : Nat} (v : Value) (k : Nat) : w.grownBy (w.setCell ⟨rb, k, none⟩ v) (some rb) :=
  ⟨rfl, rfl, rfl, by simp [World.setCell], fun b _ hb => Below.heap_setCell _ _ _ _ (by intro h; exact hb (by rw [h]))⟩

set_option maxHeartbeats 1000000 in
theorem rAt_any {w : World} {rb e : Nat} {bl pr : Int} {ts : List Tok} {v : Value} (h : Rd w rb e bl pr ts v) :
    Calls Tryz.prog 51 #[.pointer (some ⟨rb, 0, none⟩)] w fun x w' => x = .returned (.int .i64 (atP e ts : Nat)) ∧ w' = w := by
  have hlt := h.lt
  cases ts with
  | nil =>
    obtain ⟨ao, c, rfl⟩ := h.none
    obtain ⟨c0, c1, c2, c3⟩ := h.cells
    clear h
    go_enter Tryz.func51, Tryz.ntmps51
    go_wp2
    go_ret
    exact ⟨rfl, rfl⟩
  | cons t r =>
    obtain ⟨b, off, c, rfl, hb, hc, hm, k0, k1, k2, _⟩ := h.some
    obtain ⟨c0, c1, c2, c3⟩ := h.cells
    have hl := h.len
    have hbw : b < w.heap.size := by omega
    unfold maxLen at hm
    clear h
    go_enter Tryz.func51, Tryz.ntmps51
    go_wp2
    go_ret
    exact ⟨rfl, rfl⟩
set_option maxHeartbeats 1000000 in
theorem rNext_any {w : World} {rb e : Nat} {bl pr : Int} {ts : List Tok} {v : Value} (h : Rd w rb e bl pr ts v) :
    Calls Tryz.prog 54 #[.pointer (some ⟨rb, 0, none⟩)] w fun x w' => x = .returned (.agg #[.int .i64 (nx ts).1, .int .i64 ((nx ts).2.1 : Int), .string (ba (nx ts).2.2)]) ∧ Below w.heap.size w w' := by
  have hlt := h.lt
  cases ts with
  | nil =>
    obtain ⟨ao, c, rfl⟩ := h.none
    obtain ⟨c0, c1, c2, c3⟩ := h.cells
    clear h
    go_enter Tryz.func54, Tryz.ntmps54
    go_wp2
    exact bodyPost_ret (v := .agg #[.int .i64 0, .int .i64 0, .string ⟨#[]⟩]) (by simp [results, Tryz.results54, go_sem]) rfl ⟨rfl, (Below.refl _ _).alloc (Nat.le_refl _) _⟩
  | cons t r =>
    obtain ⟨b, off, c, rfl, hb, hc, hm, k0, k1, k2, _⟩ := h.some
    obtain ⟨c0, c1, c2, c3⟩ := h.cells
    have hl := h.len
    have hbw : b < w.heap.size := by omega
    unfold maxLen at hm
    clear h
    go_enter Tryz.func54, Tryz.ntmps54
    go_wp2
    exact bodyPost_ret (v := .agg #[.int .i64 t.1, .int .i64 (t.2.1 : Int), .string (ba t.2.2)]) (by simp [results, Tryz.results54, go_sem]) rfl ⟨rfl, (Below.refl _ _).alloc (Nat.le_refl _) _⟩
end Go.Proofs.YtcdeicfegfedfaaGreatDoor
