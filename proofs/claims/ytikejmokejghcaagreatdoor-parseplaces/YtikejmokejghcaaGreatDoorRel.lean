/- Contract of (*reader).release, where expr has one. -/
import Derived.Test.YtikejmokejghcaaGreatDoorPrm
namespace Go.Proofs.YtikejmokejghcaaGreatDoor
open Go.RowKit
open Par (Tok Po Tr nx atP isT ba Res)

theorem heap_set7 {w : World} {X : Nat} {a0 a1 a2 a3 a4 a5 a6 u : Value} {e : TypeId} (h : w.heap[X]? = some (.cells #[a0, a1, a2, a3, a4, a5, a6] e (0, 0))) :
    (w.setCell ⟨X, 6, none⟩ u).heap[X]? = some (.cells #[a0, a1, a2, a3, a4, a5, u] e (0, 0)) ∧ (w.setCell ⟨X, 5, none⟩ u).heap[X]? = some (.cells #[a0, a1, a2, a3, a4, u, a6] e (0, 0)) := by
  constructor <;> simp [World.setCell, Array.getElem?_modify, h]
/- One cell of a block of its own is written. -/
theorem Rd.own {w : World} {rb e X k : Nat} {bl pr : Int} {ts : List Tok} {v u : Value} (h : Rd w rb e bl pr ts v) (hX : rb < X) : Rd (w.setCell ⟨X, k, .none⟩ u) rb e bl pr ts v :=
  h.keeps ((Below.refl X w).setCell (Nat.le_refl _) u) hX
set_option maxRecDepth 100000 in
set_option maxHeartbeats 8000000 in
theorem releaseC {rb e : Nat} {bl pr : Int} {E : List Tok → Res Tr} (hE : ExpC rb e bl pr E) {w : World} {t : Tok} {r : List Tok} {v : Value} (h : Rd w rb e bl pr (t :: r) v) (hk : t.2.2 = [114, 101, 108, 101, 97, 115, 101]) :
    Calls Tryz.prog 40 #[.pointer (some ⟨rb, 0, none⟩)] w (Post w rb e bl pr (Par.relR e E (t :: r)) (VE w.heap.size)) := by
  have hrl := h.lt
  obtain ⟨w0, hw0⟩ : ∃ w0, w0 = w.alloc (.cells ZE 26) := ⟨_, rfl⟩
  have hbel : Below w.heap.size w w0 := by rw [hw0]; exact (Below.refl _ _).alloc (Nat.le_refl _) _
  have hs0 : w0.heap.size = w.heap.size + 1 := by rw [hw0]; simp
  have hres : w0.heap[w.heap.size]? = some (.cells ZE 26 (0, 0)) := by rw [hw0]; exact heap_at_alloc _ _ _ rfl
  have H0 : Hid (Rd w0 rb e bl pr (t :: r) v) := h.keeps hbel h.lt
  have HM0 : Hid (Par.must e (⟨#[114, 101, 108, 101, 97, 115, 101]⟩ : ByteArray).data.toList (t :: r) = .ok t.2.1 r) := by
    show _ = _
    unfold Par.must
    rw [if_pos (by show (t.2.2 == _) = true; rw [hk]; rfl)]; rfl
  have HEQ : Hid (Par.relR e E (t :: r) = (Par.must e [40] r).bind fun _ r1 => (E r1).bind fun x r2 => (Par.must e [116, 111] r2).bind fun _ r3 => (Par.labelR e r3).bind fun l r4 => (Par.must e [41] r4).bind fun _ r5 => .ok (Tr.mk 5 t.2.1 0 0 (ba []) l [x]) r5) := rfl
  have HE : Hid (ExpC rb e bl pr E) := hE
  unfold ZE at hw0
  clear h hk hE
  go_enter Tryz.func40, Tryz.ntmps40
  go_wp2_with fail
  rw [← hw0]
  clear hw0
  refine (rMust_any _ (by decide) H0.out).mono ?_
  rintro x w1 ⟨hg1, ⟨a, r1, hr, u, v1, rfl, rfl, h1⟩ | ⟨cc, q, hr, rfl, r1, v1, h1⟩⟩
  · rw [HM0.out] at hr
    cases hr
    have hz1 := hg1.size
    obtain ⟨wa, hwa⟩ : ∃ wa, wa = w1.alloc (.cells #[.int .i64 5, .int .i64 (t.2.1 : Int), .int .i64 0, .int .i64 0, .string ⟨#[]⟩, .slice none 0 0, .slice none 0 0] 26) := ⟨_, rfl⟩
    have hba : Below w1.heap.size w1 wa := by rw [hwa]; exact (Below.refl _ _).alloc (Nat.le_refl _) _
    have hsa : wa.heap.size = w1.heap.size + 1 := by rw [hwa]; simp
    have hxa : Hid (wa.heap[w1.heap.size]? = some (.cells #[.int .i64 5, .int .i64 (t.2.1 : Int), .int .i64 0, .int .i64 0, .string ⟨#[]⟩, .slice none 0 0, .slice none 0 0] 26 (0, 0))) := by show _ = _; rw [hwa]; exact heap_at_alloc _ _ _ rfl
    have hra : Hid (wa.heap[w.heap.size]? = some (.cells ZE 26 (0, 0))) := (hba.block _ (by omega)).trans ((hg1.block _ (by omega) (by simp; omega)).trans hres)
    have Ha : Hid (Rd wa rb e bl pr r v1) := h1.keeps hba h1.lt
    have HGa : Hid (w.grownBy wa (some rb)) := grown_below (grown_trans (grown_of_below _ hbel) hg1) hba
    clear hg1 h1 hba hres hbel
    go_wp2_with fail
    rw [← hwa]
    clear hwa
    refine (rMust_any _ (by decide) Ha.out).mono ?_
    rintro x w2 ⟨hg2, ⟨a2, r2, hr2, u2, v2, rfl, rfl, h2⟩ | ⟨c2, q2, hr2, rfl, r2, v2, h2⟩⟩
    · have HE2 : Hid (Par.relR e E (t :: r) = (E r2).bind fun x r2 => (Par.must e [116, 111] r2).bind fun _ r3 => (Par.labelR e r3).bind fun l r4 => (Par.must e [41] r4).bind fun _ r5 => .ok (Tr.mk 5 t.2.1 0 0 (ba []) l [x]) r5) := by show _ = _; rw [HEQ.out, show Par.must e [40] r = .ok a2 r2 from hr2]; rfl
      have hz2 := hg2.size
      have hx2 : Hid (w2.heap[w1.heap.size]? = _) := (hg2.block _ (by omega) (by simp; omega)).trans hxa.out
      have hr2' : Hid (w2.heap[w.heap.size]? = _) := (hg2.block _ (by omega) (by simp; omega)).trans hra.out
      have HG2 : Hid (w.grownBy w2 (some rb)) := grown_trans HGa.out hg2
      have HC := HE.out w2 r2 v2 h2
      clear hg2 h2 hr2
      go_wp2_with fail
      refine HC.mono ?_
      rintro x w3 ⟨hg3, ⟨a3, r3, hr3, u3, v3, rfl, ⟨z0, z1, z2, z3, z4, z5, m5, d5, z6, m6, d6, rfl, hx3⟩, h3⟩ | ⟨c3, q3, hr3, rfl, r3, v3, h3⟩⟩
      · have HE3 : Hid (Par.relR e E (t :: r) = (Par.must e [116, 111] r3).bind fun _ r3 => (Par.labelR e r3).bind fun l r4 => (Par.must e [41] r4).bind fun _ r5 => .ok (Tr.mk 5 t.2.1 0 0 (ba []) l [a3]) r5) := by show _ = _; rw [HE2.out, hr3]; rfl
        have hz3 := hg3.size
        have hx3b := (hg3.block w1.heap.size (by omega) (by simp; omega)).trans hx2.out
        have hr3b : Hid (w3.heap[w.heap.size]? = _) := (hg3.block _ (by omega) (by simp; omega)).trans hr2'.out
        have HG3 : Hid (w.grownBy w3 (some rb)) := grown_trans HG2.out hg3
        have hXl := lt_of_block hx3b
        obtain ⟨⟨i0, i1, i2, i3, i4, i5, i6⟩, j0, j1, j2, j3, j4, j5, j6⟩ := blkE hx3b
        obtain ⟨wb, hwb⟩ : ∃ wb, wb = (w3.setCell ⟨w1.heap.size, 6, none⟩ (.slice (some ⟨w3.heap.size, 0, none⟩) 1 1)).alloc (.cells #[.int .i64 z0, .int .i64 z1, .int .i64 z2, .int .i64 z3, .string z4, .slice z5 m5 d5, .slice z6 m6 d6] 26) := ⟨_, rfl⟩
        have hkb : w3.grownBy (w3.setCell ⟨w1.heap.size, 6, none⟩ (.slice (some ⟨w3.heap.size, 0, none⟩) 1 1)) (some w1.heap.size) := grown_set (grown_refl _ _) rfl _
        have hsb : wb.heap.size = w3.heap.size + 1 := by rw [hwb]; simp [World.setCell]
        have hbb : Below w1.heap.size w3 wb := by rw [hwb]; exact ((Below.refl w1.heap.size w3).setCell (p := ⟨w1.heap.size, 6, none⟩) (Nat.le_refl _) _).alloc (by simp [World.setCell]; omega) _
        have hxb : Hid (wb.heap[w1.heap.size]? = some (.cells #[.int .i64 5, .int .i64 (t.2.1 : Int), .int .i64 0, .int .i64 0, .string ⟨#[]⟩, .slice none 0 0, .slice (some ⟨w3.heap.size, 0, none⟩) 1 1] 26 (0, 0))) := by show _ = _; rw [hwb]; exact heap_past_alloc (heap_set7 hx3b).1
        have hrb : Hid (wb.heap[w.heap.size]? = some (.cells ZE 26 (0, 0))) := (hbb.block _ (by omega)).trans hr3b.out
        have hTs : TrIs (w3.setCell ⟨w1.heap.size, 6, none⟩ (.slice (some ⟨w3.heap.size, 0, none⟩) 1 1)) (fun b => w.heap.size + 1 ≤ b ∧ b ≠ w1.heap.size) a3 (#[.int .i64 z0, .int .i64 z1, .int .i64 z2, .int .i64 z3, .string z4, .slice z5 m5 d5, .slice z6 m6 d6] : Array Value).toList := (TrIs.mono hx3 fun b hb _ => ⟨by omega, by omega⟩).keeps (Keeps.of_grown hkb fun b hb => by have := hb.2; simp; exact this)
        have hTb : Hid (TrIs wb (fun b => w.heap.size + 1 ≤ b ∧ b ≠ w1.heap.size) a3 (#[.int .i64 z0, .int .i64 z1, .int .i64 z2, .int .i64 z3, .string z4, .slice z5 m5 d5, .slice z6 m6 d6] : Array Value).toList ∧ RowV wb (fun b => w.heap.size + 1 ≤ b ∧ b ≠ w1.heap.size) 7 (.slice (some ⟨w3.heap.size, 0, none⟩) 1 1) [(#[.int .i64 z0, .int .i64 z1, .int .i64 z2, .int .i64 z3, .string z4, .slice z5 m5 d5, .slice z6 m6 d6] : Array Value).toList]) := by
          rw [hwb]
          refine ⟨hTs.keeps (Keeps.of_below ((Below.refl _ _).alloc (Nat.le_refl _) _)), ?_⟩
          have := rowOne hTs (by constructor <;> (simp [World.setCell]; omega)) 26
          simpa [World.setCell] using this
        have Hb : Hid (Rd wb rb e bl pr r3 v3) := h3.keeps hbb (by omega)
        have HGb : Hid (w.grownBy wb (some rb)) := ((Fr.of_grown HG3.out (Nat.le_refl _)).trans (Fr.of_below (hbb.mono (by omega)))).grown
        clear hg3 h3 hr3 hx3 hx3b hkb hbb hTs HC
        go_wp2_with fail
        rw [← hwb]
        clear hwb
        refine (rMust_any _ (by decide) Hb.out).mono ?_
        rintro x w4 ⟨hg4, ⟨a4, r4, hr4, u4, v4, rfl, rfl, h4⟩ | ⟨c4, q4, hr4, rfl, r4, v4, h4⟩⟩
        · have HE4 : Hid (Par.relR e E (t :: r) = (Par.labelR e r4).bind fun l r4 => (Par.must e [41] r4).bind fun _ r5 => .ok (Tr.mk 5 t.2.1 0 0 (ba []) l [a3]) r5) := by show _ = _; rw [HE3.out, show Par.must e [116, 111] r3 = .ok a4 r4 from hr4]; rfl
          have hz4 := hg4.size
          have HL := labelC h4
          have hx4 : Hid (w4.heap[w1.heap.size]? = _) := (hg4.block _ (by omega) (by simp; omega)).trans hxb.out
          have hr4b : Hid (w4.heap[w.heap.size]? = _) := (hg4.block _ (by omega) (by simp; omega)).trans hrb.out
          have HG4 : Hid (w.grownBy w4 (some rb)) := grown_trans HGb.out hg4
          have hT4 : Hid (TrIs w4 (fun b => w.heap.size + 1 ≤ b ∧ b ≠ w1.heap.size) a3 (#[.int .i64 z0, .int .i64 z1, .int .i64 z2, .int .i64 z3, .string z4, .slice z5 m5 d5, .slice z6 m6 d6] : Array Value).toList ∧ RowV w4 (fun b => w.heap.size + 1 ≤ b ∧ b ≠ w1.heap.size) 7 (.slice (some ⟨w3.heap.size, 0, none⟩) 1 1) [(#[.int .i64 z0, .int .i64 z1, .int .i64 z2, .int .i64 z3, .string z4, .slice z5 m5 d5, .slice z6 m6 d6] : Array Value).toList]) := ⟨hTb.out.1.keeps (Keeps.of_grown hg4 fun b hb => by have := hb.1; simp; omega), hTb.out.2.keeps (Keeps.of_grown hg4 fun b hb => by have := hb.1; simp; omega)⟩
          clear hg4 h4 hr4
          go_wp2_with fail
          refine HL.mono ?_
          rintro x w5 ⟨hg5, ⟨l, r5, hr5, u5, v5, rfl, ⟨lo, ln, lc, rfl, hl5⟩, h5⟩ | ⟨c5, q5, hr5, rfl, r5, v5, h5⟩⟩
          · have HE5 : Hid (Par.relR e E (t :: r) = (Par.must e [41] r5).bind fun _ r5 => .ok (Tr.mk 5 t.2.1 0 0 (ba []) l [a3]) r5) := by show _ = _; rw [HE4.out, hr5]; rfl
            have hz5 := hg5.size
            have hx5 := (hg5.block w1.heap.size (by omega) (by simp; omega)).trans hx4.out
            have hr5b : Hid (w5.heap[w.heap.size]? = _) := (hg5.block _ (by omega) (by simp; omega)).trans hr4b.out
            have HG5 : Hid (w.grownBy w5 (some rb)) := grown_trans HG4.out hg5
            have hXl5 := lt_of_block hx5
            obtain ⟨⟨i0', i1', i2', i3', i4', i5', i6'⟩, j0', j1', j2', j3', j4', j5', j6'⟩ := blkE hx5
            obtain ⟨wc, hwc⟩ : ∃ wc, wc = w5.setCell ⟨w1.heap.size, 5, none⟩ (.slice lo ln lc) := ⟨_, rfl⟩
            have hkc : w5.grownBy wc (some w1.heap.size) := by rw [hwc]; exact grown_set (grown_refl _ _) rfl _
            have hbc : Below w1.heap.size w5 wc := by rw [hwc]; exact (Below.refl w1.heap.size w5).setCell (p := ⟨w1.heap.size, 5, none⟩) (Nat.le_refl _) _
            have hzc := hbc.size
            have hxc : Hid (wc.heap[w1.heap.size]? = some (.cells #[.int .i64 5, .int .i64 (t.2.1 : Int), .int .i64 0, .int .i64 0, .string ⟨#[]⟩, .slice lo ln lc, .slice (some ⟨w3.heap.size, 0, none⟩) 1 1] 26 (0, 0))) := by show _ = _; rw [hwc]; exact (heap_set7 hx5).2
            have hrc : Hid (wc.heap[w.heap.size]? = some (.cells ZE 26 (0, 0))) := (hbc.block _ (by omega)).trans hr5b.out
            have k5 : Keeps (fun b => w.heap.size + 1 ≤ b ∧ b ≠ w1.heap.size) w4 w5 := Keeps.of_grown hg5 fun b hb => by have := hb.1; simp; omega
            have kc : Keeps (fun b => w.heap.size + 1 ≤ b ∧ b ≠ w1.heap.size) w5 wc := Keeps.of_grown hkc fun b hb => by have := hb.2; simp; exact this
            have hTc : Hid (TrIs wc (fun b => w.heap.size + 1 ≤ b) (.mk 5 t.2.1 0 0 (ba []) l [a3]) (#[.int .i64 5, .int .i64 (t.2.1 : Int), .int .i64 0, .int .i64 0, .string ⟨#[]⟩, .slice lo ln lc, .slice (some ⟨w3.heap.size, 0, none⟩) 1 1] : Array Value).toList) := by
              have m1 := ((hT4.out.1.keeps k5).keeps kc).mono (S' := fun b => w.heap.size + 1 ≤ b) fun b hb _ => hb.1
              have m2 := ((hT4.out.2.keeps k5).keeps kc).mono (S' := fun b => w.heap.size + 1 ≤ b) fun b hb _ => hb.1
              have m3 : LabV wc (fun b => w.heap.size + 1 ≤ b) (.slice lo ln lc) l := (hl5.keeps (Keeps.of_grown hkc fun b hb => by simp; omega)).mono fun b hb _ => by omega
              refine .mk (by rw [ba_size]; simp [maxLen]) m3 m2 rfl (fun i hi hi' => ?_)
              match i, hi with
              | 0, _ => exact m1
            have Hc : Hid (Rd wc rb e bl pr r5 v5) := h5.keeps hbc (by omega)
            have HGc : Hid (w.grownBy wc (some rb)) := ((Fr.of_grown HG5.out (Nat.le_refl _)).trans (Fr.of_below (hbc.mono (by omega)))).grown
            clear hg5 h5 hr5 hl5 hx5 hkc hbc k5 kc HL
            go_wp2_with fail
            rw [← hwc]
            clear hwc
            refine (rMust_any _ (by decide) Hc.out).mono ?_
            rintro x w6 ⟨hg6, ⟨a6, r6, hr6, u6, v6, rfl, rfl, h6⟩ | ⟨c6, q6', hr6, rfl, r6, v6, h6⟩⟩
            · have HR : Hid (Par.relR e E (t :: r) = .ok (Tr.mk 5 t.2.1 0 0 (ba []) l [a3]) r6) := by show _ = _; rw [HE5.out, show Par.must e [41] r5 = .ok a6 r6 from hr6]; rfl
              have hz6 := hg6.size
              have hx6 := (hg6.block w1.heap.size (by omega) (by simp; omega)).trans hxc.out
              have hr6b := (hg6.block w.heap.size (by omega) (by simp; omega)).trans hrc.out
              have hn6 := lt_of_block hr6b
              unfold ZE at hr6b
              obtain ⟨⟨q0, q1, q2, q3, q4, q5, q6⟩, p0, p1, p2, p3, p4, p5, p6⟩ := blkE hr6b
              obtain ⟨⟨o0, o1, o2, o3, o4, o5, o6⟩, _⟩ := blkE hx6
              have HF := fin7 (grown_trans HGc.out hg6) h6 hrl (hTc.out.keeps (Keeps.of_grown hg6 fun b hb => by simp; omega))
              have HFF : Hid _ := HF
              clear hg6 h6 hr6 hx6 hr6b HF i0 i1 i2 i3 i4 i5 i6 j0 j1 j2 j3 j4 j5 j6 i0' i1' i2' i3' i4' i5' i6' j0' j1' j2' j3' j4' j5' j6'
              go_wp2
              refine bodyPost_ret (v := .agg #[.int .i64 5, .int .i64 (t.2.1 : Int), .int .i64 0, .int .i64 0, .string ⟨#[]⟩, .slice lo ln lc, .slice (some ⟨w3.heap.size, 0, none⟩) 1 1]) (by simp [results, Tryz.results40, go_sem, q0, q1, q2, q3, q4, q5, q6]) rfl ?_
              obtain ⟨f1, f2, f3⟩ := HFF.out
              exact ⟨f1, .inl ⟨_, _, HR.out, _, _, rfl, ⟨_, _, _, _, _, _, _, _, _, _, _, rfl, f3⟩, f2⟩⟩
            · exact ⟨rfl, grown_trans HGc.out hg6, .inr ⟨c6, q6', by rw [HE5.out, show Par.must e [41] r5 = .no c6 q6' from hr6]; rfl, rfl, _, _, h6⟩⟩
          · exact ⟨rfl, grown_trans HG4.out hg5, .inr ⟨c5, q5, by rw [HE4.out, hr5]; rfl, rfl, _, _, h5⟩⟩
        · exact ⟨rfl, grown_trans HGb.out hg4, .inr ⟨c4, q4, by rw [HE3.out, show Par.must e [116, 111] r3 = .no c4 q4 from hr4]; rfl, rfl, _, _, h4⟩⟩
      · exact ⟨rfl, grown_trans HG2.out hg3, .inr ⟨c3, q3, by rw [HE2.out, hr3]; rfl, rfl, _, _, h3⟩⟩
    · exact ⟨rfl, grown_trans HGa.out hg2, .inr ⟨c2, q2, by rw [HEQ.out, show Par.must e [40] r = .no c2 q2 from hr2]; rfl, rfl, _, _, h2⟩⟩
  · rw [HM0.out] at hr; cases hr
end Go.Proofs.YtikejmokejghcaaGreatDoor
