/- Contract of (*reader).bound, the loop. -/
import Derived.Test.YtcdeicfegfedfaaGreatDoorGaBnd
import Derived.Deep.RegionHeld
namespace Go.Proofs.YtcdeicfegfedfaaGreatDoor
open Go.RowKit
open Par (Tok Po Tr nx atP isT ba Res)
set_option maxRecDepth 100000 in
set_option maxHeartbeats 8000000 in
theorem bnd_succ {rb e : Nat} {bl pr : Int} {P : List Tok → Res Tr} (hS : Par.Sfx P) {j : Nat} (hj : j < 5) (hB : BndC rb e bl pr P j) : BndC rb e bl pr P (j + 1) := by
  intro w ts v h
  obtain ⟨lv, hlv⟩ : ∃ lv, lv = 6 - (j + 1) := ⟨_, rfl⟩
  have hl1 : ((6 - j : Nat) : Int) = (lv : Int) + 1 := by omega
  have hl5 : 5 - j = lv := by omega
  have HB : Hid (∀ (w : World) (ts : List Tok) (v : Value), Rd w rb e bl pr ts v → Calls Tryz.prog 30 #[.pointer (some ⟨rb, 0, none⟩), .int .i64 ((lv : Int) + 1)] w (Post w rb e bl pr (Par.bd P j ts) (VE w.heap.size))) := fun w ts v h => by have := hB w ts v h; rwa [hl1] at this
  have HE : Hid (Par.bd P (j + 1) ts = (Par.bd P j ts).bind fun x r => Par.loopF (Par.bd P j) lv r.length x r) := by show _ = _; rw [← hl5]; rfl
  have HQ : Hid (Par.Sfx (Par.bd P j)) := Par.bd_sfx hS j
  rw [← hlv]
  have hv1 : 1 ≤ lv := by omega
  have hv5 : lv ≤ 5 := by omega
  have hgt : decide ((5 : Int) < (lv : Int)) = false := by simp; omega
  have hrl := h.lt
  obtain ⟨w0, hw0⟩ : ∃ w0, w0 = w.alloc (.cells ZE 26) := ⟨_, rfl⟩
  have hbel : Below w.heap.size w w0 := by rw [hw0]; exact (Below.refl _ _).alloc (Nat.le_refl _) _
  have hs0 : w0.heap.size = w.heap.size + 1 := by rw [hw0]; simp
  have hres : w0.heap[w.heap.size]? = some (.cells ZE 26 (0, 0)) := by rw [hw0]; exact heap_at_alloc _ _ _ rfl
  have HP := HB.out w0 ts v (h.keeps hbel h.lt)
  have f2 := fTok2
  unfold ZE at hw0
  clear h hB hlv hl1 hl5 hj hS
  go_enter Tryz.func30, Tryz.ntmps30
  go_wp2_with fail
  rw [← hw0]
  refine HP.mono ?_
  rintro x w1 ⟨hg1, ⟨a, r, hr, u, v1, rfl, ⟨z0, z1, z2, z3, z4, z5, m5, d5, z6, m6, d6, rfl, hx⟩, h1⟩ | ⟨cc, q, hr, rfl, r, v1, h1⟩⟩
  · have hz1 := hg1.size
    have HS : Hid (Lp w (w1.alloc (.cells #[.int .i64 z0, .int .i64 z1, .int .i64 z2, .int .i64 z3, .string z4, .slice z5 m5 d5, .slice z6 m6 d6] 26)) rb e w1.heap.size bl pr (Par.bd P j) lv (Par.bd P (j + 1) ts) a [.int .i64 z0, .int .i64 z1, .int .i64 z2, .int .i64 z3, .string z4, .slice z5 m5 d5, .slice z6 m6 d6] r v1) := by
      have hbA : Below w1.heap.size w1 (w1.alloc (.cells #[.int .i64 z0, .int .i64 z1, .int .i64 z2, .int .i64 z3, .string z4, .slice z5 m5 d5, .slice z6 m6 d6] 26)) := (Below.refl _ _).alloc (Nat.le_refl _) _
      refine ⟨h1.keeps hbA h1.lt, grown_below (grown_trans (grown_of_below _ hbel) hg1) hbA, (hbA.block _ (by omega)).trans ((hg1.block _ (by omega) (by simp; omega)).trans hres), heap_at_alloc _ _ _ rfl, by omega, ?_, by rw [HE.out, hr]; rfl⟩
      exact (TrIs.mono hx fun b hb hl => ⟨by omega, by omega⟩).keeps (Keeps.of_below hbA)
    clear hg1 hx h1 hr HP hres hbel hs0
    go_wp2
    go_loopw [20] (fun _ wr => ∃ y z0 z1 z2 z3 z4 z5 m5 d5 z6 m6 d6 ts' v', Lp w wr rb e w1.heap.size bl pr (Par.bd P j) lv (Par.bd P (j + 1) ts) y [.int .i64 z0, .int .i64 z1, .int .i64 z2, .int .i64 z3, .string z4, .slice z5 m5 d5, .slice z6 m6 d6] ts' v') (fun _ wr => leftOf wr rb)
    case atStart => exact ⟨_, _, _, _, _, _, _, _, _, _, _, _, _, _, HS.out⟩
    case round =>
      clear HS
      obtain ⟨y, z0, z1, z2, z3, z4, z5, m5, d5, z6, m6, d6, ts', v', HL0⟩ := hrel
      have HL : Hid (Lp w wr rb e w1.heap.size bl pr (Par.bd P j) lv (Par.bd P (j + 1) ts) y [.int .i64 z0, .int .i64 z1, .int .i64 z2, .int .i64 z3, .string z4, .slice z5 m5 d5, .slice z6 m6 d6] ts' v') := HL0
      have hXb := HL0.big
      have hXl := lt_of_block HL0.xb
      clear HL0
      go_wp2_with fail
      refine (rNext_any HL.out.rd).mono ?_
      rintro x w2 ⟨rfl, hb2⟩
      have H2 : Hid (Rd w2 rb e bl pr ts' v') := HL.out.rd.keeps hb2 HL.out.rd.lt
      have HB2 : Hid (Below wr.heap.size wr w2) := hb2
      have hz2 := hb2.size
      clear hb2
      go_wp2_with fail
      refine (levelC H2.out.lv _).mono ?_
      rintro x w2' ⟨rfl, hw2'⟩
      have hw2s := hw2'.symm; subst hw2s
      rw [ba_data]
      have hx2 : w2.heap[w1.heap.size]? = some (.cells #[.int .i64 z0, .int .i64 z1, .int .i64 z2, .int .i64 z3, .string z4, .slice z5 m5 d5, .slice z6 m6 d6] 26 (0, 0)) := (HB2.out.block _ hXl).trans HL.out.xb
      have hr2 : w2.heap[w.heap.size]? = some (.cells ZE 26 (0, 0)) := (HB2.out.block _ (by omega)).trans HL.out.res
      have HG2 : Hid (w.grownBy w2 (some rb)) := grown_below HL.out.gr HB2.out
      have HT2 : Hid (TrIs w2 (fun b => w.heap.size + 1 ≤ b ∧ b ≠ w1.heap.size) y [.int .i64 z0, .int .i64 z1, .int .i64 z2, .int .i64 z3, .string z4, .slice z5 m5 d5, .slice z6 m6 d6]) := HL.out.tr.keeps (Keeps.of_below HB2.out)
      by_cases hq : Par.levF (nx ts').2.2 = lv
      · have hc : (((Par.levF (nx ts').2.2 : Nat) : Int) == (lv : Int)) = true := by simp [hq]
        obtain ⟨t, r, rfl⟩ : ∃ t r, ts' = t :: r := by
          cases ts' with
          | nil => rw [show Par.levF (nx ([] : List Tok)).2.2 = 0 from Par.lev_none] at hq; omega
          | cons t r => exact ⟨t, r, rfl⟩
        have HE2 : Hid (Par.bd P (j + 1) ts = (Par.bd P j r).bind fun z r2 => Par.loopF (Par.bd P j) lv r2.length (Par.opT t [y, z]) r2) := by show _ = _; rw [HL.out.eq]; exact loop_yes hq HQ.out (by omega)
        have HX2 : Hid (w2.heap[w1.heap.size]? = some (.cells #[.int .i64 z0, .int .i64 z1, .int .i64 z2, .int .i64 z3, .string z4, .slice z5 m5 d5, .slice z6 m6 d6] 26 (0, 0))) := hx2
        have HR2 : Hid (w2.heap[w.heap.size]? = some (.cells ZE 26 (0, 0))) := hr2
        have HLL : Hid (leftOf wr rb = r.length + 1) := by show _ = _; rw [leftOf_of HL.out.rd]; rfl
        clear hx2 hr2 hq HL
        go_wp2_with fail
        refine (rTake_any H2.out).mono ?_
        rintro x w3 ⟨rfl, hg3, v3, h3⟩
        have hz3 := hg3.size
        obtain ⟨wk, hwk⟩ : ∃ wk, wk = w3.alloc (.cells #[.int .i64 t.1, .int .i64 (t.2.1 : Int), .string (ba t.2.2)] 80) := ⟨_, rfl⟩
        have hbk : Below w3.heap.size w3 wk := by rw [hwk]; exact (Below.refl _ _).alloc (Nat.le_refl _) _
        have hsk : wk.heap.size = w3.heap.size + 1 := by rw [hwk]; simp
        have hxk : wk.heap[w1.heap.size]? = some (.cells #[.int .i64 z0, .int .i64 z1, .int .i64 z2, .int .i64 z3, .string z4, .slice z5 m5 d5, .slice z6 m6 d6] 26 (0, 0)) := (hbk.block _ (by omega)).trans ((hg3.block _ (by omega) (by simp; omega)).trans HX2.out)
        have hrk : wk.heap[w.heap.size]? = some (.cells ZE 26 (0, 0)) := (hbk.block _ (by omega)).trans ((hg3.block _ (by omega) (by simp; omega)).trans HR2.out)
        have hkk : wk.heap[w3.heap.size]? = some (.cells #[.int .i64 t.1, .int .i64 (t.2.1 : Int), .string (ba t.2.2)] 80 (0, 0)) := by rw [hwk]; exact heap_at_alloc _ _ _ rfl
        have hRk : Rd wk rb e bl pr r v3 := h3.keeps hbk h3.lt
        have HGk : Hid (w.grownBy wk (some rb)) := grown_below (grown_trans HG2.out hg3) hbk
        have HTk : Hid (TrIs wk (fun b => w.heap.size + 1 ≤ b ∧ b ≠ w1.heap.size) y [.int .i64 z0, .int .i64 z1, .int .i64 z2, .int .i64 z3, .string z4, .slice z5 m5 d5, .slice z6 m6 d6]) := (HT2.out.keeps (Keeps.of_grown hg3 fun b hb => by have := hb.1; simp; omega)).keeps (Keeps.of_below hbk)
        have hgt' := H2.out.goods.1
        have hwr : IntKind.i64.wrap ((lv : Int) + 1) = (lv : Int) + 1 := by rw [IntKind.wrap_i64]; omega
        have HC := HB.out wk.drew r v3 hRk.drew
        have HXk : Hid (wk.heap[w1.heap.size]? = some (.cells #[.int .i64 z0, .int .i64 z1, .int .i64 z2, .int .i64 z3, .string z4, .slice z5 m5 d5, .slice z6 m6 d6] 26 (0, 0))) := hxk
        have HRk : Hid (wk.heap[w.heap.size]? = some (.cells ZE 26 (0, 0))) := hrk
        have HKk : Hid (wk.heap[w3.heap.size]? = some (.cells #[.int .i64 t.1, .int .i64 (t.2.1 : Int), .string (ba t.2.2)] 80 (0, 0))) := hkk
        have HWK : Hid (wk = w3.alloc (.cells #[.int .i64 t.1, .int .i64 (t.2.1 : Int), .string (ba t.2.2)] 80)) := hwk
        obtain ⟨⟨e0, e1, e2, e3, e4, e5, e6⟩, _⟩ := blkE hxk
        obtain ⟨⟨k0, k1, k2⟩, _⟩ := blk3 hkk
        clear hg3 h3 hbk hxk hrk hkk hRk hwk
        go_wp2
        rw [← HWK.out]
        cases hbd : Par.bd P j r with
        | no c4 q4 =>
          have HCN : Calls Tryz.prog 30 #[.pointer (some ⟨rb, 0, none⟩), .int .i64 ((lv : Int) + 1)] wk.drew (fun x w4 => x = goneE c4 q4 ∧ wk.drew.grownBy w4 (some rb) ∧ ∃ r4 v4, Rd w4 rb e bl pr r4 v4) := by
            refine HC.mono fun x w4 hp => ?_
            obtain ⟨hg, ⟨a', r', h1', _⟩ | ⟨c', q', h1', h2', r', v'', h3'⟩⟩ := hp
            · rw [hbd] at h1'; cases h1'
            · rw [hbd] at h1'; cases h1'; exact ⟨h2', hg, _, _, h3'⟩
          have HEN : Hid (Par.bd P (j + 1) ts = .no c4 q4) := by show _ = _; rw [HE2.out, hbd]; rfl
          clear HC hbd
          refine wp_region_held_drew (S := (fun w' => w'.cell? ⟨w1.heap.size, 0, none⟩ = some (.int .i64 z0) ∧ w'.cell? ⟨w1.heap.size, 1, none⟩ = some (.int .i64 z1) ∧ w'.cell? ⟨w1.heap.size, 2, none⟩ = some (.int .i64 z2) ∧ w'.cell? ⟨w1.heap.size, 3, none⟩ = some (.int .i64 z3) ∧ w'.cell? ⟨w1.heap.size, 4, none⟩ = some (.string z4) ∧ w'.cell? ⟨w1.heap.size, 5, none⟩ = some (.slice z5 m5 d5) ∧ w'.cell? ⟨w1.heap.size, 6, none⟩ = some (.slice z6 m6 d6) ∧ w'.cell? ⟨w3.heap.size, 1, none⟩ = some (.int .i64 (t.2.1 : Int)) ∧ w'.cell? ⟨w3.heap.size, 2, none⟩ = some (.string (ba t.2.2)))) (by kernel_rfl) (by go_keep) (fun hHeld => ?_)
          refine wpAnyH_take (i := 0) (v := .pointer (some ⟨w3.heap.size, 1, none⟩)) rfl (by kernel_rfl) (by kernel_rfl) (by kernel_rfl) (fun _ _ _ h => h) (Or.inl ⟨by rfl, fun W hSw => by dsimp only at hSw; go_simp⟩) hHeld ?_
          simp only [Act.put]
          refine wpAnyH_take (i := 1) (v := .int .i64 (t.2.1 : Int)) rfl (by kernel_rfl) (by kernel_rfl) (by kernel_rfl) (fun _ _ _ h => h) (Or.inl ⟨by rfl, fun W hSw => by dsimp only at hSw; go_simp⟩) hHeld ?_
          simp only [Act.put]
          refine wpAnyH_take (i := 2) (v := .pointer (some ⟨w3.heap.size, 2, none⟩)) rfl (by kernel_rfl) (by kernel_rfl) (by kernel_rfl) (fun _ _ _ h => h) (Or.inl ⟨by rfl, fun W hSw => by dsimp only at hSw; go_simp⟩) hHeld ?_
          simp only [Act.put]
          refine wpAnyH_take (i := 3) (v := .string (ba t.2.2)) rfl (by kernel_rfl) (by kernel_rfl) (by kernel_rfl) (fun _ _ _ h => h) (Or.inl ⟨by rfl, fun W hSw => by dsimp only at hSw; go_simp⟩) hHeld ?_
          simp only [Act.put]
          refine wpAnyH_take (i := 4) (v := .agg #[.int .i64 z0, .int .i64 z1, .int .i64 z2, .int .i64 z3, .string z4, .slice z5 m5 d5, .slice z6 m6 d6]) rfl (by kernel_rfl) (by kernel_rfl) (by kernel_rfl) (fun _ _ _ h => h) (Or.inl ⟨by rfl, fun W hSw => by dsimp only at hSw; go_simp⟩) hHeld ?_
          simp only [Act.put]
          refine wpAnyH_take (i := 5) (v := .pointer (some ⟨rb, 0, none⟩)) rfl (by kernel_rfl) (by kernel_rfl) (by kernel_rfl) (fun _ _ _ h => h) (Or.inl ⟨by rfl, fun W hSw => by dsimp only at hSw; go_simp⟩) hHeld ?_
          simp only [Act.put]
          refine wpAnyH_take (i := 6) (v := .int .i64 (lv : Int)) rfl (by kernel_rfl) (by kernel_rfl) (by kernel_rfl) (fun _ _ _ h => h) (Or.inl ⟨by rfl, fun W hSw => by dsimp only at hSw; go_simp⟩) hHeld ?_
          simp only [Act.put]
          refine wpAnyH_take (i := 7) (v := .int .i64 ((lv : Int) + 1)) rfl (by kernel_rfl) (by kernel_rfl) (by kernel_rfl) (fun _ _ _ h => h) (Or.inl ⟨by rfl, fun W hSw => by dsimp only at hSw; go_simp⟩) hHeld ?_
          simp only [Act.put]
          refine wpAnyH_ready (rs := [8]) (by kernel_rfl) (by simp) ?_
          refine AllReadyH.cons rfl (fun K hK => ?_) AllReadyH.nil
          go_simp
          go_wp2_with fail
          try rw [hwr]
          refine HCN.mono ?_
          rintro x w4 ⟨rfl, hg4, r4, v4, h4⟩
          exact ⟨rfl, grown_trans (grown_drew HGk.out) hg4, .inr ⟨c4, q4, HEN.out, rfl, _, _, h4⟩⟩
        | ok z r4 =>
          have HCO : Calls Tryz.prog 30 #[.pointer (some ⟨rb, 0, none⟩), .int .i64 ((lv : Int) + 1)] wk.drew (fun x w4 => wk.drew.grownBy w4 (some rb) ∧ ∃ u4 v4, x = .returned u4 ∧ VE wk.drew.heap.size w4 z u4 ∧ Rd w4 rb e bl pr r4 v4) := by
            refine HC.mono fun x w4 hp => ?_
            obtain ⟨hg, ⟨a', r', h1', u', v'', h2', h3', h4'⟩ | ⟨c', q', h1', _⟩⟩ := hp
            · rw [hbd] at h1'; cases h1'; exact ⟨hg, _, _, h2', h3', h4'⟩
            · rw [hbd] at h1'; cases h1'
          have HEO : Hid (Par.bd P (j + 1) ts = Par.loopF (Par.bd P j) lv r4.length (Par.opT t [y, z]) r4) := by show _ = _; rw [HE2.out, hbd]; rfl
          have HLE : Hid (r4.length ≤ r.length) := (HQ.out _ _ _ hbd).length_le
          clear HC hbd
          go_region_with (go_at_call 30; (try rw [hwr]); refine HCO.mono ?_; rintro x w4 ⟨hg4, u4, v4, rfl, ⟨y0, y1, y2, y3, y4, y5, n5, c5, y6, n6, c6, rfl, hx4⟩, h4⟩; have hxb4 : w4.heap[w1.heap.size]? = some (.cells #[.int .i64 z0, .int .i64 z1, .int .i64 z2, .int .i64 z3, .string z4, .slice z5 m5 d5, .slice z6 m6 d6] 26 (0, 0)) := (by exact (hg4.block _ (show w1.heap.size < wk.heap.size by omega) (by simp; omega)).trans HXk.out); have hkb4 : w4.heap[w3.heap.size]? = some (.cells #[.int .i64 t.1, .int .i64 (t.2.1 : Int), .string (ba t.2.2)] 80 (0, 0)) := (by exact (hg4.block _ (show w3.heap.size < wk.heap.size by omega) (by simp; omega)).trans HKk.out); have HNX := lp_next (Q := Par.bd P j) (lv := lv) (all := Par.bd P (j + 1) ts) HGk.out hg4 hxb4 HRk.out HTk.out hx4 h4 (by omega) (by omega) hrl hgt' HEO.out; have HNN : Hid _ := HNX; have HMX := left_lt HNX.rd HLL.out HLE.out; have HMM : Hid _ := HMX; have hXl4 := lt_of_block hxb4; have hkl4 := lt_of_block hkb4; obtain ⟨⟨e0', e1', e2', e3', e4', e5', e6'⟩, y00, y01, y02, y03, y04, y05, y06⟩ := blkE hxb4; obtain ⟨⟨k0', k1', k2'⟩, _⟩ := blk3 hkb4; clear hxb4 hkb4 hg4 hx4 h4 HNX HMX)
          all_goals (try go_wp2_with fail)
          all_goals go_roundw
          all_goals first
            | exact ⟨_, _, _, _, _, _, _, _, _, _, _, _, _, _, HNN.out⟩
            | exact HMM.out
      · have hc : (((Par.levF (nx ts').2.2 : Nat) : Int) == (lv : Int)) = false := by simp; omega
        have HE2 : Hid (Par.bd P (j + 1) ts = .ok y ts') := by show _ = _; rw [HL.out.eq]; exact loop_no hq
        have hn2 := lt_of_block hr2
        unfold ZE at hr2
        obtain ⟨⟨q0, q1, q2, q3, q4, q5, q6⟩, p0, p1, p2, p3, p4, p5, p6⟩ := blkE hr2
        obtain ⟨⟨e0, e1, e2, e3, e4, e5, e6⟩, _⟩ := blkE hx2
        have HF := fin7 HG2.out H2.out hrl (HT2.out.mono fun b hb _ => hb.1)
        have HFF : Hid _ := HF
        clear hx2 hr2 HF hq HL
        go_wp2
        refine bodyPost_ret (v := .agg #[.int .i64 z0, .int .i64 z1, .int .i64 z2, .int .i64 z3, .string z4, .slice z5 m5 d5, .slice z6 m6 d6]) (by simp [results, Tryz.results30, go_sem, q0, q1, q2, q3, q4, q5, q6]) rfl ?_
        obtain ⟨g1, g2, g3⟩ := HFF.out
        exact ⟨g1, .inl ⟨_, _, HE2.out, _, _, rfl, ⟨_, _, _, _, _, _, _, _, _, _, _, rfl, g3⟩, g2⟩⟩
  · have HN : Par.bd P (j + 1) ts = .no cc q := by rw [HE.out, hr]; rfl
    exact ⟨rfl, grown_trans (grown_of_below _ hbel) hg1, .inr ⟨_, _, HN, rfl, _, _, h1⟩⟩
end Go.Proofs.YtcdeicfegfedfaaGreatDoor
