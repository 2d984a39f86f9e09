/- The document's own reader: expr, where it goes on. The document's own reader: one and expr, at whatever depth. -/
import Derived.Test.YtcdeicfegfedfaaGreatDoorGaDcO
import Derived.Test.YtcdeicfegfedfaaGreatDoorDcH
namespace Go.Proofs.YtcdeicfegfedfaaGreatDoor
open Go.RowKit
open Par (Tok Tr Po Res nx atP isT seesB ba)

theorem ex_less {w w' : World} {tb e e' : Nat} {ts ts' : List Tok} {v v' : Value} {k k' : Nat} {c p bl al c' p' bl' al' : Int} (h : Tx w tb e ts v k c p bl al) (h' : Tx w' tb e' ts' v' k' c' p' bl' al') (hM : ts.length - k < ts.length - k') : ts.length - kOf w tb < ts.length - kOf w' tb := by
  rw [h.kOf, h'.kOf]
  exact hM
set_option maxRecDepth 100000 in
set_option maxHeartbeats 8000000 in
theorem exprD {tb e : Nat} {ts : List Tok} {v : Value} {bl al : Int} (hgd : Par.Good ts) (hsh : Short ts) {P : List Tok → Res Tr} (hsf : Par.Sfx P) (hP : OnD tb e ts v bl al P) : ExD tb e ts v bl al (Par.bd P 5) := by
  intro w k p h
  have hlt := h.lt
  have hmf : ∀ (fn : Fn) (first cap : Array Value) (w : World), (Instr.makeFunc fn first cap).run Tryz.prog w = .ok (.func fn first cap) w := fun _ _ _ _ => rfl
  obtain ⟨R, hR⟩ : ∃ R, R = Par.bd P 5 (ts.drop k) := ⟨_, rfl⟩
  rw [← hR]
  obtain ⟨wa, hwa⟩ : ∃ wa, wa = w.alloc (.cells ZE 26) := ⟨_, rfl⟩
  have hba : Below w.heap.size w wa := by rw [hwa]; exact (Below.refl _ _).alloc (Nat.le_refl _) _
  have hsa : wa.heap.size = w.heap.size + 1 := by rw [hwa]; exact Array.size_push _
  have hra : wa.heap[w.heap.size]? = some (.cells ZE 26 (0, 0)) := by rw [hwa]; exact heap_at_alloc _ _ _ rfl
  have hone := hP wa k p (h.later hba)
  have H : Hid (Tx w tb e ts v k 0 p bl al) := h
  have HP : Hid (OnD tb e ts v bl al P) := hP
  have HGd : Hid (Par.Good ts) := hgd
  have HSh : Hid (Short ts) := hsh
  have HSf : Hid (Par.Sfx P) := hsf
  have HR : Hid (R = Par.bd P 5 (ts.drop k)) := hR
  have HBa : Hid (Below w.heap.size w wa) := hba
  have HRa : Hid (wa.heap[w.heap.size]? = some (.cells ZE 26 (0, 0))) := hra
  unfold ZE at hwa
  clear h hP hgd hsh hsf hR hba hra
  go_enter Tryz.func18, Tryz.ntmps18
  go_wp2_with fail
  rw [← hwa]
  clear hwa
  refine hone.mono ?_
  intro x w1 hp1
  obtain ⟨hg1, z0, z1, z2, z3, z4, z5, m5, d5, z6, m6, d6, rfl, hcs⟩ := exd_cases hp1
  have hs1 := hg1.size
  obtain ⟨wb, hwb⟩ : ∃ wb, wb = ((w1.alloc (.cells #[.int .i64 z0, .int .i64 z1, .int .i64 z2, .int .i64 z3, .string z4, .slice z5 m5 d5, .slice z6 m6 d6] 26)).alloc (.cells #[.slice (some ⟨w1.heap.size, 0, none⟩) 1 1] 24)).alloc (.cells #[.slice none 0 0] 59) := ⟨_, rfl⟩
  have HS : Hid (∃ xs x ss k c p, ExI w wb tb e ts v bl al P R (w1.heap.size + 1) (w1.heap.size + 1 + 1) xs x ss k c p) := by
    have hg0 : w.grownBy w1 (some tb) := World.grownBy.trans ⟨HBa.out.os, HBa.out.tape, HBa.out.output, HBa.out.size, fun j hj _ => HBa.out.block j hj⟩ hg1
    have hr1 : w1.heap[w.heap.size]? = some (.cells ZE 26 (0, 0)) := (hg1.block _ (by omega) (by simp; omega)).trans HRa.out
    rcases hcs with ⟨a, k2, p2, h1, h2, h3⟩ | ⟨c, q, h1, h2, h3⟩
    · refine ⟨[], a, [], k2, 0, p2, ex_start (x := a) hlt hg0 (by omega) hr1 h3 hwb (fun _ => TrIs.mono h2 fun b hb _ => by omega) ?_⟩
      refine .inl ⟨rfl, ?_⟩
      rw [HR.out]
      exact Par.cont_first HSf.out h1
    · have hno : R = .no c q := by rw [HR.out]; exact Par.cont_no HSf.out h1
      exact ⟨[], nilT, [], ts.length, c, (q : Int), ex_start (x := nilT) hlt hg0 (by omega) hr1 h3 hwb (fun o => (o.no hno).elim) (.inr ⟨h2, rfl, q, rfl, hno⟩)⟩
  clear hcs hp1 hg1 hone
  go_wp2_with fail
  rw [← hwb]
  clear hwb
  obtain ⟨L, hL⟩ : ∃ L, L = w1.heap.size + 1 := ⟨_, rfl⟩
  obtain ⟨G, hG⟩ : ∃ G, G = w1.heap.size + 1 + 1 := ⟨_, rfl⟩
  rw [← hG, ← hL] at HS ⊢
  have hLn : w.heap.size < L := by omega
  have hGn : w.heap.size < G := by omega
  clear hL hG hs1 hsa HBa HRa
  go_loopw [] (fun wr => Hid (∃ xs x ss k c p, ExI w wr tb e ts v bl al P R L G xs x ss k c p)) (fun wr => ts.length - kOf wr tb)
  case atStart => exact HS
  case round =>
    obtain ⟨xs, x, ss, k1, c1, p1, hi⟩ := hrel.out
    have HI : Hid (ExI w wr tb e ts v bl al P R L G xs x ss k1 c1 p1) := hi
    obtain ⟨t, ht⟩ : ∃ t, t = nx (ts.drop k1) := ⟨_, rfl⟩
    have hpk := peekD hi.tx
    rw [← ht] at hpk
    have HTk : Hid (t = nx (ts.drop k1)) := ht
    have HTS : Hid ((ba t.2.2).size ≤ maxLen) := by show _ ≤ _; rw [ht]; exact HSh.out.nx k1
    have HTG : Hid (t.1 ≠ 4 → Par.levF t.2.2 = 0) := by
      show _ → _
      intro h4
      by_cases hk : k1 < ts.length
      · rw [ht, nx_drop hk] at h4 ⊢
        exact Par.lev_sign (HGd.out _ (List.getElem_mem hk)) h4
      · rw [ht, nx_end (by omega)]
        exact Par.lev_none
    clear hi ht hrel HS
    unfold tkV at hpk
    go_wp2_with fail
    refine hpk.mono ?_
    rintro x2 w2 ⟨rfl, hb2⟩
    obtain ⟨wt, hwt⟩ : ∃ wt, wt = w2.alloc (.cells #[.int .i64 t.1, .int .i64 (t.2.1 : Int), .string (ba t.2.2)] 80) := ⟨_, rfl⟩
    have hbt : Below w2.heap.size w2 wt := by rw [hwt]; exact (Below.refl _ _).alloc (Nat.le_refl _) _
    have HIt : Hid (ExI w wt tb e ts v bl al P R L G xs x ss k1 c1 p1) := (HI.out.step hb2 hLn hGn).step hbt hLn hGn
    have HKt : Hid (wt.heap[w2.heap.size]? = some (.cells #[.int .i64 t.1, .int .i64 (t.2.1 : Int), .string (ba t.2.2)] 80 (0, 0))) := by show _ = _; rw [hwt]; exact heap_at_alloc _ _ _ rfl
    have HB2 : Hid (Below wr.heap.size wr wt) := hb2.trans (hbt.mono hb2.size)
    go_upto_region 5 with fail
    rw [← hwt]
    clear hwt hb2 hpk hbt
    obtain ⟨⟨k0, k1', k2⟩, _⟩ := blk3 HKt.out
    have lk : w2.heap.size < wt.heap.size := lt_of_block HKt.out
    go_cut [21] (fun s21 wc => s21 = .bool (decide (Par.levF t.2.2 = 0)) ∧ Hid (Below wt.heap.size wt wc))
    case first =>
      by_cases c4 : t.1 = 4
      · have b4 : (t.1 != 4) = false := by simp [c4]
        have hlv := levelD (ba t.2.2) HTS.out wt
        rw [ba_list] at hlv
        go_wp2_with (go_at_call 41; refine hlv.mono ?_; rintro x3 w3 ⟨rfl, hb3⟩)
        go_meet
        case rel =>
          refine ⟨?_, hb3⟩
          congr 1
          exact beqZ _
      · have b4 : (t.1 != 4) = true := by simp [c4]
        go_wp2
        go_meet
        case rel =>
          refine ⟨?_, Below.refl _ _⟩
          rw [HTG.out c4]
          rfl
    case rest =>
      obtain ⟨rfl, HBc⟩ := hcut
      have HIc : Hid (ExI w wc tb e ts v bl al P R L G xs x ss k1 c1 p1) := HIt.out.step HBc.out hLn hGn
      have HKc : Hid (wc.heap[w2.heap.size]? = some (.cells #[.int .i64 t.1, .int .i64 (t.2.1 : Int), .string (ba t.2.2)] 80 (0, 0))) := (HBc.out.block _ lk).trans HKt.out
      have lkc : w2.heap.size < wc.heap.size := lt_of_block HKc.out
      clear k0 k1' k2 HIt HKt HBc lk
      by_cases hl0 : Par.levF t.2.2 = 0
      · have HF0 : Hid (ExF w wc tb e ts v bl al R L G xs x ss k1 c1 p1) := exf_of HIc.out (by rw [← HTk.out]; exact hl0)
        have hd0 : decide (Par.levF t.2.2 = 0) = true := by simp [hl0]
        rw [hd0]
        clear hd0 hl0 HIc HKc HTk HTG HTS
        go_wp2_with fail
        go_loopw [] (fun wf => Hid (∃ xs x ss, ExF w wf tb e ts v bl al R L G xs x ss k1 c1 p1)) (fun wf => gLen wf G)
        case atStart => exact ⟨xs, x, ss, HF0.out⟩
        case round =>
          obtain ⟨ys, y, us, hf⟩ := hrel.out
          obtain ⟨lv, sv, hs⟩ := hf.stk
          have HF : Hid (ExF w wr tb e ts v bl al R L G ys y us k1 c1 p1) := hf
          obtain ⟨ao, cp, rfl⟩ := hs.go.slice
          have g0 : wr.cell? ⟨G, 0, none⟩ = some (.slice ao us.length cp) := by simp [World.cell?, hs.gb]
          have HSk : Hid (Stk (Okd R) wr (w.heap.size + 1) L G lv (.slice ao us.length cp) (ys ++ [y]) us) := hs
          have lG := lt_of_block hs.gb
          have hlen := hf.len
          clear hf hs hrel HF0
          by_cases hu : us = []
          · subst hu
            have hys : ys = [] := List.length_eq_zero_iff.1 (by simpa using hlen)
            subst hys
            clear hlen
            simp only [List.length_nil] at g0
            obtain ⟨css, o1, o2, o3⟩ := HSk.out.lo.ex
            obtain ⟨g, cap, cur, hv, hgB, hgb, hnc, hcm, hcs, htk⟩ := own_some o1 (by simp)
            subst hv
            have hl7 : ∀ i (h : i < css.length), css[i].length = 7 := fun i hi => (isElX _ L G _).len (o3 i (by omega) hi)
            have ho := o3 0 (by simp) (by rw [o2]; simp)
            obtain ⟨⟨z0, z1, z2, z3, z4, z5, m5, d5, z6, m6, d6, hc0⟩, htr⟩ := ho
            rw [hc0] at htr
            have ax : ∀ j u, (css[0]'(by rw [o2]; simp))[j]? = some u → wr.cell? ⟨g, 0 * 7 + j, none⟩ = some u := fun j u hu => own_cell (n := ([] ++ [y]).length) hgb htk o2 hl7 (by rw [o2]; simp) hu
            rw [hc0] at ax
            have e0 : wr.cell? ⟨g, 0, none⟩ = some (.int .i64 z0) := ax 0 _ rfl
            have e1 : wr.cell? ⟨g, 1, none⟩ = some (.int .i64 z1) := ax 1 _ rfl
            have e2 : wr.cell? ⟨g, 2, none⟩ = some (.int .i64 z2) := ax 2 _ rfl
            have e3 : wr.cell? ⟨g, 3, none⟩ = some (.int .i64 z3) := ax 3 _ rfl
            have e4 : wr.cell? ⟨g, 4, none⟩ = some (.string z4) := ax 4 _ rfl
            have e5 : wr.cell? ⟨g, 5, none⟩ = some (.slice z5 m5 d5) := ax 5 _ rfl
            have e6 : wr.cell? ⟨g, 6, none⟩ = some (.slice z6 m6 d6) := ax 6 _ rfl
            have l0 : wr.cell? ⟨L, 0, none⟩ = some (.slice (some ⟨g, 0, none⟩) 1 cap) := by have h9 := HSk.out.lb; simp [World.cell?, h9]
            have HTR : Hid (Okd R → TrIs wr (fun b => w.heap.size + 1 ≤ b) y [.int .i64 z0, .int .i64 z1, .int .i64 z2, .int .i64 z3, .string z4, .slice z5 m5 d5, .slice z6 m6 d6]) := fun o => TrIs.mono (htr o) fun b hb _ => hb.1.1
            have hr := HF.out.res
            have ln := lt_of_block hr
            have HRS : Hid (wr.heap[w.heap.size]? = some (.cells ZE 26 (0, 0))) := hr
            unfold ZE at hr
            obtain ⟨⟨q0, q1, q2, q3, q4, q5, q6⟩, p0, p1', p2, p3, p4, p5, p6⟩ := blkE hr
            have lL := lt_of_block HSk.out.lb
            have lg := lt_of_block hgb
            have hgn : w.heap.size ≠ g := by omega
            clear hr o1 o2 o3 hl7 ax hc0 htr hgb hnc hcm hcs htk
            go_wp2
            exact ex_ret H.out HF.out HTR.out rfl
          · obtain ⟨us', s, rfl⟩ := last_of hu
            obtain ⟨ys', o, rfl⟩ := last_of (l := ys) (by rintro rfl; simp at hlen)
            have hsk : Stk (Okd R) wr (w.heap.size + 1) L G lv (.slice ao (us' ++ [s]).length cp) (ys' ++ [o, y]) (us' ++ [s]) := by
              have h9 := HSk.out
              rwa [List.append_assoc] at h9
            have hfew := HF.out.few
            have hlen' : ys'.length = us'.length := by simpa using hlen
            have hfe : us'.length ≤ 100000 := by simp at hfew; omega
            have hput := putD (by have := HF.out.gr.size; have := lt_of_block HF.out.res; omega) hsk (by omega) hfe
            have hd : decide ((0 : Int) < ((us' ++ [s]).length : Int)) = true := by simp
            have HM : Hid (gLen wr G = us'.length + 1) := by show _ = _; rw [HSk.out.gLen]; simp
            clear hsk hfew hu hlen hlen' hfe
            go_wp2_with fail
            refine hput.mono ?_
            rintro r w9 ⟨rfl, hoth, lv', sv', hs9⟩
            have HN : Hid (ExF w w9 tb e ts v bl al R L G ys' (Par.opT s [o, y]) us' k1 c1 p1) := exf_put H.out hLn hGn HF.out hoth hs9
            have HM9 : Hid (gLen w9 G = us'.length) := hs9.gLen
            clear hoth hs9 hput g0 lG
            go_wp2
            exact ⟨⟨_, _, _, HN.out⟩, by rw [HM9.out, HM.out]; omega⟩
      · have hkl : k1 < ts.length := by
          apply Classical.byContradiction
          intro hne
          apply hl0
          rw [HTk.out, nx_end (by omega)]
          exact Par.lev_none
        have HKL : Hid (k1 < ts.length) := hkl
        have HL0 : Hid (0 < Par.levF t.2.2) := by show 0 < _; omega
        have hd0 : decide (Par.levF t.2.2 = 0) = false := by simp [hl0]
        rw [hd0]
        obtain ⟨K, hK⟩ : ∃ K, K = w2.heap.size := ⟨_, rfl⟩
        rw [← hK] at HKc lkc ⊢
        have HLP : Hid (ExL w wc tb e ts v bl al R L G K t (Par.popS (Par.stk xs ss) x (Par.lvT t)) xs x ss k1 c1 p1) := exl_of HIc.out HKc.out hkl
        clear hd0 hl0 hkl hK HKc lkc
        go_wp2_with fail
        go_loopw [] (fun wl => Hid (∃ xs' x' ss', ExL w wl tb e ts v bl al R L G K t (Par.popS (Par.stk xs ss) x (Par.lvT t)) xs' x' ss' k1 c1 p1)) (fun wl => gLen wl G)
        case atStart => exact ⟨xs, x, ss, HLP.out⟩
        case round =>
          obtain ⟨ys, y, us, hf⟩ := hrel.out
          obtain ⟨lv, sv, hs⟩ := hf.stk
          have HF : Hid (ExL w wr tb e ts v bl al R L G K t (Par.popS (Par.stk xs ss) x (Par.lvT t)) ys y us k1 c1 p1) := hf
          obtain ⟨ao, cp, rfl⟩ := hs.go.slice
          have HSk : Hid (Stk (Okd R) wr (w.heap.size + 1) L G lv (.slice ao us.length cp) (ys ++ [y]) us) := hs
          have HGS : Hid (∀ w', Below wr.heap.size wr w' → w'.cell? ⟨G, 0, none⟩ = some (.slice ao us.length cp)) := by
            intro w' hb
            have h9 := (hb.block _ (lt_of_block HSk.out.gb)).trans HSk.out.gb
            simp [World.cell?, h9]
          have HK2 : Hid (∀ w', Below wr.heap.size wr w' → w'.cell? ⟨K, 2, none⟩ = some (.string (ba t.2.2))) := by
            intro w' hb
            have h9 := (hb.block _ (lt_of_block HF.out.tok)).trans HF.out.tok
            simp [World.cell?, h9]
          clear hf hs hrel HLP
          go_upto_region 6 with fail
          go_cut [38] (fun s38 wc => s38 = .bool (topB us (Par.lvT t)) ∧ Hid (Below wr.heap.size wr wc))
          case first =>
            by_cases hu : us = []
            · subst hu
              clear HF HSk
              simp only [List.length_nil] at HGS ⊢
              refine wp_region_held_drew (S := fun w' => Below wr.heap.size wr w') (by kernel_rfl) (bel_drew (Below.refl _ _)) (fun hHeld => ?_)
              refine heldD (i := 0) 22 (v := .slice ao 0 cp) rfl rfl (by kernel_rfl) (by kernel_rfl) (by kernel_rfl) (fun _ _ _ h => h) (Or.inl ⟨by rfl, fun W' hw => by have hl := HGS.out W' hw; clear hw; go_simp⟩) hHeld ?_
              simp only [Act.put, List.setIfInBounds_toArray, List.set_cons_succ, List.set_cons_zero]
              refine heldD (i := 1) 23 (v := .int .i64 0) rfl rfl (by kernel_rfl) (by kernel_rfl) (by kernel_rfl) (fun _ _ _ h => h) (Or.inl ⟨by rfl, fun W' hw => by clear hw; go_simp⟩) hHeld ?_
              simp only [Act.put, List.setIfInBounds_toArray, List.set_cons_succ, List.set_cons_zero]
              refine heldD (i := 2) 24 (v := .bool false) rfl rfl (by kernel_rfl) (by kernel_rfl) (by kernel_rfl) (fun _ _ _ h => h) (Or.inl ⟨by rfl, fun W' hw => by clear hw; go_simp⟩) hHeld ?_
              simp only [Act.put, List.setIfInBounds_toArray, List.set_cons_succ, List.set_cons_zero]
              refine heldD (i := 3) 25 (v := .bool false) rfl rfl (by kernel_rfl) (by kernel_rfl) (by kernel_rfl) (fun _ _ _ h => h) (Or.inl ⟨by rfl, fun W' hw => by clear hw; go_simp⟩) hHeld ?_
              simp only [Act.put, List.setIfInBounds_toArray, List.set_cons_succ, List.set_cons_zero]
              refine heldD (i := 4) 26 (v := undef) rfl rfl (by kernel_rfl) (by kernel_rfl) (by kernel_rfl) (fun _ _ _ h => h) (Or.inr ⟨by simp [Region.wanted, yielded], rfl⟩) hHeld ?_
              simp only [Act.put, List.setIfInBounds_toArray, List.set_cons_succ, List.set_cons_zero]
              refine heldD (i := 5) 27 (v := undef) rfl rfl (by kernel_rfl) (by kernel_rfl) (by kernel_rfl) (fun _ _ _ h => h) (Or.inr ⟨by simp [Region.wanted, yielded], rfl⟩) hHeld ?_
              simp only [Act.put, List.setIfInBounds_toArray, List.set_cons_succ, List.set_cons_zero]
              refine heldD (i := 6) 28 (v := undef) rfl rfl (by kernel_rfl) (by kernel_rfl) (by kernel_rfl) (fun _ _ _ h => h) (Or.inr ⟨by simp [Region.wanted, yielded], rfl⟩) hHeld ?_
              simp only [Act.put, List.setIfInBounds_toArray, List.set_cons_succ, List.set_cons_zero]
              refine heldD (i := 7) 29 (v := undef) rfl rfl (by kernel_rfl) (by kernel_rfl) (by kernel_rfl) (fun _ _ _ h => h) (Or.inr ⟨by simp [Region.wanted, yielded], rfl⟩) hHeld ?_
              simp only [Act.put, List.setIfInBounds_toArray, List.set_cons_succ, List.set_cons_zero]
              refine heldD (i := 8) 30 (v := undef) rfl rfl (by kernel_rfl) (by kernel_rfl) (by kernel_rfl) (fun _ _ _ h => h) (Or.inr ⟨by simp [Region.wanted, yielded], rfl⟩) hHeld ?_
              simp only [Act.put, List.setIfInBounds_toArray, List.set_cons_succ, List.set_cons_zero]
              refine heldD (i := 9) 31 (v := undef) rfl rfl (by kernel_rfl) (by kernel_rfl) (by kernel_rfl) (fun _ _ _ h => h) (Or.inr ⟨by simp [Region.wanted, yielded], rfl⟩) hHeld ?_
              simp only [Act.put, List.setIfInBounds_toArray, List.set_cons_succ, List.set_cons_zero]
              refine heldD (i := 10) 32 (v := undef) rfl rfl (by kernel_rfl) (by kernel_rfl) (by kernel_rfl) (fun _ _ _ h => h) (Or.inr ⟨by simp [Region.wanted, yielded], rfl⟩) hHeld ?_
              simp only [Act.put, List.setIfInBounds_toArray, List.set_cons_succ, List.set_cons_zero]
              refine heldD (i := 11) 33 (v := undef) rfl rfl (by kernel_rfl) (by kernel_rfl) (by kernel_rfl) (fun _ _ _ h => h) (Or.inr ⟨by simp [Region.wanted, yielded], rfl⟩) hHeld ?_
              simp only [Act.put, List.setIfInBounds_toArray, List.set_cons_succ, List.set_cons_zero]
              refine heldD (i := 12) 34 (v := undef) rfl rfl (by kernel_rfl) (by kernel_rfl) (by kernel_rfl) (fun _ _ _ h => h) (Or.inr ⟨by simp [Region.wanted, yielded], rfl⟩) hHeld ?_
              simp only [Act.put, List.setIfInBounds_toArray, List.set_cons_succ, List.set_cons_zero]
              refine heldD (i := 13) 35 (v := undef) rfl rfl (by kernel_rfl) (by kernel_rfl) (by kernel_rfl) (fun _ _ _ h => h) (Or.inr ⟨by simp [Region.wanted, yielded], rfl⟩) hHeld ?_
              simp only [Act.put, List.setIfInBounds_toArray, List.set_cons_succ, List.set_cons_zero]
              refine heldD (i := 14) 36 (v := undef) rfl rfl (by kernel_rfl) (by kernel_rfl) (by kernel_rfl) (fun _ _ _ h => h) (Or.inr ⟨by simp [Region.wanted, yielded], rfl⟩) hHeld ?_
              simp only [Act.put, List.setIfInBounds_toArray, List.set_cons_succ, List.set_cons_zero]
              refine heldD (i := 15) 37 (v := undef) rfl rfl (by kernel_rfl) (by kernel_rfl) (by kernel_rfl) (fun _ _ _ h => h) (Or.inr ⟨by simp [Region.wanted, yielded], rfl⟩) hHeld ?_
              simp only [Act.put, List.setIfInBounds_toArray, List.set_cons_succ, List.set_cons_zero]
              refine heldD (i := 16) 38 (v := .bool false) rfl rfl (by kernel_rfl) (by kernel_rfl) (by kernel_rfl) (fun _ _ _ h => h) (Or.inl ⟨by rfl, fun W' hw => by clear hw; go_simp⟩) hHeld ?_
              simp only [Act.put, List.setIfInBounds_toArray, List.set_cons_succ, List.set_cons_zero]
              refine wpAnyH_done (by kernel_rfl) ?_ _
              go_wp2_with fail
              go_meet
              exact ⟨rfl, hHeld⟩
            · obtain ⟨us', s, rfl⟩ := last_of hu
              have lenq : (us' ++ [s]).length = us'.length + 1 := by simp
              obtain ⟨csk, q1, q2, q3⟩ := HSk.out.go.ex
              obtain ⟨gq, capq, curq, hvq, hgBq, hgbq, hncq, hcmq, hcsq, htkq⟩ := own_some q1 (by simp)
              have hq : ao = some ⟨gq, 0, none⟩ ∧ cp = capq := by
                simp only [Value.slice.injEq] at hvq
                exact ⟨hvq.1, hvq.2.2⟩
              obtain ⟨rfl, rfl⟩ := hq
              have hl3 : ∀ i (h : i < csk.length), csk[i].length = 3 := fun i hi => isElK.len (q3 i (by omega) hi)
              have hck := q3 us'.length (by simp) (by rw [q2]; simp)
              have hck1 : csk[us'.length]'(by rw [q2]; simp) = [.int .i64 s.1, .int .i64 (s.2.1 : Int), .string (ba s.2.2)] := by simpa using hck.1
              have HSZ : Hid ((ba s.2.2).size ≤ maxLen) := by show _ ≤ _; have h9 := hck.2; simpa using h9
              have HS2 : Hid (∀ w', Below wr.heap.size wr w' → w'.cell? ⟨gq, us'.length * 3 + 2, none⟩ = some (.string (ba s.2.2))) := by
                intro w' hb
                exact own_cell (n := (us' ++ [s]).length) ((hb.block _ (lt_of_block hgbq)).trans hgbq) htkq q2 hl3 (by rw [q2]; simp) (by rw [hck1]; rfl)
              have hfu : us'.length ≤ 100000 := by have h8 := HF.out.few; have h9 := HF.out.tx.le; have h10 := HF.out.tx.few; omega
              have HLV : Hid (∀ w', Below wr.heap.size wr w' → ∀ u : Tok, (ba u.2.2).size ≤ maxLen → Calls Tryz.prog 41 #[.string (ba u.2.2)] w' fun x w'' => x = .returned (.int .i64 (Par.levF u.2.2 : Int)) ∧ Below wr.heap.size wr w'') := by
                intro w' hb u hu9
                refine (levelD _ hu9 w').mono ?_
                rintro x9 w9 ⟨rfl, hb9⟩
                rw [ba_list]
                exact ⟨rfl, hb.trans (hb9.mono hb.size)⟩
              have hwq : IntKind.i64.wrap (us'.length : Int) = (us'.length : Int) := by rw [IntKind.wrap_i64]; omega
              have hwp : IntKind.i64.wrap ((us'.length : Int) + 1 - 1) = (us'.length : Int) := by rw [IntKind.wrap_i64]; omega
              have hbq : ¬ ((us'.length : Int) + 1 ≤ (us'.length : Int)) := by omega
              have hbp : ¬ ((us'.length : Int) < 0) := by omega
              have hpq : decide ((0 : Int) < (us'.length : Int) + 1) = true := decide_eq_true (by omega)
              rw [lenq] at HGS
              clear HF HSk q1 q2 q3 hvq hgBq hgbq hncq hcmq hcsq htkq hl3 hck hck1 hu lenq
              refine wp_region_held_drew (S := fun w' => Below wr.heap.size wr w') (by kernel_rfl) (bel_drew (Below.refl _ _)) (fun hHeld => ?_)
              refine heldD (i := 0) 22 (v := .slice (some ⟨gq, 0, none⟩) (us'.length + 1) cp) rfl rfl (by kernel_rfl) (by kernel_rfl) (by kernel_rfl) (fun _ _ _ h => h) (Or.inl ⟨by rfl, fun W' hw => by have hl := HGS.out W' hw; clear hw; go_simp⟩) hHeld ?_
              simp only [Act.put, List.setIfInBounds_toArray, List.set_cons_succ, List.set_cons_zero]
              refine heldD (i := 1) 23 (v := .int .i64 ((us'.length : Int) + 1)) rfl rfl (by kernel_rfl) (by kernel_rfl) (by kernel_rfl) (fun _ _ _ h => h) (Or.inl ⟨by rfl, fun W' hw => by clear hw; go_simp⟩) hHeld ?_
              simp only [Act.put, List.setIfInBounds_toArray, List.set_cons_succ, List.set_cons_zero]
              refine heldD (i := 2) 24 (v := .bool true) rfl rfl (by kernel_rfl) (by kernel_rfl) (by kernel_rfl) (fun _ _ _ h => h) (Or.inl ⟨by rfl, fun W' hw => by clear hw; go_simp⟩) hHeld ?_
              simp only [Act.put, List.setIfInBounds_toArray, List.set_cons_succ, List.set_cons_zero]
              refine heldD (i := 3) 25 (v := .bool true) rfl rfl (by kernel_rfl) (by kernel_rfl) (by kernel_rfl) (fun _ _ _ h => h) (Or.inl ⟨by rfl, fun W' hw => by clear hw; go_simp⟩) hHeld ?_
              simp only [Act.put, List.setIfInBounds_toArray, List.set_cons_succ, List.set_cons_zero]
              refine heldD (i := 4) 26 (v := .slice (some ⟨gq, 0, none⟩) (us'.length + 1) cp) rfl rfl (by kernel_rfl) (by kernel_rfl) (by kernel_rfl) (fun _ _ _ h => h) (Or.inl ⟨by simp [Region.wanted, yielded], fun W' hw => by have hl := HGS.out W' hw; clear hw; go_simp⟩) hHeld ?_
              simp only [Act.put, List.setIfInBounds_toArray, List.set_cons_succ, List.set_cons_zero]
              refine heldD (i := 5) 27 (v := .slice (some ⟨gq, 0, none⟩) (us'.length + 1) cp) rfl rfl (by kernel_rfl) (by kernel_rfl) (by kernel_rfl) (fun _ _ _ h => h) (Or.inl ⟨by simp [Region.wanted, yielded], fun W' hw => by have hl := HGS.out W' hw; clear hw; go_simp⟩) hHeld ?_
              simp only [Act.put, List.setIfInBounds_toArray, List.set_cons_succ, List.set_cons_zero]
              refine heldD (i := 6) 28 (v := .int .i64 ((us'.length : Int) + 1)) rfl rfl (by kernel_rfl) (by kernel_rfl) (by kernel_rfl) (fun _ _ _ h => h) (Or.inl ⟨by simp [Region.wanted, yielded], fun W' hw => by clear hw; go_simp⟩) hHeld ?_
              simp only [Act.put, List.setIfInBounds_toArray, List.set_cons_succ, List.set_cons_zero]
              refine heldD (i := 7) 29 (v := .int .i64 (us'.length : Int)) rfl rfl (by kernel_rfl) (by kernel_rfl) (by kernel_rfl) (fun _ _ _ h => h) (Or.inl ⟨by simp [Region.wanted, yielded], fun W' hw => by clear hw; go_simp⟩) hHeld ?_
              simp only [Act.put, List.setIfInBounds_toArray, List.set_cons_succ, List.set_cons_zero]
              refine heldD (i := 8) 30 (v := .pointer (some ⟨gq, us'.length * 3, none⟩)) rfl rfl (by kernel_rfl) (by kernel_rfl) (by kernel_rfl) (fun _ _ _ h => h) (Or.inl ⟨by simp [Region.wanted, yielded], fun W' hw => by clear hw; go_simp⟩) hHeld ?_
              simp only [Act.put, List.setIfInBounds_toArray, List.set_cons_succ, List.set_cons_zero]
              refine heldD (i := 9) 31 (v := .pointer (some ⟨gq, us'.length * 3 + 2, none⟩)) rfl rfl (by kernel_rfl) (by kernel_rfl) (by kernel_rfl) (fun _ _ _ h => h) (Or.inl ⟨by simp [Region.wanted, yielded], fun W' hw => by clear hw; go_simp⟩) hHeld ?_
              simp only [Act.put, List.setIfInBounds_toArray, List.set_cons_succ, List.set_cons_zero]
              refine heldD (i := 10) 32 (v := .string (ba s.2.2)) rfl rfl (by kernel_rfl) (by kernel_rfl) (by kernel_rfl) (fun _ _ _ h => h) (Or.inl ⟨by simp [Region.wanted, yielded], fun W' hw => by have hl := HS2.out W' hw; clear hw; go_simp⟩) hHeld ?_
              simp only [Act.put, List.setIfInBounds_toArray, List.set_cons_succ, List.set_cons_zero]
              refine heldD (i := 12) 34 (v := .pointer (some ⟨K, 2, none⟩)) rfl rfl (by kernel_rfl) (by kernel_rfl) (by kernel_rfl) (fun _ _ _ h => h) (Or.inl ⟨by simp [Region.wanted, yielded], fun W' hw => by clear hw; go_simp⟩) hHeld ?_
              simp only [Act.put, List.setIfInBounds_toArray, List.set_cons_succ, List.set_cons_zero]
              refine heldD (i := 13) 35 (v := .string (ba t.2.2)) rfl rfl (by kernel_rfl) (by kernel_rfl) (by kernel_rfl) (fun _ _ _ h => h) (Or.inl ⟨by simp [Region.wanted, yielded], fun W' hw => by have hl := HK2.out W' hw; clear hw; go_simp⟩) hHeld ?_
              simp only [Act.put, List.setIfInBounds_toArray, List.set_cons_succ, List.set_cons_zero]
              have hlvS := HLV.out
              refine wpAnyH_ready (rs := [11]) (by kernel_rfl) (by simp) ?_
              refine AllReadyH.cons rfl (fun K' hK' => ?_) AllReadyH.nil
              · go_simp
                go_at_call 41
                refine (hlvS _ hHeld s HSZ.out).mono ?_
                rintro x9 w9 ⟨rfl, hb9⟩
                refine hK'.out _ _ hb9 (fun _ => ?_)
                clear hK' K'
                try simp only [Act.put, List.setIfInBounds_toArray, List.set_cons_succ, List.set_cons_zero]
                refine wpAnyH_ready (rs := [14]) (by kernel_rfl) (by simp) ?_
                refine AllReadyH.cons rfl (fun K' hK' => ?_) AllReadyH.nil
                go_simp
                go_at_call 41
                refine (hlvS _ hb9 t HTS.out).mono ?_
                rintro x8 w8 ⟨rfl, hb8⟩
                refine hK'.out _ _ hb8 (fun _ => ?_)
                clear hK' K'
                try simp only [Act.put, List.setIfInBounds_toArray, List.set_cons_succ, List.set_cons_zero]
                refine heldD (i := 15) 37 (v := .bool (decide ((Par.levF t.2.2 : Int) ≤ (Par.levF s.2.2 : Int)))) rfl rfl (by kernel_rfl) (by kernel_rfl) (by kernel_rfl) (fun _ _ _ h => h) (Or.inl ⟨by simp [Region.wanted, yielded], fun W' hw => by clear hw; go_simp⟩) hb8 ?_
                simp only [Act.put, List.setIfInBounds_toArray, List.set_cons_succ, List.set_cons_zero]
                refine heldD (i := 16) 38 (v := .bool (decide ((Par.levF t.2.2 : Int) ≤ (Par.levF s.2.2 : Int)))) rfl rfl (by kernel_rfl) (by kernel_rfl) (by kernel_rfl) (fun _ _ _ h => h) (Or.inl ⟨by rfl, fun W' hw => by clear hw; go_simp⟩) hb8 ?_
                simp only [Act.put, List.setIfInBounds_toArray, List.set_cons_succ, List.set_cons_zero]
                refine wpAnyH_done (by kernel_rfl) ?_ _
                go_wp2_with fail
                go_meet
                refine ⟨?_, hb8⟩
                rw [topB_snoc]
                congr 1
          case rest =>
            obtain ⟨rfl, HBc⟩ := hcut
            have HLc : Hid (ExL w wc tb e ts v bl al R L G K t (Par.popS (Par.stk xs ss) x (Par.lvT t)) ys y us k1 c1 p1) := HF.out.step HBc.out hLn hGn
            have HMr : Hid (gLen wr G = us.length) := HSk.out.gLen
            obtain ⟨lv9, sv9, hs9⟩ := HLc.out.stk
            have HS9 : Hid (Stk (Okd R) wc (w.heap.size + 1) L G lv9 sv9 (ys ++ [y]) us) := hs9
            clear hs9 HF HSk HGS HK2 HBc
            by_cases hb : topB us (Par.lvT t) = true
            · rw [hb]
              obtain ⟨us', s, rfl⟩ := last_of (l := us) (by rintro rfl; simp [topB] at hb)
              have hlen := HLc.out.len
              obtain ⟨ys', o, rfl⟩ := last_of (l := ys) (by rintro rfl; simp at hlen)
              rw [topB_snoc] at hb
              have HLE : Hid (Par.lvT t ≤ Par.lvT s) := by show _ ≤ _; exact of_decide_eq_true hb
              have hsk : Stk (Okd R) wc (w.heap.size + 1) L G lv9 sv9 (ys' ++ [o, y]) (us' ++ [s]) := by
                have h9 := HS9.out
                rwa [List.append_assoc] at h9
              have hlen' : ys'.length = us'.length := by simpa using hlen
              have hfe : us'.length ≤ 100000 := by have h8 := HLc.out.few; have h9 := HLc.out.tx.le; have h10 := HLc.out.tx.few; simp at h8; omega
              have hput := putD (by have := HLc.out.gr.size; have := lt_of_block HLc.out.res; omega) hsk (by omega) hfe
              clear hsk hlen hlen' hfe hb
              go_wp2_with fail
              refine hput.mono ?_
              rintro r w9 ⟨rfl, hoth, lv', sv', hs9⟩
              have HN : Hid (ExL w w9 tb e ts v bl al R L G K t (Par.popS (Par.stk xs ss) x (Par.lvT t)) ys' (Par.opT s [o, y]) us' k1 c1 p1) := exl_put H.out hLn hGn HLc.out HLE.out hoth hs9
              have HM9 : Hid (gLen w9 G = us'.length) := hs9.gLen
              clear hoth hs9 hput
              go_wp2
              exact ⟨⟨_, _, _, HN.out⟩, by rw [HM9.out, HMr.out]; simp⟩
            · have hb' : topB us (Par.lvT t) = false := by simpa using hb
              rw [hb']
              have HE : Hid (Par.popS (Par.stk xs ss) x (Par.lvT t) = (Par.stk ys us, y)) := exl_end HLc.out hb'
              clear hb hb' HMr
              have hkl := HLc.out.kl
              obtain ⟨hgn, htn⟩ := HLc.out.tx.next hkl
              obtain ⟨wn, hwn⟩ : ∃ wn, wn = wc.setCell ⟨tb, 1, none⟩ (.int .i64 ((k1 : Int) + 1)) := ⟨_, rfl⟩
              rw [← hwn] at hgn htn
              have hkb : k1 ≤ 100000 := by have h9 := HLc.out.tx.le; have h10 := HLc.out.tx.few; omega
              obtain ⟨q0, q1, _⟩ := HLc.out.tx.cells
              have zq := HLc.out.tx.free 1
              have ltb := HLc.out.tx.lt
              have HGn : Hid (wc.grownBy wn (some tb)) := hgn
              have HTn : Hid (Tx wn tb e ts v (k1 + 1) c1 p1 bl al) := htn
              have HSn : Hid (Stk (Okd R) wn (w.heap.size + 1) L G lv9 sv9 (ys ++ [y]) us) := HS9.out.grown hgn (by omega) (by omega) (by omega)
              have HKn : Hid (wn.heap[K]? = some (.cells #[.int .i64 t.1, .int .i64 (t.2.1 : Int), .string (ba t.2.2)] 80 (0, 0))) := by
                have h9 := HLc.out.tok
                refine (hgn.block _ (lt_of_block h9) ?_).trans h9
                simp
                rintro rfl
                have := HLc.out.tx.blk.symm.trans h9
                simp at this
              clear hgn htn hkl
              go_upto_region 9 with fail
              rw [← hwn]
              clear hwn q0 q1 zq
              obtain ⟨aoS, cpS, rfl⟩ := HSn.out.go.slice
              obtain ⟨csn, r1, r2, r3⟩ := HSn.out.go.ex
              have HPn : Hid (wn.ownsRow (w.heap.size + 1) 80 3 (.slice aoS us.length cpS) us.length csn.flatten) := r1
              have HPl : Hid (csn.length = us.length) := r2
              have HPe : Hid (∀ i (h : i < us.length) (h' : i < csn.length), ElK wn (SB (w.heap.size + 1) (.slice aoS us.length cpS)) us[i] csn[i]) := r3
              have g0 : wn.cell? ⟨G, 0, none⟩ = some (.slice aoS us.length cpS) := by have h9 := HSn.out.gb; simp [World.cell?, h9]
              obtain ⟨⟨t0, t1, t2⟩, _⟩ := blk3 HKn.out
              have lGn : G < wn.heap.size := lt_of_block HSn.out.gb
              have lKn : K < wn.heap.size := lt_of_block HKn.out
              have hfn : us.length ≤ 100000 := by have h9 := HLc.out.few; omega
              have hBn : w.heap.size + 1 ≤ wn.heap.size := by omega
              obtain ⟨i0, hi0, hz0, hz1, hz2⟩ := info_parts Tryz.infoTok
              clear r1 r2 r3
              go_upto_region 10 with (at_builtin; refine wpList_append_own_at _ rfl _ _ 59 rfl (w.heap.size + 1) 80 i0 (.agg #[.int .i64 0, .int .i64 0, .string ⟨#[]⟩]) 3 32 Tryz.underlying59 hi0 hz0 hz1 hz2 rfl (by decide) _ _ _ rfl (World.ownsRow.alloc HPn.out _) ⟨wn.heap.size, 0, none⟩ 1 1 [.int .i64 t.1, .int .i64 (t.2.1 : Int), .string (ba t.2.2)] rfl rfl ?c1 ?c2 ?c3 ?c4 ?c5 ?_)
              case c1 => exact newK _ _
              case c2 => intro u hu; simp only [List.mem_cons, List.not_mem_nil, or_false] at hu; rcases hu with rfl | rfl | rfl <;> rfl
              case c3 => unfold maxLen; omega
              case c4 => omega
              case c5 => simp; omega
              intro u' w8 hown8 hgrow8 _ hat8
              obtain ⟨ao8, c8, hu8⟩ : ∃ ao8 c8, u' = .slice ao8 (us.length + 1) c8 := by
                rcases hown8.2 with ⟨hv, h0⟩ | ⟨g, cap, cur, rfl, _⟩
                · exact ⟨none, 0, by rw [hv, h0]⟩
                · exact ⟨_, cap, rfl⟩
              subst hu8
              have H10 : Hid (Stk (Okd R) (w8.setCell ⟨G, 0, none⟩ (.slice ao8 (us.length + 1) c8)) (w.heap.size + 1) L G lv9 (.slice ao8 (us.length + 1) c8) (ys ++ [y]) (us ++ [t])) := sgn_push HSn.out hBn HTS.out HPl.out HPn.out HPe.out hown8 hgrow8 (by simpa using hat8)
              have gb8 : w8.heap[G]? = some (.cells #[.slice aoS us.length cpS] 59 (0, 0)) := by
                have h9 := HSn.out.gb
                rw [hgrow8.block G (by simp; omega) (own_ne HPn.out h9 (by decide)), heap_past_alloc h9]
              have gc8 : w8.cell? ⟨G, 0, none⟩ = some (.slice aoS us.length cpS) := by simp [World.cell?, gb8]
              have gz8 : w8.frozen? ⟨G, 0, none⟩ = false := by simp [World.frozen?, gb8]
              have hbA : Below wn.heap.size wn (wn.alloc (.cells #[.int .i64 t.1, .int .i64 (t.2.1 : Int), .string (ba t.2.2)] 80)) := (Below.refl _ _).alloc (Nat.le_refl _) _
              have hb8 : Below w.heap.size wn w8 := (hbA.mono (by omega)).grown hgrow8 (by have := hbA.size; omega) (fun k hk => by have := (HPn.out.lt k hk).1; omega)
              obtain ⟨w10, hw10⟩ : ∃ w10, w10 = w8.setCell ⟨G, 0, none⟩ (.slice ao8 (us.length + 1) c8) := ⟨_, rfl⟩
              have hb10 : Below w.heap.size wn w10 := by rw [hw10]; exact hb8.setCell (by show w.heap.size ≤ G; omega) _
              have HG10 : Hid (w.grownBy w10 (some tb)) := grown_under (HLc.out.gr.trans HGn.out) hb10
              have HT10 : Hid (Tx w10 tb e ts v (k1 + 1) c1 p1 bl al) := H.out.past (HLc.out.gr.trans HGn.out) HTn.out hb10
              have HR10 : Hid (w10.heap[w.heap.size]? = some (.cells ZE 26 (0, 0))) := by
                have h9 := HLc.out.res
                have h8 : wn.heap[w.heap.size]? = some (.cells ZE 26 (0, 0)) := (HGn.out.block _ (lt_of_block h9) (by simp; omega)).trans h9
                show _ = _
                rw [hw10, Below.heap_setCell _ _ _ _ (by show w.heap.size ≠ G; omega), hgrow8.block _ (by simp; omega) (own_ne HPn.out h8 (by decide)), heap_past_alloc h8]
              clear hown8 hgrow8 hat8 gb8 hbA hb8 hb10
              go_upto_region 10 with fail
              rw [← hw10] at H10 ⊢
              clear hw10 HSn HPn HPl HPe HKn HTn HGn HS9 g0 t0 t1 t2 gc8 gz8
              -- region 10: the next operand; then Par.cont_step, or cont_fail
              have hc0 : c1 = 0 := by
                rcases HIc.out.on with ⟨h9, _⟩ | ⟨_, h9, _⟩
                · exact h9
                · have h8 := HKL.out; omega
              subst hc0
              have HCO : Hid (Par.Cont P R (Par.stk xs ss) x (ts.drop k1)) := by
                show Par.Cont _ _ _ _ _
                rcases HIc.out.on with ⟨_, h9⟩ | ⟨h9, _⟩
                · exact h9
                · exact absurd rfl h9
              have HLen : Hid (ys.length = us.length) := HLc.out.len
              have hfw := HLc.out.few
              obtain ⟨aoL, cpL, rfl⟩ := H10.out.lo.slice
              have lenx : (ys ++ [y]).length = ys.length + 1 := by simp
              have HLC : Hid (w10.cell? ⟨L, 0, none⟩ = some (.slice aoL (ys.length + 1) cpL)) := by
                have h9 := H10.out.lb
                rw [lenx] at h9
                show _ = _
                simp [World.cell?, h9]
              clear HIc HLc
              have hyl : ys.length ≤ 100000 := by have h9 := HLen.out; omega
              have hbq : ¬ ((ys.length : Int) + 1 ≤ (ys.length : Int)) := by omega
              have hbp : (0 : Int) ≤ (ys.length : Int) + 1 := by omega
              have lL10 : L < w10.heap.size := lt_of_block H10.out.lb
              refine region_anyL (T := fun w' => w'.cell? ⟨L, 0, none⟩ = some (.slice aoL (ys.length + 1) cpL)) 5 (by kernel_rfl) ?_
              have hT : w10.drew.cell? ⟨L, 0, none⟩ = some (.slice aoL (ys.length + 1) cpL) := HLC.out
              refine anyL_take (i := 0) 52 (v := .slice aoL (ys.length + 1) cpL) rfl rfl (by kernel_rfl) (by kernel_rfl) (by kernel_rfl) (by kernel_rfl) (fun _ _ _ h => h) (Or.inl ⟨by rfl, fun W' hw => by go_simp⟩) hT ?_
              simp only [Act.put, List.setIfInBounds_toArray, List.set_cons_succ, List.set_cons_zero]
              refine anyL_take (i := 1) 53 (v := .pointer (some ⟨tb, 0, none⟩)) rfl rfl (by kernel_rfl) (by kernel_rfl) (by kernel_rfl) (by kernel_rfl) (fun _ _ _ h => h) (Or.inl ⟨by rfl, fun W' hw => by go_simp⟩) hT ?_
              simp only [Act.put, List.setIfInBounds_toArray, List.set_cons_succ, List.set_cons_zero]
              refine anyL_take (i := 3) 55 (v := .int .i64 ((ys.length : Int) + 1)) rfl rfl (by kernel_rfl) (by kernel_rfl) (by kernel_rfl) (by kernel_rfl) (fun _ _ _ h => h) (Or.inl ⟨by rfl, fun W' hw => by go_simp⟩) hT ?_
              simp only [Act.put, List.setIfInBounds_toArray, List.set_cons_succ, List.set_cons_zero]
              clear hT
              refine anyL_two (i := 2) (j := 4) (by kernel_rfl) rfl rfl (fun K' hK => ?_) (fun K' hK => ?_)
              · go_simp
                go_at_call 38
                refine (HP.out w10.drew (k1 + 1) p1 (HT10.out.later (bel_drew (Below.refl _ _)))).mono ?_
                intro x9 w11 hp9
                obtain ⟨hg11, a0, a1, a2, a3, a4, a5, b5, e5, a6, b6, e6, rfl, hcs⟩ := exd_cases hp9
                obtain ⟨a9, k9, c9, p9, hn9⟩ := exn_of HSf.out HCO.out HKL.out HTk.out HL0.out HE.out HLen.out hcs
                clear hcs hp9
                have hT11 : w11.cell? ⟨L, 0, none⟩ = some (.slice aoL (ys.length + 1) cpL) := (World.cell?_of_block (a := ⟨L, 0, none⟩) (hg11.block L lL10 (by simp; omega))).trans HLC.out
                refine hK.out _ _ (fun _ => hT11) ?_
                clear hK K'
                try simp only [Act.put, List.setIfInBounds_toArray, List.set_cons_succ, List.set_cons_zero]
                refine anyL_one (i := 4) (by kernel_rfl) rfl (fun K' hK => ?_)
                go_simp
                refine hK.out _ _ (fun _ => (World.cell?_of_block (a := ⟨L, 0, none⟩) (Below.heap_alloc _ _ L (Nat.lt_of_lt_of_le lL10 hg11.size))).trans hT11) ?_
                clear hK K'
                try simp only [Act.put, List.setIfInBounds_toArray, List.set_cons_succ, List.set_cons_zero]
                obtain ⟨wm, hwm⟩ : ∃ wm, wm = w11.alloc (.cells #[.int .i64 0, .int .i64 0, .int .i64 0, .int .i64 0, .string ⟨#[]⟩, .slice none 0 0, .slice none 0 0] 26) := ⟨_, rfl⟩
                obtain ⟨Z9, hZ9⟩ : ∃ Z9, Z9 = w11.heap.size := ⟨_, rfl⟩
                have hbm : Below w11.heap.size w11 wm := by rw [hwm]; exact (Below.refl _ _).alloc (Nat.le_refl _) _
                have HNm : Hid (ExN wm tb e ts v bl al P R (ys ++ [y]) (us ++ [t]) k1 w10.heap.size [.int .i64 a0, .int .i64 a1, .int .i64 a2, .int .i64 a3, .string a4, .slice a5 b5 e5, .slice a6 b6 e6] a9 k9 c9 p9) := hn9.later hbm
                have HGm : Hid (w10.grownBy wm (some tb)) := World.grownBy.trans (b := w11) ⟨hg11.os, hg11.tape, hg11.output, hg11.size, hg11.block⟩ ⟨hbm.os, hbm.tape, hbm.output, hbm.size, fun j hj _ => hbm.block j hj⟩
                have HZ : Hid (∀ j u, ([.int .i64 0, .int .i64 0, .int .i64 0, .int .i64 0, .string ⟨#[]⟩, .slice none 0 0, .slice none 0 0] : List Value)[j]? = some u → wm.cell? ((⟨Z9, 0, none⟩ : Addr).add j) = some u) := by show ∀ j u, _; rw [hwm, hZ9]; exact newE _ _
                rw [← hwm, ← hZ9]
                clear hwm hZ9 hbm hn9 hT11 hg11
                have hgz := HGm.out.size
                have hSm := H10.out.grown HGm.out (by omega) (by omega) (by omega)
                obtain ⟨cs9, o1, o2, o3⟩ := hSm.lo.ex
                have HO1 : Hid (wm.ownsRow (w.heap.size + 1) 26 7 (.slice aoL (ys ++ [y]).length cpL) (ys ++ [y]).length cs9.flatten) := o1
                have HO2 : Hid (cs9.length = (ys ++ [y]).length) := o2
                have HO3 : Hid (∀ i (h : i < (ys ++ [y]).length) (h' : i < cs9.length), ElX (Okd R) L G (.slice ao8 (us.length + 1) c8) wm (SB (w.heap.size + 1) (.slice aoL (ys ++ [y]).length cpL)) (ys ++ [y])[i] cs9[i]) := o3
                have HSm : Hid (Stk (Okd R) wm (w.heap.size + 1) L G (.slice aoL (ys ++ [y]).length cpL) (.slice ao8 (us.length + 1) c8) (ys ++ [y]) (us ++ [t])) := hSm
                rw [lenx] at o1
                clear hSm o2 o3
                obtain ⟨i1, hi1, hy0, hy1, hy2⟩ := info_parts Tryz.infoLE
                refine anyL_one (i := 5) (by kernel_rfl) rfl (fun K' hK => ?_)
                refine step_append_lies _ rfl (.tmp 52) (.tmp 56) 24 rfl (w.heap.size + 1) 26 i1 (.agg #[.int .i64 0, .int .i64 0, .int .i64 0, .int .i64 0, .string ⟨#[]⟩, .slice none 0 0, .slice none 0 0]) 7 96 Tryz.underlying24 hi1 hy0 hy1 hy2 rfl (by decide) (.slice aoL (ys.length + 1) cpL) (ys.length + 1) cs9.flatten (by simp [Act.eval]) o1 ⟨Z9, 0, none⟩ 1 1 [.int .i64 0, .int .i64 0, .int .i64 0, .int .i64 0, .string ⟨#[]⟩, .slice none 0 0, .slice none 0 0] (by simp [Act.eval]) rfl HZ.out (by intro u hu; simp only [List.mem_cons, List.not_mem_nil, or_false] at hu; rcases hu with rfl | rfl | rfl | rfl | rfl | rfl | rfl <;> rfl) (by omega) (by unfold maxLen; omega) (by omega) (by omega) _ rfl ?_
                intro g9 q9 w9 hown9 hgrow9 hat9 hlt9
                refine hK.out _ _ (fun h => absurd h (by omega)) ?_
                clear hK K'
                try simp only [Act.put, List.setIfInBounds_toArray]
                have hx1 : (((ys ++ [y]).length : Nat) : Int) = (ys.length : Int) + 1 := by rw [lenx]; omega
                have cf := HO1.out.1
                have hown9' : w9.ownsRow (w.heap.size + 1) 26 7 (.slice (some ⟨g9, 0, none⟩) ((ys ++ [y]).length + 1) q9) ((ys ++ [y]).length + 1) (cs9.flatten ++ [.int .i64 0, .int .i64 0, .int .i64 0, .int .i64 0, .string ⟨#[]⟩, .slice none 0 0, .slice none 0 0]) := by rw [lenx]; exact hown9
                have zc : ∀ j, j < 7 → w9.cell? ⟨g9, (ys.length + 1) * 7 + j, none⟩ = ([.int .i64 0, .int .i64 0, .int .i64 0, .int .i64 0, .string ⟨#[]⟩, .slice none 0 0, .slice none 0 0] : List Value)[j]? := fun j hj => by
                  rw [hown9.cellAt _ (by omega), List.getElem?_append_right (by rw [cf, lenx]; omega), cf, lenx]
                  congr 1
                  omega
                have zc0 : w9.cell? ⟨g9, (ys.length + 1) * 7, none⟩ = some (.int .i64 0) := zc 0 (by omega)
                have zc1 : w9.cell? ⟨g9, (ys.length + 1) * 7 + 1, none⟩ = some (.int .i64 0) := zc 1 (by omega)
                have zc2 : w9.cell? ⟨g9, (ys.length + 1) * 7 + 2, none⟩ = some (.int .i64 0) := zc 2 (by omega)
                have zc3 : w9.cell? ⟨g9, (ys.length + 1) * 7 + 3, none⟩ = some (.int .i64 0) := zc 3 (by omega)
                have zc4 : w9.cell? ⟨g9, (ys.length + 1) * 7 + 4, none⟩ = some (.string ⟨#[]⟩) := zc 4 (by omega)
                have zc5 : w9.cell? ⟨g9, (ys.length + 1) * 7 + 5, none⟩ = some (.slice none 0 0) := zc 5 (by omega)
                have zc6 : w9.cell? ⟨g9, (ys.length + 1) * 7 + 6, none⟩ = some (.slice none 0 0) := zc 6 (by omega)
                have zf := hown9.frozenAt
                have zf0 := zf ((ys.length + 1) * 7)
                have zf1 := zf ((ys.length + 1) * 7 + 1)
                have zf2 := zf ((ys.length + 1) * 7 + 2)
                have zf3 := zf ((ys.length + 1) * 7 + 3)
                have zf4 := zf ((ys.length + 1) * 7 + 4)
                have zf5 := zf ((ys.length + 1) * 7 + 5)
                have zf6 := zf ((ys.length + 1) * 7 + 6)
                have hgrow9' : wm.grownBy w9 (Value.slice aoL (ys ++ [y]).length cpL).ownBlock := by rw [lenx]; exact hgrow9
                have hat9' : (Value.slice aoL (ys ++ [y]).length cpL).ownBlock = some g9 ∨ g9 = wm.heap.size := by rw [lenx]; exact hat9
                obtain ⟨nL9, hfin⟩ := ex_fin (P := P) H.out hLn HG10.out HR10.out H10.out HGm.out HNm.out HLen.out hfw HSm.out HO2.out HO1.out HO3.out hown9' hgrow9' hat9'
                rw [lenx] at hfin
                have HFin : Hid (ExI w ((set7o w9 g9 ((ys.length + 1) * 7) (.int .i64 a0) (.int .i64 a1) (.int .i64 a2) (.int .i64 a3) (.string a4) (.slice a5 b5 e5) (.slice a6 b6 e6)).setCell ⟨L, 0, none⟩ (.slice (some ⟨g9, 0, none⟩) (ys.length + 1 + 1) q9)) tb e ts v bl al P R L G (ys ++ [y]) a9 (us ++ [t]) k9 c9 p9) := hfin
                have hLb : w9.heap[L]? = some (.cells #[.slice aoL (ys ++ [y]).length cpL] 24 (0, 0)) := (hgrow9'.block L (Nat.lt_of_lt_of_le lL10 hgz) (own_ne HO1.out HSm.out.lb (by decide))).trans HSm.out.lb
                have lL9 : w9.cell? ⟨L, 0, none⟩ = some (.slice aoL (ys ++ [y]).length cpL) := by simp [World.cell?, hLb]
                have lz9 : w9.frozen? ⟨L, 0, none⟩ = false := by simp [World.frozen?, hLb]
                have hlq : L < w9.heap.size := lt_of_block hLb
                clear hfin hown9 hown9' hgrow9 hat9 hgrow9' hat9' hLb zc zf cf o1 HO1 HO2 HO3 HSm
                have hM : ts.length - k9 < ts.length - k1 := by have h8 := HNm.out.gt; have h9 := HKL.out; omega
                refine anyL_free (i := 6) 58 (v := .pointer (some ⟨g9, (ys.length + 1) * 7, none⟩)) rfl rfl (by omega) (by kernel_rfl) (by kernel_rfl) (by kernel_rfl) (fun _ _ _ h => h) (Or.inl ⟨by rfl, fun W' hw => by clear hw; go_simp⟩) ?_
                try simp only [Act.put]
                refine anyL_two (i := 7) (j := 8) (by kernel_rfl) rfl rfl (fun K' hK => ?_) (fun K' hK => ?_)
                · go_simp
                  refine hK.out _ _ (fun h => absurd h (by omega)) ?_
                  clear hK K'
                  refine anyL_one (i := 8) (by kernel_rfl) rfl (fun K' hK => ?_)
                  go_simp
                  refine hK.out _ _ (fun h => absurd h (by omega)) ?_
                  clear hK K'
                  refine anyK_done (by kernel_rfl) ?_ _
                  have h9 := HFin.out
                  go_wp2
                  exact ⟨⟨_, _, _, _, _, _, h9⟩, ex_less h9.tx HI.out.tx hM⟩
                · go_simp
                  refine hK.out _ _ (fun h => absurd h (by omega)) ?_
                  clear hK K'
                  refine anyL_one (i := 7) (by kernel_rfl) rfl (fun K' hK => ?_)
                  go_simp
                  refine hK.out _ _ (fun h => absurd h (by omega)) ?_
                  clear hK K'
                  refine anyK_done (by kernel_rfl) ?_ _
                  have h9 := HFin.out
                  rw [← set7o_comm _ _ nL9] at h9
                  go_wp2
                  exact ⟨⟨_, _, _, _, _, _, h9⟩, ex_less h9.tx HI.out.tx hM⟩
              · go_simp
                obtain ⟨wB, hwB⟩ : ∃ wB, wB = (w10.alloc (.cells #[.int .i64 0, .int .i64 0, .int .i64 0, .int .i64 0, .string ⟨#[]⟩, .slice none 0 0, .slice none 0 0] 26)).drew := ⟨_, rfl⟩
                rw [← hwB]
                have hbB : Below w10.heap.size w10 wB := by rw [hwB]; exact bel_drew (bel_alloc (Below.refl _ _) _ (Nat.le_refl _))
                have hzB : ∀ j u, ([.int .i64 0, .int .i64 0, .int .i64 0, .int .i64 0, .string ⟨#[]⟩, .slice none 0 0, .slice none 0 0] : List Value)[j]? = some u → wB.cell? ((⟨w10.heap.size, 0, none⟩ : Addr).add j) = some u := by rw [hwB]; exact newE w10 _
                have hsB : wB.heap.size = w10.heap.size + 1 := by rw [hwB]; show (w10.heap.push _).size = _; rw [Array.size_push]
                have hTB : wB.cell? ⟨L, 0, none⟩ = some (.slice aoL (ys.length + 1) cpL) := (World.cell?_of_block (a := ⟨L, 0, none⟩) (hbB.block L lL10)).trans HLC.out
                have HZB : Hid (∀ j u, ([.int .i64 0, .int .i64 0, .int .i64 0, .int .i64 0, .string ⟨#[]⟩, .slice none 0 0, .slice none 0 0] : List Value)[j]? = some u → wB.cell? ((⟨w10.heap.size, 0, none⟩ : Addr).add j) = some u) := hzB
                have HTB : Hid (Tx wB tb e ts v (k1 + 1) 0 p1 bl al) := HT10.out.later hbB
                have HBB : Hid (Below w10.heap.size w10 wB) := hbB
                have HSB : Hid (wB.heap.size = w10.heap.size + 1) := hsB
                clear hwB hzB hbB hsB
                refine hK.out _ _ (fun _ => hTB) ?_
                clear hK K'
                try simp only [Act.put, List.setIfInBounds_toArray, List.set_cons_succ, List.set_cons_zero]
                refine anyL_one (i := 2) (by kernel_rfl) rfl (fun K' hK => ?_)
                go_simp
                go_at_call 38
                refine (HP.out wB (k1 + 1) p1 HTB.out).mono ?_
                intro x9 w11 hp9
                obtain ⟨hg11, a0, a1, a2, a3, a4, a5, b5, e5, a6, b6, e6, rfl, hcs⟩ := exd_cases hp9
                obtain ⟨a9, k9, c9, p9, hn9⟩ := exn_of HSf.out HCO.out HKL.out HTk.out HL0.out HE.out HLen.out hcs
                clear hcs hp9
                have hT11 : w11.cell? ⟨L, 0, none⟩ = some (.slice aoL (ys.length + 1) cpL) := (World.cell?_of_block (a := ⟨L, 0, none⟩) (hg11.block L (by have h9 := HSB.out; omega) (by simp; omega))).trans hTB
                refine hK.out _ _ (fun _ => hT11) ?_
                clear hK K'
                try simp only [Act.put, List.setIfInBounds_toArray, List.set_cons_succ, List.set_cons_zero]
                obtain ⟨Z9, hZ9⟩ : ∃ Z9, Z9 = w10.heap.size := ⟨_, rfl⟩
                have HNm : Hid (ExN w11 tb e ts v bl al P R (ys ++ [y]) (us ++ [t]) k1 w10.heap.size [.int .i64 a0, .int .i64 a1, .int .i64 a2, .int .i64 a3, .string a4, .slice a5 b5 e5, .slice a6 b6 e6] a9 k9 c9 p9) := ⟨hn9.gt, hn9.tx, fun o => (hn9.tr o).mono fun b hb _ => by have h9 := HSB.out; omega, hn9.on⟩
                have HGm : Hid (w10.grownBy w11 (some tb)) := World.grownBy.trans (b := wB) ⟨HBB.out.os, HBB.out.tape, HBB.out.output, HBB.out.size, fun j hj _ => HBB.out.block j hj⟩ hg11
                have HZ : Hid (∀ j u, ([.int .i64 0, .int .i64 0, .int .i64 0, .int .i64 0, .string ⟨#[]⟩, .slice none 0 0, .slice none 0 0] : List Value)[j]? = some u → w11.cell? ((⟨Z9, 0, none⟩ : Addr).add j) = some u) := by
                  show ∀ j u, _
                  intro j u hj
                  rw [hZ9]
                  have ltb0 := HT10.out.lt
                  refine (World.cell?_of_block (a := (⟨w10.heap.size, 0, none⟩ : Addr).add j) ?_).trans (HZB.out j u hj)
                  have e9 : (⟨w10.heap.size, 0, none⟩ : Addr).add j = ⟨w10.heap.size, j, none⟩ := by simp [Addr.add]; intro h; exact h.symm
                  rw [e9]
                  show w11.heap[w10.heap.size]? = wB.heap[w10.heap.size]?
                  exact hg11.block w10.heap.size (by have h9 := HSB.out; omega) (by simp; omega)
                rw [← hZ9]
                clear hZ9 hn9 hT11 hg11 hTB HBB HSB HZB HTB
                have hgz := HGm.out.size
                have hSm := H10.out.grown HGm.out (by omega) (by omega) (by omega)
                obtain ⟨cs9, o1, o2, o3⟩ := hSm.lo.ex
                have HO1 : Hid (w11.ownsRow (w.heap.size + 1) 26 7 (.slice aoL (ys ++ [y]).length cpL) (ys ++ [y]).length cs9.flatten) := o1
                have HO2 : Hid (cs9.length = (ys ++ [y]).length) := o2
                have HO3 : Hid (∀ i (h : i < (ys ++ [y]).length) (h' : i < cs9.length), ElX (Okd R) L G (.slice ao8 (us.length + 1) c8) w11 (SB (w.heap.size + 1) (.slice aoL (ys ++ [y]).length cpL)) (ys ++ [y])[i] cs9[i]) := o3
                have HSm : Hid (Stk (Okd R) w11 (w.heap.size + 1) L G (.slice aoL (ys ++ [y]).length cpL) (.slice ao8 (us.length + 1) c8) (ys ++ [y]) (us ++ [t])) := hSm
                rw [lenx] at o1
                clear hSm o2 o3
                obtain ⟨i1, hi1, hy0, hy1, hy2⟩ := info_parts Tryz.infoLE
                refine anyL_one (i := 5) (by kernel_rfl) rfl (fun K' hK => ?_)
                refine step_append_lies _ rfl (.tmp 52) (.tmp 56) 24 rfl (w.heap.size + 1) 26 i1 (.agg #[.int .i64 0, .int .i64 0, .int .i64 0, .int .i64 0, .string ⟨#[]⟩, .slice none 0 0, .slice none 0 0]) 7 96 Tryz.underlying24 hi1 hy0 hy1 hy2 rfl (by decide) (.slice aoL (ys.length + 1) cpL) (ys.length + 1) cs9.flatten (by simp [Act.eval]) o1 ⟨Z9, 0, none⟩ 1 1 [.int .i64 0, .int .i64 0, .int .i64 0, .int .i64 0, .string ⟨#[]⟩, .slice none 0 0, .slice none 0 0] (by simp [Act.eval]) rfl HZ.out (by intro u hu; simp only [List.mem_cons, List.not_mem_nil, or_false] at hu; rcases hu with rfl | rfl | rfl | rfl | rfl | rfl | rfl <;> rfl) (by omega) (by unfold maxLen; omega) (by omega) (by omega) _ rfl ?_
                intro g9 q9 w9 hown9 hgrow9 hat9 hlt9
                refine hK.out _ _ (fun h => absurd h (by omega)) ?_
                clear hK K'
                try simp only [Act.put, List.setIfInBounds_toArray]
                have hx1 : (((ys ++ [y]).length : Nat) : Int) = (ys.length : Int) + 1 := by rw [lenx]; omega
                have cf := HO1.out.1
                have hown9' : w9.ownsRow (w.heap.size + 1) 26 7 (.slice (some ⟨g9, 0, none⟩) ((ys ++ [y]).length + 1) q9) ((ys ++ [y]).length + 1) (cs9.flatten ++ [.int .i64 0, .int .i64 0, .int .i64 0, .int .i64 0, .string ⟨#[]⟩, .slice none 0 0, .slice none 0 0]) := by rw [lenx]; exact hown9
                have zc : ∀ j, j < 7 → w9.cell? ⟨g9, (ys.length + 1) * 7 + j, none⟩ = ([.int .i64 0, .int .i64 0, .int .i64 0, .int .i64 0, .string ⟨#[]⟩, .slice none 0 0, .slice none 0 0] : List Value)[j]? := fun j hj => by
                  rw [hown9.cellAt _ (by omega), List.getElem?_append_right (by rw [cf, lenx]; omega), cf, lenx]
                  congr 1
                  omega
                have zc0 : w9.cell? ⟨g9, (ys.length + 1) * 7, none⟩ = some (.int .i64 0) := zc 0 (by omega)
                have zc1 : w9.cell? ⟨g9, (ys.length + 1) * 7 + 1, none⟩ = some (.int .i64 0) := zc 1 (by omega)
                have zc2 : w9.cell? ⟨g9, (ys.length + 1) * 7 + 2, none⟩ = some (.int .i64 0) := zc 2 (by omega)
                have zc3 : w9.cell? ⟨g9, (ys.length + 1) * 7 + 3, none⟩ = some (.int .i64 0) := zc 3 (by omega)
                have zc4 : w9.cell? ⟨g9, (ys.length + 1) * 7 + 4, none⟩ = some (.string ⟨#[]⟩) := zc 4 (by omega)
                have zc5 : w9.cell? ⟨g9, (ys.length + 1) * 7 + 5, none⟩ = some (.slice none 0 0) := zc 5 (by omega)
                have zc6 : w9.cell? ⟨g9, (ys.length + 1) * 7 + 6, none⟩ = some (.slice none 0 0) := zc 6 (by omega)
                have zf := hown9.frozenAt
                have zf0 := zf ((ys.length + 1) * 7)
                have zf1 := zf ((ys.length + 1) * 7 + 1)
                have zf2 := zf ((ys.length + 1) * 7 + 2)
                have zf3 := zf ((ys.length + 1) * 7 + 3)
                have zf4 := zf ((ys.length + 1) * 7 + 4)
                have zf5 := zf ((ys.length + 1) * 7 + 5)
                have zf6 := zf ((ys.length + 1) * 7 + 6)
                have hgrow9' : w11.grownBy w9 (Value.slice aoL (ys ++ [y]).length cpL).ownBlock := by rw [lenx]; exact hgrow9
                have hat9' : (Value.slice aoL (ys ++ [y]).length cpL).ownBlock = some g9 ∨ g9 = w11.heap.size := by rw [lenx]; exact hat9
                obtain ⟨nL9, hfin⟩ := ex_fin (P := P) H.out hLn HG10.out HR10.out H10.out HGm.out HNm.out HLen.out hfw HSm.out HO2.out HO1.out HO3.out hown9' hgrow9' hat9'
                rw [lenx] at hfin
                have HFin : Hid (ExI w ((set7o w9 g9 ((ys.length + 1) * 7) (.int .i64 a0) (.int .i64 a1) (.int .i64 a2) (.int .i64 a3) (.string a4) (.slice a5 b5 e5) (.slice a6 b6 e6)).setCell ⟨L, 0, none⟩ (.slice (some ⟨g9, 0, none⟩) (ys.length + 1 + 1) q9)) tb e ts v bl al P R L G (ys ++ [y]) a9 (us ++ [t]) k9 c9 p9) := hfin
                have hLb : w9.heap[L]? = some (.cells #[.slice aoL (ys ++ [y]).length cpL] 24 (0, 0)) := (hgrow9'.block L (Nat.lt_of_lt_of_le lL10 hgz) (own_ne HO1.out HSm.out.lb (by decide))).trans HSm.out.lb
                have lL9 : w9.cell? ⟨L, 0, none⟩ = some (.slice aoL (ys ++ [y]).length cpL) := by simp [World.cell?, hLb]
                have lz9 : w9.frozen? ⟨L, 0, none⟩ = false := by simp [World.frozen?, hLb]
                have hlq : L < w9.heap.size := lt_of_block hLb
                clear hfin hown9 hown9' hgrow9 hat9 hgrow9' hat9' hLb zc zf cf o1 HO1 HO2 HO3 HSm
                have hM : ts.length - k9 < ts.length - k1 := by have h8 := HNm.out.gt; have h9 := HKL.out; omega
                refine anyL_free (i := 6) 58 (v := .pointer (some ⟨g9, (ys.length + 1) * 7, none⟩)) rfl rfl (by omega) (by kernel_rfl) (by kernel_rfl) (by kernel_rfl) (fun _ _ _ h => h) (Or.inl ⟨by rfl, fun W' hw => by clear hw; go_simp⟩) ?_
                try simp only [Act.put]
                refine anyL_two (i := 7) (j := 8) (by kernel_rfl) rfl rfl (fun K' hK => ?_) (fun K' hK => ?_)
                · go_simp
                  refine hK.out _ _ (fun h => absurd h (by omega)) ?_
                  clear hK K'
                  refine anyL_one (i := 8) (by kernel_rfl) rfl (fun K' hK => ?_)
                  go_simp
                  refine hK.out _ _ (fun h => absurd h (by omega)) ?_
                  clear hK K'
                  refine anyK_done (by kernel_rfl) ?_ _
                  have h9 := HFin.out
                  go_wp2
                  exact ⟨⟨_, _, _, _, _, _, h9⟩, ex_less h9.tx HI.out.tx hM⟩
                · go_simp
                  refine hK.out _ _ (fun h => absurd h (by omega)) ?_
                  clear hK K'
                  refine anyL_one (i := 7) (by kernel_rfl) rfl (fun K' hK => ?_)
                  go_simp
                  refine hK.out _ _ (fun h => absurd h (by omega)) ?_
                  clear hK K'
                  refine anyK_done (by kernel_rfl) ?_ _
                  have h9 := HFin.out
                  rw [← set7o_comm _ _ nL9] at h9
                  go_wp2
                  exact ⟨⟨_, _, _, _, _, _, h9⟩, ex_less h9.tx HI.out.tx hM⟩
end Go.Proofs.YtcdeicfegfedfaaGreatDoor

namespace Go.Proofs.YtcdeicfegfedfaaGreatDoor
open Go.RowKit
open Par (Tok Tr Po Res nx atP isT seesB ba)

theorem on_prim {tb e : Nat} {ts : List Tok} {v : Value} {bl al : Int} {E P : List Tok → Res Tr} (hgd : Par.Good ts) (h : OnD tb e ts v bl al (Par.oneD e E P)) : OnD tb e ts v bl al (Par.primF e E P) := by
  intro w k p ht
  have h1 := h w k p ht
  rw [Par.one_prim (hgd.sfx (List.drop_suffix _ _))] at h1
  exact h1
theorem deepD {tb e : Nat} {ts : List Tok} {v : Value} {bl : Int} (hgd : Par.Good ts) (hsh : Short ts) (hnb : Numb ts) (hpi : PintC) : ∀ k, k ≤ 12 → OnD tb e ts v bl ((12 - k : Nat) : Int) (Par.prim e k) ∧ ExD tb e ts v bl ((12 - k : Nat) : Int) (Par.exprR e k) := by
  intro k
  induction k with
  | zero =>
    intro _
    have h1 : OnD tb e ts v bl ((12 - 0 : Nat) : Int) (Par.prim e 0) := one_full
    exact ⟨h1, exprD hgd hsh (Par.prim_sfx e 0) h1⟩
  | succ k ih =>
    intro hk
    obtain ⟨h1, h2⟩ := ih (by omega)
    have e1 : 12 - k = (12 - (k + 1)) + 1 := by omega
    rw [e1] at h1 h2
    have h3 : OnD tb e ts v bl ((12 - (k + 1) : Nat) : Int) (Par.prim e (k + 1)) := on_prim hgd (one_some (by omega) hgd hsh hnb hpi h2 h1)
    exact ⟨h3, exprD hgd hsh (Par.prim_sfx e (k + 1)) h3⟩
end Go.Proofs.YtcdeicfegfedfaaGreatDoor
