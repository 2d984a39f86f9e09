/- Contracts of solve's ways: brings, goal, the getters. -/
import Derived.Test.YtnligpcfkmdjeaaGreatDoorGaRd
import Derived.Test.YtnligpcfkmdjeaaGreatDoorGaInt
import Derived.Laws.EntriesVeiled
namespace Go.Proofs.YtnligpcfkmdjeaaGreatDoor
open Go.RowKit

section
variable {P : Program} {ops : Array Oper} {o : Oper} {a : Act} {w : World} {K : Act → World → Prop} {Q : Exit → Act → World → Prop} {E : Prop}
theorem stepH (hgd : o.guard = none) (h : o.wp P a w K Q) : if Region.wanted o (yielded ops a.tmps) = true then o.wp P a w K Q else E := by
  have hw : Region.wanted o (yielded ops a.tmps) = true := by simp [Region.wanted, hgd]
  rw [if_pos hw]
  exact h
end

/- A way in memory: fifteen cells. -/
structure WyAt (w : World) (b off : Nat) (v : WayV) : Prop where
  c0 : ∃ so sb soff sc, w.cell? ⟨b, off, none⟩ = some (.slice so v.src.length sc) ∧ v.src.length ≤ 400 ∧ Ints w so sb soff (v.src.map Int.ofNat)
  c1 : ∀ i, i < 6 → w.cell? ⟨b, off + 1 + i, none⟩ = some (.int .u64 (v.told i))
  c2 : w.cell? ⟨b, off + 7, none⟩ = some (.int .i64 v.dst)
  c3 : ∀ i, i < 6 → w.cell? ⟨b, off + 8 + i, none⟩ = some (.int .u64 (v.into i))
  c4 : w.cell? ⟨b, off + 14, none⟩ = some (.int .u8 (v.free : Int))
  ok1 : SetOK v.told
  ok2 : SetOK v.into
  ok3 : v.free < 64
theorem WyAt.later {w w' : World} {b off : Nat} {v : WayV} (h : WyAt w b off v) (hb : Below w.heap.size w w') : WyAt w' b off v := by
  obtain ⟨so, sb, soff, sc, h1, h2, h3⟩ := h.c0
  exact ⟨⟨so, sb, soff, sc, cell_below hb h1, h2, h3.later hb⟩, fun i hi => cell_below hb (h.c1 i hi), cell_below hb h.c2, fun i hi => cell_below hb (h.c3 i hi), cell_below hb h.c4, h.ok1, h.ok2, h.ok3⟩
theorem plus_ok {s t : Nat → Nat} (hs : SetOK s) (ht : SetOK t) : SetOK (fun i => s i ||| t i) := fun i => by
  have h1 : s i < 2 ^ 64 := Nat.lt_of_lt_of_le (hs i) (by decide)
  have h2 : t i < 2 ^ 64 := Nat.lt_of_lt_of_le (ht i) (by decide)
  have := Nat.or_lt_two_pow h1 h2
  exact Nat.lt_of_lt_of_le this (by decide)
theorem plusAll_ok {f : Nat → Nat → Nat} (hf : ∀ k, SetOK (f k)) : ∀ {l : List Nat} {s : Nat → Nat}, SetOK s → SetOK (plusAll f s l)
  | [], _, h => h
  | a :: r, _, h => plusAll_ok (l := r) hf (plus_ok h (hf a))
theorem less_ok {s : Nat → Nat} (hs : SetOK s) (g : Nat) : SetOK (Sol.lessS s g) := fun i => by
  unfold Sol.lessS
  split
  · decide
  · exact hs i
theorem plusAll_step {f : Nat → Nat → Nat} {s : Nat → Nat} {l : List Nat} {k : Nat} (hk : k < l.length) : plusAll f s (l.take (k + 1)) = fun i => plusAll f s (l.take k) i ||| f l[k] i := by
  unfold plusAll
  rw [List.take_succ_eq_append_getElem hk, List.foldl_append]
  rfl
/- What brings holds: its result's block, the set that is gathered. -/
structure BrSt (w wr : World) (s : Nat → Nat) : Prop where
  bel : Below w.heap.size w wr
  res : SetAt wr w.heap.size (fun _ => 0)
  own : SetAt wr (w.heap.size + 1) s
theorem BrSt.later {w wr w' : World} {s : Nat → Nat} (h : BrSt w wr s) (hb : Below wr.heap.size wr w') : BrSt w w' s := ⟨h.bel.trans (hb.mono h.bel.size), h.res.later hb, h.own.later hb⟩
theorem BrSt.put {w wr : World} {s : Nat → Nat} (h : BrSt w wr s) (t : Nat → Nat) : BrSt w (wr.setRow (w.heap.size + 1) (setA t)) t :=
  ⟨below_setRow' h.bel (by omega) _, (setRow_other _ _ _ _ (by omega)).trans h.res, setRow_heap _ _ _ _ _ _ h.own⟩
theorem BrSt.drew {w wr : World} {s : Nat → Nat} (h : BrSt w wr s) : BrSt w wr.drew s := ⟨⟨h.bel.os, h.bel.tape, h.bel.output, h.bel.size, h.bel.block⟩, h.res, h.own⟩

set_option maxRecDepth 100000 in
set_option maxHeartbeats 4000000 in
theorem bringsC (gf : Nat) (lb : Array Value) (eg : ∀ args w, (callFunc gf args).run Tryz.prog w = .ok (.enter gf args) w) (f : Nat → Nat → Nat) (b off : Nat) (v : WayV) (w : World) (hv : WyAt w b off v) (hf : ∀ k, SetOK (f k))
    (hget : ∀ (W : World) (i : Nat), i ∈ v.src → Below w.heap.size w W → Calls Tryz.prog gf (#[.int .i64 (i : Int)] ++ lb) W fun e w' => e = .returned (.agg (setA (f i))) ∧ Below W.heap.size W w') :
    Calls Tryz.prog 52 #[.pointer (some ⟨b, off, none⟩), .func (.func gf) #[] lb] w fun e w' => e = .returned (.agg (setA (bringsV f v))) ∧ Below w.heap.size w w' := by
  have HI : Hid ((Tryz.prog.info? 65).map (·.size) = some 6) := Tryz.infoSet
  obtain ⟨R, hR⟩ : ∃ R, R = setA (bringsV f v) := ⟨_, rfl⟩
  rw [← hR]
  have HR : Hid (R = setA (bringsV f v)) := hR
  have t0 := hv.c1 0 (by omega)
  have t1 := hv.c1 1 (by omega)
  have t2 := hv.c1 2 (by omega)
  have t3 := hv.c1 3 (by omega)
  have t4 := hv.c1 4 (by omega)
  have t5 := hv.c1 5 (by omega)
  have lb' := World.block_lt_of_cell? w _ hv.c2
  obtain ⟨so, sb, soff, sc, hc0, hc400, hints⟩ := hv.c0
  have HV : Hid (WyAt w b off v) := hv
  have HF : Hid (∀ k, SetOK (f k)) := hf
  have HINT : Hid (Ints w so sb soff (v.src.map Int.ofNat)) := hints
  have HG : Hid (∀ (W : World) (i : Nat), i ∈ v.src → Below w.heap.size w W → Calls Tryz.prog gf (#[.int .i64 (i : Int)] ++ lb) W fun e w' => e = .returned (.agg (setA (f i))) ∧ Below W.heap.size W w') := hget
  have HWZ : Hid (BrSt w ((w.alloc (.cells #[.int .u64 0, .int .u64 0, .int .u64 0, .int .u64 0, .int .u64 0, .int .u64 0] 65)).alloc (.cells (setA v.told) 65)) (plusAll f v.told (v.src.take 0))) := by
    refine ⟨((Below.refl _ _).alloc (Nat.le_refl _) _).alloc (by simp) _, ?_, ?_⟩
    · exact heap_past_alloc (heap_at_alloc _ _ _ rfl)
    · exact heap_at_alloc _ _ _ (by simp)
  have HA : Hid (setA v.told = #[.int .u64 (v.told 0), .int .u64 (v.told 1), .int .u64 (v.told 2), .int .u64 (v.told 3), .int .u64 (v.told 4), .int .u64 (v.told 5)]) := rfl
  obtain ⟨ns, hns⟩ : ∃ ns, ns = v.src.length := ⟨_, rfl⟩
  rw [← hns] at hc0 hc400
  have HNS : Hid (ns = v.src.length) := hns
  have hmx : Tryz.prog.follows .mixedOrders = true := by kernel_rfl
  clear hv hf hints hget hR hns
  go_enter Tryz.func52, Tryz.ntmps52
  go_wp2
  rw [← HA.out]
  clear HA t0 t1 t2 t3 t4 t5
  go_loopw [17] (fun i wr => ∃ k : Nat, k ≤ ns ∧ i = .int .i64 k ∧ Hid (BrSt w wr (plusAll f v.told (v.src.take k)))) (fun i _ => ns - (intOf i).toNat)
  case atStart => exact ⟨0, Nat.zero_le _, rfl, HWZ⟩
  case round =>
    clear HWZ hc0
    obtain ⟨k, hk, rfl, HP⟩ := hrel
    by_cases hlt : k < ns
    · have hks : k < v.src.length := by have := HNS.out; omega
      have hso := HINT.out.adr (by rw [List.length_map]; omega)
      have f0 := (HINT.out.later HP.out.bel).cell k (by rw [List.length_map]; exact hks)
      have e0 : (v.src.map Int.ofNat)[k]'(by rw [List.length_map]; exact hks) = ((v.src[k]'hks : Nat) : Int) := by simp
      rw [e0] at f0
      have hstep := plusAll_step (f := f) (s := v.told) hks
      have hmem : v.src[k]'hks ∈ v.src := List.getElem_mem hks
      obtain ⟨j, hj⟩ : ∃ j, j = v.src[k]'hks := ⟨_, rfl⟩
      rw [← hj] at f0 hstep hmem
      have hok1 : SetOK (plusAll f v.told (v.src.take k)) := plusAll_ok HF.out HV.out.ok1
      have hok2 := HF.out j
      obtain ⟨S0, hS0⟩ : ∃ S0, S0 = plusAll f v.told (v.src.take k) := ⟨_, rfl⟩
      rw [← hS0] at HP hstep hok1
      have HST : Hid (plusAll f v.told (v.src.take (k + 1)) = fun i => S0 i ||| f j i) := hstep
      have HPD : Hid (BrSt w wr.drew S0) := HP.out.drew
      have HG2 : ∀ W : World, Below w.heap.size w W → Calls Tryz.prog gf (#[.int .i64 (j : Int)] ++ lb) W fun e w' => e = .returned (.agg (setA (f j))) ∧ Below W.heap.size W w' := fun W hb => HG.out W j hmem hb
      have HGG : Hid (∀ W : World, Below w.heap.size w W → Calls Tryz.prog gf (#[.int .i64 (j : Int)] ++ lb) W fun e w' => e = .returned (.agg (setA (f j))) ∧ Below W.heap.size W w') := HG2
      have HPL : Hid (∀ W : World, Calls Tryz.prog 66 #[.agg (setA S0), .agg (setA (f j))] W fun e w' => e = .returned (.agg (setA fun i => S0 i ||| f j i)) ∧ Below W.heap.size W w') := fun W => plusC S0 (f j) W hok1 hok2
      clear hj hS0 hstep HG2 hok1 hok2 e0
      subst hso
      go_wp2
      refine wp_region_held_drew (S := fun _ => True) hmx trivial ?_
      intro hHeld
      refine wpAnyH_take (i := 1) (v := .func (.func gf) #[] lb) rfl (by kernel_rfl) (by kernel_rfl) (by kernel_rfl) (fun _ _ _ h => h) (Or.inl ⟨by rfl, fun W' hSw => by dsimp only at hSw; go_simp⟩) hHeld ?_
      simp only [Act.put]
      refine wpAnyH_take (i := 2) (v := .int .i64 (j : Int)) rfl (by kernel_rfl) (by kernel_rfl) (by kernel_rfl) (fun _ _ _ h => h) (Or.inl ⟨by rfl, fun W' hSw => by dsimp only at hSw; go_simp⟩) hHeld ?_
      simp only [Act.put]
      refine wpAnyH_ready (rs := [0, 3]) (by kernel_rfl) (by simp) ?_
      refine AllReadyH.cons rfl (fun K hK => ?_) (AllReadyH.cons rfl (fun K hK => ?_) AllReadyH.nil)
      · refine stepH rfl (wp_load_row 65 (.tmp 5) rfl (w.heap.size + 1) rfl 65 (setA S0) (0, 0) _ HPD.out.own Tryz.underlying65 rfl (by rw [HI.out, setA_size]) ?_)
        refine hK.out _ _ trivial ?_
        clear hK K
        intro hHeld
        simp only [Act.put]
        refine wpAnyH_ready (rs := [3]) (by kernel_rfl) (by simp) ?_
        refine AllReadyH.cons rfl (fun K hK => ?_) AllReadyH.nil
        go_simp
        refine (HGG.out wr.drew HPD.out.bel).mono ?_
        rintro e w4 ⟨rfl, hb4⟩
        have HP4 : Hid (BrSt w w4 S0) := HPD.out.later hb4
        clear hb4
        refine hK.out _ _ trivial ?_
        clear hK K
        intro hHeld
        refine wpAnyH_ready (rs := [4]) (by kernel_rfl) (by simp) ?_
        refine AllReadyH.cons rfl (fun K hK => ?_) AllReadyH.nil
        go_simp
        refine (HPL.out w4).mono ?_
        rintro e w5 ⟨rfl, hb5⟩
        have HP5 : Hid (BrSt w w5 S0) := HP4.out.later hb5
        clear hb5
        refine hK.out _ _ trivial ?_
        clear hK K
        intro hHeld
        refine wpAnyH_ready (rs := [5]) (by kernel_rfl) (by simp) ?_
        refine AllReadyH.cons rfl (fun K hK => ?_) AllReadyH.nil
        refine stepH rfl (wp_store_row 65 (.tmp 5) (.tmp 25) rfl (w.heap.size + 1) (setA fun i => S0 i ||| f j i) rfl rfl 65 (setA S0) HP5.out.own (by rw [HI.out, setA_size]) (by rw [setA_size, setA_size]) (setA_one _) ?_)
        have HP6 : Hid (BrSt w (w5.setRow (w.heap.size + 1) (setA fun i => S0 i ||| f j i)) (fun i => S0 i ||| f j i)) := HP5.out.put _
        obtain ⟨w6, hw6⟩ : ∃ w6, w6 = w5.setRow (w.heap.size + 1) (setA fun i => S0 i ||| f j i) := ⟨_, rfl⟩
        rw [← hw6] at HP6 ⊢
        clear hw6
        refine hK.out _ _ trivial ?_
        clear hK K
        intro hHeld
        refine wpAnyH_done (by kernel_rfl) ?_ _
        simp only [Act.put]
        go_wp2_with fail
        go_roundw
        case rel => exact ⟨k + 1, by omega, by go_num, by rw [HST.out]; exact HP6⟩
        case measure => simp [intOf]; omega
      · go_simp
        refine (HGG.out wr.drew HPD.out.bel).mono ?_
        rintro e w4 ⟨rfl, hb4⟩
        have HP4 : Hid (BrSt w w4 S0) := HPD.out.later hb4
        clear hb4
        refine hK.out _ _ trivial ?_
        clear hK K
        intro hHeld
        refine wpAnyH_ready (rs := [0]) (by kernel_rfl) (by simp) ?_
        refine AllReadyH.cons rfl (fun K hK => ?_) AllReadyH.nil
        refine stepH rfl (wp_load_row 65 (.tmp 5) rfl (w.heap.size + 1) rfl 65 (setA S0) (0, 0) _ HP4.out.own Tryz.underlying65 rfl (by rw [HI.out, setA_size]) ?_)
        refine hK.out _ _ trivial ?_
        clear hK K
        intro hHeld
        simp only [Act.put]
        refine wpAnyH_ready (rs := [4]) (by kernel_rfl) (by simp) ?_
        refine AllReadyH.cons rfl (fun K hK => ?_) AllReadyH.nil
        go_simp
        refine (HPL.out w4).mono ?_
        rintro e w5 ⟨rfl, hb5⟩
        have HP5 : Hid (BrSt w w5 S0) := HP4.out.later hb5
        clear hb5
        refine hK.out _ _ trivial ?_
        clear hK K
        intro hHeld
        refine wpAnyH_ready (rs := [5]) (by kernel_rfl) (by simp) ?_
        refine AllReadyH.cons rfl (fun K hK => ?_) AllReadyH.nil
        refine stepH rfl (wp_store_row 65 (.tmp 5) (.tmp 25) rfl (w.heap.size + 1) (setA fun i => S0 i ||| f j i) rfl rfl 65 (setA S0) HP5.out.own (by rw [HI.out, setA_size]) (by rw [setA_size, setA_size]) (setA_one _) ?_)
        have HP6 : Hid (BrSt w (w5.setRow (w.heap.size + 1) (setA fun i => S0 i ||| f j i)) (fun i => S0 i ||| f j i)) := HP5.out.put _
        obtain ⟨w6, hw6⟩ : ∃ w6, w6 = w5.setRow (w.heap.size + 1) (setA fun i => S0 i ||| f j i) := ⟨_, rfl⟩
        rw [← hw6] at HP6 ⊢
        clear hw6
        refine hK.out _ _ trivial ?_
        clear hK K
        intro hHeld
        refine wpAnyH_done (by kernel_rfl) ?_ _
        simp only [Act.put]
        go_wp2_with fail
        go_roundw
        case rel => exact ⟨k + 1, by omega, by go_num, by rw [HST.out]; exact HP6⟩
        case measure => simp [intOf]; omega
    · have hkn : k = ns := by omega
      subst hkn
      have HPA : Hid (BrSt w wr (plusAll f v.told v.src)) := by
        have := HP.out
        rw [List.take_of_length_le (by have := HNS.out; omega)] at this
        exact this
      have c4 := (HV.out.later HPA.out.bel).c4
      have lbr := Nat.lt_of_lt_of_le lb' HPA.out.bel.size
      clear HP
      obtain ⟨S1, hS1⟩ : ∃ S1, S1 = plusAll f v.told v.src := ⟨_, rfl⟩
      have HRE : Hid (R = setA fun i => if v.free.testBit i = true then 0 else S1 i) := by show _ = _; rw [HR.out, hS1]; rfl
      rw [← hS1] at HPA
      have HPD : Hid (BrSt w wr.drew S1) := HPA.out.drew
      have hfr := HV.out.ok3
      have HLS : Hid (∀ W : World, Calls Tryz.prog 94 #[.agg (setA S1), .int .u8 (v.free : Int)] W fun e w' => e = .returned (.agg R) ∧ Below W.heap.size W w') := by
        intro W
        rw [HRE.out]
        exact lessSetC S1 v.free W (by omega)
      have HRZ : Hid (R.size = 6 ∧ R.all (·.oneCell') = true) := by rw [HRE.out]; exact ⟨setA_size _, setA_one _⟩
      obtain ⟨F0, hF0⟩ : ∃ F0, F0 = v.free := ⟨_, rfl⟩
      rw [← hF0] at c4 HLS
      clear hS1 HR HPA hfr hF0 HRE
      go_wp2
      refine wp_region_held_drew (S := fun W' => W'.cell? ⟨b, off + 14, none⟩ = some (.int .u8 (F0 : Int))) hmx c4 ?_
      intro hHeld
      refine wpAnyH_take (i := 1) (v := .pointer (some ⟨b, off, none⟩)) rfl (by kernel_rfl) (by kernel_rfl) (by kernel_rfl) (fun _ _ _ h => h) (Or.inl ⟨by rfl, fun W' hSw => by dsimp only at hSw; go_simp⟩) hHeld ?_
      simp only [Act.put]
      refine wpAnyH_take (i := 2) (v := .pointer (some ⟨b, off, none⟩)) rfl (by kernel_rfl) (by kernel_rfl) (by kernel_rfl) (fun _ _ _ h => h) (Or.inl ⟨by rfl, fun W' hSw => by dsimp only at hSw; go_simp⟩) hHeld ?_
      simp only [Act.put]
      refine wpAnyH_take (i := 3) (v := .pointer (some ⟨b, off + 14, none⟩)) rfl (by kernel_rfl) (by kernel_rfl) (by kernel_rfl) (fun _ _ _ h => h) (Or.inl ⟨by rfl, fun W' hSw => by dsimp only at hSw; go_simp⟩) hHeld ?_
      simp only [Act.put]
      refine wpAnyH_take (i := 4) (v := .int .u8 (F0 : Int)) rfl (by kernel_rfl) (by kernel_rfl) (by kernel_rfl) (fun _ _ _ h => h) (Or.inl ⟨by rfl, fun W' hSw => by dsimp only at hSw; go_simp⟩) hHeld ?_
      simp only [Act.put]
      refine wpAnyH_ready (rs := [0]) (by kernel_rfl) (by simp) ?_
      refine AllReadyH.cons rfl (fun K hK => ?_) AllReadyH.nil
      refine stepH rfl (wp_load_row 65 (.tmp 5) rfl (w.heap.size + 1) rfl 65 (setA S1) (0, 0) _ HPD.out.own Tryz.underlying65 rfl (by rw [HI.out, setA_size]) ?_)
      refine hK.out _ _ c4 ?_
      clear hK K
      intro hHeld
      simp only [Act.put]
      refine wpAnyH_ready (rs := [5]) (by kernel_rfl) (by simp) ?_
      refine AllReadyH.cons rfl (fun K hK => ?_) AllReadyH.nil
      go_simp
      refine (HLS.out wr.drew).mono ?_
      rintro e w5 ⟨rfl, hb5⟩
      have HP5 : Hid (BrSt w w5 S1) := HPD.out.later hb5
      have c5 : w5.cell? ⟨b, off + 14, none⟩ = some (.int .u8 (F0 : Int)) := cell_below hb5 c4
      clear hb5 HPD
      refine hK.out _ _ c5 ?_
      clear hK K
      intro hHeld
      refine wpAnyH_ready (rs := [6]) (by kernel_rfl) (by simp) ?_
      refine AllReadyH.cons rfl (fun K hK => ?_) AllReadyH.nil
      refine stepH rfl (wp_store_row 65 (.tmp 4) (.tmp 32) rfl w.heap.size R rfl rfl 65 (setA fun _ => 0) HP5.out.res (by rw [HI.out, HRZ.out.1]) (by rw [HRZ.out.1, setA_size]) HRZ.out.2 ?_)
      have HW : Hid ((w5.setRow w.heap.size R).heap[w.heap.size]? = some (.cells R 65 (0, 0))) := setRow_heap _ _ _ _ _ _ HP5.out.res
      have HB : Hid (Below w.heap.size w (w5.setRow w.heap.size R)) := below_setRow' HP5.out.bel (Nat.le_refl _) _
      have c6 : (w5.setRow w.heap.size R).cell? ⟨b, off + 14, none⟩ = some (.int .u8 (F0 : Int)) := (cell_setRow_other _ _ _ _ (by show b ≠ _; omega)).trans c5
      obtain ⟨w6, hw6⟩ : ∃ w6, w6 = w5.setRow w.heap.size R := ⟨_, rfl⟩
      rw [← hw6] at HW HB c6 ⊢
      clear hw6
      refine hK.out _ _ c6 ?_
      clear hK K
      intro hHeld
      refine wpAnyH_done (by kernel_rfl) ?_ _
      simp only [Act.put]
      go_wp2_with fail
      refine bodyPost_ret (v := .agg R) (results_cell_row rfl _ _ w.heap.size 65 R (0, 0) _ rfl HW.out Tryz.underlying65 rfl (by rw [HI.out, HRZ.out.1])) rfl ⟨rfl, HB.out⟩
end Go.Proofs.YtnligpcfkmdjeaaGreatDoor
