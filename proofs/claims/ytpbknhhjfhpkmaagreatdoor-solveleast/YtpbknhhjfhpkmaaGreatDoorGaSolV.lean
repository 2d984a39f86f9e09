/- Contracts of solve's ways: brings, goal, the getters. Contracts of solve's ways: goal, the getters. Contract of solve.least's put. Contract of solve.least. -/
import Derived.Test.YtpbknhhjfhpkmaaGreatDoorGaRd
import Derived.Test.YtpbknhhjfhpkmaaGreatDoorGaInt
import Derived.Laws.EntriesVeiled
import Derived.Laws.StructEq
import Derived.Lib.LazyBuf
import Derived.Deep.Upon
import Derived.Deep.DeepHandedRow
namespace Go.Proofs.YtpbknhhjfhpkmaaGreatDoor
open Go.RowKit

section
variable {P : Program} {ops : Array Oper} {o : Oper} {a : Act} {w : World} {K : Act → World → Prop} {Q : Exit → Act → World → Prop} {E : Prop}
theorem stepH (hgd : o.guard = none) (h : o.wp P a w K Q) : if Region.wanted o (yielded ops a.tmps) = true then o.wp P a w K Q else E := by
  have hw : Region.wanted o (yielded ops a.tmps) = true := by simp [Region.wanted, hgd]
  rw [if_pos hw]
  exact h
end

/- A way in memory: fifteen cells. -/
structure WyAt (w : World) (b off : Nat) (v : WayV) : Prop where
  c0 : ∃ so sb soff sc, w.cell? ⟨b, off, none⟩ = some (.slice so v.src.length sc) ∧ v.src.length ≤ 400 ∧ Ints w so sb soff (v.src.map Int.ofNat)
  c1 : ∀ i, i < 6 → w.cell? ⟨b, off + 1 + i, none⟩ = some (.int .u64 (v.told i))
  c2 : w.cell? ⟨b, off + 7, none⟩ = some (.int .i64 v.dst)
  c3 : ∀ i, i < 6 → w.cell? ⟨b, off + 8 + i, none⟩ = some (.int .u64 (v.into i))
  c4 : w.cell? ⟨b, off + 14, none⟩ = some (.int .u8 (v.free : Int))
  ok1 : SetOK v.told
  ok2 : SetOK v.into
  ok3 : v.free < 64
theorem WyAt.later {w w' : World} {b off : Nat} {v : WayV} (h : WyAt w b off v) (hb : Below w.heap.size w w') : WyAt w' b off v := by
  obtain ⟨so, sb, soff, sc, h1, h2, h3⟩ := h.c0
  exact ⟨⟨so, sb, soff, sc, cell_below hb h1, h2, h3.later hb⟩, fun i hi => cell_below hb (h.c1 i hi), cell_below hb h.c2, fun i hi => cell_below hb (h.c3 i hi), cell_below hb h.c4, h.ok1, h.ok2, h.ok3⟩
theorem plus_ok {s t : Nat → Nat} (hs : SetOK s) (ht : SetOK t) : SetOK (fun i => s i ||| t i) := fun i => by
  have h1 : s i < 2 ^ 64 := Nat.lt_of_lt_of_le (hs i) (by decide)
  have h2 : t i < 2 ^ 64 := Nat.lt_of_lt_of_le (ht i) (by decide)
  have := Nat.or_lt_two_pow h1 h2
  exact Nat.lt_of_lt_of_le this (by decide)
theorem plusAll_ok {f : Nat → Nat → Nat} (hf : ∀ k, SetOK (f k)) : ∀ {l : List Nat} {s : Nat → Nat}, SetOK s → SetOK (plusAll f s l)
  | [], _, h => h
  | a :: r, _, h => plusAll_ok (l := r) hf (plus_ok h (hf a))
theorem less_ok {s : Nat → Nat} (hs : SetOK s) (g : Nat) : SetOK (Sol.lessS s g) := fun i => by
  unfold Sol.lessS
  split
  · decide
  · exact hs i
theorem plusAll_step {f : Nat → Nat → Nat} {s : Nat → Nat} {l : List Nat} {k : Nat} (hk : k < l.length) : plusAll f s (l.take (k + 1)) = fun i => plusAll f s (l.take k) i ||| f l[k] i := by
  unfold plusAll
  rw [List.take_succ_eq_append_getElem hk, List.foldl_append]
  rfl
/- What brings holds: its result's block, the set that is gathered. -/
structure BrSt (w wr : World) (s : Nat → Nat) : Prop where
  bel : Below w.heap.size w wr
  res : SetAt wr w.heap.size (fun _ => 0)
  own : SetAt wr (w.heap.size + 1) s
theorem BrSt.later {w wr w' : World} {s : Nat → Nat} (h : BrSt w wr s) (hb : Below wr.heap.size wr w') : BrSt w w' s := ⟨h.bel.trans (hb.mono h.bel.size), h.res.later hb, h.own.later hb⟩
theorem BrSt.put {w wr : World} {s : Nat → Nat} (h : BrSt w wr s) (t : Nat → Nat) : BrSt w (wr.setRow (w.heap.size + 1) (setA t)) t :=
  ⟨below_setRow' h.bel (by omega) _, (setRow_other _ _ _ _ (by omega)).trans h.res, setRow_heap _ _ _ _ _ _ h.own⟩
theorem BrSt.drew {w wr : World} {s : Nat → Nat} (h : BrSt w wr s) : BrSt w wr.drew s := ⟨⟨h.bel.os, h.bel.tape, h.bel.output, h.bel.size, h.bel.block⟩, h.res, h.own⟩

set_option maxRecDepth 100000 in
set_option maxHeartbeats 4000000 in
theorem bringsC (gf : Nat) (lb : Array Value) (eg : ∀ args w, (callFunc gf args).run Tryz.prog w = .ok (.enter gf args) w) (f : Nat → Nat → Nat) (b off : Nat) (v : WayV) (w : World) (hv : WyAt w b off v) (hf : ∀ k, SetOK (f k))
    (hget : ∀ (W : World) (i : Nat), i ∈ v.src → Below w.heap.size w W → Calls Tryz.prog gf (#[.int .i64 (i : Int)] ++ lb) W fun e w' => e = .returned (.agg (setA (f i))) ∧ Below W.heap.size W w') :
    Calls Tryz.prog 42 #[.pointer (some ⟨b, off, none⟩), .func (.func gf) #[] lb] w fun e w' => e = .returned (.agg (setA (bringsV f v))) ∧ Below w.heap.size w w' := by
  have HI : Hid ((Tryz.prog.info? 54).map (·.size) = some 6) := Tryz.infoSet
  obtain ⟨R, hR⟩ : ∃ R, R = setA (bringsV f v) := ⟨_, rfl⟩
  rw [← hR]
  have HR : Hid (R = setA (bringsV f v)) := hR
  have t0 := hv.c1 0 (by omega)
  have t1 := hv.c1 1 (by omega)
  have t2 := hv.c1 2 (by omega)
  have t3 := hv.c1 3 (by omega)
  have t4 := hv.c1 4 (by omega)
  have t5 := hv.c1 5 (by omega)
  have lb' := World.block_lt_of_cell? w _ hv.c2
  obtain ⟨so, sb, soff, sc, hc0, hc400, hints⟩ := hv.c0
  have HV : Hid (WyAt w b off v) := hv
  have HF : Hid (∀ k, SetOK (f k)) := hf
  have HINT : Hid (Ints w so sb soff (v.src.map Int.ofNat)) := hints
  have HG : Hid (∀ (W : World) (i : Nat), i ∈ v.src → Below w.heap.size w W → Calls Tryz.prog gf (#[.int .i64 (i : Int)] ++ lb) W fun e w' => e = .returned (.agg (setA (f i))) ∧ Below W.heap.size W w') := hget
  have HWZ : Hid (BrSt w ((w.alloc (.cells #[.int .u64 0, .int .u64 0, .int .u64 0, .int .u64 0, .int .u64 0, .int .u64 0] 54)).alloc (.cells (setA v.told) 54)) (plusAll f v.told (v.src.take 0))) := by
    refine ⟨((Below.refl _ _).alloc (Nat.le_refl _) _).alloc (by simp) _, ?_, ?_⟩
    · exact heap_past_alloc (heap_at_alloc _ _ _ rfl)
    · exact heap_at_alloc _ _ _ (by simp)
  have HA : Hid (setA v.told = #[.int .u64 (v.told 0), .int .u64 (v.told 1), .int .u64 (v.told 2), .int .u64 (v.told 3), .int .u64 (v.told 4), .int .u64 (v.told 5)]) := rfl
  obtain ⟨ns, hns⟩ : ∃ ns, ns = v.src.length := ⟨_, rfl⟩
  rw [← hns] at hc0 hc400
  have HNS : Hid (ns = v.src.length) := hns
  have hmx : Tryz.prog.follows .mixedOrders = true := by kernel_rfl
  clear hv hf hints hget hR hns
  go_enter Tryz.func42, Tryz.ntmps42
  go_wp2
  rw [← HA.out]
  clear HA t0 t1 t2 t3 t4 t5
  go_loopw [17] (fun i wr => ∃ k : Nat, k ≤ ns ∧ i = .int .i64 k ∧ Hid (BrSt w wr (plusAll f v.told (v.src.take k)))) (fun i _ => ns - (intOf i).toNat)
  case atStart => exact ⟨0, Nat.zero_le _, rfl, HWZ⟩
  case round =>
    clear HWZ hc0
    obtain ⟨k, hk, rfl, HP⟩ := hrel
    by_cases hlt : k < ns
    · have hks : k < v.src.length := by have := HNS.out; omega
      have hso := HINT.out.adr (by rw [List.length_map]; omega)
      have f0 := (HINT.out.later HP.out.bel).cell k (by rw [List.length_map]; exact hks)
      have e0 : (v.src.map Int.ofNat)[k]'(by rw [List.length_map]; exact hks) = ((v.src[k]'hks : Nat) : Int) := by simp
      rw [e0] at f0
      have hstep := plusAll_step (f := f) (s := v.told) hks
      have hmem : v.src[k]'hks ∈ v.src := List.getElem_mem hks
      obtain ⟨j, hj⟩ : ∃ j, j = v.src[k]'hks := ⟨_, rfl⟩
      rw [← hj] at f0 hstep hmem
      have hok1 : SetOK (plusAll f v.told (v.src.take k)) := plusAll_ok HF.out HV.out.ok1
      have hok2 := HF.out j
      obtain ⟨S0, hS0⟩ : ∃ S0, S0 = plusAll f v.told (v.src.take k) := ⟨_, rfl⟩
      rw [← hS0] at HP hstep hok1
      have HST : Hid (plusAll f v.told (v.src.take (k + 1)) = fun i => S0 i ||| f j i) := hstep
      have HPD : Hid (BrSt w wr.drew S0) := HP.out.drew
      have HG2 : ∀ W : World, Below w.heap.size w W → Calls Tryz.prog gf (#[.int .i64 (j : Int)] ++ lb) W fun e w' => e = .returned (.agg (setA (f j))) ∧ Below W.heap.size W w' := fun W hb => HG.out W j hmem hb
      have HGG : Hid (∀ W : World, Below w.heap.size w W → Calls Tryz.prog gf (#[.int .i64 (j : Int)] ++ lb) W fun e w' => e = .returned (.agg (setA (f j))) ∧ Below W.heap.size W w') := HG2
      have HPL : Hid (∀ W : World, Calls Tryz.prog 50 #[.agg (setA S0), .agg (setA (f j))] W fun e w' => e = .returned (.agg (setA fun i => S0 i ||| f j i)) ∧ Below W.heap.size W w') := fun W => plusC S0 (f j) W hok1 hok2
      clear hj hS0 hstep HG2 hok1 hok2 e0
      subst hso
      go_wp2
      refine wp_region_held_drew (S := fun _ => True) hmx trivial ?_
      intro hHeld
      refine wpAnyH_take (i := 1) (v := .func (.func gf) #[] lb) rfl (by kernel_rfl) (by kernel_rfl) (by kernel_rfl) (fun _ _ _ h => h) (Or.inl ⟨by rfl, fun W' hSw => by dsimp only at hSw; go_simp⟩) hHeld ?_
      simp only [Act.put]
      refine wpAnyH_take (i := 2) (v := .int .i64 (j : Int)) rfl (by kernel_rfl) (by kernel_rfl) (by kernel_rfl) (fun _ _ _ h => h) (Or.inl ⟨by rfl, fun W' hSw => by dsimp only at hSw; go_simp⟩) hHeld ?_
      simp only [Act.put]
      refine wpAnyH_ready (rs := [0, 3]) (by kernel_rfl) (by simp) ?_
      refine AllReadyH.cons rfl (fun K hK => ?_) (AllReadyH.cons rfl (fun K hK => ?_) AllReadyH.nil)
      · refine stepH rfl (wp_load_row 54 (.tmp 5) rfl (w.heap.size + 1) rfl 54 (setA S0) (0, 0) _ HPD.out.own Tryz.underlying54 rfl (by rw [HI.out, setA_size]) ?_)
        refine hK.out _ _ trivial ?_
        clear hK K
        intro hHeld
        simp only [Act.put]
        refine wpAnyH_ready (rs := [3]) (by kernel_rfl) (by simp) ?_
        refine AllReadyH.cons rfl (fun K hK => ?_) AllReadyH.nil
        go_simp
        refine (HGG.out wr.drew HPD.out.bel).mono ?_
        rintro e w4 ⟨rfl, hb4⟩
        have HP4 : Hid (BrSt w w4 S0) := HPD.out.later hb4
        clear hb4
        refine hK.out _ _ trivial ?_
        clear hK K
        intro hHeld
        refine wpAnyH_ready (rs := [4]) (by kernel_rfl) (by simp) ?_
        refine AllReadyH.cons rfl (fun K hK => ?_) AllReadyH.nil
        go_simp
        refine (HPL.out w4).mono ?_
        rintro e w5 ⟨rfl, hb5⟩
        have HP5 : Hid (BrSt w w5 S0) := HP4.out.later hb5
        clear hb5
        refine hK.out _ _ trivial ?_
        clear hK K
        intro hHeld
        refine wpAnyH_ready (rs := [5]) (by kernel_rfl) (by simp) ?_
        refine AllReadyH.cons rfl (fun K hK => ?_) AllReadyH.nil
        refine stepH rfl (wp_store_row 54 (.tmp 5) (.tmp 25) rfl (w.heap.size + 1) (setA fun i => S0 i ||| f j i) rfl rfl 54 (setA S0) HP5.out.own (by rw [HI.out, setA_size]) (by rw [setA_size, setA_size]) (setA_one _) ?_)
        have HP6 : Hid (BrSt w (w5.setRow (w.heap.size + 1) (setA fun i => S0 i ||| f j i)) (fun i => S0 i ||| f j i)) := HP5.out.put _
        obtain ⟨w6, hw6⟩ : ∃ w6, w6 = w5.setRow (w.heap.size + 1) (setA fun i => S0 i ||| f j i) := ⟨_, rfl⟩
        rw [← hw6] at HP6 ⊢
        clear hw6
        refine hK.out _ _ trivial ?_
        clear hK K
        intro hHeld
        refine wpAnyH_done (by kernel_rfl) ?_ _
        simp only [Act.put]
        go_wp2_with fail
        go_roundw
        case rel => exact ⟨k + 1, by omega, by go_num, by rw [HST.out]; exact HP6⟩
        case measure => simp [intOf]; omega
      · go_simp
        refine (HGG.out wr.drew HPD.out.bel).mono ?_
        rintro e w4 ⟨rfl, hb4⟩
        have HP4 : Hid (BrSt w w4 S0) := HPD.out.later hb4
        clear hb4
        refine hK.out _ _ trivial ?_
        clear hK K
        intro hHeld
        refine wpAnyH_ready (rs := [0]) (by kernel_rfl) (by simp) ?_
        refine AllReadyH.cons rfl (fun K hK => ?_) AllReadyH.nil
        refine stepH rfl (wp_load_row 54 (.tmp 5) rfl (w.heap.size + 1) rfl 54 (setA S0) (0, 0) _ HP4.out.own Tryz.underlying54 rfl (by rw [HI.out, setA_size]) ?_)
        refine hK.out _ _ trivial ?_
        clear hK K
        intro hHeld
        simp only [Act.put]
        refine wpAnyH_ready (rs := [4]) (by kernel_rfl) (by simp) ?_
        refine AllReadyH.cons rfl (fun K hK => ?_) AllReadyH.nil
        go_simp
        refine (HPL.out w4).mono ?_
        rintro e w5 ⟨rfl, hb5⟩
        have HP5 : Hid (BrSt w w5 S0) := HP4.out.later hb5
        clear hb5
        refine hK.out _ _ trivial ?_
        clear hK K
        intro hHeld
        refine wpAnyH_ready (rs := [5]) (by kernel_rfl) (by simp) ?_
        refine AllReadyH.cons rfl (fun K hK => ?_) AllReadyH.nil
        refine stepH rfl (wp_store_row 54 (.tmp 5) (.tmp 25) rfl (w.heap.size + 1) (setA fun i => S0 i ||| f j i) rfl rfl 54 (setA S0) HP5.out.own (by rw [HI.out, setA_size]) (by rw [setA_size, setA_size]) (setA_one _) ?_)
        have HP6 : Hid (BrSt w (w5.setRow (w.heap.size + 1) (setA fun i => S0 i ||| f j i)) (fun i => S0 i ||| f j i)) := HP5.out.put _
        obtain ⟨w6, hw6⟩ : ∃ w6, w6 = w5.setRow (w.heap.size + 1) (setA fun i => S0 i ||| f j i) := ⟨_, rfl⟩
        rw [← hw6] at HP6 ⊢
        clear hw6
        refine hK.out _ _ trivial ?_
        clear hK K
        intro hHeld
        refine wpAnyH_done (by kernel_rfl) ?_ _
        simp only [Act.put]
        go_wp2_with fail
        go_roundw
        case rel => exact ⟨k + 1, by omega, by go_num, by rw [HST.out]; exact HP6⟩
        case measure => simp [intOf]; omega
    · have hkn : k = ns := by omega
      subst hkn
      have HPA : Hid (BrSt w wr (plusAll f v.told v.src)) := by
        have := HP.out
        rw [List.take_of_length_le (by have := HNS.out; omega)] at this
        exact this
      have c4 := (HV.out.later HPA.out.bel).c4
      have lbr := Nat.lt_of_lt_of_le lb' HPA.out.bel.size
      clear HP
      obtain ⟨S1, hS1⟩ : ∃ S1, S1 = plusAll f v.told v.src := ⟨_, rfl⟩
      have HRE : Hid (R = setA fun i => if v.free.testBit i = true then 0 else S1 i) := by show _ = _; rw [HR.out, hS1]; rfl
      rw [← hS1] at HPA
      have HPD : Hid (BrSt w wr.drew S1) := HPA.out.drew
      have hfr := HV.out.ok3
      have HLS : Hid (∀ W : World, Calls Tryz.prog 79 #[.agg (setA S1), .int .u8 (v.free : Int)] W fun e w' => e = .returned (.agg R) ∧ Below W.heap.size W w') := by
        intro W
        rw [HRE.out]
        exact lessSetC S1 v.free W (by omega)
      have HRZ : Hid (R.size = 6 ∧ R.all (·.oneCell') = true) := by rw [HRE.out]; exact ⟨setA_size _, setA_one _⟩
      obtain ⟨F0, hF0⟩ : ∃ F0, F0 = v.free := ⟨_, rfl⟩
      rw [← hF0] at c4 HLS
      clear hS1 HR HPA hfr hF0 HRE
      go_wp2
      refine wp_region_held_drew (S := fun W' => W'.cell? ⟨b, off + 14, none⟩ = some (.int .u8 (F0 : Int))) hmx c4 ?_
      intro hHeld
      refine wpAnyH_take (i := 1) (v := .pointer (some ⟨b, off, none⟩)) rfl (by kernel_rfl) (by kernel_rfl) (by kernel_rfl) (fun _ _ _ h => h) (Or.inl ⟨by rfl, fun W' hSw => by dsimp only at hSw; go_simp⟩) hHeld ?_
      simp only [Act.put]
      refine wpAnyH_take (i := 2) (v := .pointer (some ⟨b, off, none⟩)) rfl (by kernel_rfl) (by kernel_rfl) (by kernel_rfl) (fun _ _ _ h => h) (Or.inl ⟨by rfl, fun W' hSw => by dsimp only at hSw; go_simp⟩) hHeld ?_
      simp only [Act.put]
      refine wpAnyH_take (i := 3) (v := .pointer (some ⟨b, off + 14, none⟩)) rfl (by kernel_rfl) (by kernel_rfl) (by kernel_rfl) (fun _ _ _ h => h) (Or.inl ⟨by rfl, fun W' hSw => by dsimp only at hSw; go_simp⟩) hHeld ?_
      simp only [Act.put]
      refine wpAnyH_take (i := 4) (v := .int .u8 (F0 : Int)) rfl (by kernel_rfl) (by kernel_rfl) (by kernel_rfl) (fun _ _ _ h => h) (Or.inl ⟨by rfl, fun W' hSw => by dsimp only at hSw; go_simp⟩) hHeld ?_
      simp only [Act.put]
      refine wpAnyH_ready (rs := [0]) (by kernel_rfl) (by simp) ?_
      refine AllReadyH.cons rfl (fun K hK => ?_) AllReadyH.nil
      refine stepH rfl (wp_load_row 54 (.tmp 5) rfl (w.heap.size + 1) rfl 54 (setA S1) (0, 0) _ HPD.out.own Tryz.underlying54 rfl (by rw [HI.out, setA_size]) ?_)
      refine hK.out _ _ c4 ?_
      clear hK K
      intro hHeld
      simp only [Act.put]
      refine wpAnyH_ready (rs := [5]) (by kernel_rfl) (by simp) ?_
      refine AllReadyH.cons rfl (fun K hK => ?_) AllReadyH.nil
      go_simp
      refine (HLS.out wr.drew).mono ?_
      rintro e w5 ⟨rfl, hb5⟩
      have HP5 : Hid (BrSt w w5 S1) := HPD.out.later hb5
      have c5 : w5.cell? ⟨b, off + 14, none⟩ = some (.int .u8 (F0 : Int)) := cell_below hb5 c4
      clear hb5 HPD
      refine hK.out _ _ c5 ?_
      clear hK K
      intro hHeld
      refine wpAnyH_ready (rs := [6]) (by kernel_rfl) (by simp) ?_
      refine AllReadyH.cons rfl (fun K hK => ?_) AllReadyH.nil
      refine stepH rfl (wp_store_row 54 (.tmp 4) (.tmp 32) rfl w.heap.size R rfl rfl 54 (setA fun _ => 0) HP5.out.res (by rw [HI.out, HRZ.out.1]) (by rw [HRZ.out.1, setA_size]) HRZ.out.2 ?_)
      have HW : Hid ((w5.setRow w.heap.size R).heap[w.heap.size]? = some (.cells R 54 (0, 0))) := setRow_heap _ _ _ _ _ _ HP5.out.res
      have HB : Hid (Below w.heap.size w (w5.setRow w.heap.size R)) := below_setRow' HP5.out.bel (Nat.le_refl _) _
      have c6 : (w5.setRow w.heap.size R).cell? ⟨b, off + 14, none⟩ = some (.int .u8 (F0 : Int)) := (cell_setRow_other _ _ _ _ (by show b ≠ _; omega)).trans c5
      obtain ⟨w6, hw6⟩ : ∃ w6, w6 = w5.setRow w.heap.size R := ⟨_, rfl⟩
      rw [← hw6] at HW HB c6 ⊢
      clear hw6
      refine hK.out _ _ c6 ?_
      clear hK K
      intro hHeld
      refine wpAnyH_done (by kernel_rfl) ?_ _
      simp only [Act.put]
      go_wp2_with fail
      refine bodyPost_ret (v := .agg R) (results_cell_row rfl _ _ w.heap.size 54 R (0, 0) _ rfl HW.out Tryz.underlying54 rfl (by rw [HI.out, HRZ.out.1])) rfl ⟨rfl, HB.out⟩
end Go.Proofs.YtpbknhhjfhpkmaaGreatDoor

namespace Go.Proofs.YtpbknhhjfhpkmaaGreatDoor
open Go.RowKit

theorem load_set {w : World} {g : Nat} {s : Nat → Nat} (h : SetAt w g s) : (loadCellsFrom ⟨g, 0, none⟩ 0 6 #[]).run Tryz.prog w = .ok (setA s) w := by
  have := run_loadCells_list (P := Tryz.prog) w ⟨g, 0, none⟩ (setA s).toList (fun j v hv => by
    have hadd : (⟨g, 0, none⟩ : Addr).add j = ⟨g, j, none⟩ := by unfold Addr.add; split <;> simp_all
    rw [hadd, cell_of_row _ _ j (setA s) 54 (0, 0) h]
    simpa using hv)
  rw [show (setA s).toList.length = 6 from rfl] at this
  simpa [loadCells] using this
theorem store_set {w : World} {g : Nat} {s : Nat → Nat} (h : SetAt w g s) (t : Nat → Nat) : (storeCells ⟨g, 0, none⟩ (setA t).toList 0).run Tryz.prog w = .ok () (w.setRow g (setA t)) := by
  have := run_storeVar_row (P := Tryz.prog) w g 54 54 (setA s) (setA t) h (by rw [Tryz.infoSet, setA_size]) (by rw [setA_size, setA_size]) (setA_one t)
  have hi := Tryz.infoSet
  cases hq : Tryz.prog.info? 54 with
  | none => simp [hq] at hi
  | some i =>
    have hs : (setA t).size = i.size := by simp [hq] at hi; rw [setA_size]; omega
    simpa [storeVar, sizeOf, typeInfo, hq, Value.cells, hs] using this

set_option maxRecDepth 100000 in
set_option maxHeartbeats 4000000 in
theorem goalC (gf : Nat) (lb : Array Value) (eg : ∀ args w, (callFunc gf args).run Tryz.prog w = .ok (.enter gf args) w) (f : Nat → Nat → Nat) (b off : Nat) (v : WayV) (w : World) (hv : WyAt w b off v)
    (hget : ∀ (W : World), v.dst ≠ -1 → Below w.heap.size w W → Calls Tryz.prog gf (#[.int .i64 v.dst] ++ lb) W fun e w' => e = .returned (.agg (setA (f v.dst.toNat))) ∧ Below W.heap.size W w') :
    Calls Tryz.prog 43 #[.pointer (some ⟨b, off, none⟩), .func (.func gf) #[] lb] w fun e w' => e = .returned (.agg (setA (goalV f v))) ∧ Below w.heap.size w w' := by
  have HI : Hid ((Tryz.prog.info? 54).map (·.size) = some 6) := Tryz.infoSet
  obtain ⟨R, hR⟩ : ∃ R, R = goalV f v := ⟨_, rfl⟩
  rw [← hR]
  have lb' := World.block_lt_of_cell? w _ hv.c2
  have c2 := hv.c2
  have hz : (w.alloc (.cells #[.int .u64 0, .int .u64 0, .int .u64 0, .int .u64 0, .int .u64 0, .int .u64 0] 54)).heap[w.heap.size]? = some (.cells (setA fun _ => 0) 54 (0, 0)) := heap_at_alloc _ _ _ rfl
  have hbz : Below w.heap.size w (w.alloc (.cells #[.int .u64 0, .int .u64 0, .int .u64 0, .int .u64 0, .int .u64 0, .int .u64 0] 54)) := (Below.refl _ _).alloc (Nat.le_refl _) _
  have HZ : Hid (SetAt (w.alloc (.cells #[.int .u64 0, .int .u64 0, .int .u64 0, .int .u64 0, .int .u64 0, .int .u64 0] 54)) w.heap.size (fun _ => 0)) := hz
  have HBZ : Hid (Below w.heap.size w (w.alloc (.cells #[.int .u64 0, .int .u64 0, .int .u64 0, .int .u64 0, .int .u64 0, .int .u64 0] 54))) := hbz
  by_cases h1 : v.dst = -1
  · have e1 : R = v.into := by rw [hR]; unfold goalV; rw [if_pos h1]
    have t0 := hv.c3 0 (by omega)
    have t1 := hv.c3 1 (by omega)
    have t2 := hv.c3 2 (by omega)
    have t3 := hv.c3 3 (by omega)
    have t4 := hv.c3 4 (by omega)
    have t5 := hv.c3 5 (by omega)
    rw [h1] at c2
    have HE : Hid (setA R = #[.int .u64 (v.into 0), .int .u64 (v.into 1), .int .u64 (v.into 2), .int .u64 (v.into 3), .int .u64 (v.into 4), .int .u64 (v.into 5)]) := by show _ = _; rw [e1]; rfl
    rw [HE.out]
    clear hR hz hbz hget hv h1 e1
    go_enter Tryz.func43, Tryz.ntmps43
    go_wp2
    refine bodyPost_ret (v := .agg #[.int .u64 (v.into 0), .int .u64 (v.into 1), .int .u64 (v.into 2), .int .u64 (v.into 3), .int .u64 (v.into 4), .int .u64 (v.into 5)]) (results_cell_row rfl _ _ w.heap.size 54 _ (0, 0) _ rfl (heap_at_alloc _ _ _ rfl) Tryz.underlying54 rfl (by rw [HI.out]; rfl)) rfl ⟨rfl, (Below.refl _ _).alloc (Nat.le_refl _) _⟩
  · have e1 : R = f v.dst.toNat := by rw [hR]; unfold goalV; rw [if_neg h1]
    have hcall := hget _ h1 hbz
    obtain ⟨d, hdd⟩ : ∃ d, d = v.dst := ⟨_, rfl⟩
    rw [← e1] at hcall
    rw [← hdd] at hcall h1 c2
    have hne : (d == -1) = false := by simpa using h1
    clear hR hz hbz hget hv e1 hdd
    go_enter Tryz.func43, Tryz.ntmps43
    go_wp2_with fail
    refine hcall.mono ?_
    rintro e w4 ⟨rfl, hb4⟩
    have HZ4 : Hid (SetAt w4 w.heap.size (fun _ => 0)) := HZ.out.later hb4
    have HB4 : Hid (Below w.heap.size w w4) := HBZ.out.trans (hb4.mono HBZ.out.size)
    have hst := store_set HZ4.out R
    have HW : Hid ((w4.setRow w.heap.size (setA R)).heap[w.heap.size]? = some (.cells (setA R) 54 (0, 0))) := setRow_heap _ _ _ _ _ _ HZ4.out
    have HB : Hid (Below w.heap.size w (w4.setRow w.heap.size (setA R))) := below_setRow' HB4.out (Nat.le_refl _) _
    have HRZ : Hid ((setA R).size = 6) := setA_size _
    obtain ⟨w6, hw6⟩ : ∃ w6, w6 = w4.setRow w.heap.size (setA R) := ⟨_, rfl⟩
    obtain ⟨TT, hTT⟩ : ∃ TT, TT = setA R := ⟨_, rfl⟩
    rw [← hw6] at hst HW HB
    rw [← hTT] at hst HW HRZ ⊢
    have HTT : Hid (TT = setA R) := hTT
    clear hw6 hTT hcall hb4
    go_wp2_with fail
    refine bodyPost_ret (v := .agg TT) (results_cell_row rfl _ _ w.heap.size 54 TT (0, 0) _ rfl HW.out Tryz.underlying54 rfl (by rw [HI.out, HRZ.out])) rfl ⟨by rw [HTT.out], HB.out⟩

/- Sets in a row. -/
structure SetsAt (w : World) (so : Option Addr) (sb soff n : Nat) (f : Nat → Nat → Nat) : Prop where
  adr : 0 < n → so = some ⟨sb, soff, none⟩
  cell : ∀ k, k < n → ∀ i, i < 6 → w.cell? ⟨sb, soff + k * 6 + i, none⟩ = some (.int .u64 (f k i))
  lt : 0 < n → sb < w.heap.size
theorem SetsAt.later {w w' : World} {so : Option Addr} {sb soff n : Nat} {f : Nat → Nat → Nat} (h : SetsAt w so sb soff n f) (hb : Below w.heap.size w w') : SetsAt w' so sb soff n f :=
  ⟨h.adr, fun k hk i hi => cell_below hb (h.cell k hk i hi), fun hn => Nat.lt_of_lt_of_le (h.lt hn) hb.size⟩

set_option maxRecDepth 100000 in
set_option maxHeartbeats 4000000 in
theorem getB (q : Nat) (so : Option Addr) (sb soff n sc : Nat) (f : Nat → Nat → Nat) (i : Nat) (w : World) (hi : i < n) (hq : w.cell? ⟨q, 0, none⟩ = some (.slice so n sc)) (hs : SetsAt w so sb soff n f) :
    Calls Tryz.prog 40 (#[.int .i64 (i : Int)] ++ #[.pointer (some ⟨q, 0, none⟩)]) w fun e w' => e = .returned (.agg (setA (f i))) ∧ Below w.heap.size w w' := by
  have HI : Hid ((Tryz.prog.info? 54).map (·.size) = some 6) := Tryz.infoSet
  have hso := hs.adr (by omega)
  have t0 : w.cell? ⟨sb, soff + i * 6, none⟩ = some (.int .u64 (f i 0)) := hs.cell i hi 0 (by omega)
  have t1 := hs.cell i hi 1 (by omega)
  have t2 := hs.cell i hi 2 (by omega)
  have t3 := hs.cell i hi 3 (by omega)
  have t4 := hs.cell i hi 4 (by omega)
  have t5 := hs.cell i hi 5 (by omega)
  have lq := World.block_lt_of_cell? w _ hq
  have ls := hs.lt (by omega)
  have i1 : (i : Int) < (n : Int) := by omega
  have HE : Hid (setA (f i) = #[.int .u64 (f i 0), .int .u64 (f i 1), .int .u64 (f i 2), .int .u64 (f i 3), .int .u64 (f i 4), .int .u64 (f i 5)]) := rfl
  rw [HE.out]
  clear hs
  subst hso
  show Calls Tryz.prog 40 #[.int .i64 (i : Int), .pointer (some ⟨q, 0, none⟩)] w _
  go_enter Tryz.func40, Tryz.ntmps40
  go_wp2
  refine bodyPost_ret (v := .agg #[.int .u64 (f i 0), .int .u64 (f i 1), .int .u64 (f i 2), .int .u64 (f i 3), .int .u64 (f i 4), .int .u64 (f i 5)]) (results_cell_row rfl _ _ w.heap.size 54 _ (0, 0) _ rfl (heap_at_alloc _ _ _ rfl) Tryz.underlying54 rfl (by rw [HI.out]; rfl)) rfl ⟨rfl, (Below.refl _ _).alloc (Nat.le_refl _) _⟩

set_option maxRecDepth 100000 in
set_option maxHeartbeats 4000000 in
theorem getL (q : Nat) (so : Option Addr) (sb soff n sc : Nat) (f : Nat → Nat → Nat) (i : Nat) (w : World) (hi : i < n) (hq : w.cell? ⟨q, 0, none⟩ = some (.slice so n sc)) (hs : SetsAt w so sb soff n f) :
    Calls Tryz.prog 48 (#[.int .i64 (i : Int)] ++ #[.pointer (some ⟨q, 0, none⟩)]) w fun e w' => e = .returned (.agg (setA (f i))) ∧ Below w.heap.size w w' := by
  have HI : Hid ((Tryz.prog.info? 54).map (·.size) = some 6) := Tryz.infoSet
  have hso := hs.adr (by omega)
  have t0 : w.cell? ⟨sb, soff + i * 6, none⟩ = some (.int .u64 (f i 0)) := hs.cell i hi 0 (by omega)
  have t1 := hs.cell i hi 1 (by omega)
  have t2 := hs.cell i hi 2 (by omega)
  have t3 := hs.cell i hi 3 (by omega)
  have t4 := hs.cell i hi 4 (by omega)
  have t5 := hs.cell i hi 5 (by omega)
  have lq := World.block_lt_of_cell? w _ hq
  have ls := hs.lt (by omega)
  have i1 : (i : Int) < (n : Int) := by omega
  have HE : Hid (setA (f i) = #[.int .u64 (f i 0), .int .u64 (f i 1), .int .u64 (f i 2), .int .u64 (f i 3), .int .u64 (f i 4), .int .u64 (f i 5)]) := rfl
  rw [HE.out]
  clear hs
  subst hso
  show Calls Tryz.prog 48 #[.int .i64 (i : Int), .pointer (some ⟨q, 0, none⟩)] w _
  go_enter Tryz.func48, Tryz.ntmps48
  go_wp2
  refine bodyPost_ret (v := .agg #[.int .u64 (f i 0), .int .u64 (f i 1), .int .u64 (f i 2), .int .u64 (f i 3), .int .u64 (f i 4), .int .u64 (f i 5)]) (results_cell_row rfl _ _ w.heap.size 54 _ (0, 0) _ rfl (heap_at_alloc _ _ _ rfl) Tryz.underlying54 rfl (by rw [HI.out]; rfl)) rfl ⟨rfl, (Below.refl _ _).alloc (Nat.le_refl _) _⟩
end Go.Proofs.YtpbknhhjfhpkmaaGreatDoor

namespace Go.Proofs.YtpbknhhjfhpkmaaGreatDoor
open Go.RowKit

theorem Tryz.infoU64 : (Tryz.prog.info? 52).map (fun i => (i.zero, i.size, i.bytes)) = some (some (.int .u64 0), 1, 8) := by kernel_rfl
def sameS (s t : Nat → Nat) : Bool := decide (s 0 = t 0 ∧ s 1 = t 1 ∧ s 2 = t 2 ∧ s 3 = t 3 ∧ s 4 = t 4 ∧ s 5 = t 5)
theorem sameS_iff {s t : Nat → Nat} : sameS s t = true ↔ ∀ o, o < 6 → s o = t o := by
  unfold sameS
  rw [decide_eq_true_eq]
  constructor
  · rintro ⟨h0, h1, h2, h3, h4, h5⟩ o ho
    match o, ho with
    | 0, _ => exact h0
    | 1, _ => exact h1
    | 2, _ => exact h2
    | 3, _ => exact h3
    | 4, _ => exact h4
    | 5, _ => exact h5
  · intro h
    exact ⟨h 0 (by omega), h 1 (by omega), h 2 (by omega), h 3 (by omega), h 4 (by omega), h 5 (by omega)⟩
theorem beqN (a b : Nat) : ((a : Int) == (b : Int)) = decide (a = b) := by
  by_cases h : a = b
  · simp [h]
  · have h' : ¬ (a : Int) = (b : Int) := by omega
    simp [h, h']
theorem equal_set (s t : Nat → Nat) (w : World) : (Op.equal 54 (.agg (setA s)) (.agg (setA t))).run Tryz.prog w = .ok (sameS s t) w := by
  obtain ⟨i0, hi, _⟩ := info_parts Tryz.infoU64
  have hc : Tryz.prog.cellsOf 52 = 1 := by kernel_rfl
  show (Op.equalIn (9998 + 1 + 1) 54 _ _).run _ _ = _
  rw [run_equalIn_array w (9998 + 1) _ _ Tryz.underlying54 hi, hc]
  simp only [show List.range 6 = [0, 1, 2, 3, 4, 5] from rfl, Op.eqItems, Sem.run_bind, part, go_sem, Nat.zero_mul, Nat.one_mul, setA]
  simp [run_equalIn_int w _ 52 _ _ _ _ Tryz.underlying52, go_sem]
  unfold sameS
  by_cases h0 : s 0 = t 0 <;> by_cases h1 : s 1 = t 1 <;> by_cases h2 : s 2 = t 2 <;> by_cases h3 : s 3 = t 3 <;> by_cases h4 : s 4 = t 4 <;> by_cases h5 : s 5 = t 5 <;> simp [h0, h1, h2, h3, h4, h5, Int.ofNat_inj]
theorem neq_set (s t : Nat → Nat) (w : World) : (binOp .neq 54 (.agg (setA s)) (.agg (setA t))).run Tryz.prog w = .ok (.bool (!sameS s t)) w := by
  show (Bind.bind (Op.equal 54 (.agg (setA s)) (.agg (setA t))) fun r => (Pure.pure (Value.bool (!r)) : Sem Value)).run Tryz.prog w = _
  simp [equal_set]
theorem guard_set (x y : Operand) (a b : Array Value) (w : World) : (eqGuard .neq 54 x y (.agg a) (.agg b)).run Tryz.prog w = .ok () w := by
  have : Tryz.prog.eqGuardType Tryz.prog.depth 54 = false := by kernel_rfl
  simp [eqGuard, this, go_sem]

/- What least holds: the box of the sets that are found, the box of 'changed', the sets. -/
structure LeSt (B : Nat) (w0 w : World) (q5 q6 sb n sc : Nat) (f : Nat → Nat → Nat) (ch : Bool) : Prop where
  bel : Below B w0 w
  box : w.heap[q5]? = some (.cells #[.slice (some ⟨sb, 0, none⟩) n sc] 48 (0, 0))
  chg : w.heap[q6]? = some (.cells #[.bool ch] 4 (0, 0))
  row : ∀ k, k < n → ∀ i, i < 6 → w.cell? ⟨sb, k * 6 + i, none⟩ = some (.int .u64 (f k i))
  fre : ∀ x, w.frozen? ⟨sb, x, none⟩ = false
  lo : B ≤ sb ∧ sb < q5 ∧ q5 < q6
  lt : sb < w.heap.size
theorem LeSt.later {B : Nat} {w0 w w' : World} {q5 q6 sb n sc : Nat} {f : Nat → Nat → Nat} {ch : Bool} (h : LeSt B w0 w q5 q6 sb n sc f ch) (hb : Below w.heap.size w w') : LeSt B w0 w' q5 q6 sb n sc f ch :=
  ⟨h.bel.trans (hb.mono (by have := h.lo; have := h.lt; omega)), (hb.block _ (lt_of_block h.box)).trans h.box, (hb.block _ (lt_of_block h.chg)).trans h.chg, fun k hk i hi => cell_below hb (h.row k hk i hi), fun x => by
    have := h.fre x
    simp only [World.frozen?] at this ⊢
    rw [hb.block _ h.lt]; exact this, h.lo, Nat.lt_of_lt_of_le h.lt hb.size⟩
theorem LeSt.sets {B : Nat} {w0 w : World} {q5 q6 sb n sc : Nat} {f : Nat → Nat → Nat} {ch : Bool} (h : LeSt B w0 w q5 q6 sb n sc f ch) : SetsAt w (some ⟨sb, 0, none⟩) sb 0 n f :=
  ⟨fun _ => rfl, fun k hk i hi => by rw [Nat.zero_add]; exact h.row k hk i hi, fun _ => h.lt⟩
/- One set anew, and 'changed'. -/
theorem LeSt.put {B : Nat} {w0 w : World} {q5 q6 sb n sc : Nat} {f : Nat → Nat → Nat} {ch : Bool} (h : LeSt B w0 w q5 q6 sb n sc f ch) {i : Nat} (hi : i < n) (t : Nat → Nat) :
    LeSt B w0 ((w.setCells sb (i * 6) (setA t).toList).setCell ⟨q6, 0, none⟩ (.bool true)) q5 q6 sb n sc (Sol.putF f i t) true := by
  obtain ⟨h1, h2, h3⟩ := h.lo
  have hsome : ∀ j, j < (setA t).toList.length → (w.cell? ⟨sb, i * 6 + j, none⟩).isSome = true := fun j hj => by
    rw [h.row i hi j hj]; rfl
  have hq5 : (w.setCells sb (i * 6) (setA t).toList).heap[q5]? = w.heap[q5]? := World.heap_setCells_other w sb _ _ (lt_of_block h.box) (by omega)
  have hq6 : (w.setCells sb (i * 6) (setA t).toList).heap[q6]? = w.heap[q6]? := World.heap_setCells_other w sb _ _ (lt_of_block h.chg) (by omega)
  refine ⟨(below_setCells (by omega) _ _ _ h.bel).setCell (p := ⟨q6, 0, none⟩) (by show B ≤ q6; omega) _, ?_, ?_, fun k hk j hj => ?_, fun x => ?_, h.lo, ?_⟩
  · rw [Below.heap_setCell _ _ _ _ (by show q5 ≠ q6; omega), hq5]; exact h.box
  · exact heap_setCell_same _ _ _ _ _ _ (hq6.trans h.chg)
  · rw [World.cell?_setCell_far _ _ _ _ (by show q6 ≠ sb; omega)]
    by_cases e : k = i
    · subst e
      have hin := World.cell?_setCells_in sb (setA t).toList (k * 6) w hsome j hj
      rw [hin]
      unfold Sol.putF
      rw [if_pos rfl]
      have := setA_at t hj
      rw [← Array.getElem?_toList, List.getElem?_eq_getElem hj] at this
      exact this
    · have hout := World.cell?_setCells_out sb (setA t).toList (i * 6) w ⟨sb, k * 6 + j, none⟩ (fun _ _ => by
        show k * 6 + j < i * 6 ∨ i * 6 + 6 ≤ k * 6 + j
        omega)
      rw [hout, h.row k hk j hj]
      unfold Sol.putF
      rw [if_neg e]
  · rw [World.frozen?_setCell, World.frozen?_setCells]; exact h.fre x
  · have := (below_setCells (b := sb) (B := sb) (Nat.le_refl _) (setA t).toList (i * 6) w (Below.refl sb w)).size
    have h4 := h.lt
    have h5 : ((w.setCells sb (i * 6) (setA t).toList).setCell ⟨q6, 0, none⟩ (.bool true)).heap.size = (w.setCells sb (i * 6) (setA t).toList).heap.size := by simp [World.setCell]
    omega

theorem load_lit {w : World} {g : Nat} {s : Nat → Nat} (r0 : w.cell? ⟨g, 0, none⟩ = some (.int .u64 (s 0))) (r1 : w.cell? ⟨g, 1, none⟩ = some (.int .u64 (s 1))) (r2 : w.cell? ⟨g, 2, none⟩ = some (.int .u64 (s 2))) (r3 : w.cell? ⟨g, 3, none⟩ = some (.int .u64 (s 3))) (r4 : w.cell? ⟨g, 4, none⟩ = some (.int .u64 (s 4))) (r5 : w.cell? ⟨g, 5, none⟩ = some (.int .u64 (s 5))) : (loadCellsFrom ⟨g, 0, none⟩ 0 6 #[]).run Tryz.prog w = .ok (setA s) w := by
  have := run_loadCells_list (P := Tryz.prog) w ⟨g, 0, none⟩ (setA s).toList (fun j v hv => by
    have hadd : (⟨g, 0, none⟩ : Addr).add j = ⟨g, j, none⟩ := by unfold Addr.add; split <;> simp_all
    rw [hadd]
    match j, hv with
    | 0, hv => rw [r0]; exact hv
    | 1, hv => rw [r1]; exact hv
    | 2, hv => rw [r2]; exact hv
    | 3, hv => rw [r3]; exact hv
    | 4, hv => rw [r4]; exact hv
    | 5, hv => rw [r5]; exact hv
    | j + 6, hv => simp [setA] at hv)
  rw [show (setA s).toList.length = 6 from rfl] at this
  simpa [loadCells] using this

set_option maxRecDepth 100000 in
set_option maxHeartbeats 4000000 in
theorem putC (B : Nat) (w0 : World) (q5 q6 sb n sc i : Nat) (f : Nat → Nat → Nat) (s : Nat → Nat) (ch : Bool) (w : World) (h : LeSt B w0 w q5 q6 sb n sc f ch) (hi : i < n) (hn : n ≤ 400) (hs : SetOK s) (hf : SetOK (f i)) :
    Calls Tryz.prog 49 (#[.int .i64 (i : Int), .agg (setA s)] ++ #[.pointer (some ⟨q5, 0, none⟩), .pointer (some ⟨q6, 0, none⟩)]) w fun e w' => e = .returned (.tuple #[]) ∧ (if sameS (fun o => s o ||| f i o) (f i) = true then LeSt B w0 w' q5 q6 sb n sc f ch else LeSt B w0 w' q5 q6 sb n sc (Sol.putF f i (fun o => s o ||| f i o)) true) := by
  have HI : Hid ((Tryz.prog.info? 54).map (·.size) = some 6) := Tryz.infoSet
  have hmx : Tryz.prog.follows .mixedOrders = true := by kernel_rfl
  obtain ⟨T, hT⟩ : ∃ T : Nat → Nat, T = fun o => s o ||| f i o := ⟨_, rfl⟩
  obtain ⟨F, hF⟩ : ∃ F : Nat → Nat, F = f i := ⟨_, rfl⟩
  rw [← hT]
  have HEQ : Hid (F = f i ∧ T = fun o => s o ||| F o) := ⟨hF, by rw [hF]; exact hT⟩
  have HSF : Hid (sameS T (f i) = sameS T F) := by rw [hF]; rfl
  rw [HSF.out]
  obtain ⟨wz, hwz⟩ : ∃ wz, wz = w.alloc (.cells (setA s) 54) := ⟨_, rfl⟩
  have HWZ : Hid (wz = w.alloc (.cells (setA s) 54)) := hwz
  have hbz : Below w.heap.size w wz := by rw [hwz]; exact (Below.refl _ _).alloc (Nat.le_refl _) _
  have HZ : Hid (LeSt B w0 wz q5 q6 sb n sc f ch) := h.later hbz
  have HS0 : Hid (SetAt wz w.heap.size s) := by show wz.heap[_]? = _; rw [hwz]; exact heap_at_alloc _ _ _ rfl
  have HPL : Hid (∀ W : World, Calls Tryz.prog 50 #[.agg (setA s), .agg (setA F)] W fun e w' => e = .returned (.agg (setA T)) ∧ Below W.heap.size W w') := by
    intro W
    rw [HEQ.out.2]
    exact plusC s F W hs (by rw [hF]; exact hf)
  have HOL : Hid (sb < w.heap.size ∧ q5 < w.heap.size ∧ q6 < w.heap.size) := ⟨h.lt, lt_of_block h.box, lt_of_block h.chg⟩
  have i1 : (i : Int) < (n : Int) := by omega
  have HIN : Hid (i < n ∧ n ≤ 400) := ⟨hi, hn⟩
  have HFI : Hid (F = f i) := hF
  clear h hs hf hT hF hwz hbz hi hn
  show Calls Tryz.prog 49 #[.int .i64 (i : Int), .agg (setA s), .pointer (some ⟨q5, 0, none⟩), .pointer (some ⟨q6, 0, none⟩)] w _
  go_enter Tryz.func49, Tryz.ntmps49
  go_upto_region 1 with fail
  rw [← HWZ.out]
  clear HWZ
  have cb : wz.cell? ⟨q5, 0, none⟩ = some (.slice (some ⟨sb, 0, none⟩) n sc) := cell_blk HZ.out.box
  have g0 : wz.cell? ⟨sb, i * 6, none⟩ = some (.int .u64 (F 0 : Int)) := by rw [HFI.out]; exact HZ.out.row i HIN.out.1 0 (by omega)
  have g1 : wz.cell? ⟨sb, i * 6 + 1, none⟩ = some (.int .u64 (F 1 : Int)) := by rw [HFI.out]; exact HZ.out.row i HIN.out.1 1 (by omega)
  have g2 : wz.cell? ⟨sb, i * 6 + 2, none⟩ = some (.int .u64 (F 2 : Int)) := by rw [HFI.out]; exact HZ.out.row i HIN.out.1 2 (by omega)
  have g3 : wz.cell? ⟨sb, i * 6 + 3, none⟩ = some (.int .u64 (F 3 : Int)) := by rw [HFI.out]; exact HZ.out.row i HIN.out.1 3 (by omega)
  have g4 : wz.cell? ⟨sb, i * 6 + 4, none⟩ = some (.int .u64 (F 4 : Int)) := by rw [HFI.out]; exact HZ.out.row i HIN.out.1 4 (by omega)
  have g5 : wz.cell? ⟨sb, i * 6 + 5, none⟩ = some (.int .u64 (F 5 : Int)) := by rw [HFI.out]; exact HZ.out.row i HIN.out.1 5 (by omega)
  have HA : Hid (setA F = #[.int .u64 (F 0), .int .u64 (F 1), .int .u64 (F 2), .int .u64 (F 3), .int .u64 (F 4), .int .u64 (F 5)]) := rfl
  refine wp_region_held_drew (S := (fun W' => W'.cell? ⟨q5, 0, none⟩ = some (.slice (some ⟨sb, 0, none⟩) n sc) ∧ W'.cell? ⟨sb, i * 6, none⟩ = some (.int .u64 (F 0 : Int)) ∧ W'.cell? ⟨sb, i * 6 + 1, none⟩ = some (.int .u64 (F 1 : Int)) ∧ W'.cell? ⟨sb, i * 6 + 2, none⟩ = some (.int .u64 (F 2 : Int)) ∧ W'.cell? ⟨sb, i * 6 + 3, none⟩ = some (.int .u64 (F 3 : Int)) ∧ W'.cell? ⟨sb, i * 6 + 4, none⟩ = some (.int .u64 (F 4 : Int)) ∧ W'.cell? ⟨sb, i * 6 + 5, none⟩ = some (.int .u64 (F 5 : Int)))) hmx ⟨cb, g0, g1, g2, g3, g4, g5⟩ ?_
  intro hHeld
  refine wpAnyH_take (i := 1) (v := .slice (some ⟨sb, 0, none⟩) n sc) rfl (by kernel_rfl) (by kernel_rfl) (by kernel_rfl) (fun _ _ _ h => h) (Or.inl ⟨by rfl, fun W' hSw => by dsimp only at hSw; go_simp⟩) hHeld ?_
  simp only [Act.put]
  refine wpAnyH_take (i := 2) (v := .int .i64 (i : Int)) rfl (by kernel_rfl) (by kernel_rfl) (by kernel_rfl) (fun _ _ _ h => h) (Or.inl ⟨by rfl, fun W' hSw => by dsimp only at hSw; go_simp⟩) hHeld ?_
  simp only [Act.put]
  refine wpAnyH_take (i := 3) (v := .pointer (some ⟨sb, i * 6, none⟩)) rfl (by kernel_rfl) (by kernel_rfl) (by kernel_rfl) (fun _ _ _ h => h) (Or.inl ⟨by rfl, fun W' hSw => by dsimp only at hSw; go_simp⟩) hHeld ?_
  simp only [Act.put]
  refine wpAnyH_take (i := 4) (v := .agg #[.int .u64 (F 0), .int .u64 (F 1), .int .u64 (F 2), .int .u64 (F 3), .int .u64 (F 4), .int .u64 (F 5)]) rfl (by kernel_rfl) (by kernel_rfl) (by kernel_rfl) (fun _ _ _ h => h) (Or.inl ⟨by rfl, fun W' hSw => by dsimp only at hSw; go_simp⟩) hHeld ?_
  simp only [Act.put]
  refine wpAnyH_ready (rs := [0]) (by kernel_rfl) (by simp) ?_
  refine AllReadyH.cons rfl (fun K hK => ?_) AllReadyH.nil
  refine stepH rfl (wp_load_row 54 (.tmp 5) rfl w.heap.size rfl 54 (setA s) (0, 0) _ HS0.out Tryz.underlying54 rfl (by rw [HI.out, setA_size]) ?_)
  refine hK.out _ _ ⟨cb, g0, g1, g2, g3, g4, g5⟩ ?_
  clear hK K
  intro hHeld
  simp only [Act.put]
  refine wpAnyH_ready (rs := [5]) (by kernel_rfl) (by simp) ?_
  refine AllReadyH.cons rfl (fun K hK => ?_) AllReadyH.nil
  go_simp
  rw [← HA.out]
  refine (HPL.out wz.drew).mono ?_
  rintro e w4 ⟨rfl, hb4⟩
  have HZ4 : Hid (LeSt B w0 w4 q5 q6 sb n sc f ch) := (HZ.out.later ⟨rfl, rfl, rfl, Nat.le_refl _, fun _ _ => rfl⟩ : LeSt B w0 wz.drew q5 q6 sb n sc f ch).later hb4
  have HS4 : Hid (SetAt w4 w.heap.size s) := SetAt.later (w := wz.drew) HS0.out hb4
  clear hb4 cb g0 g1 g2 g3 g4 g5 hHeld HZ HS0 HPL
  have cb : w4.cell? ⟨q5, 0, none⟩ = some (.slice (some ⟨sb, 0, none⟩) n sc) := cell_blk HZ4.out.box
  have g0 : w4.cell? ⟨sb, i * 6, none⟩ = some (.int .u64 (F 0 : Int)) := by rw [HFI.out]; exact HZ4.out.row i HIN.out.1 0 (by omega)
  have g1 : w4.cell? ⟨sb, i * 6 + 1, none⟩ = some (.int .u64 (F 1 : Int)) := by rw [HFI.out]; exact HZ4.out.row i HIN.out.1 1 (by omega)
  have g2 : w4.cell? ⟨sb, i * 6 + 2, none⟩ = some (.int .u64 (F 2 : Int)) := by rw [HFI.out]; exact HZ4.out.row i HIN.out.1 2 (by omega)
  have g3 : w4.cell? ⟨sb, i * 6 + 3, none⟩ = some (.int .u64 (F 3 : Int)) := by rw [HFI.out]; exact HZ4.out.row i HIN.out.1 3 (by omega)
  have g4 : w4.cell? ⟨sb, i * 6 + 4, none⟩ = some (.int .u64 (F 4 : Int)) := by rw [HFI.out]; exact HZ4.out.row i HIN.out.1 4 (by omega)
  have g5 : w4.cell? ⟨sb, i * 6 + 5, none⟩ = some (.int .u64 (F 5 : Int)) := by rw [HFI.out]; exact HZ4.out.row i HIN.out.1 5 (by omega)
  refine hK.out _ _ ⟨cb, g0, g1, g2, g3, g4, g5⟩ ?_
  clear hK K
  intro hHeld
  refine wpAnyH_ready (rs := [6]) (by kernel_rfl) (by simp) ?_
  refine AllReadyH.cons rfl (fun K hK => ?_) AllReadyH.nil
  refine stepH rfl (wp_store_row 54 (.tmp 5) (.tmp 11) rfl w.heap.size (setA T) rfl rfl 54 (setA s) HS4.out (by rw [HI.out, setA_size]) (by rw [setA_size, setA_size]) (setA_one _) ?_)
  have HS5 : Hid (SetAt (w4.setRow w.heap.size (setA T)) w.heap.size T) := setRow_heap _ _ _ _ _ _ HS4.out
  have HZ5 : Hid (LeSt B w0 (w4.setRow w.heap.size (setA T)) q5 q6 sb n sc f ch) := by
    obtain ⟨o1, o2, o3⟩ := HOL.out
    refine ⟨below_setRow' HZ4.out.bel (by have := HZ4.out.lo; omega) _, (setRow_other _ _ _ _ (by omega)).trans HZ4.out.box, (setRow_other _ _ _ _ (by omega)).trans HZ4.out.chg, fun k hk j hj => (cell_setRow_other _ _ _ _ (by show sb ≠ _; omega)).trans (HZ4.out.row k hk j hj), fun x => ?_, HZ4.out.lo, by rw [setRow_size]; exact HZ4.out.lt⟩
    have := HZ4.out.fre x
    simp only [World.frozen?] at this ⊢
    rw [setRow_other _ _ _ _ (by omega)]
    exact this
  obtain ⟨w5, hw5⟩ : ∃ w5, w5 = w4.setRow w.heap.size (setA T) := ⟨_, rfl⟩
  rw [← hw5] at HS5 HZ5 ⊢
  clear hw5 cb g0 g1 g2 g3 g4 g5 hHeld HZ4 HS4
  have cb : w5.cell? ⟨q5, 0, none⟩ = some (.slice (some ⟨sb, 0, none⟩) n sc) := cell_blk HZ5.out.box
  have g0 : w5.cell? ⟨sb, i * 6, none⟩ = some (.int .u64 (F 0 : Int)) := by rw [HFI.out]; exact HZ5.out.row i HIN.out.1 0 (by omega)
  have g1 : w5.cell? ⟨sb, i * 6 + 1, none⟩ = some (.int .u64 (F 1 : Int)) := by rw [HFI.out]; exact HZ5.out.row i HIN.out.1 1 (by omega)
  have g2 : w5.cell? ⟨sb, i * 6 + 2, none⟩ = some (.int .u64 (F 2 : Int)) := by rw [HFI.out]; exact HZ5.out.row i HIN.out.1 2 (by omega)
  have g3 : w5.cell? ⟨sb, i * 6 + 3, none⟩ = some (.int .u64 (F 3 : Int)) := by rw [HFI.out]; exact HZ5.out.row i HIN.out.1 3 (by omega)
  have g4 : w5.cell? ⟨sb, i * 6 + 4, none⟩ = some (.int .u64 (F 4 : Int)) := by rw [HFI.out]; exact HZ5.out.row i HIN.out.1 4 (by omega)
  have g5 : w5.cell? ⟨sb, i * 6 + 5, none⟩ = some (.int .u64 (F 5 : Int)) := by rw [HFI.out]; exact HZ5.out.row i HIN.out.1 5 (by omega)
  refine hK.out _ _ ⟨cb, g0, g1, g2, g3, g4, g5⟩ ?_
  clear hK K
  intro hHeld
  refine wpAnyH_done (by kernel_rfl) ?_ _
  simp only [Act.put]
  go_upto_region 2 with fail
  clear hHeld
  have r0 : w5.cell? ⟨w.heap.size, 0, none⟩ = some (.int .u64 (T 0 : Int)) := HS5.out.cell (by omega)
  have r1 : w5.cell? ⟨w.heap.size, 1, none⟩ = some (.int .u64 (T 1 : Int)) := HS5.out.cell (by omega)
  have r2 : w5.cell? ⟨w.heap.size, 2, none⟩ = some (.int .u64 (T 2 : Int)) := HS5.out.cell (by omega)
  have r3 : w5.cell? ⟨w.heap.size, 3, none⟩ = some (.int .u64 (T 3 : Int)) := HS5.out.cell (by omega)
  have r4 : w5.cell? ⟨w.heap.size, 4, none⟩ = some (.int .u64 (T 4 : Int)) := HS5.out.cell (by omega)
  have r5 : w5.cell? ⟨w.heap.size, 5, none⟩ = some (.int .u64 (T 5 : Int)) := HS5.out.cell (by omega)
  have hne : ∀ W : World, (Op.equalIn 10000 54 (.agg #[.int .u64 (T 0), .int .u64 (T 1), .int .u64 (T 2), .int .u64 (T 3), .int .u64 (T 4), .int .u64 (T 5)]) (.agg #[.int .u64 (F 0), .int .u64 (F 1), .int .u64 (F 2), .int .u64 (F 3), .int .u64 (F 4), .int .u64 (F 5)])).run Tryz.prog W = .ok (sameS T F) W := fun W => equal_set T F W
  have hgd : ∀ (x y : Operand) (W : World), (eqGuard .neq 54 x y (.agg #[.int .u64 (T 0), .int .u64 (T 1), .int .u64 (T 2), .int .u64 (T 3), .int .u64 (T 4), .int .u64 (T 5)]) (.agg #[.int .u64 (F 0), .int .u64 (F 1), .int .u64 (F 2), .int .u64 (F 3), .int .u64 (F 4), .int .u64 (F 5)])).run Tryz.prog W = .ok () W := fun x y W => guard_set x y _ _ W
  go_quiet (fail)
  clear hne hgd
  obtain ⟨w6, hw6⟩ : ∃ w6, w6 = w5.drewN nq := ⟨_, rfl⟩
  have HZ6 : Hid (LeSt B w0 w6 q5 q6 sb n sc f ch) := by rw [hw6]; exact HZ5.out.later ⟨rfl, rfl, rfl, Nat.le_refl _, fun _ _ => rfl⟩
  have hce : ∀ p, w6.cell? p = w5.cell? p := fun p => by rw [hw6]; rfl
  rw [← hw6]
  rw [← hce] at cb r0 r1 r2 r3 r4 r5
  clear hw6 hce g0 g1 g2 g3 g4 g5 HZ5 HS5
  cases hsm : sameS T F with
  | true =>
    rw [Bool.not_true]
    go_wp2_with fail
    go_end0
    refine ⟨rfl, ?_⟩
    exact HZ6.out
  | false =>
    have HST7 : Hid (LeSt B w0 ((w6.setCells sb (i * 6) (setA T).toList).setCell ⟨q6, 0, none⟩ (.bool true)) q5 q6 sb n sc (Sol.putF f i T) true) := HZ6.out.put HIN.out.1 T
    have g0 : w6.cell? ⟨sb, i * 6, none⟩ = some (.int .u64 (f i 0 : Int)) := HZ6.out.row i HIN.out.1 0 (by omega)
    have g1 : w6.cell? ⟨sb, i * 6 + 1, none⟩ = some (.int .u64 (f i 1 : Int)) := HZ6.out.row i HIN.out.1 1 (by omega)
    have g2 : w6.cell? ⟨sb, i * 6 + 2, none⟩ = some (.int .u64 (f i 2 : Int)) := HZ6.out.row i HIN.out.1 2 (by omega)
    have g3 : w6.cell? ⟨sb, i * 6 + 3, none⟩ = some (.int .u64 (f i 3 : Int)) := HZ6.out.row i HIN.out.1 3 (by omega)
    have g4 : w6.cell? ⟨sb, i * 6 + 4, none⟩ = some (.int .u64 (f i 4 : Int)) := HZ6.out.row i HIN.out.1 4 (by omega)
    have g5 : w6.cell? ⟨sb, i * 6 + 5, none⟩ = some (.int .u64 (f i 5 : Int)) := HZ6.out.row i HIN.out.1 5 (by omega)
    have z0 : w6.frozen? ⟨sb, i * 6, none⟩ = false := HZ6.out.fre _
    have z1 : w6.frozen? ⟨sb, i * 6 + 1, none⟩ = false := HZ6.out.fre _
    have z2 : w6.frozen? ⟨sb, i * 6 + 2, none⟩ = false := HZ6.out.fre _
    have z3 : w6.frozen? ⟨sb, i * 6 + 3, none⟩ = false := HZ6.out.fre _
    have z4 : w6.frozen? ⟨sb, i * 6 + 4, none⟩ = false := HZ6.out.fre _
    have z5 : w6.frozen? ⟨sb, i * 6 + 5, none⟩ = false := HZ6.out.fre _
    have c7 : w6.cell? ⟨q6, 0, none⟩ = some (.bool ch) := cell_blk HZ6.out.chg
    have f7 : w6.frozen? ⟨q6, 0, none⟩ = false := by simp [World.frozen?, HZ6.out.chg]
    have l6 := HZ6.out.lt
    have n6 : sb ≠ q6 := by have := HZ6.out.lo; omega
    have n7 : q6 ≠ sb := by have := HZ6.out.lo; omega
    rw [Bool.not_false]
    go_wp2_with fail
    all_goals go_end0
    all_goals exact ⟨rfl, HST7.out⟩
end Go.Proofs.YtpbknhhjfhpkmaaGreatDoor

namespace Go.Proofs.YtpbknhhjfhpkmaaGreatDoor
open Go.RowKit

/- Ways in a row. -/
structure WysAt (w : World) (wo : Option Addr) (wb woff : Nat) (vs : List WayV) : Prop where
  adr : 0 < vs.length → wo = some ⟨wb, woff, none⟩
  at' : ∀ k (h : k < vs.length), WyAt w wb (woff + k * 15) vs[k]
theorem WysAt.later {w w' : World} {wo : Option Addr} {wb woff : Nat} {vs : List WayV} (h : WysAt w wo wb woff vs) (hb : Below w.heap.size w w') : WysAt w' wo wb woff vs := ⟨h.adr, fun k hk => (h.at' k hk).later hb⟩
/- Each way goes from and to labels that there are. -/
def InRange (n : Nat) (vs : List WayV) : Prop := ∀ v ∈ vs, (∀ i ∈ v.src, i < n) ∧ (v.dst = -1 ∨ ∃ d : Nat, v.dst = (d : Int) ∧ d < n)
/- What has been found so far. -/
structure LeOK (n : Nat) (vs : List WayV) (f : Nat → Nat → Nat) : Prop where
  come : Come vs f
  ok : ∀ k, SetOK (f k)
theorem brings_ok {f : Nat → Nat → Nat} {v : WayV} (hf : ∀ k, SetOK (f k)) (h : SetOK v.told) : SetOK (bringsV f v) := less_ok (plusAll_ok hf h) _
theorem putF_ok {f : Nat → Nat → Nat} {s : Nat → Nat} (hf : ∀ k, SetOK (f k)) (hs : SetOK s) (i : Nat) : ∀ k, SetOK (Sol.putF f i s k) := fun k => by
  unfold Sol.putF
  split
  · exact hs
  · exact hf k
theorem in_or (a b : Nat) : Sol.In b (a ||| b) := Sol.in_or_right a b
/- The measure: how many bits are set. -/
def cellN (w : World) (p : Addr) : Nat := match w.cell? p with | some (.int .u64 x) => x.toNat | _ => 0
def totW (w : World) (sb n : Nat) : Nat := Sol.total n fun k i => cellN w ⟨sb, k * 6 + i, none⟩
theorem totW_eq {B : Nat} {w0 w : World} {q5 q6 sb n sc : Nat} {f : Nat → Nat → Nat} {ch : Bool} (h : LeSt B w0 w q5 q6 sb n sc f ch) : totW w sb n = Sol.total n f := by
  unfold totW Sol.total Sol.card
  apply Sol.sum_same
  intro k hk
  apply Sol.sum_same
  intro i hi
  simp only [cellN, h.row k hk i hi, Int.toNat_natCast]
theorem total_put {n : Nat} {f : Nat → Nat → Nat} {i : Nat} (hi : i < n) {s : Nat → Nat} (hf : ∀ k, SetOK (f k)) (hs : SetOK s) (hne : sameS (fun o => s o ||| f i o) (f i) ≠ true) : Sol.total n f < Sol.total n (Sol.putF f i (fun o => s o ||| f i o)) := by
  have hin : ∀ k, k < n → ∀ o, o < 6 → Sol.In (f k o) (Sol.putF f i (fun o => s o ||| f i o) k o) := fun k _ o _ => by
    unfold Sol.putF
    split
    · rename_i e; rw [e]; exact Sol.in_or_right _ _
    · exact fun _ h => h
  refine Sol.total_lt hin (fun k _ o _ => ?_) ?_
  · have := putF_ok hf (plus_ok hs (hf i)) i k o
    exact Nat.lt_of_lt_of_le this (by decide)
  · apply Classical.byContradiction
    intro hno
    apply hne
    rw [sameS_iff]
    intro o ho
    apply Classical.byContradiction
    intro hoe
    refine hno ⟨i, hi, o, ho, ?_⟩
    unfold Sol.putF
    rw [if_pos rfl]
    exact fun e => hoe e.symm

theorem Tryz.infoSetD : (Tryz.prog.info? 54).map (fun i => (i.zero, i.size, i.bytes)) = some (some (.agg #[.int .u64 0, .int .u64 0, .int .u64 0, .int .u64 0, .int .u64 0, .int .u64 0]), 6, 48) := by kernel_rfl
theorem made_set (n : Nat) (w : World) (hn : n ≤ 400) : ∃ MC : Array Value, (Instr.makeSlice 48 (.int .i64 (n : Int)) (.int .i64 (n : Int))).run Tryz.prog w = .ok (.slice (some ⟨w.heap.size, 0, none⟩) n n) (w.alloc (.cells MC 54)) ∧ ∀ j, j < n * 6 → MC[j]? = some (.int .u64 0) := by
  obtain ⟨i0, hi, hz0, hz1, hz2⟩ := info_parts Tryz.infoSetD
  have hr := run_make (P := Tryz.prog) w 48 54 i0 _ Tryz.underlying48 hi hz0 .i64 .i64 n n (by omega) (Int.le_refl _) (by rw [hz2]; omega) (by omega)
  simp only [Int.toNat_natCast] at hr
  refine ⟨_, hr, fun j hj => ?_⟩
  rw [hz1]
  have hlt : j % 6 < 6 := Nat.mod_lt _ (by omega)
  simp only [madeCells, Value.cells]
  match h6 : j % 6, hlt with
  | 0, _ => simp [hj, h6]
  | 1, _ => simp [hj, h6]
  | 2, _ => simp [hj, h6]
  | 3, _ => simp [hj, h6]
  | 4, _ => simp [hj, h6]
  | 5, _ => simp [hj, h6]
/- What the inner loop holds behind its first j ways. -/
structure InSt (n : Nat) (vs : List WayV) (f0 f : Nat → Nat → Nat) (ch : Bool) (j : Nat) : Prop where
  ok : LeOK n vs f
  same : ch = false → f = f0 ∧ ∀ v ∈ vs.take j, v.dst ≠ -1 → ∀ o, o < 6 → Sol.plus (bringsV f v) (f v.dst.toNat) o = f v.dst.toNat o
  more : ch = true → Sol.total n f0 < Sol.total n f
theorem InSt.skip {n : Nat} {vs : List WayV} {f0 f : Nat → Nat → Nat} {ch : Bool} {j : Nat} (h : InSt n vs f0 f ch j) (hj : j < vs.length) (hd : vs[j].dst = -1) : InSt n vs f0 f ch (j + 1) :=
  ⟨h.ok, fun e => ⟨(h.same e).1, fun v hv hn => by
    rcases Sol.take_snoc' hj hv with hv | rfl
    · exact (h.same e).2 v hv hn
    · exact absurd hd hn⟩, h.more⟩
theorem InSt.stay {n : Nat} {vs : List WayV} {f0 f : Nat → Nat → Nat} {ch : Bool} {j : Nat} (h : InSt n vs f0 f ch j) (hj : j < vs.length) (hs : sameS (fun o => bringsV f vs[j] o ||| f vs[j].dst.toNat o) (f vs[j].dst.toNat) = true) : InSt n vs f0 f ch (j + 1) :=
  ⟨h.ok, fun e => ⟨(h.same e).1, fun v hv hn => by
    rcases Sol.take_snoc' hj hv with hv | rfl
    · exact (h.same e).2 v hv hn
    · exact sameS_iff.1 hs⟩, h.more⟩
theorem InSt.put {n : Nat} {vs : List WayV} {f0 f : Nat → Nat → Nat} {ch : Bool} {j : Nat} (h : InSt n vs f0 f ch j) (hj : j < vs.length) (hd : vs[j].dst ≠ -1) (hdn : vs[j].dst.toNat < n) (ht : SetOK vs[j].told) (hs : sameS (fun o => bringsV f vs[j] o ||| f vs[j].dst.toNat o) (f vs[j].dst.toNat) ≠ true) : InSt n vs f0 (Sol.putF f vs[j].dst.toNat (fun o => bringsV f vs[j] o ||| f vs[j].dst.toNat o)) true (j + 1) := by
  have hb := brings_ok h.ok.ok ht
  refine ⟨⟨Come.put f vs[j] h.ok.come (List.getElem_mem hj) hd, putF_ok h.ok.ok (plus_ok hb (h.ok.ok _)) _⟩, fun e => (by cases e), fun _ => ?_⟩
  have hlt := total_put (n := n) hdn h.ok.ok hb hs
  cases hc : ch with
  | true => exact Nat.lt_trans (h.more hc) hlt
  | false => rw [← (h.same hc).1]; exact hlt
theorem LeSt.flag {B : Nat} {w0 w : World} {q5 q6 sb n sc : Nat} {f : Nat → Nat → Nat} {ch : Bool} (h : LeSt B w0 w q5 q6 sb n sc f ch) (c : Bool) : LeSt B w0 (w.setCell ⟨q6, 0, none⟩ (.bool c)) q5 q6 sb n sc f c := by
  obtain ⟨h1, h2, h3⟩ := h.lo
  refine ⟨h.bel.setCell (p := ⟨q6, 0, none⟩) (by show B ≤ q6; omega) _, ?_, heap_setCell_same _ _ _ _ _ _ h.chg, fun k hk j hj => (World.cell?_setCell_far _ _ _ _ (by show q6 ≠ sb; omega)).trans (h.row k hk j hj), fun x => by rw [World.frozen?_setCell]; exact h.fre x, h.lo, by have := h.lt; simpa [World.setCell] using this⟩
  rw [Below.heap_setCell _ _ _ _ (by show q5 ≠ q6; omega)]; exact h.box
theorem LeSt.drew {B : Nat} {w0 w : World} {q5 q6 sb n sc : Nat} {f : Nat → Nat → Nat} {ch : Bool} (h : LeSt B w0 w q5 q6 sb n sc f ch) : LeSt B w0 w.drew q5 q6 sb n sc f ch := h.later ⟨rfl, rfl, rfl, Nat.le_refl _, fun _ _ => rfl⟩
def chgW (w : World) (q6 : Nat) : Nat := match w.cell? ⟨q6, 0, none⟩ with | some (.bool true) => 1 | _ => 0
theorem chgW_eq {B : Nat} {w0 w : World} {q5 q6 sb n sc : Nat} {f : Nat → Nat → Nat} {ch : Bool} (h : LeSt B w0 w q5 q6 sb n sc f ch) : chgW w q6 = if ch = true then 1 else 0 := by
  have : w.cell? ⟨q6, 0, none⟩ = some (.bool ch) := cell_blk h.chg
  unfold chgW
  rw [this]
  cases ch <;> rfl

set_option maxRecDepth 100000 in
set_option maxHeartbeats 4000000 in
theorem leastC (n : Nat) (wo : Option Addr) (wb woff wc : Nat) (vs : List WayV) (w : World) (hn : n ≤ 400) (hm : vs.length ≤ 400) (hv : WysAt w wo wb woff vs) (hr : InRange n vs) :
    Calls Tryz.prog 20 #[.int .i64 (n : Int), .slice wo vs.length wc] w fun e w' => ∃ (sb : Nat) (f : Nat → Nat → Nat), e = .returned (.slice (some ⟨sb, 0, none⟩) n n) ∧ SetsAt w' (some ⟨sb, 0, none⟩) sb 0 n f ∧ Come vs f ∧ (∀ k, SetOK (f k)) ∧ Stable vs f ∧ Below w.heap.size w w' := by
  obtain ⟨m, hmm⟩ : ∃ m, m = vs.length := ⟨_, rfl⟩
  rw [← hmm] at hm ⊢
  have HM : Hid (m = vs.length) := hmm
  have HV : Hid (WysAt w wo wb woff vs) := hv
  have HR : Hid (InRange n vs) := hr
  have hmx : Tryz.prog.follows .mixedOrders = true := by kernel_rfl
  have hmf : ∀ (fn : Fn) (first cap : Array Value) (w : World), (Instr.makeFunc fn first cap).run Tryz.prog w = .ok (.func fn first cap) w := fun _ _ _ _ => rfl
  have eg1 : ∀ args w, (callFunc 48 args).run Tryz.prog w = .ok (.enter 48 args) w := enters_of Tryz.func48 (by kernel_rfl) rfl
  have eg2 : ∀ args w, (callFunc 49 args).run Tryz.prog w = .ok (.enter 49 args) w := enters_of Tryz.func49 (by kernel_rfl) rfl
  obtain ⟨MC, hmk, hMC⟩ := made_set n w hn
  obtain ⟨wz, hwz⟩ : ∃ wz, wz = ((w.alloc (.cells MC 54)).alloc (.cells #[.slice (some ⟨w.heap.size, 0, none⟩) n n] 48)).alloc (.cells #[.bool true] 4) := ⟨_, rfl⟩
  have HWZ : Hid (wz = ((w.alloc (.cells MC 54)).alloc (.cells #[.slice (some ⟨w.heap.size, 0, none⟩) n n] 48)).alloc (.cells #[.bool true] 4)) := hwz
  have hrow : wz.heap[w.heap.size]? = some (.cells MC 54 (0, 0)) := by rw [hwz]; exact heap_past_alloc (heap_past_alloc (heap_at_alloc _ _ _ rfl))
  have HST : Hid (LeSt w.heap.size w wz (w.heap.size + 1) (w.heap.size + 1 + 1) w.heap.size n n (fun _ _ => 0) true) := by
    refine ⟨?_, ?_, ?_, fun k hk i hi => ?_, fun x => ?_, by omega, lt_of_block hrow⟩
    · rw [hwz]; exact (((Below.refl _ _).alloc (Nat.le_refl _) _).alloc (by simp) _).alloc (by simp; omega) _
    · rw [hwz]; exact heap_past_alloc (heap_at_alloc _ _ _ (by simp))
    · rw [hwz]; exact heap_at_alloc _ _ _ (by simp)
    · rw [cell_blk hrow]; exact hMC _ (by omega)
    · simp [World.frozen?, hrow]
  have HOK0 : Hid (LeOK n vs (fun _ _ => 0)) := ⟨Come.none, fun _ _ => by decide⟩
  clear hv hr hmm hMC hrow hwz
  go_enter Tryz.func20, Tryz.ntmps20
  go_wp2
  rw [← HWZ.out]
  clear HWZ hmk
  obtain ⟨sb, hsb⟩ : ∃ sb, sb = w.heap.size := ⟨_, rfl⟩
  obtain ⟨q5, hq5⟩ : ∃ q5, q5 = w.heap.size + 1 := ⟨_, rfl⟩
  obtain ⟨q6, hq6⟩ : ∃ q6, q6 = w.heap.size + 1 + 1 := ⟨_, rfl⟩
  rw [← hq6, ← hq5] at HST ⊢
  have HSB : Hid (sb = w.heap.size) := hsb
  go_loopw [15] (fun _ wr => ∃ (f : Nat → Nat → Nat) (ch : Bool), Hid (LeSt w.heap.size w wr q5 q6 w.heap.size n n f ch ∧ LeOK n vs f ∧ (ch = false → Stable vs f))) (fun _ wr => 2 * (n * 384 - totW wr w.heap.size n) + chgW wr q6)
  case atStart => exact ⟨_, true, HST.out, HOK0.out, fun e => by cases e⟩
  case round =>
    clear HST HOK0 hsb hq5 hq6
    obtain ⟨f0, ch0, HP⟩ := hrel
    have cc : wr.cell? ⟨q6, 0, none⟩ = some (.bool ch0) := cell_blk HP.out.1.chg
    have cz : wr.frozen? ⟨q6, 0, none⟩ = false := by simp [World.frozen?, HP.out.1.chg]
    cases hch : ch0 with
    | false =>
      subst hch
      have cb : wr.cell? ⟨q5, 0, none⟩ = some (.slice (some ⟨w.heap.size, 0, none⟩) n n) := cell_blk HP.out.1.box
      go_wp2
      go_ret
      exact ⟨w.heap.size, rfl, f0, HP.out.1.sets, HP.out.2.1.come, HP.out.2.1.ok, HP.out.2.2 (by trivial), HP.out.1.bel⟩
    | true =>
      subst hch
      have HM0 : Hid (2 * (n * 384 - totW wr w.heap.size n) + chgW wr q6 = 2 * (n * 384 - Sol.total n f0) + 1) := by show _ = _; rw [totW_eq HP.out.1, chgW_eq HP.out.1]; rfl
      have HF1 : Hid (LeSt w.heap.size w (wr.setCell ⟨q6, 0, none⟩ (.bool false)) q5 q6 w.heap.size n n f0 false) := HP.out.1.flag false
      have HI0 : Hid (InSt n vs f0 f0 false 0) := ⟨HP.out.2.1, fun _ => ⟨rfl, fun v hv => by simp at hv⟩, fun e => by cases e⟩
      go_wp2
      clear cc cz
      go_loopw [18] (fun i wq => ∃ (j : Nat) (f : Nat → Nat → Nat) (ch : Bool), j ≤ m ∧ i = .int .i64 j ∧ Hid (LeSt w.heap.size w wq q5 q6 w.heap.size n n f ch ∧ InSt n vs f0 f ch j)) (fun i _ => m - (intOf i).toNat)
      case atStart => exact ⟨0, f0, false, Nat.zero_le _, rfl, HF1.out, HI0.out⟩
      case round =>
        clear HF1 HI0 HP
        obtain ⟨j, f, ch, hj, rfl, HQ⟩ := hrel
        by_cases hlt : j < m
        · have hjv : j < vs.length := by have := HM.out; omega
          have hwo := HV.out.adr (by omega)
          have hway := (HV.out.later HQ.out.1.bel).at' j hjv
          have hrng := HR.out _ (List.getElem_mem hjv)
          have c2 := hway.c2
          have lw := World.block_lt_of_cell? _ _ c2
          have HWY : Hid (WyAt wr wb (woff + j * 15) vs[j]) := hway
          have HRG : Hid ((∀ i ∈ vs[j].src, i < n) ∧ (vs[j].dst = -1 ∨ ∃ d : Nat, vs[j].dst = (d : Int) ∧ d < n)) := hrng
          clear hway hrng
          by_cases hd : vs[j].dst = -1
          · have HSK : Hid (InSt n vs f0 f ch (j + 1)) := HQ.out.2.skip hjv hd
            rw [hd] at c2
            subst hwo
            go_wp2
            go_roundw
            case rel => exact ⟨j + 1, f, ch, by omega, by go_num, HQ.out.1, HSK.out⟩
            case measure => simp [intOf]; omega
          · obtain ⟨d, hdd, hdn⟩ := HRG.out.2.resolve_left hd
            have hdt : vs[j].dst.toNat = d := by rw [hdd]; simp
            have hok := HQ.out.2.ok.ok
            have htold := HWY.out.ok1
            have HBR : Hid (∀ W : World, Below wr.heap.size wr W → Calls Tryz.prog 42 #[.pointer (some ⟨wb, woff + j * 15, none⟩), .func (.func 48) #[] #[.pointer (some ⟨q5, 0, none⟩)]] W fun e w' => e = .returned (.agg (setA (bringsV f vs[j]))) ∧ Below W.heap.size W w') := by
              intro W hb
              refine bringsC 48 #[.pointer (some ⟨q5, 0, none⟩)] eg1 f wb (woff + j * 15) vs[j] W (HWY.out.later hb) hok fun W' i hi hb' => ?_
              have h1 := (HQ.out.1.later hb).later hb'
              exact getL q5 (some ⟨w.heap.size, 0, none⟩) w.heap.size 0 n n f i W' (HRG.out.1 i hi) (cell_blk h1.box) h1.sets
            have HPT : Hid (∀ W : World, Below wr.heap.size wr W → Calls Tryz.prog 49 #[.int .i64 (d : Int), .agg (setA (bringsV f vs[j])), .pointer (some ⟨q5, 0, none⟩), .pointer (some ⟨q6, 0, none⟩)] W fun e w' => e = .returned (.tuple #[]) ∧ ∃ f' ch', LeSt w.heap.size w w' q5 q6 w.heap.size n n f' ch' ∧ InSt n vs f0 f' ch' (j + 1)) := by
              intro W hb
              refine (putC w.heap.size w q5 q6 w.heap.size n n d f (bringsV f vs[j]) ch W (HQ.out.1.later hb) hdn hn (brings_ok hok htold) (hok d)).mono ?_
              rintro e w' ⟨h1, h2⟩
              refine ⟨h1, ?_⟩
              by_cases hs : sameS (fun o => bringsV f vs[j] o ||| f d o) (f d) = true
              · rw [if_pos hs] at h2
                exact ⟨f, ch, h2, HQ.out.2.stay hjv (by rw [hdt]; exact hs)⟩
              · rw [if_neg hs] at h2
                refine ⟨_, true, h2, ?_⟩
                have := HQ.out.2.put hjv hd (by rw [hdt]; exact hdn) htold (by rw [hdt]; exact hs)
                rw [hdt] at this
                exact this
            have hdne : ((d : Int) != -1) = true := by simp
            have HDD : Hid (vs[j].dst = (d : Int)) := hdd
            rw [hdd] at c2
            obtain ⟨s, hs⟩ : ∃ s, s = setA (bringsV f vs[j]) := ⟨_, rfl⟩
            rw [← hs] at HBR HPT
            clear hd hdd hdt hok htold hdn hs
            subst hwo
            go_wp2
            refine wp_region_held_drew (S := fun W' => W'.cell? ⟨wb, woff + j * 15 + 7, none⟩ = some (.int .i64 (d : Int))) hmx c2 ?_
            intro hHeld
            refine wpAnyH_take (i := 0) (v := .func (.func 49) #[] #[.pointer (some ⟨q5, 0, none⟩), .pointer (some ⟨q6, 0, none⟩)]) rfl (by kernel_rfl) (by kernel_rfl) (by kernel_rfl) (fun _ _ _ h => h) (Or.inl ⟨by rfl, fun W' hSw => by dsimp only at hSw; go_simp⟩) hHeld ?_
            simp only [Act.put]
            refine wpAnyH_take (i := 1) (v := .pointer (some ⟨wb, woff + j * 15, none⟩)) rfl (by kernel_rfl) (by kernel_rfl) (by kernel_rfl) (fun _ _ _ h => h) (Or.inl ⟨by rfl, fun W' hSw => by dsimp only at hSw; go_simp⟩) hHeld ?_
            simp only [Act.put]
            refine wpAnyH_take (i := 2) (v := .pointer (some ⟨wb, woff + j * 15, none⟩)) rfl (by kernel_rfl) (by kernel_rfl) (by kernel_rfl) (fun _ _ _ h => h) (Or.inl ⟨by rfl, fun W' hSw => by dsimp only at hSw; go_simp⟩) hHeld ?_
            simp only [Act.put]
            refine wpAnyH_take (i := 3) (v := .pointer (some ⟨wb, woff + j * 15 + 7, none⟩)) rfl (by kernel_rfl) (by kernel_rfl) (by kernel_rfl) (fun _ _ _ h => h) (Or.inl ⟨by rfl, fun W' hSw => by dsimp only at hSw; go_simp⟩) hHeld ?_
            simp only [Act.put]
            refine wpAnyH_take (i := 4) (v := .int .i64 (d : Int)) rfl (by kernel_rfl) (by kernel_rfl) (by kernel_rfl) (fun _ _ _ h => h) (Or.inl ⟨by rfl, fun W' hSw => by dsimp only at hSw; go_simp⟩) hHeld ?_
            simp only [Act.put]
            refine wpAnyH_take (i := 5) (v := .pointer (some ⟨wb, woff + j * 15, none⟩)) rfl (by kernel_rfl) (by kernel_rfl) (by kernel_rfl) (fun _ _ _ h => h) (Or.inl ⟨by rfl, fun W' hSw => by dsimp only at hSw; go_simp⟩) hHeld ?_
            simp only [Act.put]
            refine wpAnyH_take (i := 6) (v := .func (.func 48) #[] #[.pointer (some ⟨q5, 0, none⟩)]) rfl (by kernel_rfl) (by kernel_rfl) (by kernel_rfl) (fun _ _ _ h => h) (Or.inl ⟨by rfl, fun W' hSw => by dsimp only at hSw; go_simp⟩) hHeld ?_
            simp only [Act.put]
            refine wpAnyH_ready (rs := [7]) (by kernel_rfl) (by simp) ?_
            refine AllReadyH.cons rfl (fun K hK => ?_) AllReadyH.nil
            go_simp
            refine (HBR.out wr.drew ⟨rfl, rfl, rfl, Nat.le_refl _, fun _ _ => rfl⟩).mono ?_
            rintro e w4 ⟨rfl, hb4⟩
            have HB4 : Hid (Below wr.heap.size wr w4) := ⟨hb4.os, hb4.tape, hb4.output, hb4.size, hb4.block⟩
            have c4 := cell_below HB4.out c2
            clear hb4
            refine hK.out _ _ c4 ?_
            clear hK K hHeld
            intro hHeld
            refine wpAnyH_ready (rs := [8]) (by kernel_rfl) (by simp) ?_
            refine AllReadyH.cons rfl (fun K hK => ?_) AllReadyH.nil
            go_simp
            refine (HPT.out w4 HB4.out).mono ?_
            rintro e w5 ⟨rfl, f', ch', h5, h6⟩
            have c5 : w5.cell? ⟨wb, woff + j * 15 + 7, none⟩ = some (.int .i64 (d : Int)) := by rw [← HDD.out]; exact ((HV.out.later h5.bel).at' j hjv).c2
            have HN : Hid (LeSt w.heap.size w w5 q5 q6 w.heap.size n n f' ch' ∧ InSt n vs f0 f' ch' (j + 1)) := ⟨h5, h6⟩
            clear h5 h6
            refine hK.out _ _ c5 ?_
            clear hK K hHeld
            intro hHeld
            refine wpAnyH_done (by kernel_rfl) ?_ _
            try simp only [Act.put]
            go_wp2_with fail
            go_roundw
            case rel => exact ⟨j + 1, f', ch', by omega, by go_num, HN.out.1, HN.out.2⟩
            case measure => simp [intOf]; omega
        · have hjm : j = m := by omega
          subst hjm
          have HEND : Hid (LeSt w.heap.size w wr q5 q6 w.heap.size n n f ch ∧ LeOK n vs f ∧ (ch = false → Stable vs f)) := by
            refine ⟨HQ.out.1, HQ.out.2.ok, fun e v hv => (HQ.out.2.same e).2 v ?_⟩
            rw [List.take_of_length_le (by have := HM.out; omega)]; exact hv
          have HMS : Hid (2 * (n * 384 - totW wr w.heap.size n) + chgW wr q6 < 2 * (n * 384 - Sol.total n f0) + 1) := by
            show _ < _
            rw [totW_eq HQ.out.1, chgW_eq HQ.out.1]
            have hT := Sol.total_le n f
            cases hch : ch with
            | true =>
              have := HQ.out.2.more hch
              simp only [if_true]
              omega
            | false =>
              rw [(HQ.out.2.same hch).1]
              simp
          go_wp2
          exact ⟨⟨f, ch, HEND.out⟩, by rw [HM0.out]; exact HMS.out⟩
end Go.Proofs.YtpbknhhjfhpkmaaGreatDoor
