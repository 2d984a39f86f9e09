/- partition_func. partialInsertionSort_func. -/
import Derived.Test.YtpbknhhjfhpkmaaGreatDoorGaSrtA
namespace Go.Proofs.YtpbknhhjfhpkmaaGreatDoor
open Go.RowKit Go.Sort
variable {α : Type} [Inhabited α] {S : Array α → World → Prop} {blk n : Nat} {lt : α → α → Bool} {g : Nat} {lb : Array Value} {sf : Nat} {sb : Array Value}
set_option maxRecDepth 100000 in
set_option maxHeartbeats 12800000 in
theorem partS (H : Srt S blk n lt g lb sf sb) (a b pivot : Nat) (d : Array α) (W : World) (hS : S d W) (hap : a ≤ pivot) (hpb : pivot < b) (hb : b ≤ n) :
    Calls Tryz.prog 124 #[.agg #[.func (.func g) #[] lb, .func (.func sf) #[] sb], .int .i64 a, .int .i64 b, .int .i64 pivot] W fun e w' => e = .returned (.tuple #[.int .i64 (partition lt d a b pivot).1, .bool (partition lt d a b pivot).2.1]) ∧ S (partition lt d a b pivot).2.2 w' ∧ W.grownBy w' (some blk) := by
  have eg := H.eg
  have hsm := H.small
  have HI : Hid (InB S blk (.func (.func g) #[] lb) (.func (.func sf) #[] sb) W W.heap.size d (W.alloc (.cells #[.func (.func g) #[] lb, .func (.func sf) #[] sb] 143))) := InB.start H hS _ _
  have HH : Hid (Srt S blk n lt g lb sf sb) := H
  clear H hS
  obtain ⟨wz, hwz⟩ : ∃ wz, wz = W.alloc (.cells #[.func (.func g) #[] lb, .func (.func sf) #[] sb] 143) := ⟨_, rfl⟩
  rw [← hwz] at HI
  obtain ⟨w0, hsw0, hs0, hg0⟩ := HH.out.swapZ HI.out.s (a : Int) (pivot : Int) a pivot rfl rfl (by omega) (by omega)
  have HI0 : Hid (InB S blk (.func (.func g) #[] lb) (.func (.func sf) #[] sb) W W.heap.size (swp d a pivot) w0) := HI.out.put hs0 hg0
  rw [hwz] at hsw0
  clear hs0 hg0 HI hwz
  go_enter Tryz.func124, Tryz.ntmps124
  go_wp2
  clear hsw0
  obtain ⟨B, hB⟩ : ∃ B, B = W.heap.size := ⟨_, rfl⟩
  rw [← hB] at HI0 ⊢
  clear hB
  obtain ⟨i, hi⟩ : ∃ i, i = a + 1 := ⟨_, rfl⟩
  obtain ⟨j, hj⟩ : ∃ j, j = b - 1 := ⟨_, rfl⟩
  obtain ⟨dk, hdk⟩ : ∃ dk, dk = swp d a pivot := ⟨_, rfl⟩
  have zi : (a : Int) + 1 = (i : Int) := by omega
  have zj : (b : Int) - 1 = (j : Int) := by omega
  rw [zi, zj]
  rw [← hdk] at HI0
  have H1 : Hid (i = a + 1) := hi
  have H2 : Hid (j = b - 1) := hj
  have H3 : Hid (dk = swp d a pivot) := hdk
  have hai : a < i := by omega
  have hij : i ≤ j + 1 := by omega
  have hjb : j < b := by omega
  have HI := HI0
  clear hi hj hdk zi zj HI0
  go_loopw [10] (fun vi w1 => ∃ (i' : Nat), vi = .int .i64 i' ∧ i ≤ i' ∧ i' ≤ j + 1 ∧ Hid (InB S blk (.func (.func g) #[] lb) (.func (.func sf) #[] sb) W B dk w1) ∧ Hid (scanUp (fun x => lt x dk[a]!) dk j i' = scanUp (fun x => lt x dk[a]!) dk j i)) (fun vi _ => j + 1 - (intOf vi).toNat)
  case atStart => exact ⟨i, rfl, Nat.le_refl _, hij, HI, rfl⟩
  case round =>
    clear HI
    obtain ⟨i', rfl, hii, hij', HU, HSC⟩ := hrel
    have e0 := HU.out.c0
    by_cases hle : i' ≤ j
    · cases hlv : lt dk[i']! dk[a]! with
      | true =>
        have HV : Hid (lt dk[i']! dk[a]! = true) := hlv
        clear hlv
        have hl := HH.out.lessZ HU.out.s ((i' : Int)) ((a : Int)) (i') (a) (by omega) (by omega) (by omega) (by omega) HV.out
        go_wp2_with fail
        refine hl.mono ?_
        rintro e w2 ⟨rfl, hg⟩
        have HU1 : Hid (InB S blk (.func (.func g) #[] lb) (.func (.func sf) #[] sb) W B dk w2) := HU.out.later HH.out hg
        clear hg hl
        go_wp2
        go_roundw
        case rel => exact ⟨i' + 1, by go_num, by omega, by omega, HU1, (scanUp_go (fun x => lt x dk[a]!) dk j i' hle (by simp [HV.out])).symm.trans HSC.out⟩
        case measure => simp [intOf]; omega
      | false =>
        have HV : Hid (lt dk[i']! dk[a]! = false) := hlv
        clear hlv
        have HI2 : Hid (i' = scanUp (fun x => lt x dk[a]!) dk j i) := (scanUp_end (fun x => lt x dk[a]!) dk j i' (Or.inr (by simp [HV.out]))).symm.trans HSC.out
        have hl := HH.out.lessZ HU.out.s ((i' : Int)) ((a : Int)) (i') (a) (by omega) (by omega) (by omega) (by omega) HV.out
        go_wp2_with fail
        refine hl.mono ?_
        rintro e w2 ⟨rfl, hg⟩
        have HU1 : Hid (InB S blk (.func (.func g) #[] lb) (.func (.func sf) #[] sb) W B dk w2) := HU.out.later HH.out hg
        clear hg hl
        clear HU HSC HV e0
        go_wp2
        go_loopw [11] (fun vj w2 => ∃ (j' : Nat), vj = .int .i64 j' ∧ j' ≤ j ∧ i' ≤ j' + 1 ∧ Hid (InB S blk (.func (.func g) #[] lb) (.func (.func sf) #[] sb) W B dk w2) ∧ Hid (scanDown (fun x => !lt x dk[a]!) dk i' j' = scanDown (fun x => !lt x dk[a]!) dk i' j)) (fun vj _ => (intOf vj).toNat)
        case atStart => exact ⟨j, rfl, Nat.le_refl _, hij', HU1, rfl⟩
        case round =>
          clear HU1
          obtain ⟨j', rfl, hjj, hij2, HD, HSD⟩ := hrel
          have e0 := HD.out.c0
          by_cases hle2 : i' ≤ j'
          · cases hlv2 : lt dk[j']! dk[a]! with
            | false =>
              have HV2 : Hid (lt dk[j']! dk[a]! = false) := hlv2
              clear hlv2
              have hl := HH.out.lessZ HD.out.s ((j' : Int)) ((a : Int)) (j') (a) (by omega) (by omega) (by omega) (by omega) HV2.out
              go_wp2_with fail
              refine hl.mono ?_
              rintro e w2 ⟨rfl, hg⟩
              have HD1 : Hid (InB S blk (.func (.func g) #[] lb) (.func (.func sf) #[] sb) W B dk w2) := HD.out.later HH.out hg
              clear hg hl
              go_wp2
              go_roundw
              case rel => exact ⟨j' - 1, by go_num, by omega, by omega, HD1, (scanDown_go (fun x => !lt x dk[a]!) dk i' j' hle2 (by omega) (by simp [HV2.out])).symm.trans HSD.out⟩
              case measure => simp [intOf]; omega
            | true =>
              have HV2 : Hid (lt dk[j']! dk[a]! = true) := hlv2
              clear hlv2
              have HJ2 : Hid (j' = scanDown (fun x => !lt x dk[a]!) dk i' j) := (scanDown_end (fun x => !lt x dk[a]!) dk i' j' (Or.inr (by simp [HV2.out]))).symm.trans HSD.out
              have hlt3 : i' < j' := part_scans_lt lt a i j dk (by omega) HI2.out HJ2.out hle2
              have hl := HH.out.lessZ HD.out.s ((j' : Int)) ((a : Int)) (j') (a) (by omega) (by omega) (by omega) (by omega) HV2.out
              go_wp2_with fail
              refine hl.mono ?_
              rintro e w2 ⟨rfl, hg⟩
              have HD1 : Hid (InB S blk (.func (.func g) #[] lb) (.func (.func sf) #[] sb) W B dk w2) := HD.out.later HH.out hg
              clear hg hl
              obtain ⟨w4, hsw, hs2, hg2⟩ := HH.out.swapZ HD1.out.s ((i' : Int)) ((j' : Int)) (i') (j') (by omega) (by omega) (by omega) (by omega)
              have HS : Hid (InB S blk (.func (.func g) #[] lb) (.func (.func sf) #[] sb) W B (swp dk (i') (j')) w4) := HD1.out.put hs2 hg2
              have d1 := HD1.out.c1
              clear hs2 hg2
              have HP : Hid (partition lt d a b pivot = ((partLoop lt a (i' + 1) (j' - 1) (swp dk i' j')).1, false, swp (partLoop lt a (i' + 1) (j' - 1) (swp dk i' j')).2 (partLoop lt a (i' + 1) (j' - 1) (swp dk i' j')).1 a)) := part_first_go lt d a b pivot H1.out H2.out H3.out HI2.out HJ2.out (by omega)
              obtain ⟨i1, hi1⟩ : ∃ i1, i1 = i' + 1 := ⟨_, rfl⟩
              obtain ⟨j1, hj1⟩ : ∃ j1, j1 = j' - 1 := ⟨_, rfl⟩
              obtain ⟨dk1, hdk1⟩ : ∃ dk1, dk1 = swp dk i' j' := ⟨_, rfl⟩
              rw [← hi1, ← hj1, ← hdk1] at HP
              rw [← hdk1] at HS
              have HX : Hid (i1 = i' + 1 ∧ j1 = j' - 1 ∧ a < i1 ∧ i1 ≤ j1 + 1 ∧ j1 < b) := ⟨hi1, hj1, by omega, by omega, by omega⟩
              clear HD hi1 hj1 hdk1 HJ2 HI2 H1 H2 H3 HSD HV2 e0
              go_wp2
              rw [decide_eq_false (show ¬ j' < i' by omega)]
              clear hsw d1
              go_loopw [10, 11] (fun vi vj wr => ∃ (i j : Nat) (dk : Array α), vi = .int .i64 i ∧ vj = .int .i64 j ∧ a < i ∧ i ≤ j + 1 ∧ j < b ∧ Hid (InB S blk (.func (.func g) #[] lb) (.func (.func sf) #[] sb) W B dk wr) ∧ Hid (partLoop lt a i j dk = partLoop lt a i1 j1 dk1)) (fun vi vj _ => (intOf vj).toNat + 1 - (intOf vi).toNat)
              case atStart =>
                have e1 := HX.out.1
                have e2 := HX.out.2.1
                exact ⟨i1, j1, dk1, by rw [e1]; go_num, by rw [e2]; go_num, HX.out.2.2.1, HX.out.2.2.2.1, HX.out.2.2.2.2, HS, rfl⟩
              case round =>
                clear HS HX hij hij' hij2 hle hle2 hii hjj hjb hai hlt3
                obtain ⟨i, j, dk, rfl, rfl, hai, hij, hjb, HI, AE⟩ := hrel
                go_wp2
                go_loopw [10] (fun vi w1 => ∃ (i' : Nat), vi = .int .i64 i' ∧ i ≤ i' ∧ i' ≤ j + 1 ∧ Hid (InB S blk (.func (.func g) #[] lb) (.func (.func sf) #[] sb) W B dk w1) ∧ Hid (scanUp (fun x => lt x dk[a]!) dk j i' = scanUp (fun x => lt x dk[a]!) dk j i)) (fun vi _ => j + 1 - (intOf vi).toNat)
                case atStart => exact ⟨i, rfl, Nat.le_refl _, hij, HI, rfl⟩
                case round =>
                  clear HI
                  obtain ⟨i', rfl, hii, hij', HU, HSC⟩ := hrel
                  have e0 := HU.out.c0
                  by_cases hle : i' ≤ j
                  · cases hlv : lt dk[i']! dk[a]! with
                    | true =>
                      have HV : Hid (lt dk[i']! dk[a]! = true) := hlv
                      clear hlv
                      have hl := HH.out.lessZ HU.out.s ((i' : Int)) ((a : Int)) (i') (a) (by omega) (by omega) (by omega) (by omega) HV.out
                      go_wp2_with fail
                      refine hl.mono ?_
                      rintro e w2 ⟨rfl, hg⟩
                      have HU1 : Hid (InB S blk (.func (.func g) #[] lb) (.func (.func sf) #[] sb) W B dk w2) := HU.out.later HH.out hg
                      clear hg hl
                      go_wp2
                      go_roundw
                      case rel => exact ⟨i' + 1, by go_num, by omega, by omega, HU1, (scanUp_go (fun x => lt x dk[a]!) dk j i' hle (by simp [HV.out])).symm.trans HSC.out⟩
                      case measure => simp [intOf]; omega
                    | false =>
                      have HV : Hid (lt dk[i']! dk[a]! = false) := hlv
                      clear hlv
                      have HI2 : Hid (i' = scanUp (fun x => lt x dk[a]!) dk j i) := (scanUp_end (fun x => lt x dk[a]!) dk j i' (Or.inr (by simp [HV.out]))).symm.trans HSC.out
                      have hl := HH.out.lessZ HU.out.s ((i' : Int)) ((a : Int)) (i') (a) (by omega) (by omega) (by omega) (by omega) HV.out
                      go_wp2_with fail
                      refine hl.mono ?_
                      rintro e w2 ⟨rfl, hg⟩
                      have HU1 : Hid (InB S blk (.func (.func g) #[] lb) (.func (.func sf) #[] sb) W B dk w2) := HU.out.later HH.out hg
                      clear hg hl
                      clear HU HSC HV e0
                      go_wp2
                      go_loopw [11] (fun vj w2 => ∃ (j' : Nat), vj = .int .i64 j' ∧ j' ≤ j ∧ i' ≤ j' + 1 ∧ Hid (InB S blk (.func (.func g) #[] lb) (.func (.func sf) #[] sb) W B dk w2) ∧ Hid (scanDown (fun x => !lt x dk[a]!) dk i' j' = scanDown (fun x => !lt x dk[a]!) dk i' j)) (fun vj _ => (intOf vj).toNat)
                      case atStart => exact ⟨j, rfl, Nat.le_refl _, hij', HU1, rfl⟩
                      case round =>
                        clear HU1
                        obtain ⟨j', rfl, hjj, hij2, HD, HSD⟩ := hrel
                        have e0 := HD.out.c0
                        by_cases hle2 : i' ≤ j'
                        · cases hlv2 : lt dk[j']! dk[a]! with
                          | false =>
                            have HV2 : Hid (lt dk[j']! dk[a]! = false) := hlv2
                            clear hlv2
                            have hl := HH.out.lessZ HD.out.s ((j' : Int)) ((a : Int)) (j') (a) (by omega) (by omega) (by omega) (by omega) HV2.out
                            go_wp2_with fail
                            refine hl.mono ?_
                            rintro e w2 ⟨rfl, hg⟩
                            have HD1 : Hid (InB S blk (.func (.func g) #[] lb) (.func (.func sf) #[] sb) W B dk w2) := HD.out.later HH.out hg
                            clear hg hl
                            go_wp2
                            go_roundw
                            case rel => exact ⟨j' - 1, by go_num, by omega, by omega, HD1, (scanDown_go (fun x => !lt x dk[a]!) dk i' j' hle2 (by omega) (by simp [HV2.out])).symm.trans HSD.out⟩
                            case measure => simp [intOf]; omega
                          | true =>
                            have HV2 : Hid (lt dk[j']! dk[a]! = true) := hlv2
                            clear hlv2
                            have HJ2 : Hid (j' = scanDown (fun x => !lt x dk[a]!) dk i' j) := (scanDown_end (fun x => !lt x dk[a]!) dk i' j' (Or.inr (by simp [HV2.out]))).symm.trans HSD.out
                            have hlt3 : i' < j' := part_scans_lt lt a i j dk (by omega) HI2.out HJ2.out hle2
                            have hl := HH.out.lessZ HD.out.s ((j' : Int)) ((a : Int)) (j') (a) (by omega) (by omega) (by omega) (by omega) HV2.out
                            go_wp2_with fail
                            refine hl.mono ?_
                            rintro e w2 ⟨rfl, hg⟩
                            have HD1 : Hid (InB S blk (.func (.func g) #[] lb) (.func (.func sf) #[] sb) W B dk w2) := HD.out.later HH.out hg
                            clear hg hl
                            obtain ⟨w4, hsw, hs2, hg2⟩ := HH.out.swapZ HD1.out.s ((i' : Int)) ((j' : Int)) (i') (j') (by omega) (by omega) (by omega) (by omega)
                            have HS : Hid (InB S blk (.func (.func g) #[] lb) (.func (.func sf) #[] sb) W B (swp dk (i') (j')) w4) := HD1.out.put hs2 hg2
                            have d1 := HD1.out.c1
                            clear hs2 hg2
                            clear HD
                            go_wp2
                            go_roundw
                            case rel => exact ⟨i' + 1, j' - 1, swp dk i' j', by go_num, by go_num, by omega, by omega, by omega, HS, by show _ = _; rw [← AE.out]; exact (part_go lt a i j dk HI2.out HJ2.out (by omega)).symm⟩
                            case measure => simp [intOf]; omega
                        · have HJ2 : Hid (j' = scanDown (fun x => !lt x dk[a]!) dk i' j) := (scanDown_end (fun x => !lt x dk[a]!) dk i' j' (Or.inl hle2)).symm.trans HSD.out
                          have hgt : j' < i' := by omega
                          have HQ : Hid (partLoop lt a i1 j1 dk1 = (j', dk)) := by show _ = _; rw [← AE.out]; exact part_break lt a i j dk HI2.out HJ2.out hgt
                          obtain ⟨w4, hsw, hs2, hg2⟩ := HH.out.swapZ HD.out.s ((j' : Int)) ((a : Int)) (j') (a) (by omega) (by omega) (by omega) (by omega)
                          have HS : Hid (InB S blk (.func (.func g) #[] lb) (.func (.func sf) #[] sb) W B (swp dk (j') (a)) w4) := HD.out.put hs2 hg2
                          have d1 := HD.out.c1
                          clear hs2 hg2
                          go_wp2
                          go_ret2
                          refine ⟨?_, ?_, HS.out.gr⟩
                          · rw [HP.out, HQ.out]; rfl
                          · rw [HP.out, HQ.out]; exact HS.out.s
                  · have HI2 : Hid (i' = scanUp (fun x => lt x dk[a]!) dk j i) := (scanUp_end (fun x => lt x dk[a]!) dk j i' (Or.inl hle)).symm.trans HSC.out
                    clear HSC e0
                    go_wp2
                    go_loopw [11] (fun vj w2 => ∃ (j' : Nat), vj = .int .i64 j' ∧ j' ≤ j ∧ i' ≤ j' + 1 ∧ Hid (InB S blk (.func (.func g) #[] lb) (.func (.func sf) #[] sb) W B dk w2) ∧ Hid (scanDown (fun x => !lt x dk[a]!) dk i' j' = scanDown (fun x => !lt x dk[a]!) dk i' j)) (fun vj _ => (intOf vj).toNat)
                    case atStart => exact ⟨j, rfl, Nat.le_refl _, hij', HU, rfl⟩
                    case round =>
                      clear HU
                      obtain ⟨j', rfl, hjj, hij2, HD, HSD⟩ := hrel
                      have e0 := HD.out.c0
                      have hle2 : ¬ i' ≤ j' := by omega
                      have HJ2 : Hid (j' = scanDown (fun x => !lt x dk[a]!) dk i' j) := (scanDown_end (fun x => !lt x dk[a]!) dk i' j' (Or.inl hle2)).symm.trans HSD.out
                      have hgt : j' < i' := by omega
                      have HQ : Hid (partLoop lt a i1 j1 dk1 = (j', dk)) := by show _ = _; rw [← AE.out]; exact part_break lt a i j dk HI2.out HJ2.out hgt
                      obtain ⟨w4, hsw, hs2, hg2⟩ := HH.out.swapZ HD.out.s ((j' : Int)) ((a : Int)) (j') (a) (by omega) (by omega) (by omega) (by omega)
                      have HS : Hid (InB S blk (.func (.func g) #[] lb) (.func (.func sf) #[] sb) W B (swp dk (j') (a)) w4) := HD.out.put hs2 hg2
                      have d1 := HD.out.c1
                      clear hs2 hg2
                      go_wp2
                      go_ret2
                      refine ⟨?_, ?_, HS.out.gr⟩
                      · rw [HP.out, HQ.out]; rfl
                      · rw [HP.out, HQ.out]; exact HS.out.s
          · have HJ2 : Hid (j' = scanDown (fun x => !lt x dk[a]!) dk i' j) := (scanDown_end (fun x => !lt x dk[a]!) dk i' j' (Or.inl hle2)).symm.trans HSD.out
            have hgt : j' < i' := by omega
            have HP : Hid (partition lt d a b pivot = (j', true, swp dk j' a)) := part_first_break lt d a b pivot H1.out H2.out H3.out HI2.out HJ2.out hgt
            obtain ⟨w4, hsw, hs2, hg2⟩ := HH.out.swapZ HD.out.s ((j' : Int)) ((a : Int)) (j') (a) (by omega) (by omega) (by omega) (by omega)
            have HS : Hid (InB S blk (.func (.func g) #[] lb) (.func (.func sf) #[] sb) W B (swp dk (j') (a)) w4) := HD.out.put hs2 hg2
            have d1 := HD.out.c1
            clear hs2 hg2
            go_wp2
            go_ret2
            refine ⟨?_, ?_, HS.out.gr⟩
            · rw [HP.out]; rfl
            · rw [HP.out]; exact HS.out.s
    · have HI2 : Hid (i' = scanUp (fun x => lt x dk[a]!) dk j i) := (scanUp_end (fun x => lt x dk[a]!) dk j i' (Or.inl hle)).symm.trans HSC.out
      clear HSC e0
      go_wp2
      go_loopw [11] (fun vj w2 => ∃ (j' : Nat), vj = .int .i64 j' ∧ j' ≤ j ∧ i' ≤ j' + 1 ∧ Hid (InB S blk (.func (.func g) #[] lb) (.func (.func sf) #[] sb) W B dk w2) ∧ Hid (scanDown (fun x => !lt x dk[a]!) dk i' j' = scanDown (fun x => !lt x dk[a]!) dk i' j)) (fun vj _ => (intOf vj).toNat)
      case atStart => exact ⟨j, rfl, Nat.le_refl _, hij', HU, rfl⟩
      case round =>
        clear HU
        obtain ⟨j', rfl, hjj, hij2, HD, HSD⟩ := hrel
        have e0 := HD.out.c0
        have hle2 : ¬ i' ≤ j' := by omega
        have HJ2 : Hid (j' = scanDown (fun x => !lt x dk[a]!) dk i' j) := (scanDown_end (fun x => !lt x dk[a]!) dk i' j' (Or.inl hle2)).symm.trans HSD.out
        have hgt : j' < i' := by omega
        have HP : Hid (partition lt d a b pivot = (j', true, swp dk j' a)) := part_first_break lt d a b pivot H1.out H2.out H3.out HI2.out HJ2.out hgt
        obtain ⟨w4, hsw, hs2, hg2⟩ := HH.out.swapZ HD.out.s ((j' : Int)) ((a : Int)) (j') (a) (by omega) (by omega) (by omega) (by omega)
        have HS : Hid (InB S blk (.func (.func g) #[] lb) (.func (.func sf) #[] sb) W B (swp dk (j') (a)) w4) := HD.out.put hs2 hg2
        have d1 := HD.out.c1
        clear hs2 hg2
        go_wp2
        go_ret2
        refine ⟨?_, ?_, HS.out.gr⟩
        · rw [HP.out]; rfl
        · rw [HP.out]; exact HS.out.s

end Go.Proofs.YtpbknhhjfhpkmaaGreatDoor

namespace Go.Proofs.YtpbknhhjfhpkmaaGreatDoor
open Go.RowKit Go.Sort
variable {α : Type} [Inhabited α] {S : Array α → World → Prop} {blk n : Nat} {lt : α → α → Bool} {g : Nat} {lb : Array Value} {sf : Nat} {sb : Array Value}
set_option maxRecDepth 100000 in
set_option maxHeartbeats 12800000 in
theorem partialS (H : Srt S blk n lt g lb sf sb) (a b : Nat) (d : Array α) (W : World) (hS : S d W) (hab : a < b) (hb : b ≤ n) :
    Calls Tryz.prog 122 #[.agg #[.func (.func g) #[] lb, .func (.func sf) #[] sb], .int .i64 a, .int .i64 b] W fun e w' => e = .returned (.bool (partialInsertionSort lt d a b).2) ∧ S (partialInsertionSort lt d a b).1 w' ∧ W.grownBy w' (some blk) := by
  have eg := H.eg
  have hsm := H.small
  have HI : Hid (InB S blk (.func (.func g) #[] lb) (.func (.func sf) #[] sb) W W.heap.size d (W.alloc (.cells #[.func (.func g) #[] lb, .func (.func sf) #[] sb] 143))) := InB.start H hS _ _
  have HH : Hid (Srt S blk n lt g lb sf sb) := H
  clear H hS
  go_enter Tryz.func122, Tryz.ntmps122
  go_wp2
  obtain ⟨B, hB⟩ : ∃ B, B = W.heap.size := ⟨_, rfl⟩
  rw [← hB] at HI ⊢
  clear hB
  go_loopg [7, 8] 5 (fun g1 vi vs wr => ∃ (i s : Nat) (dk : Array α), vi = .int .i64 i ∧ vs = .int .i64 s ∧ s ≤ 5 ∧ 5 - s ≤ g1 ∧ a < i ∧ i ≤ b ∧ Hid (InB S blk (.func (.func g) #[] lb) (.func (.func sf) #[] sb) W B dk wr) ∧ Hid (partialIns lt a b (5 - s) i dk = partialInsertionSort lt d a b))
  case atStart => exact ⟨a + 1, 0, d, by go_num, rfl, by omega, Nat.le_refl _, by omega, by omega, HI, rfl⟩
  case round =>
    clear HI
    obtain ⟨i, s, dk, rfl, rfl, hs1, hs2, hai, hib, HI, HE⟩ := hrel
    by_cases hs5 : s < 5
    · have hs5z : (s : Int) < 5 := by omega
      go_wp2
      go_loopg [7] (b - i) (fun g2 vi wx => ∃ (k : Nat), vi = .int .i64 k ∧ i ≤ k ∧ k ≤ b ∧ b - k ≤ g2 ∧ Hid (InB S blk (.func (.func g) #[] lb) (.func (.func sf) #[] sb) W B dk wx) ∧ Hid (scanSorted lt dk b k = scanSorted lt dk b i))
      case atStart => exact ⟨i, rfl, Nat.le_refl _, hib, Nat.le_refl _, HI, rfl⟩
      case round =>
        clear HI
        obtain ⟨k, rfl, hik, hkb', hk2, HI, HSC⟩ := hrel
        have c0 := HI.out.c0
        by_cases hlt : k < b
        · cases hv : lt dk[k]! dk[k - 1]! with
          | false =>
            have HV : Hid (lt dk[k]! dk[k - 1]! = false) := hv
            clear hv
            have hl := HH.out.lessZ HI.out.s ((k : Int)) ((k : Int) - 1) (k) (k - 1) (by omega) (by omega) (by omega) (by omega) HV.out
            go_wp2_with fail
            refine hl.mono ?_
            rintro e w1 ⟨rfl, hg⟩
            have HI1 : Hid (InB S blk (.func (.func g) #[] lb) (.func (.func sf) #[] sb) W B dk w1) := HI.out.later HH.out hg
            clear hg hl
            go_wp2
            go_roundg (b - (k + 1))
            case measure => omega
            case rel => exact ⟨k + 1, by go_num, by omega, by omega, Nat.le_refl _, HI1, by show _ = _; rw [← HSC.out, scanSorted_go lt dk b k hlt HV.out]⟩
          | true =>
            have HV : Hid (lt dk[k]! dk[k - 1]! = true) := hv
            clear hv
            have hl := HH.out.lessZ HI.out.s ((k : Int)) ((k : Int) - 1) (k) (k - 1) (by omega) (by omega) (by omega) (by omega) HV.out
            go_wp2_with fail
            refine hl.mono ?_
            rintro e w1 ⟨rfl, hg⟩
            have HI1 : Hid (InB S blk (.func (.func g) #[] lb) (.func (.func sf) #[] sb) W B dk w1) := HI.out.later HH.out hg
            clear hg hl
            have HK : Hid (scanSorted lt dk b i = k) := by show _ = _; rw [← HSC.out, scanSorted_stop lt dk b k (Or.inr HV.out)]
            have hkb : k ≠ b := by omega
            have hkbz : ((k : Int) == (b : Int)) = false := by simp; omega
            clear HI HSC HV c0
            by_cases h50 : b - a < 50
            · have h50z : (b : Int) - (a : Int) < 50 := by omega
              go_wp2
              go_ret
              have e := HE.out
              rw [pi_short lt a b s i dk hs5 (by rw [HK.out]; exact hkb) h50] at e
              refine ⟨by rw [← e]; rfl, by rw [← e]; exact HI1.out.s, HI1.out.gr⟩
            · have h50z : ¬ ((b : Int) - (a : Int) < 50) := by omega
              obtain ⟨w2, hsw, hs2, hg2⟩ := HH.out.swapZ HI1.out.s ((k : Int)) ((k : Int) - 1) (k) (k - 1) (by omega) (by omega) (by omega) (by omega)
              have HT : Hid (InB S blk (.func (.func g) #[] lb) (.func (.func sf) #[] sb) W B (swp dk (k) (k - 1)) w2) := HI1.out.put hs2 hg2
              have d1 := HI1.out.c1
              clear hs2 hg2
              clear HI1
              by_cases hda : k - a ≥ 2
              · have hdaz : (2 : Int) ≤ (k : Int) - (a : Int) := by omega
                go_wp2
                go_loopg [9] (k - 1) (fun g3 vj wd => ∃ (j : Nat) (dj : Array α), vj = .int .i64 j ∧ j ≤ k - 1 ∧ j ≤ g3 ∧ Hid (InB S blk (.func (.func g) #[] lb) (.func (.func sf) #[] sb) W B dj wd) ∧ Hid (shiftDown lt j dj = shiftDown lt (k - 1) (swp dk k (k - 1))))
                case atStart => exact ⟨k - 1, (swp dk k (k - 1)), by go_num, Nat.le_refl _, Nat.le_refl _, HT, rfl⟩
                case round =>
                  clear HT
                  obtain ⟨j, dj, rfl, hj1, hj2, HD, HF3⟩ := hrel
                  by_cases hj0 : 1 ≤ j
                  · have hj0z : (1 : Int) ≤ (j : Int) := by omega
                    have e0 := HD.out.c0
                    cases hv : lt dj[j]! dj[j - 1]! with
                    | true =>
                      have HV : Hid (lt dj[j]! dj[j - 1]! = true) := hv
                      clear hv
                      have hl := HH.out.lessZ HD.out.s ((j : Int)) ((j : Int) - 1) (j) (j - 1) (by omega) (by omega) (by omega) (by omega) HV.out
                      go_wp2_with fail
                      refine hl.mono ?_
                      rintro e w3 ⟨rfl, hg⟩
                      have HD1 : Hid (InB S blk (.func (.func g) #[] lb) (.func (.func sf) #[] sb) W B dj w3) := HD.out.later HH.out hg
                      clear hg hl
                      obtain ⟨w4, hsw, hs2, hg2⟩ := HH.out.swapZ HD1.out.s ((j : Int)) ((j : Int) - 1) (j) (j - 1) (by omega) (by omega) (by omega) (by omega)
                      have HS : Hid (InB S blk (.func (.func g) #[] lb) (.func (.func sf) #[] sb) W B (swp dj (j) (j - 1)) w4) := HD1.out.put hs2 hg2
                      have d1 := HD1.out.c1
                      clear hs2 hg2
                      clear HD
                      go_wp2
                      go_roundg (j - 1)
                      case measure => omega
                      case rel => exact ⟨j - 1, _, by go_num, by omega, Nat.le_refl _, HS, by show _ = _; rw [← HF3.out, shiftDown_go lt j dj hj0 HV.out]⟩
                    | false =>
                      have HV : Hid (lt dj[j]! dj[j - 1]! = false) := hv
                      clear hv
                      have hl := HH.out.lessZ HD.out.s ((j : Int)) ((j : Int) - 1) (j) (j - 1) (by omega) (by omega) (by omega) (by omega) HV.out
                      go_wp2_with fail
                      refine hl.mono ?_
                      rintro e w3 ⟨rfl, hg⟩
                      have HD1 : Hid (InB S blk (.func (.func g) #[] lb) (.func (.func sf) #[] sb) W B dj w3) := HD.out.later HH.out hg
                      clear hg hl
                      have HX : Hid (fixDown lt a k (swp dk k (k - 1)) = dj) := by show _ = _; rw [fixDown, if_pos hda, ← HF3.out, shiftDown_stop lt j dj (Or.inr HV.out)]
                      clear HD HF3 HV e0
                      by_cases hub : b - k ≥ 2
                      · have hubz : (2 : Int) ≤ (b : Int) - (k : Int) := by omega
                        go_wp2
                        go_loopg [10] (b - (k + 1)) (fun g4 vj wu => ∃ (ju : Nat) (du : Array α), vj = .int .i64 ju ∧ k + 1 ≤ ju ∧ ju ≤ b ∧ b - ju ≤ g4 ∧ Hid (InB S blk (.func (.func g) #[] lb) (.func (.func sf) #[] sb) W B du wu) ∧ Hid (shiftUp lt b ju du = shiftUp lt b (k + 1) dj))
                        case atStart => exact ⟨k + 1, dj, by go_num, Nat.le_refl _, by omega, Nat.le_refl _, HD1, rfl⟩
                        case round =>
                          clear HD1
                          obtain ⟨ju, du, rfl, hj1, hj2, hj3, HU, HF⟩ := hrel
                          by_cases hjb : ju < b
                          · have e0 := HU.out.c0
                            cases hv : lt du[ju]! du[ju - 1]! with
                            | true =>
                              have HV : Hid (lt du[ju]! du[ju - 1]! = true) := hv
                              clear hv
                              have hl := HH.out.lessZ HU.out.s ((ju : Int)) ((ju : Int) - 1) (ju) (ju - 1) (by omega) (by omega) (by omega) (by omega) HV.out
                              go_wp2_with fail
                              refine hl.mono ?_
                              rintro e w3 ⟨rfl, hg⟩
                              have HU1 : Hid (InB S blk (.func (.func g) #[] lb) (.func (.func sf) #[] sb) W B du w3) := HU.out.later HH.out hg
                              clear hg hl
                              obtain ⟨w4, hsw, hs2, hg2⟩ := HH.out.swapZ HU1.out.s ((ju : Int)) ((ju : Int) - 1) (ju) (ju - 1) (by omega) (by omega) (by omega) (by omega)
                              have HS : Hid (InB S blk (.func (.func g) #[] lb) (.func (.func sf) #[] sb) W B (swp du (ju) (ju - 1)) w4) := HU1.out.put hs2 hg2
                              have d1 := HU1.out.c1
                              clear hs2 hg2
                              clear HU
                              go_wp2
                              go_roundg (b - (ju + 1))
                              case measure => omega
                              case rel => exact ⟨ju + 1, _, by go_num, by omega, by omega, Nat.le_refl _, HS, by show _ = _; rw [← HF.out, shiftUp_go lt b ju du hjb HV.out]⟩
                            | false =>
                              have HV : Hid (lt du[ju]! du[ju - 1]! = false) := hv
                              clear hv
                              have hl := HH.out.lessZ HU.out.s ((ju : Int)) ((ju : Int) - 1) (ju) (ju - 1) (by omega) (by omega) (by omega) (by omega) HV.out
                              go_wp2_with fail
                              refine hl.mono ?_
                              rintro e w3 ⟨rfl, hg⟩
                              have HU1 : Hid (InB S blk (.func (.func g) #[] lb) (.func (.func sf) #[] sb) W B du w3) := HU.out.later HH.out hg
                              clear hg hl
                              have HG : Hid (fixUp lt b k dj = du) := by show _ = _; rw [fixUp, if_pos hub, ← HF.out, shiftUp_stop lt b ju du (Or.inr HV.out)]
                              go_wp2
                              go_roundg (5 - (s + 1))
                              case measure => omega
                              case rel => exact ⟨k, s + 1, _, by go_num, by go_num, by omega, Nat.le_refl _, by omega, by omega, HU1, by show _ = _; rw [← HE.out, pi_go lt a b s i k dk hs5 HK.out hkb h50]; rw [HX.out, HG.out]⟩
                          · have HG : Hid (fixUp lt b k dj = du) := by show _ = _; rw [fixUp, if_pos hub, ← HF.out, shiftUp_stop lt b ju du (Or.inl hjb)]
                            go_wp2
                            go_roundg (5 - (s + 1))
                            case measure => omega
                            case rel => exact ⟨k, s + 1, _, by go_num, by go_num, by omega, Nat.le_refl _, by omega, by omega, HU, by show _ = _; rw [← HE.out, pi_go lt a b s i k dk hs5 HK.out hkb h50]; rw [HX.out, HG.out]⟩
                      · have hubz : ¬ ((2 : Int) ≤ (b : Int) - (k : Int)) := by omega
                        have HG : Hid (fixUp lt b k dj = dj) := by show _ = _; rw [fixUp, if_neg hub]
                        go_wp2
                        go_roundg (5 - (s + 1))
                        case measure => omega
                        case rel => exact ⟨k, s + 1, _, by go_num, by go_num, by omega, Nat.le_refl _, by omega, by omega, HD1, by show _ = _; rw [← HE.out, pi_go lt a b s i k dk hs5 HK.out hkb h50]; rw [HX.out, HG.out]⟩
                  · have hj0z : ¬ ((1 : Int) ≤ (j : Int)) := by omega
                    have HX : Hid (fixDown lt a k (swp dk k (k - 1)) = dj) := by show _ = _; rw [fixDown, if_pos hda, ← HF3.out, shiftDown_stop lt j dj (Or.inl (by omega))]
                    clear HF3
                    by_cases hub : b - k ≥ 2
                    · have hubz : (2 : Int) ≤ (b : Int) - (k : Int) := by omega
                      go_wp2
                      go_loopg [10] (b - (k + 1)) (fun g4 vj wu => ∃ (ju : Nat) (du : Array α), vj = .int .i64 ju ∧ k + 1 ≤ ju ∧ ju ≤ b ∧ b - ju ≤ g4 ∧ Hid (InB S blk (.func (.func g) #[] lb) (.func (.func sf) #[] sb) W B du wu) ∧ Hid (shiftUp lt b ju du = shiftUp lt b (k + 1) dj))
                      case atStart => exact ⟨k + 1, dj, by go_num, Nat.le_refl _, by omega, Nat.le_refl _, HD, rfl⟩
                      case round =>
                        clear HD
                        obtain ⟨ju, du, rfl, hj1, hj2, hj3, HU, HF⟩ := hrel
                        by_cases hjb : ju < b
                        · have e0 := HU.out.c0
                          cases hv : lt du[ju]! du[ju - 1]! with
                          | true =>
                            have HV : Hid (lt du[ju]! du[ju - 1]! = true) := hv
                            clear hv
                            have hl := HH.out.lessZ HU.out.s ((ju : Int)) ((ju : Int) - 1) (ju) (ju - 1) (by omega) (by omega) (by omega) (by omega) HV.out
                            go_wp2_with fail
                            refine hl.mono ?_
                            rintro e w3 ⟨rfl, hg⟩
                            have HU1 : Hid (InB S blk (.func (.func g) #[] lb) (.func (.func sf) #[] sb) W B du w3) := HU.out.later HH.out hg
                            clear hg hl
                            obtain ⟨w4, hsw, hs2, hg2⟩ := HH.out.swapZ HU1.out.s ((ju : Int)) ((ju : Int) - 1) (ju) (ju - 1) (by omega) (by omega) (by omega) (by omega)
                            have HS : Hid (InB S blk (.func (.func g) #[] lb) (.func (.func sf) #[] sb) W B (swp du (ju) (ju - 1)) w4) := HU1.out.put hs2 hg2
                            have d1 := HU1.out.c1
                            clear hs2 hg2
                            clear HU
                            go_wp2
                            go_roundg (b - (ju + 1))
                            case measure => omega
                            case rel => exact ⟨ju + 1, _, by go_num, by omega, by omega, Nat.le_refl _, HS, by show _ = _; rw [← HF.out, shiftUp_go lt b ju du hjb HV.out]⟩
                          | false =>
                            have HV : Hid (lt du[ju]! du[ju - 1]! = false) := hv
                            clear hv
                            have hl := HH.out.lessZ HU.out.s ((ju : Int)) ((ju : Int) - 1) (ju) (ju - 1) (by omega) (by omega) (by omega) (by omega) HV.out
                            go_wp2_with fail
                            refine hl.mono ?_
                            rintro e w3 ⟨rfl, hg⟩
                            have HU1 : Hid (InB S blk (.func (.func g) #[] lb) (.func (.func sf) #[] sb) W B du w3) := HU.out.later HH.out hg
                            clear hg hl
                            have HG : Hid (fixUp lt b k dj = du) := by show _ = _; rw [fixUp, if_pos hub, ← HF.out, shiftUp_stop lt b ju du (Or.inr HV.out)]
                            go_wp2
                            go_roundg (5 - (s + 1))
                            case measure => omega
                            case rel => exact ⟨k, s + 1, _, by go_num, by go_num, by omega, Nat.le_refl _, by omega, by omega, HU1, by show _ = _; rw [← HE.out, pi_go lt a b s i k dk hs5 HK.out hkb h50]; rw [HX.out, HG.out]⟩
                        · have HG : Hid (fixUp lt b k dj = du) := by show _ = _; rw [fixUp, if_pos hub, ← HF.out, shiftUp_stop lt b ju du (Or.inl hjb)]
                          go_wp2
                          go_roundg (5 - (s + 1))
                          case measure => omega
                          case rel => exact ⟨k, s + 1, _, by go_num, by go_num, by omega, Nat.le_refl _, by omega, by omega, HU, by show _ = _; rw [← HE.out, pi_go lt a b s i k dk hs5 HK.out hkb h50]; rw [HX.out, HG.out]⟩
                    · have hubz : ¬ ((2 : Int) ≤ (b : Int) - (k : Int)) := by omega
                      have HG : Hid (fixUp lt b k dj = dj) := by show _ = _; rw [fixUp, if_neg hub]
                      go_wp2
                      go_roundg (5 - (s + 1))
                      case measure => omega
                      case rel => exact ⟨k, s + 1, _, by go_num, by go_num, by omega, Nat.le_refl _, by omega, by omega, HD, by show _ = _; rw [← HE.out, pi_go lt a b s i k dk hs5 HK.out hkb h50]; rw [HX.out, HG.out]⟩
              · have hdaz : ¬ ((2 : Int) ≤ (k : Int) - (a : Int)) := by omega
                have HX : Hid (fixDown lt a k (swp dk k (k - 1)) = (swp dk k (k - 1))) := by show _ = _; rw [fixDown, if_neg hda]
                by_cases hub : b - k ≥ 2
                · have hubz : (2 : Int) ≤ (b : Int) - (k : Int) := by omega
                  go_wp2
                  go_loopg [10] (b - (k + 1)) (fun g4 vj wu => ∃ (ju : Nat) (du : Array α), vj = .int .i64 ju ∧ k + 1 ≤ ju ∧ ju ≤ b ∧ b - ju ≤ g4 ∧ Hid (InB S blk (.func (.func g) #[] lb) (.func (.func sf) #[] sb) W B du wu) ∧ Hid (shiftUp lt b ju du = shiftUp lt b (k + 1) (swp dk k (k - 1))))
                  case atStart => exact ⟨k + 1, (swp dk k (k - 1)), by go_num, Nat.le_refl _, by omega, Nat.le_refl _, HT, rfl⟩
                  case round =>
                    clear HT
                    obtain ⟨ju, du, rfl, hj1, hj2, hj3, HU, HF⟩ := hrel
                    by_cases hjb : ju < b
                    · have e0 := HU.out.c0
                      cases hv : lt du[ju]! du[ju - 1]! with
                      | true =>
                        have HV : Hid (lt du[ju]! du[ju - 1]! = true) := hv
                        clear hv
                        have hl := HH.out.lessZ HU.out.s ((ju : Int)) ((ju : Int) - 1) (ju) (ju - 1) (by omega) (by omega) (by omega) (by omega) HV.out
                        go_wp2_with fail
                        refine hl.mono ?_
                        rintro e w3 ⟨rfl, hg⟩
                        have HU1 : Hid (InB S blk (.func (.func g) #[] lb) (.func (.func sf) #[] sb) W B du w3) := HU.out.later HH.out hg
                        clear hg hl
                        obtain ⟨w4, hsw, hs2, hg2⟩ := HH.out.swapZ HU1.out.s ((ju : Int)) ((ju : Int) - 1) (ju) (ju - 1) (by omega) (by omega) (by omega) (by omega)
                        have HS : Hid (InB S blk (.func (.func g) #[] lb) (.func (.func sf) #[] sb) W B (swp du (ju) (ju - 1)) w4) := HU1.out.put hs2 hg2
                        have d1 := HU1.out.c1
                        clear hs2 hg2
                        clear HU
                        go_wp2
                        go_roundg (b - (ju + 1))
                        case measure => omega
                        case rel => exact ⟨ju + 1, _, by go_num, by omega, by omega, Nat.le_refl _, HS, by show _ = _; rw [← HF.out, shiftUp_go lt b ju du hjb HV.out]⟩
                      | false =>
                        have HV : Hid (lt du[ju]! du[ju - 1]! = false) := hv
                        clear hv
                        have hl := HH.out.lessZ HU.out.s ((ju : Int)) ((ju : Int) - 1) (ju) (ju - 1) (by omega) (by omega) (by omega) (by omega) HV.out
                        go_wp2_with fail
                        refine hl.mono ?_
                        rintro e w3 ⟨rfl, hg⟩
                        have HU1 : Hid (InB S blk (.func (.func g) #[] lb) (.func (.func sf) #[] sb) W B du w3) := HU.out.later HH.out hg
                        clear hg hl
                        have HG : Hid (fixUp lt b k (swp dk k (k - 1)) = du) := by show _ = _; rw [fixUp, if_pos hub, ← HF.out, shiftUp_stop lt b ju du (Or.inr HV.out)]
                        go_wp2
                        go_roundg (5 - (s + 1))
                        case measure => omega
                        case rel => exact ⟨k, s + 1, _, by go_num, by go_num, by omega, Nat.le_refl _, by omega, by omega, HU1, by show _ = _; rw [← HE.out, pi_go lt a b s i k dk hs5 HK.out hkb h50]; rw [HX.out, HG.out]⟩
                    · have HG : Hid (fixUp lt b k (swp dk k (k - 1)) = du) := by show _ = _; rw [fixUp, if_pos hub, ← HF.out, shiftUp_stop lt b ju du (Or.inl hjb)]
                      go_wp2
                      go_roundg (5 - (s + 1))
                      case measure => omega
                      case rel => exact ⟨k, s + 1, _, by go_num, by go_num, by omega, Nat.le_refl _, by omega, by omega, HU, by show _ = _; rw [← HE.out, pi_go lt a b s i k dk hs5 HK.out hkb h50]; rw [HX.out, HG.out]⟩
                · exfalso; omega
        · have hke : k = b := by omega
          have HK : Hid (scanSorted lt dk b i = b) := by show _ = _; rw [← HSC.out, scanSorted_stop lt dk b k (Or.inl hlt), hke]
          have hkbz : ((k : Int) == (b : Int)) = true := by simp [hke]
          have hltz : decide ((k : Int) < (b : Int)) = false := by simp; omega
          clear hke
          go_wp2
          go_ret
          have e := HE.out
          rw [pi_true lt a b s i dk hs5 HK.out] at e
          refine ⟨by rw [← e]; rfl, by rw [← e]; exact HI.out.s, HI.out.gr⟩
    · have hs5z : ¬ ((s : Int) < 5) := by omega
      have hs6 : s = 5 := by omega
      have HE5 : Hid (partialInsertionSort lt d a b = (dk, false)) := by show _ = _; rw [← HE.out, hs6]; exact pi_end lt a b i dk
      clear HE hs6
      go_wp2
      go_ret
      refine ⟨by rw [HE5.out]; rfl, by rw [HE5.out]; exact HI.out.s, HI.out.gr⟩
end Go.Proofs.YtpbknhhjfhpkmaaGreatDoor
