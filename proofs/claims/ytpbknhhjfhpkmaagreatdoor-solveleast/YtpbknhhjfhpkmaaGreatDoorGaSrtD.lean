/- pdqsort_func: whatever less lays, the row is sorted. sort.Slice at a slice of strings, by a less that may lay blocks. -/
import Derived.Test.YtpbknhhjfhpkmaaGreatDoorGaSrtB
import Derived.Test.YtpbknhhjfhpkmaaGreatDoorGaSrtC
import Derived.Sort.AssemblyPlain
import Derived.Sort.Walk13
import Derived.Test.YtpbknhhjfhpkmaaGreatDoorCStr
import Derived.Shelf.GgSortFunc.Small
namespace Go.Proofs.YtpbknhhjfhpkmaaGreatDoor
open Go.RowKit Go.Sort
variable {α : Type} [Inhabited α] {S : Array α → World → Prop} {blk n : Nat} {lt : α → α → Bool} {g : Nat} {lb : Array Value} {sf : Nat} {sb : Array Value}

/- What is left to be sorted makes the whole. -/
def Goes (lt : α → α → Bool) (a b : Nat) (d : Array α) (a1 b1 : Nat) (dk : Array α) : Prop := ∀ R, PermIn a1 b1 dk R → SortedIn lt a1 b1 R → PermIn a b d R ∧ SortedIn lt a b R
theorem Goes.perm {a b a1 b1 : Nat} {d dk e : Array α} (h : Goes lt a b d a1 b1 dk) (hp : PermIn a1 b1 dk e) : Goes lt a b d a1 b1 e := fun R hR hs => h R (permIn_trans _ _ _ _ _ hp hR) hs

set_option maxRecDepth 1000000 in
set_option maxHeartbeats 12800000 in
theorem pdqS (H : Srt S blk n lt g lb sf sb) (HO : Other S) (hO : SWO lt) : ∀ (N a b limit : Nat) (d : Array α) (W : World), b - a < N → S d W → a ≤ b → b ≤ n → limit < 4611686018427387904 → Sort.Below lt a b d →
    Calls Tryz.prog 74 #[.agg #[.func (.func g) #[] lb, .func (.func sf) #[] sb], .int .i64 a, .int .i64 b, .int .i64 limit] W fun e w' => e = .returned (.tuple #[]) ∧ ∃ R, S R w' ∧ PermIn a b d R ∧ SortedIn lt a b R ∧ W.grownBy w' (some blk) := by
  intro N
  induction N with
  | zero => intro _ _ _ _ _ h; exact absurd h (Nat.not_lt_zero _)
  | succ N ih =>
    intro a b limit d W hN hS hab hb hlimit hBel0
    have eg := H.eg
    have hsm := H.small
    have HI : Hid (InB S blk (.func (.func g) #[] lb) (.func (.func sf) #[] sb) W W.heap.size d (W.alloc (.cells #[.func (.func g) #[] lb, .func (.func sf) #[] sb] 143))) := InB.start H hS _ _
    have HH : Hid (Srt S blk n lt g lb sf sb) := H
    have HOO : Hid (Other S) := HO
    have HSW : Hid (SWO lt) := hO
    have HBL : Hid (Sort.Below lt a b d) := hBel0
    have HIH : Hid (∀ (a b limit : Nat) (d : Array α) (W : World), b - a < N → S d W → a ≤ b → b ≤ n → limit < 4611686018427387904 → Sort.Below lt a b d → ∀ (za zb : Int), za = a → zb = b → Calls Tryz.prog 74 #[.agg #[.func (.func g) #[] lb, .func (.func sf) #[] sb], .int .i64 za, .int .i64 zb, .int .i64 limit] W fun e w' => e = .returned (.tuple #[]) ∧ ∃ R, S R w' ∧ PermIn a b d R ∧ SortedIn lt a b R ∧ W.grownBy w' (some blk)) := fun a b limit d W h1 h2 h3 h4 h5 h6 za zb ea eb => by
      subst ea eb
      exact ih a b limit d W h1 h2 h3 h4 h5 h6
    clear H hS ih HO hO hBel0
    go_enter Tryz.func74, Tryz.ntmps74
    go_wp2
    obtain ⟨B, hB⟩ : ∃ B, B = W.heap.size := ⟨_, rfl⟩
    rw [← hB] at HI ⊢
    clear hB
    go_loopg [1, 2, 3, 8, 9] (b - a) (fun k s1 s2 s3 s8 s9 wr => ∃ (a1 b1 lim : Nat) (wb wp : Bool) (dk : Array α), s1 = .int .i64 a1 ∧ s2 = .int .i64 b1 ∧ s3 = .int .i64 lim ∧ s8 = .bool wb ∧ s9 = .bool wp ∧
      a1 ≤ b1 ∧ b1 ≤ n ∧ b1 - a1 ≤ k ∧ k ≤ b - a ∧ lim ≤ limit ∧ Hid (Sort.Below lt a1 b1 dk) ∧ Hid (InB S blk (.func (.func g) #[] lb) (.func (.func sf) #[] sb) W B dk wr) ∧ Hid (Goes lt a b d a1 b1 dk))
    case atStart => exact ⟨a, b, limit, true, true, d, rfl, rfl, rfl, rfl, rfl, hab, hb, Nat.le_refl _, Nat.le_refl _, Nat.le_refl _, HBL, HI, fun R h1 h2 => ⟨h1, h2⟩⟩
    case round =>
      clear HI HBL
      obtain ⟨a1, b1, lim, wb, wp, dk, rfl, rfl, rfl, rfl, rfl, hab1, hb1, hk, hkN, hlim, HBL, HI, HG⟩ := hrel
      have x0 := HI.out.c0
      have x1 := HI.out.c1
      have hds : dk.size = n := HH.out.size HI.out.s
      by_cases h12 : b1 - a1 ≤ 12
      · have h12z : (b1 : Int) - (a1 : Int) ≤ 12 := by omega
        have hc := insSort HH.out a1 b1 dk wr HI.out.s hab1 hb1
        go_wp2_with fail
        refine hc.mono ?_
        rintro e w1 ⟨rfl, hs1, hg1⟩
        have HF : Hid (∃ R, S R w1 ∧ PermIn a b d R ∧ SortedIn lt a b R ∧ W.grownBy w1 (some blk)) := by
          obtain ⟨q1, q2⟩ := insertionSort_holds HSW.out dk a1 b1 hab1 (by omega)
          obtain ⟨q3, q4⟩ := HG.out _ q1 q2
          exact ⟨_, hs1, q3, q4, gtrans HI.out.gr hg1⟩
        clear hs1 hg1 hc
        go_wp2
        (try simp only [Exit.inBlock, Exit.then])
        refine bodyPost_ret (results_none rfl _ _ _) rfl ?_
        exact ⟨rfl, HF.out⟩
      · have h12z : ¬ ((b1 : Int) - (a1 : Int) ≤ 12) := by omega
        by_cases hl0 : lim = 0
        · subst hl0
          have hc := heapSortS HH.out a1 b1 dk wr HI.out.s hab1 hb1
          go_wp2_with fail
          refine hc.mono ?_
          rintro e w1 ⟨rfl, hs1, hg1⟩
          have HF : Hid (∃ R, S R w1 ∧ PermIn a b d R ∧ SortedIn lt a b R ∧ W.grownBy w1 (some blk)) := by
            obtain ⟨q1, q2⟩ := heapSort_holds HSW.out dk a1 b1 hab1 (by omega)
            obtain ⟨q3, q4⟩ := HG.out _ q1 q2
            exact ⟨_, hs1, q3, q4, gtrans HI.out.gr hg1⟩
          clear hs1 hg1 hc
          go_wp2
          (try simp only [Exit.inBlock, Exit.then])
          refine bodyPost_ret (results_none rfl _ _ _) rfl ?_
          exact ⟨rfl, HF.out⟩
        · have hl0z : ((lim : Int) == 0) = false := by simp; omega
          obtain ⟨L, hL⟩ : ∃ L, b1 = a1 + L := ⟨b1 - a1, by omega⟩
          have hLz : (b1 : Int) = (a1 : Int) + (L : Int) := by omega
          have HLZ : Hid ((b1 : Int) = (a1 : Int) + (L : Int)) := hLz
          have HL : Hid (b1 = a1 + L) := hL
          clear hL hLz
          go_upto_if 35 with fail
          go_cut [3] from 19 (fun s3 wc => ∃ (lm : Nat) (e1 : Array α), s3 = .int .i64 lm ∧ lm ≤ lim ∧ Hid (InB S blk (.func (.func g) #[] lb) (.func (.func sf) #[] sb) W B e1 wc) ∧ Hid (PermIn a1 b1 dk e1))
          case first =>
            cases wb
            · have hc := breakS HH.out HOO.out a1 L dk wr HI.out.s (by have := HL.out; omega) (by have := HL.out; omega)
              rw [← HLZ.out] at hc
              go_wp2_with fail
              refine hc.mono ?_
              rintro e w1 ⟨rfl, R, hs1, hp1, hg1⟩
              have HF : Hid (InB S blk (.func (.func g) #[] lb) (.func (.func sf) #[] sb) W B R w1) := HI.out.put hs1 hg1
              have HP : Hid (PermIn a1 b1 dk R) := by rw [HL.out]; exact hp1
              clear hs1 hp1 hg1 hc
              go_wp2
              go_meet
              case rel => exact ⟨lim - 1, R, by congr 1; omega, by omega, HF, HP⟩
            · go_wp2_with fail
              go_meet
              case rel => exact ⟨lim, dk, rfl, Nat.le_refl _, HI, permIn_refl _ _ _⟩
          case rest =>
            clear x0 x1 HI
            obtain ⟨lm, e1, rfl, hlm, HI, HP1⟩ := hcut
            have y0 := HI.out.c0
            have y1 := HI.out.c1
            have hc17 := choosePivotS HH.out HOO.out a1 L e1 wc HI.out.s (by have := HL.out; omega) (by have := HL.out; omega)
            rw [← HLZ.out] at hc17
            go_wp2_with fail
            refine hc17.mono ?_
            rintro e w2 ⟨p, hz, rfl, hp1, hp2, hs2, hg2⟩
            have HI2 : Hid (InB S blk (.func (.func g) #[] lb) (.func (.func sf) #[] sb) W B e1 w2) := HI.out.later HH.out hg2
            have hp3 : p < b1 := by have := HL.out; omega
            clear y0 y1 hs2 hg2 hc17 HI hp2
            have z0 := HI2.out.c0
            have z1 := HI2.out.c1
            go_upto_if 50 with fail
            go_cut [11, 12] from 19 (fun s11 s12 wc => ∃ (pv : Nat) (hy : Int) (e2 : Array α), s11 = .int .i64 pv ∧ s12 = .int .i64 hy ∧ a1 ≤ pv ∧ pv < b1 ∧ Hid (InB S blk (.func (.func g) #[] lb) (.func (.func sf) #[] sb) W B e2 wc) ∧ Hid (PermIn a1 b1 dk e2))
            case first =>
              by_cases hh : hz = 2
              · subst hh
                have hc18 := reverseS HH.out a1 b1 e1 w2 HI2.out.s hab1 hb1
                go_wp2_with fail
                refine hc18.mono ?_
                rintro e w3 ⟨rfl, hs3, hg3⟩
                have HF : Hid (InB S blk (.func (.func g) #[] lb) (.func (.func sf) #[] sb) W B (reverseRange e1 a1 b1) w3) := HI2.out.put hs3 hg3
                have HP : Hid (PermIn a1 b1 dk (reverseRange e1 a1 b1)) := permIn_trans _ _ _ _ _ HP1.out (reverseRange_holds e1 a1 b1 hab1 (by rw [HP1.out.1]; omega))
                clear hs3 hg3 hc18
                go_wp2
                go_meet
                case rel => exact ⟨b1 - 1 - (p - a1), 1, _, by congr 1; omega, rfl, by omega, by omega, HF, HP⟩
              · have hcode : (hz == 2) = false := by simp [hh]
                go_wp2_with fail
                go_meet
                case rel => exact ⟨p, hz, e1, rfl, rfl, hp1, hp3, HI2, HP1⟩
            case rest =>
              clear z0 z1 HI2 HP1
              obtain ⟨pv, hy, e2, rfl, rfl, hp4, hp5, HI3, HP2⟩ := hcut
              go_upto_region 16 with fail
              go_cut [12, 68] from 19 (fun s12 s68 wx => ∃ (t : Bool), s12 = .int .i64 hy ∧ s68 = .bool t ∧ Hid (InB S blk (.func (.func g) #[] lb) (.func (.func sf) #[] sb) W B e2 wx))
              case first =>
                by_cases hy1 : hy = 1
                · subst hy1
                  cases wb <;> cases wp <;>
                    (go_wp2_with fail
                     go_meet
                     exact ⟨_, rfl, rfl, HI3⟩)
                · have hcode3 : (hy == 1) = false := by simp [hy1]
                  cases wb <;> cases wp <;>
                    (go_wp2_with fail
                     go_meet
                     exact ⟨_, rfl, rfl, HI3⟩)
              case rest =>
                clear HI3
                obtain ⟨t, rfl, rfl, HI4⟩ := hcut
                have v0 := HI4.out.c0
                have v1 := HI4.out.c1
                go_upto_if 68 with fail
                go_cut [] from 19 (fun wx => ∃ (e3 : Array α), Hid (InB S blk (.func (.func g) #[] lb) (.func (.func sf) #[] sb) W B e3 wx) ∧ Hid (PermIn a1 b1 dk e3))
                case first =>
                  cases t
                  · go_wp2_with fail
                    go_meet
                    case rel => exact ⟨e2, HI4, HP2⟩
                  · have hc19 := partialS HH.out a1 b1 e2 wc HI4.out.s (by omega) hb1
                    have HPI : Hid (PermIn a1 b1 e2 (partialInsertionSort lt e2 a1 b1).1 ∧ ((partialInsertionSort lt e2 a1 b1).2 = true → SortedIn lt a1 b1 (partialInsertionSort lt e2 a1 b1).1)) :=
                      partialInsertionSort_holds HSW.out e2 a1 b1 (by omega) (by rw [HP2.out.1]; omega) (HBL.out.perm (by omega) HP2.out)
                    obtain ⟨pi, hpi⟩ : ∃ pi, pi = partialInsertionSort lt e2 a1 b1 := ⟨_, rfl⟩
                    rw [← hpi] at hc19 HPI
                    obtain ⟨e3, r⟩ := pi
                    simp only at hc19 HPI
                    clear hpi
                    cases r with
                    | true =>
                      go_wp2_with fail
                      refine hc19.mono ?_
                      rintro e w4 ⟨rfl, hs4, hg4⟩
                      have HF : Hid (∃ R, S R w4 ∧ PermIn a b d R ∧ SortedIn lt a b R ∧ W.grownBy w4 (some blk)) := by
                        obtain ⟨q3, q4⟩ := HG.out _ (permIn_trans _ _ _ _ _ HP2.out HPI.out.1) (HPI.out.2 (by trivial))
                        exact ⟨_, hs4, q3, q4, gtrans HI4.out.gr hg4⟩
                      clear hs4 hg4 hc19
                      go_wp2
                      (try simp only [Exit.inBlock, Exit.then])
                      refine bodyPost_ret (results_none rfl _ _ _) rfl ?_
                      exact ⟨rfl, HF.out⟩
                    | false =>
                      go_wp2_with fail
                      refine hc19.mono ?_
                      rintro e w4 ⟨rfl, hs4, hg4⟩
                      have HF : Hid (InB S blk (.func (.func g) #[] lb) (.func (.func sf) #[] sb) W B e3 w4) := HI4.out.put hs4 hg4
                      have HP : Hid (PermIn a1 b1 dk e3) := permIn_trans _ _ _ _ _ HP2.out HPI.out.1
                      clear hs4 hg4 hc19
                      go_wp2
                      go_meet
                      case rel => exact ⟨e3, HF, HP⟩
                case rest =>
                  clear v0 v1 HI4 HP2
                  obtain ⟨e3, HI5, HP3⟩ := hcut
                  have t0 := HI5.out.c0
                  have t1 := HI5.out.c1
                  go_upto_region 18 with fail
                  go_cut [83] from 19 (fun s83 wx => ∃ (t : Bool), s83 = .bool t ∧ Hid (InB S blk (.func (.func g) #[] lb) (.func (.func sf) #[] sb) W B e3 wx) ∧ Hid (t = true → 0 < a1 ∧ lt e3[a1 - 1]! e3[pv]! = false))
                  case first =>
                    rcases Nat.eq_zero_or_pos a1 with ha0 | ha0
                    · have ha0z : decide ((a1 : Int) > 0) = false := decide_eq_false (by omega)
                      go_wp2_with fail
                      go_meet
                      case rel => exact ⟨false, rfl, HI5, fun h => by cases h⟩
                    · have ha0z : (a1 : Int) > 0 := by omega
                      cases hlv : lt e3[a1 - 1]! e3[pv]! with
                      | true =>
                        have hl := HH.out.lessZ HI5.out.s ((a1 : Int) - 1) (pv : Int) (a1 - 1) pv (by omega) rfl (by omega) (by omega) hlv
                        clear hlv
                        go_wp2_with fail
                        refine hl.mono ?_
                        rintro e w5 ⟨rfl, hg5⟩
                        have HF : Hid (InB S blk (.func (.func g) #[] lb) (.func (.func sf) #[] sb) W B e3 w5) := HI5.out.later HH.out hg5
                        clear hg5 hl
                        go_wp2
                        go_meet
                        case rel => exact ⟨false, rfl, HF, fun h => by cases h⟩
                      | false =>
                        have hl := HH.out.lessZ HI5.out.s ((a1 : Int) - 1) (pv : Int) (a1 - 1) pv (by omega) rfl (by omega) (by omega) hlv
                        have HV : Hid (lt e3[a1 - 1]! e3[pv]! = false) := hlv
                        clear hlv
                        go_wp2_with fail
                        refine hl.mono ?_
                        rintro e w5 ⟨rfl, hg5⟩
                        have HF : Hid (InB S blk (.func (.func g) #[] lb) (.func (.func sf) #[] sb) W B e3 w5) := HI5.out.later HH.out hg5
                        clear hg5 hl
                        go_wp2
                        go_meet
                        case rel => exact ⟨true, rfl, HF, fun _ => ⟨ha0, HV.out⟩⟩
                  case rest =>
                    clear t0 t1 HI5
                    obtain ⟨t, rfl, HI6, HT⟩ := hcut
                    have q0 := HI6.out.c0
                    have q1 := HI6.out.c1
                    have hd3 : e3.size = n := HH.out.size HI6.out.s
                    have HB3 : Hid (Sort.Below lt a1 b1 e3) := HBL.out.perm (by omega) HP3.out
                    have HG3 : Hid (Goes lt a b d a1 b1 e3) := HG.out.perm HP3.out
                    cases t
                    · have hc22 := partS HH.out a1 b1 pv e3 wc HI6.out.s hp4 hp5 hb1
                      obtain ⟨mid, ap, d4, hx⟩ : ∃ mid ap d4, partition lt e3 a1 b1 pv = (mid, ap, d4) := ⟨_, _, _, rfl⟩
                      have HR : Hid (a1 ≤ mid ∧ mid < b1 ∧ d4.size = e3.size ∧ Sort.Below lt a1 mid d4 ∧ Sort.Below lt (mid + 1) b1 d4 ∧
                          (∀ L, PermIn a1 mid d4 L → SortedIn lt a1 mid L → Sort.Below lt (mid + 1) b1 L ∧ ∀ R, PermIn (mid + 1) b1 L R → SortedIn lt (mid + 1) b1 R → PermIn a1 b1 e3 R ∧ SortedIn lt a1 b1 R) ∧
                          (∀ L, PermIn (mid + 1) b1 d4 L → SortedIn lt (mid + 1) b1 L → Sort.Below lt a1 mid L ∧ ∀ R, PermIn a1 mid L R → SortedIn lt a1 mid R → PermIn a1 b1 e3 R ∧ SortedIn lt a1 b1 R)) := round_part HSW.out (partition_holds lt) hp4 hp5 (by omega) HB3.out hx
                      rw [hx] at hc22
                      simp only at hc22
                      clear hx
                      have r1 := HR.out.1
                      have r2 := HR.out.2.1
                      go_wp2_with fail
                      refine hc22.mono ?_
                      rintro e w7 ⟨rfl, hs7, hg7⟩
                      have HI7 : Hid (InB S blk (.func (.func g) #[] lb) (.func (.func sf) #[] sb) W B d4 w7) := HI6.out.put hs7 hg7
                      clear q0 q1 HI6 hs7 hg7 hc22
                      have p0 := HI7.out.c0
                      have p1 := HI7.out.c1
                      by_cases h4 : mid - a1 < b1 - mid
                      · have h4z : (mid : Int) - (a1 : Int) < (b1 : Int) - (mid : Int) := by omega
                        have hih := HIH.out a1 mid lm d4 w7 (by omega) HI7.out.s (by omega) (by omega) (by omega) HR.out.2.2.2.1 (a1 : Int) (mid : Int) rfl rfl
                        go_wp2_with fail
                        refine hih.mono ?_
                        rintro e w8 ⟨rfl, Q, hs8, hp8, ho8, hg8⟩
                        have HI8 : Hid (InB S blk (.func (.func g) #[] lb) (.func (.func sf) #[] sb) W B Q w8) := HI7.out.put hs8 hg8
                        have HQ : Hid (Sort.Below lt (mid + 1) b1 Q ∧ Goes lt a b d (mid + 1) b1 Q) := by
                          obtain ⟨u1, u2⟩ := HR.out.2.2.2.2.2.1 Q hp8 ho8
                          exact ⟨u1, fun R v1 v2 => by obtain ⟨u3, u4⟩ := u2 R v1 v2; exact HG3.out R u3 u4⟩
                        clear hs8 hp8 ho8 hg8 hih
                        go_wp2
                        go_roundg (b1 - (mid + 1))
                        case measure => omega
                        case rel => exact ⟨mid + 1, b1, lm, _, _, Q, by go_num, rfl, rfl, rfl, rfl, by omega, by omega, Nat.le_refl _, by omega, by omega, HQ.out.1, HI8, HQ.out.2⟩
                      · have h4z : ¬ ((mid : Int) - (a1 : Int) < (b1 : Int) - (mid : Int)) := by omega
                        have hih := HIH.out (mid + 1) b1 lm d4 w7 (by omega) HI7.out.s (by omega) (by omega) (by omega) HR.out.2.2.2.2.1 ((mid : Int) + 1) (b1 : Int) (by omega) rfl
                        go_wp2_with fail
                        refine hih.mono ?_
                        rintro e w8 ⟨rfl, Q, hs8, hp8, ho8, hg8⟩
                        have HI8 : Hid (InB S blk (.func (.func g) #[] lb) (.func (.func sf) #[] sb) W B Q w8) := HI7.out.put hs8 hg8
                        have HQ : Hid (Sort.Below lt a1 mid Q ∧ Goes lt a b d a1 mid Q) := by
                          obtain ⟨u1, u2⟩ := HR.out.2.2.2.2.2.2 Q hp8 ho8
                          exact ⟨u1, fun R v1 v2 => by obtain ⟨u3, u4⟩ := u2 R v1 v2; exact HG3.out R u3 u4⟩
                        clear hs8 hp8 ho8 hg8 hih
                        go_wp2
                        go_roundg (mid - a1)
                        case measure => omega
                        case rel => exact ⟨a1, mid, lm, _, _, Q, rfl, rfl, rfl, rfl, rfl, by omega, by omega, Nat.le_refl _, by omega, by omega, HQ.out.1, HI8, HQ.out.2⟩
                    · have ht0 := HT.out rfl
                      have hc21 := partEqS HH.out a1 b1 pv e3 wc HI6.out.s hp4 hp5 hb1
                      obtain ⟨mid, d4, hx⟩ : ∃ mid d4, partitionEqual lt e3 a1 b1 pv = (mid, d4) := ⟨_, _, rfl⟩
                      have HR : Hid (a1 < mid ∧ mid ≤ b1 ∧ d4.size = e3.size ∧ Sort.Below lt mid b1 d4 ∧ ∀ R, PermIn mid b1 d4 R → SortedIn lt mid b1 R → PermIn a1 b1 e3 R ∧ SortedIn lt a1 b1 R) := round_eq HSW.out (partitionEqual_holds lt) ht0.1 hp4 hp5 (by omega) HB3.out ht0.2 hx
                      rw [hx] at hc21
                      simp only at hc21
                      have r1 := HR.out.1
                      have r2 := HR.out.2.1
                      clear hx ht0
                      go_wp2_with fail
                      refine hc21.mono ?_
                      rintro e w7 ⟨rfl, hs7, hg7⟩
                      have HI7 : Hid (InB S blk (.func (.func g) #[] lb) (.func (.func sf) #[] sb) W B d4 w7) := HI6.out.put hs7 hg7
                      have HQ : Hid (Goes lt a b d mid b1 d4) := fun R v1 v2 => by obtain ⟨u3, u4⟩ := HR.out.2.2.2.2 R v1 v2; exact HG3.out R u3 u4
                      clear hs7 hg7 hc21
                      go_wp2
                      go_roundg (b1 - mid)
                      case measure => omega
                      case rel => exact ⟨mid, b1, lm, wb, wp, d4, rfl, rfl, rfl, rfl, rfl, by omega, by omega, Nat.le_refl _, by omega, by omega, HR.out.2.2.2.1, HI7, HQ⟩
end Go.Proofs.YtpbknhhjfhpkmaaGreatDoor

namespace Go.Proofs.YtpbknhhjfhpkmaaGreatDoor
open Go.RowKit Go.Sort

noncomputable def infT : TypeInfo := (Tryz.prog.info? 22).get (by kernel_rfl)
noncomputable def infE : TypeInfo := (Tryz.prog.info? 9).get (by kernel_rfl)
theorem infK (n : Nat) (h2 : 2 ≤ n) : Lib.swapperK n infE 24 = 4 := by
  have a : infE.hasPointers = true := by kernel_rfl
  have b : infE.bytes = 16 := by kernel_rfl
  have c : (n == 0) = false := by simp; omega
  have d : (n == 1) = false := by simp; omega
  simp [Lib.swapperK, a, b, c, d]
theorem heap_set {w : World} {g i : Nat} {cs : Array Value} {t : TypeId} {fr : Nat × Nat} (v : Value) (h : w.heap[g]? = some (.cells cs t fr)) : (w.setCell ⟨g, i, none⟩ v).heap[g]? = some (.cells (cs.setIfInBounds i v) t fr) := by
  simp [World.setCell, Array.getElem?_modify, h]

/- What the row holds while it is sorted. -/
structure SortS {α : Type} (w0 : World) (blk cap : Nat) (enc : α → ByteArray) (M : List α) (d : Array α) (W : World) : Prop where
  perm : d.toList.Perm M
  gr : w0.grownBy W (some blk)
  row : ∃ cur, W.heap[blk]? = some (.cells cur 9 (0, 0)) ∧ cur.size = cap ∧ ∀ k (h : k < d.size), cur[k]? = some (.string (enc d[k]))
theorem SortS.cell {α : Type} {w0 : World} {blk cap : Nat} {enc : α → ByteArray} {M : List α} {d : Array α} {W : World} (h : SortS w0 blk cap enc M d W) (k : Nat) (hk : k < d.size) : W.cell? ⟨blk, k, none⟩ = some (.string (enc d[k])) := by
  obtain ⟨cur, h1, _, h3⟩ := h.row
  simp [World.cell?, h1, h3 k hk]
theorem SortS.fz {α : Type} {w0 : World} {blk cap : Nat} {enc : α → ByteArray} {M : List α} {d : Array α} {W : World} (h : SortS w0 blk cap enc M d W) (k : Nat) : W.frozen? ⟨blk, k, none⟩ = false := by
  obtain ⟨cur, h1, _, _⟩ := h.row
  simp [World.frozen?, h1]
theorem SortS.size {α : Type} {w0 : World} {blk cap : Nat} {enc : α → ByteArray} {M : List α} {d : Array α} {W : World} (h : SortS w0 blk cap enc M d W) : d.size = M.length := by
  have := h.perm.length_eq
  simpa using this
theorem SortS.swapped {α : Type} [Inhabited α] {w0 : World} {blk cap : Nat} {enc : α → ByteArray} {M : List α} {d : Array α} {W : World} (h : SortS w0 blk cap enc M d W) (i j : Nat) (hi : i < d.size) (hj : j < d.size) (hcap : d.size ≤ cap) :
    SortS w0 blk cap enc M (swp d i j) ((W.setCell ⟨blk, i, none⟩ (.string (enc d[j]!))).setCell ⟨blk, j, none⟩ (.string (enc d[i]!))) := by
  obtain ⟨cur, h1, h2, h3⟩ := h.row
  refine ⟨?_, grown_set (grown_set h.gr rfl _) rfl _, _, heap_set _ (heap_set _ h1), by simpa using h2, fun k hk => ?_⟩
  · have hp := swp_permIn d 0 d.size i j (Nat.zero_le _) hi (Nat.zero_le _) hj (Nat.le_refl _)
    have h4 := hp.2.2
    have e1 : (swp d i j).extract 0 d.size = swp d i j := by rw [← swp_size d i j]; simp
    have e2 : d.extract 0 d.size = d := by simp
    rw [e1, e2] at h4
    exact h4.trans h.perm
  · have hk' : k < d.size := by rw [swp_size] at hk; exact hk
    have hg := swp_get d hi hj k
    rw [getElem!_pos (swp d i j) k hk, getElem!_pos d i hi, getElem!_pos d j hj, getElem!_pos d k hk'] at hg
    rw [hg]
    simp only [getElem!_pos, hi, hj, Array.getElem?_setIfInBounds, Array.size_setIfInBounds]
    by_cases e1 : j = k
    · subst e1
      simp [show j < cur.size by omega]
    · by_cases e2 : i = k
      · subst e2
        simp [e1, Ne.symm e1, show i < cur.size by omega]
      · simp [e1, e2, Ne.symm e1, Ne.symm e2, h3 k hk']
theorem sortS_other {α : Type} {w0 : World} {blk cap : Nat} {enc : α → ByteArray} {M : List α} (hb : blk < w0.heap.size) : Other (SortS (α := α) w0 blk cap enc M) := by
  intro W0 W W' d0 dk c h0 hc h hg
  have hc0 : w0.heap.size ≤ c := Nat.le_trans h0.gr.size hc
  obtain ⟨cur, h1, h2, h3⟩ := h.row
  refine ⟨h.perm, ⟨hg.os.trans h.gr.os, hg.tape.trans h.gr.tape, hg.output.trans h.gr.output, Nat.le_trans h.gr.size hg.size, fun k hk hn => ?_⟩, cur, ?_, h2, h3⟩
  · exact (hg.block k (Nat.lt_of_lt_of_le hk h.gr.size) (by intro e; injection e with e; omega)).trans (h.gr.block k hk hn)
  · exact (hg.block blk (Nat.lt_of_lt_of_le hb h.gr.size) (by intro e; injection e with e; omega)).trans h1

set_option maxHeartbeats 2000000 in
theorem srt_of {α : Type} [Inhabited α] (w0 : World) (blk cap n c : Nat) (enc : α → ByteArray) (M : List α) (lt : α → α → Bool) (g : Nat) (lb : Array Value) (hM : M.length = n) (hcap : n ≤ cap) (hb : blk < w0.heap.size) (hn : n < 1000000)
    (eg : ∀ args w, (callFunc g args).run Tryz.prog w = .ok (.enter g args) w)
    (hless : ∀ (W : World) (d : Array α), SortS w0 blk cap enc M d W → ∀ i j : Nat, i < n → j < n → Calls Tryz.prog g (#[.int .i64 i, .int .i64 j] ++ lb) W fun e w' => e = .returned (.bool (lt d[i]! d[j]!)) ∧ W.grownBy w' none) :
    Srt (SortS w0 blk cap enc M) blk n lt g lb 109 #[.slice (some ⟨blk, 0, none⟩) n c, typeHandle Tryz.prog 9] := by
  refine ⟨eg, fun h i j hi hj => hless _ _ h i j hi hj, fun {W dk} h i j hi hj => ?_, fun h hg => ?_, fun h => by rw [h.size, hM], fun h => Nat.lt_of_lt_of_le hb h.gr.size, by omega⟩
  · have hs := h.size
    have hi' : i < dk.size := by omega
    have hj' : j < dk.size := by omega
    have hx := run_callFunc_extern (P := Tryz.prog) Tryz.func109 (by kernel_rfl) (by kernel_rfl) (by kernel_rfl) (e := Extern.ReflectliteSwapper.swap true) (by kernel_rfl) (#[.int .i64 i, .int .i64 j] ++ #[.slice (some ⟨blk, 0, none⟩) n c, typeHandle Tryz.prog 9]) W
    have hr := Lib.run_swap_one (P := Tryz.prog) true 9 infE (by kernel_rfl) (by kernel_rfl) (fun _ => by kernel_rfl) blk 0 n c i j hi hj (.string (enc dk[i])) (.string (enc dk[j])) rfl rfl W (by rw [Nat.zero_add]; exact h.cell i hi') (by rw [Nat.zero_add]; exact h.cell j hj') (by rw [Nat.zero_add]; exact h.fz i) (by rw [Nat.zero_add]; exact h.fz j)
    have hsw := h.swapped i j hi' hj' (by omega)
    rw [getElem!_pos dk i hi', getElem!_pos dk j hj'] at hsw
    refine ⟨_, ?_, hsw, grown_set (b := blk) (p := ⟨blk, j, none⟩) (grown_set (b := blk) (p := ⟨blk, i, none⟩) (grown_refl _ _) rfl _) rfl _⟩
    rw [hx, show (#[Value.int .i64 (i : Int), Value.int .i64 (j : Int)] ++ #[Value.slice (some ⟨blk, 0, none⟩) n c, typeHandle Tryz.prog 9]) = #[.int .i64 i, .int .i64 j, .slice (some ⟨blk, 0, none⟩) n c, typeHandle Tryz.prog 9] from rfl, hr]
    rw [Nat.zero_add, Nat.zero_add]
    rfl
  · obtain ⟨cur, h1, h2, h3⟩ := h.row
    exact ⟨h.perm, gtrans h.gr (gany _ hg), cur, (hg.block blk (Nat.lt_of_lt_of_le hb h.gr.size) (by simp)).trans h1, h2, h3⟩

set_option maxHeartbeats 2000000 in
theorem slice_some {α : Type} [Inhabited α] (w0 : World) (blk cap n : Nat) (enc : α → ByteArray) (M : List α) (lt : α → α → Bool) (hO : SWO lt) (g : Nat) (lb : Array Value) (hM : M.length = n) (h2 : 2 ≤ n) (hn : n < 1000000) (hcap : n ≤ cap) (cur : Array Value) (hh : w0.heap[blk]? = some (.cells cur 9 (0, 0))) (hsz : cur.size = cap) (hrow : ∀ k (h : k < M.length), cur[k]? = some (.string (enc M[k])))
    (eg : ∀ args w, (callFunc g args).run Tryz.prog w = .ok (.enter g args) w)
    (hless : ∀ (W : World) (d : Array α), SortS w0 blk cap enc M d W → ∀ i j : Nat, i < n → j < n → Calls Tryz.prog g (#[.int .i64 i, .int .i64 j] ++ lb) W fun e w' => e = .returned (.bool (lt d[i]! d[j]!)) ∧ W.grownBy w' none) :
    Calls Tryz.prog 35 #[.iface 22 (.slice (some ⟨blk, 0, none⟩) n cap), .func (.func g) #[] lb] w0 fun e w' => e = .returned (.tuple #[]) ∧ ∃ d : Array α, SortS w0 blk cap enc M d w' ∧ SortedIn lt 0 n d := by
  have hb : blk < w0.heap.size := lt_of_block hh
  have H := srt_of w0 blk cap n cap enc M lt g lb hM hcap hb hn eg hless
  have h0 : SortS w0 blk cap enc M M.toArray w0 := ⟨by simp, grown_refl _ _, cur, hh, hsz, fun k hk => by simpa using hrow k (by simpa using hk)⟩
  refine Any.sort_Slice_of_pdq Tryz.laysGg6 22 9 infT infE (by kernel_rfl) (by kernel_rfl) (by kernel_rfl) (by kernel_rfl) 24 (fun _ => by kernel_rfl) _ n cap (by omega) 109 (by rw [infK n h2]; kernel_rfl) (.func g) #[] lb w0 (fun w' => ∃ d : Array α, SortS w0 blk cap enc M d w' ∧ SortedIn lt 0 n d) ?_
  have hB : sliceBound Tryz.prog 9 infE 24 (some ⟨blk, 0, none⟩) n cap = #[.slice (some ⟨blk, 0, none⟩) n cap, typeHandle Tryz.prog 9] := by
    unfold sliceBound; rw [if_neg (swapperK_gt _ _ _ h2)]
  have hW : w0.grownBy (sliceWorld Tryz.prog Tryz.laysGg6_ren 22 (some ⟨blk, 0, none⟩) n cap w0) none := by
    unfold sliceWorld; exact gtrans (galloc _ _) (galloc _ _)
  rw [hB]
  have hlim : Lib.bitLen n < 4611686018427387904 := Nat.lt_of_le_of_lt (Lib.bitLen_le n 62 (by omega) (by omega)) (by omega)
  refine (pdqS H (sortS_other hb) hO (n + 1) 0 n (Lib.bitLen n) M.toArray _ (by omega) (H.later h0 hW) (Nat.zero_le _) (Nat.le_refl _) hlim (Or.inl rfl)).mono ?_
  rintro e w' ⟨rfl, R, h1, _, h3, _⟩
  exact ⟨rfl, R, h1, h3⟩

theorem slice_tiny (p : Option Addr) (n c : Nat) (h1 : n ≤ 1) (g : Nat) (lb : Array Value) (w : World) :
    Calls Tryz.prog 35 #[.iface 22 (.slice p n c), .func (.func g) #[] lb] w fun e w' => e = .returned (.tuple #[]) ∧ w.grownBy w' none := by
  have key : ∀ f, Tryz.prog.funcs.findIdx? (·.name == "internal/reflectlite" ++ ".Swapper$" ++ toString (Lib.swapperK n infE 24)) = some f → Calls Tryz.prog 35 #[.iface 22 (.slice p n c), .func (.func g) #[] lb] w fun e w' => e = .returned (.tuple #[]) ∧ w.grownBy w' none := fun f hf => by
    refine (Any.sort_Slice_tiny Tryz.laysGg6 22 9 infT infE (by kernel_rfl) (by kernel_rfl) (by kernel_rfl) (by kernel_rfl) 24 (fun _ => by kernel_rfl) p n c h1 f hf (.func g) #[] lb w).mono ?_
    rintro e w' ⟨rfl, os, rfl⟩
    refine ⟨rfl, rfl, rfl, rfl, by rw [size_grow]; omega, fun k hk _ => ?_⟩
    exact heap_grow_old w os hk
  rcases Nat.eq_zero_or_pos n with h | h
  · subst h
    exact key 106 (by rw [show Lib.swapperK 0 infE 24 = 1 by simp [Lib.swapperK]]; kernel_rfl)
  · obtain rfl : n = 1 := by omega
    exact key 107 (by rw [show Lib.swapperK 1 infE 24 = 2 by simp [Lib.swapperK]]; kernel_rfl)
end Go.Proofs.YtpbknhhjfhpkmaaGreatDoor
