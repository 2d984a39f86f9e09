/- (*reader).primary where there is room. Expressions are read as in plain words, whatever lies within. -/
import Derived.Test.YtcdeicfegfedfaaGreatDoorGaBnd
import Derived.Test.YtcdeicfegfedfaaGreatDoorBndS
namespace Go.Proofs.YtcdeicfegfedfaaGreatDoor
open Go.RowKit
open Par (Tok Po Tr nx atP isT ba Res)

def AtoiC : Prop := ∀ (s : ByteArray) (n : Int) (w : World), s.size ≤ 18 → Lib.atoi s.data.toList = some n → Calls Tryz.prog 82 #[.string s] w fun x w' => x = .returned (.tuple #[.int .i64 n, .nilIface]) ∧ Below w.heap.size w w'
/- What holds where primary has stepped in and looked at what stands there. -/
structure In1 (w wt : World) (rb e d bx K : Nat) (bl : Int) (ts : List Tok) (v : Value) : Prop where
  rd : Rd wt rb e bl ((d + 1 : Nat) : Int) ts v
  gr : w.grownBy wt (some rb)
  res : wt.heap[w.heap.size]? = some (.cells ZE 26 (0, 0))
  box : wt.heap[bx]? = some (.cells #[.pointer (some ⟨rb, 3, none⟩)] 120 (0, 0))
  tok : wt.heap[K]? = some (.cells #[.int .i64 (nx ts).1, .int .i64 ((nx ts).2.1 : Int), .string (ba (nx ts).2.2)] 80 (0, 0))
  hx : bx = w.heap.size + 1
  hK : bx < K
theorem In1.later {w wt w' : World} {rb e d bx K : Nat} {bl : Int} {ts : List Tok} {v : Value} (h : In1 w wt rb e d bx K bl ts v) (hg : wt.grownBy w' (some rb)) (hrl : rb < w.heap.size) : w.grownBy w' (some rb) ∧ w'.heap[w.heap.size]? = some (.cells ZE 26 (0, 0)) ∧ w'.heap[bx]? = some (.cells #[.pointer (some ⟨rb, 3, none⟩)] 120 (0, 0)) ∧ w.heap.size < w'.heap.size := by
  have h1 := lt_of_block h.res
  have h2 := lt_of_block h.box
  have h3 := h.hx
  refine ⟨grown_trans h.gr hg, (hg.block _ h1 (by simp; omega)).trans h.res, (hg.block _ h2 (by simp; omega)).trans h.box, by have := hg.size; omega⟩
set_option maxRecDepth 100000 in
set_option maxHeartbeats 8000000 in
theorem prim_some {rb e d : Nat} {bl : Int} (hd : d < 12) (hA : AtoiC) {E P : List Tok → Res Tr} (hE : ExpC rb e bl ((d + 1 : Nat) : Int) E) (hP : PrimC rb e bl ((d + 1 : Nat) : Int) P) : PrimC rb e bl d (Par.primF e E P) := by
  intro w ts v h
  have hrl := h.lt
  have f2 := fTok2
  obtain ⟨w0, hw0⟩ : ∃ w0, w0 = w.alloc (.cells ZE 26) := ⟨_, rfl⟩
  have hbel : Below w.heap.size w w0 := by rw [hw0]; exact (Below.refl _ _).alloc (Nat.le_refl _) _
  have hs0 : w0.heap.size = w.heap.size + 1 := by rw [hw0]; simp
  have hres : w0.heap[w.heap.size]? = some (.cells ZE 26 (0, 0)) := by rw [hw0]; exact heap_at_alloc _ _ _ rfl
  have H0 : Hid (Rd w0 rb e bl d ts v) := h.keeps hbel h.lt
  have HEC : Hid (ExpC rb e bl ((d + 1 : Nat) : Int) E) := hE
  have HPC : Hid (PrimC rb e bl ((d + 1 : Nat) : Int) P) := hP
  have HAC : Hid AtoiC := hA
  unfold ZE at hw0
  clear h hE hP hA
  go_enter_defers Tryz.func52, Tryz.ntmps52
  go_wp2_with fail
  rw [← hw0]
  clear hw0
  refine (rIn_some H0.out hd).mono ?_
  rintro x w1 ⟨rfl, hg1, hlt1, h1, hbx1⟩
  have H1 : Hid (Rd w1 rb e bl ((d + 1 : Nat) : Int) ts v) := h1
  have HG1 : Hid (w0.grownBy w1 (some rb)) := hg1
  have HX1 : Hid (w1.heap[w0.heap.size]? = some (.cells #[.pointer (some ⟨rb, 3, none⟩)] 120 (0, 0))) := hbx1
  have HR0 : Hid (w0.heap[w.heap.size]? = some (.cells ZE 26 (0, 0))) := hres
  have HB0 : Hid (Below w.heap.size w w0) := hbel
  clear h1 hg1 hbx1 hres hbel
  go_wp2_with fail
  refine (rAt_any H1.out).mono ?_
  rintro x w1' ⟨rfl, hw1'⟩
  have hw1s := hw1'.symm; subst hw1s
  go_wp2_with fail
  refine (rNext_any H1.out).mono ?_
  rintro x w2 ⟨rfl, hb2⟩
  obtain ⟨wt, hwt⟩ : ∃ wt, wt = w2.alloc (.cells #[.int .i64 (nx ts).1, .int .i64 ((nx ts).2.1 : Int), .string (ba (nx ts).2.2)] 80) := ⟨_, rfl⟩
  have HI : Hid (In1 w wt rb e d (w.heap.size + 1) w2.heap.size bl ts v) := by
    have hbt : Below w2.heap.size w2 wt := by rw [hwt]; exact (Below.refl _ _).alloc (Nat.le_refl _) _
    have z1 := hb2.size
    have l0 := lt_of_block HR0.out
    refine ⟨(H1.out.keeps hb2 H1.out.lt).keeps hbt (by have := H1.out.lt; omega), grown_below (grown_below (grown_trans (grown_of_below _ HB0.out) HG1.out) hb2) hbt, ?_, ?_, by rw [hwt]; exact heap_at_alloc _ _ _ rfl, rfl, by omega⟩
    · rw [hbt.block _ (by omega), hb2.block _ (by omega), HG1.out.block _ (by omega) (by simp; omega)]; exact HR0.out
    · rw [← hs0, hbt.block _ (by omega), hb2.block _ (by omega)]; exact HX1.out
  have hz2 := hb2.size
  clear hb2 HG1 HX1 HR0 HB0 H0 H1
  obtain ⟨⟨k0, k1, k2⟩, _⟩ := blk3 HI.out.tok
  have lk : w2.heap.size < wt.heap.size := lt_of_block HI.out.tok
  by_cases c2 : (nx ts).1 = 2
  · obtain ⟨t, r, rfl⟩ : ∃ t r, ts = t :: r := by
      cases ts with
      | nil => cases c2
      | cons t r => exact ⟨t, r, rfl⟩
    have b2 : ((nx (t :: r)).1 == 2) = true := by simp [c2]
    have HF : Hid (Par.primF e E P (t :: r) = .ok (Tr.mk 1 t.2.1 (Par.numV t.2.2) 1 (ba []) [] []) r) := by show _ = _; unfold Par.primF; rw [if_pos c2]; rfl
    have hgood := HI.out.rd.goods.2.2 c2
    clear c2
    rw [show nx (t :: r) = t from rfl] at *
    go_wp2_with fail
    rw [← hwt]
    clear hwt
    refine (rTake_any HI.out.rd).mono ?_
    rintro x w3 ⟨rfl, hg3, v3, h3⟩
    have HC := HAC.out (ba t.2.2) (Par.numV t.2.2) w3 (by rw [ba_size]; exact hgood.1) (by rw [ba_data]; exact hgood.2)
    have HG3 : Hid (wt.grownBy w3 (some rb)) := hg3
    have H3 : Hid (Rd w3 rb e bl ((d + 1 : Nat) : Int) r v3) := h3
    clear hg3 h3 hgood k0 k1 k2
    go_wp2_with fail
    refine HC.mono ?_
    rintro x w4 ⟨rfl, hb4⟩
    obtain ⟨j1, j2, j3, j4⟩ := HI.out.later (grown_below HG3.out hb4) hrl
    have J : Hid (w.grownBy w4 (some rb) ∧ w4.heap[w.heap.size]? = some (.cells ZE 26 (0, 0)) ∧ w4.heap[w.heap.size + 1]? = some (.cells #[.pointer (some ⟨rb, 3, none⟩)] 120 (0, 0))) := ⟨j1, j2, j3⟩
    have H4 : Hid (Rd w4 rb e bl ((d + 1 : Nat) : Int) r v3) := H3.out.keeps hb4 H3.out.lt
    unfold ZE at j2
    obtain ⟨⟨q0, q1, q2, q3, q4, q5, q6⟩, p0, p1, p2, p3, p4, p5, p6⟩ := blkE j2
    clear j1 j2 j3 hb4 HC
    go_wp2
    exact door7 J.out.1 hrl H4.out J.out.2.2 (by omega) (by omega) HF.out rfl J.out.2.1 (leafT 1 _ _ 1 (by rw [ba_size]; simp [maxLen]))
  · have b2 : ((nx ts).1 == 2) = false := by simp [c2]
    by_cases c1 : (nx ts).1 = 1
    · have b1 : ((nx ts).1 == 1) = true := by simp [c1]
      have HF : Hid (Par.primF e E P ts = Par.namedR e E ts) := by show _ = _; unfold Par.primF; rw [if_neg c2, if_pos c1]
      have HC : Calls Tryz.prog 83 #[.pointer (some ⟨rb, 0, none⟩)] wt (Post wt rb e bl ((d + 1 : Nat) : Int) (Par.namedR e E ts) (VE wt.heap.size)) := by
        cases ts with
        | nil => cases c1
        | cons t r => exact namedC HEC.out HI.out.rd c1
      clear c1 c2
      go_wp2_with fail
      rw [← hwt]
      clear hwt
      refine (HC).mono ?_
      rintro x w3 ⟨hg3, ⟨a, r3, hr3, u, v3, rfl, ⟨z0, z1, z2, z3, z4, z5, m5, d5, z6, m6, d6, rfl, hx3⟩, h3⟩ | ⟨cc, q, hr3, rfl, r3, v3, h3⟩⟩
      · obtain ⟨j1, j2, j3, j4⟩ := HI.out.later hg3 hrl
        have J : Hid (w.grownBy w3 (some rb) ∧ w3.heap[w.heap.size]? = some (.cells ZE 26 (0, 0)) ∧ w3.heap[w.heap.size + 1]? = some (.cells #[.pointer (some ⟨rb, 3, none⟩)] 120 (0, 0))) := ⟨j1, j2, j3⟩
        have H3 : Hid (Rd w3 rb e bl ((d + 1 : Nat) : Int) r3 v3) := h3
        have HT : Hid (TrIs w3 (fun b => w.heap.size + 1 ≤ b) a [.int .i64 z0, .int .i64 z1, .int .i64 z2, .int .i64 z3, .string z4, .slice z5 m5 d5, .slice z6 m6 d6]) := TrIs.mono hx3 fun b hb _ => by omega
        have HRR : Hid (Par.primF e E P ts = .ok a r3) := by show _ = _; rw [HF.out]; exact hr3
        unfold ZE at j2
        obtain ⟨⟨q0, q1, q2, q3, q4, q5, q6⟩, p0, p1, p2, p3, p4, p5, p6⟩ := blkE j2
        clear j1 j2 j3 hg3 h3 hx3 hr3 k0 k1 k2
        go_wp2
        exact door7 J.out.1 hrl H3.out J.out.2.2 (by omega) (by omega) HRR.out rfl J.out.2.1 HT.out
      · obtain ⟨j1, j2, j3, j4⟩ := HI.out.later hg3 hrl
        exact door_no j1 h3 j3 (by omega) (by rw [HF.out]; exact hr3)
    · have b1 : ((nx ts).1 == 1) = false := by simp [c1]
      by_cases c3 : (nx ts).2.2 = [114, 101, 108, 101, 97, 115, 101]
      · have b3 : ((ba (nx ts).2.2).toList == [114, 101, 108, 101, 97, 115, 101]) = true := by rw [ba_list, c3]; rfl
        have HF : Hid (Par.primF e E P ts = Par.relR e E ts) := by show _ = _; unfold Par.primF; rw [if_neg c2, if_neg c1, if_pos c3]
        have HC : Calls Tryz.prog 84 #[.pointer (some ⟨rb, 0, none⟩)] wt (Post wt rb e bl ((d + 1 : Nat) : Int) (Par.relR e E ts) (VE wt.heap.size)) := by
          cases ts with
          | nil => cases c3
          | cons t r => exact releaseC HEC.out HI.out.rd c3
        clear c1 c2 c3
        go_wp2_with fail
        rw [← hwt]
        clear hwt
        refine (HC).mono ?_
        rintro x w3 ⟨hg3, ⟨a, r3, hr3, u, v3, rfl, ⟨z0, z1, z2, z3, z4, z5, m5, d5, z6, m6, d6, rfl, hx3⟩, h3⟩ | ⟨cc, q, hr3, rfl, r3, v3, h3⟩⟩
        · obtain ⟨j1, j2, j3, j4⟩ := HI.out.later hg3 hrl
          have J : Hid (w.grownBy w3 (some rb) ∧ w3.heap[w.heap.size]? = some (.cells ZE 26 (0, 0)) ∧ w3.heap[w.heap.size + 1]? = some (.cells #[.pointer (some ⟨rb, 3, none⟩)] 120 (0, 0))) := ⟨j1, j2, j3⟩
          have H3 : Hid (Rd w3 rb e bl ((d + 1 : Nat) : Int) r3 v3) := h3
          have HT : Hid (TrIs w3 (fun b => w.heap.size + 1 ≤ b) a [.int .i64 z0, .int .i64 z1, .int .i64 z2, .int .i64 z3, .string z4, .slice z5 m5 d5, .slice z6 m6 d6]) := TrIs.mono hx3 fun b hb _ => by omega
          have HRR : Hid (Par.primF e E P ts = .ok a r3) := by show _ = _; rw [HF.out]; exact hr3
          unfold ZE at j2
          obtain ⟨⟨q0, q1, q2, q3, q4, q5, q6⟩, p0, p1, p2, p3, p4, p5, p6⟩ := blkE j2
          clear j1 j2 j3 hg3 h3 hx3 hr3 k0 k1 k2
          go_wp2
          exact door7 J.out.1 hrl H3.out J.out.2.2 (by omega) (by omega) HRR.out rfl J.out.2.1 HT.out
        · obtain ⟨j1, j2, j3, j4⟩ := HI.out.later hg3 hrl
          exact door_no j1 h3 j3 (by omega) (by rw [HF.out]; exact hr3)
      · have b3 : ((ba (nx ts).2.2).toList == [114, 101, 108, 101, 97, 115, 101]) = false := by rw [ba_list]; simp [c3]
        by_cases c4 : (nx ts).2.2 = [45] ∨ (nx ts).2.2 = [33]
        · obtain ⟨t, r, rfl⟩ : ∃ t r, ts = t :: r := by
            cases ts with
            | nil => rcases c4 with c4 | c4 <;> cases c4
            | cons t r => exact ⟨t, r, rfl⟩
          have b4 : ((ba (nx (t :: r)).2.2).toList == [45]) = true ∨ (((ba (nx (t :: r)).2.2).toList == [45]) = false ∧ ((ba (nx (t :: r)).2.2).toList == [33]) = true) := by
            rw [ba_list]
            rcases c4 with c4 | c4
            · left; rw [c4]; rfl
            · right; rw [c4]; exact ⟨rfl, rfl⟩
          have HF : Hid (Par.primF e E P (t :: r) = (P r).bind fun x r => .ok (Par.opT t [x]) r) := by show _ = _; unfold Par.primF; rw [if_neg c2, if_neg c1, if_neg c3, if_pos c4]; rfl
          have hgt := HI.out.rd.goods.1
          clear c1 c2 c3 c4
          rw [show nx (t :: r) = t from rfl] at *
          rcases b4 with b4 | ⟨b4, b5⟩
          all_goals
            go_wp2_with fail
            rw [← hwt]
            clear hwt
            refine (rTake_any HI.out.rd).mono ?_
            rintro x w3 ⟨rfl, hg3, v3, h3⟩
            have HC := HPC.out w3 r v3 h3
            have HG3 : Hid (wt.grownBy w3 (some rb)) := hg3
            have hz3 := hg3.size
            clear hg3 h3 k0 k1 k2
            go_wp2_with fail
            refine HC.mono ?_
            rintro x w4 ⟨hg4, ⟨a, r4, hr4, u, v4, rfl, ⟨z0, z1, z2, z3, z4, z5, m5, d5, z6, m6, d6, rfl, hx4⟩, h4⟩ | ⟨cc, q, hr4, rfl, r4, v4, h4⟩⟩
            · obtain ⟨j1, j2, j3, j4⟩ := HI.out.later (grown_trans HG3.out hg4) hrl
              have J : Hid (w.grownBy w4 (some rb) ∧ w4.heap[w.heap.size]? = some (.cells ZE 26 (0, 0)) ∧ w4.heap[w.heap.size + 1]? = some (.cells #[.pointer (some ⟨rb, 3, none⟩)] 120 (0, 0))) := ⟨j1, j2, j3⟩
              have H4 : Hid (Rd w4 rb e bl ((d + 1 : Nat) : Int) r4 v4) := h4
              have HT : Hid (TrIs w4 (fun b => w.heap.size + 1 ≤ b) a [.int .i64 z0, .int .i64 z1, .int .i64 z2, .int .i64 z3, .string z4, .slice z5 m5 d5, .slice z6 m6 d6]) := TrIs.mono hx4 fun b hb _ => by omega
              have HRR : Hid (Par.primF e E P (t :: r) = .ok (Par.opT t [a]) r4) := by show _ = _; rw [HF.out, hr4]; rfl
              unfold ZE at j2
              obtain ⟨⟨q0, q1, q2, q3, q4, q5, q6⟩, p0, p1, p2, p3, p4, p5, p6⟩ := blkE j2
              clear j1 j2 j3 hg4 h4 hx4 hr4 HC
              go_wp2
              exact door1 J.out.1 hrl H4.out J.out.2.2 (by omega) (by omega) HRR.out hgt rfl J.out.2.1 HT.out
            · obtain ⟨j1, j2, j3, j4⟩ := HI.out.later (grown_trans HG3.out hg4) hrl
              exact door_no j1 h4 j3 (by omega) (by rw [HF.out, hr4]; rfl)
        · have b4 : ((ba (nx ts).2.2).toList == [45]) = false := by rw [ba_list]; simp; exact fun h => c4 (.inl h)
          have b5 : ((ba (nx ts).2.2).toList == [33]) = false := by rw [ba_list]; simp; exact fun h => c4 (.inr h)
          go_wp2_with fail
          rw [← hwt]
          clear hwt k0 k1 k2
          refine (rMay_any _ (by decide) HI.out.rd).mono ?_
          rintro x w3 ⟨rfl, hg3, v3, h3⟩
          by_cases c6 : (nx ts).2.2 = [116, 114, 117, 101]
          · obtain ⟨t, r, rfl⟩ : ∃ t r, ts = t :: r := by
              cases ts with
              | nil => cases c6
              | cons t r => exact ⟨t, r, rfl⟩
            have i6 : isT (⟨#[116, 114, 117, 101]⟩ : ByteArray).data.toList (t :: r) = true := by show ((nx (t :: r)).2.2 == _) = true; rw [c6]; rfl
            rw [i6] at h3 ⊢
            have HRR : Hid (Par.primF e E P (t :: r) = .ok (Tr.mk 1 t.2.1 1 2 (ba []) [] []) r) := by show _ = _; unfold Par.primF; rw [if_neg c2, if_neg c1, if_neg c3, if_neg c4, if_pos c6]; rfl
            obtain ⟨j1, j2, j3, j4⟩ := HI.out.later hg3 hrl
            have J : Hid (w.grownBy w3 (some rb) ∧ w3.heap[w.heap.size]? = some (.cells ZE 26 (0, 0)) ∧ w3.heap[w.heap.size + 1]? = some (.cells #[.pointer (some ⟨rb, 3, none⟩)] 120 (0, 0))) := ⟨j1, j2, j3⟩
            have H3 : Hid (Rd w3 rb e bl ((d + 1 : Nat) : Int) r v3) := h3
            unfold ZE at j2
            obtain ⟨⟨q0, q1, q2, q3, q4, q5, q6⟩, p0, p1, p2, p3, p4, p5, p6⟩ := blkE j2
            clear j1 j2 j3 hg3 h3 i6 c1 c2 c3 c4 c6
            go_wp2
            exact door7 J.out.1 hrl H3.out J.out.2.2 (by omega) (by omega) HRR.out rfl J.out.2.1 (leafT 1 _ 1 2 (by rw [ba_size]; simp [maxLen]))
          · have i6 : isT (⟨#[116, 114, 117, 101]⟩ : ByteArray).data.toList ts = false := by show ((nx ts).2.2 == _) = false; simp; exact c6
            rw [i6] at h3 ⊢
            have H3 : Hid (Rd w3 rb e bl ((d + 1 : Nat) : Int) ts v3) := h3
            have HG3 : Hid (wt.grownBy w3 (some rb)) := hg3
            clear hg3 h3 i6
            go_wp2_with fail
            refine (rMay_any _ (by decide) H3.out).mono ?_
            rintro x w4 ⟨rfl, hg4, v4, h4⟩
            by_cases c7 : (nx ts).2.2 = [102, 97, 108, 115, 101]
            · obtain ⟨t, r, rfl⟩ : ∃ t r, ts = t :: r := by
                cases ts with
                | nil => cases c7
                | cons t r => exact ⟨t, r, rfl⟩
              have i7 : isT (⟨#[102, 97, 108, 115, 101]⟩ : ByteArray).data.toList (t :: r) = true := by show ((nx (t :: r)).2.2 == _) = true; rw [c7]; rfl
              rw [i7] at h4 ⊢
              have HRR : Hid (Par.primF e E P (t :: r) = .ok (Tr.mk 1 t.2.1 0 2 (ba []) [] []) r) := by show _ = _; unfold Par.primF; rw [if_neg c2, if_neg c1, if_neg c3, if_neg c4, if_neg c6, if_pos c7]; rfl
              obtain ⟨j1, j2, j3, j4⟩ := HI.out.later (grown_trans HG3.out hg4) hrl
              have J : Hid (w.grownBy w4 (some rb) ∧ w4.heap[w.heap.size]? = some (.cells ZE 26 (0, 0)) ∧ w4.heap[w.heap.size + 1]? = some (.cells #[.pointer (some ⟨rb, 3, none⟩)] 120 (0, 0))) := ⟨j1, j2, j3⟩
              have H4 : Hid (Rd w4 rb e bl ((d + 1 : Nat) : Int) r v4) := h4
              unfold ZE at j2
              obtain ⟨⟨q0, q1, q2, q3, q4, q5, q6⟩, p0, p1, p2, p3, p4, p5, p6⟩ := blkE j2
              clear j1 j2 j3 hg4 h4 i7 c1 c2 c3 c4 c6 c7
              go_wp2
              exact door7 J.out.1 hrl H4.out J.out.2.2 (by omega) (by omega) HRR.out rfl J.out.2.1 (leafT 1 _ 0 2 (by rw [ba_size]; simp [maxLen]))
            · have i7 : isT (⟨#[102, 97, 108, 115, 101]⟩ : ByteArray).data.toList ts = false := by show ((nx ts).2.2 == _) = false; simp; exact c7
              rw [i7] at h4 ⊢
              have HF : Hid (Par.primF e E P ts = (Par.must e [40] ts).bind fun _ r1 => (E r1).bind fun x r2 => (Par.must e [41] r2).bind fun _ r3 => .ok x r3) := by show _ = _; unfold Par.primF; rw [if_neg c2, if_neg c1, if_neg c3, if_neg c4, if_neg c6, if_neg c7]; rfl
              have H4 : Hid (Rd w4 rb e bl ((d + 1 : Nat) : Int) ts v4) := h4
              have HG4 : Hid (wt.grownBy w4 (some rb)) := grown_trans HG3.out hg4
              clear hg4 h4 i7 c1 c2 c3 c4 c6 c7
              go_wp2_with fail
              refine (rMust_any _ (by decide) H4.out).mono ?_
              rintro x w5 ⟨hg5, ⟨a5, r5, hr5, u5, v5, rfl, rfl, h5⟩ | ⟨cc, q, hr5, rfl, r5, v5, h5⟩⟩
              · have HG5 : Hid (wt.grownBy w5 (some rb)) := grown_trans HG4.out hg5
                have HF5 : Hid (Par.primF e E P ts = (E r5).bind fun x r2 => (Par.must e [41] r2).bind fun _ r3 => .ok x r3) := by show _ = _; rw [HF.out, show Par.must e [40] ts = .ok a5 r5 from hr5]; rfl
                have HC := HEC.out w5 r5 v5 h5
                have hz5 := HG5.out.size
                clear hg5 h5 hr5
                go_wp2_with fail
                refine HC.mono ?_
                rintro x w6 ⟨hg6, ⟨a6, r6, hr6, u6, v6, rfl, ⟨z0, z1, z2, z3, z4, z5, m5, d5, z6, m6, d6, rfl, hx6⟩, h6⟩ | ⟨cc, q, hr6, rfl, r6, v6, h6⟩⟩
                · have hz6 := hg6.size
                  obtain ⟨wb, hwb⟩ : ∃ wb, wb = w6.alloc (.cells #[.int .i64 z0, .int .i64 z1, .int .i64 z2, .int .i64 z3, .string z4, .slice z5 m5 d5, .slice z6 m6 d6] 26) := ⟨_, rfl⟩
                  have hbb : Below w6.heap.size w6 wb := by rw [hwb]; exact (Below.refl _ _).alloc (Nat.le_refl _) _
                  have hsb : wb.heap.size = w6.heap.size + 1 := by rw [hwb]; simp
                  have hxb : Hid (wb.heap[w6.heap.size]? = some (.cells #[.int .i64 z0, .int .i64 z1, .int .i64 z2, .int .i64 z3, .string z4, .slice z5 m5 d5, .slice z6 m6 d6] 26 (0, 0))) := by show _ = _; rw [hwb]; exact heap_at_alloc _ _ _ rfl
                  have HF6 : Hid (Par.primF e E P ts = (Par.must e [41] r6).bind fun _ r3 => .ok a6 r3) := by show _ = _; rw [HF5.out, hr6]; rfl
                  have HGb : Hid (wt.grownBy wb (some rb)) := grown_below (grown_trans HG5.out hg6) hbb
                  have Hb : Hid (Rd wb rb e bl ((d + 1 : Nat) : Int) r6 v6) := h6.keeps hbb h6.lt
                  have HTb : Hid (TrIs wb (fun b => w.heap.size + 1 ≤ b) a6 [.int .i64 z0, .int .i64 z1, .int .i64 z2, .int .i64 z3, .string z4, .slice z5 m5 d5, .slice z6 m6 d6]) := (TrIs.mono hx6 fun b hb _ => by omega).keeps (Keeps.of_below hbb)
                  clear hg6 h6 hx6 hr6 hbb HC
                  go_wp2_with fail
                  rw [← hwb]
                  clear hwb
                  refine (rMust_any _ (by decide) Hb.out).mono ?_
                  rintro x w7 ⟨hg7, ⟨a7, r7, hr7, u7, v7, rfl, rfl, h7⟩ | ⟨cc, q, hr7, rfl, r7, v7, h7⟩⟩
                  · have HRR : Hid (Par.primF e E P ts = .ok a6 r7) := by show _ = _; rw [HF6.out, show Par.must e [41] r6 = .ok a7 r7 from hr7]; rfl
                    obtain ⟨j1, j2, j3, j4⟩ := HI.out.later (grown_trans HGb.out hg7) hrl
                    have J : Hid (w.grownBy w7 (some rb) ∧ w7.heap[w.heap.size]? = some (.cells ZE 26 (0, 0)) ∧ w7.heap[w.heap.size + 1]? = some (.cells #[.pointer (some ⟨rb, 3, none⟩)] 120 (0, 0))) := ⟨j1, j2, j3⟩
                    have H7 : Hid (Rd w7 rb e bl ((d + 1 : Nat) : Int) r7 v7) := h7
                    have HT7 : Hid (TrIs w7 (fun b => w.heap.size + 1 ≤ b) a6 [.int .i64 z0, .int .i64 z1, .int .i64 z2, .int .i64 z3, .string z4, .slice z5 m5 d5, .slice z6 m6 d6]) := HTb.out.keeps (Keeps.of_grown hg7 fun b hb => by simp; omega)
                    have hx7 := (hg7.block w6.heap.size (by omega) (by simp; have := HI.out.rd.lt; omega)).trans hxb.out
                    unfold ZE at j2
                    obtain ⟨⟨q0, q1, q2, q3, q4, q5, q6⟩, p0, p1, p2, p3, p4, p5, p6⟩ := blkE j2
                    obtain ⟨⟨o0, o1, o2, o3, o4, o5, o6⟩, _⟩ := blkE hx7
                    clear j1 j2 j3 hg7 h7 hr7 hx7
                    go_wp2
                    exact door7 J.out.1 hrl H7.out J.out.2.2 (by omega) (by omega) HRR.out rfl J.out.2.1 HT7.out
                  · obtain ⟨j1, j2, j3, j4⟩ := HI.out.later (grown_trans HGb.out hg7) hrl
                    exact door_no j1 h7 j3 (by omega) (by rw [HF6.out, show Par.must e [41] r6 = .no cc q from hr7]; rfl)
                · obtain ⟨j1, j2, j3, j4⟩ := HI.out.later (grown_trans HG5.out hg6) hrl
                  exact door_no j1 h6 j3 (by omega) (by rw [HF5.out, hr6]; rfl)
              · obtain ⟨j1, j2, j3, j4⟩ := HI.out.later (grown_trans HG4.out hg5) hrl
                exact door_no j1 h5 j3 (by omega) (by rw [HF.out, show Par.must e [40] ts = .no cc q from hr5]; rfl)
end Go.Proofs.YtcdeicfegfedfaaGreatDoor

namespace Go.Proofs.YtcdeicfegfedfaaGreatDoor
open Go.RowKit
open Par (Tok Po Tr nx atP isT ba Res)

theorem bnd_all {rb e : Nat} {bl pr : Int} {P : List Tok → Res Tr} (hS : Par.Sfx P) (hP : PrimC rb e bl pr P) : ∀ j, j ≤ 5 → BndC rb e bl pr P j
  | 0, _ => bnd_zero hP
  | j + 1, hj => bnd_succ hS (by omega) (bnd_all hS hP j (by omega))
theorem prim_all {rb e : Nat} {bl : Int} (hA : AtoiC) : ∀ k, k ≤ 12 → PrimC rb e bl ((12 - k : Nat) : Int) (Par.prim e k) := by
  intro k
  induction k with
  | zero => intro _; exact prim_full
  | succ k ih =>
    intro hk
    have hP := ih (by omega)
    have hd : 12 - k = 12 - (k + 1) + 1 := by omega
    rw [hd] at hP
    exact prim_some (by omega) hA (exprC (bnd_all (Par.prim_sfx e k) hP 5 (Nat.le_refl _))) hP
theorem expr_all {rb e : Nat} {bl : Int} (hA : AtoiC) : ExpC rb e bl 0 (Par.exprR e 12) := by
  have hP := prim_all (rb := rb) (e := e) (bl := bl) hA 12 (Nat.le_refl _)
  exact exprC (bnd_all (Par.prim_sfx e 12) hP 5 (Nat.le_refl _))
end Go.Proofs.YtcdeicfegfedfaaGreatDoor
