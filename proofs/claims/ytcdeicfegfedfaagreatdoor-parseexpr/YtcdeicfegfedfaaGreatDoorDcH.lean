/- The document's own reader: one, where there is no room, and where there is. -/
import Derived.Test.YtcdeicfegfedfaaGreatDoorGaDcG
namespace Go.Proofs.YtcdeicfegfedfaaGreatDoor
open Go.RowKit
open Par (Tok Tr Po Res nx atP isT seesB ba)

set_option maxRecDepth 100000 in
set_option maxHeartbeats 4000000 in
theorem one_full {tb e : Nat} {ts : List Tok} {v : Value} {bl : Int} : OnD tb e ts v bl ((12 : Nat) : Int) (Par.prim e 0) := by
  intro w k p h
  obtain ⟨q0, q1, q2, q3, q4, q5, q6⟩ := h.cells
  have hlt := h.lt
  obtain ⟨wa, hwa⟩ : ∃ wa, wa = (w.alloc (.cells #[.pointer (some ⟨tb, 0, none⟩)] 48)).alloc (.cells ZE 26) := ⟨_, rfl⟩
  have hba : Below w.heap.size w wa := by
    rw [hwa]
    have h1 := (Below.refl w.heap.size w).alloc (Nat.le_refl _) (.cells #[.pointer (some ⟨tb, 0, none⟩)] 48)
    exact h1.alloc h1.size _
  have hs1 : (w.alloc (.cells #[.pointer (some ⟨tb, 0, none⟩)] 48)).heap.size = w.heap.size + 1 := Array.size_push _
  have HR : Hid (wa.heap[w.heap.size + 1]? = some (.cells ZE 26 (0, 0))) := by show _ = _; rw [hwa, ← hs1]; exact heap_at_alloc _ _ _ rfl
  have HX : Hid (wa.heap[w.heap.size]? = some (.cells #[.pointer (some ⟨tb, 0, none⟩)] 48 (0, 0))) := by show _ = _; rw [hwa]; exact heap_past_alloc (heap_at_alloc _ _ _ rfl)
  have hwr := wrongD 2 (h.later hba)
  have HB : Hid (Below w.heap.size w wa) := hba
  have H0 : Hid (Tx w tb e ts v k 0 p bl ((12 : Nat) : Int)) := h
  unfold ZE at hwa
  clear h hba
  go_enter Tryz.func38, Tryz.ntmps38
  go_wp2_with fail
  rw [← hwa]
  clear hwa
  refine hwr.mono ?_
  rintro x w1 ⟨rfl, hw1⟩
  have l1 := lt_of_block HR.out
  have r1 : w1.heap[w.heap.size + 1]? = some (.cells ZE 26 (0, 0)) := (hw1.1.block _ l1 (by simp; omega)).trans HR.out
  have HG : Hid (w.grownBy w1 (some tb)) := World.grownBy.trans ⟨HB.out.os, HB.out.tape, HB.out.output, HB.out.size, fun j hj _ => HB.out.block j hj⟩ hw1.1
  have HT : Hid (Tx w1 tb e ts v ts.length 2 (atP e (ts.drop k) : Int) bl ((12 : Nat) : Int)) := hw1.2
  unfold ZE at r1
  have HR1 : Hid (w1.heap[w.heap.size + 1]? = some (.cells ZE 26 (0, 0))) := r1
  obtain ⟨⟨e0, e1, e2, e3, e4, e5, e6⟩, p0, p1, p2, p3, p4, p5, p6⟩ := blkE r1
  clear hw1 hwr r1 l1 hs1 q0 q1 q2 q3 q4 q5 q6
  go_wp2
  obtain ⟨wz, hwz⟩ : ∃ wz, wz = set7 w1 (w.heap.size + 1) (.int .i64 0) (.int .i64 0) (.int .i64 0) (.int .i64 0) (.string ⟨#[]⟩) (.slice none 0 0) (.slice none 0 0) := ⟨_, rfl⟩
  have hr := HR1.out
  unfold ZE at hr
  obtain ⟨z0, z1, z2, z3, z4, z5, z6⟩ := ex_cells (by rw [hwz]; exact ex_set7 hr _ _ _ _ _ _ _ : wz.heap[w.heap.size + 1]? = some (.cells #[.int .i64 0, .int .i64 0, .int .i64 0, .int .i64 0, .string ⟨#[]⟩, .slice none 0 0, .slice none 0 0] 26 (0, 0)))
  have hbz : Below (w.heap.size + 1) w1 wz := by rw [hwz]; exact below_set7 (Below.refl _ _) (Nat.le_refl _) _ _ _ _ _ _ _
  have hgz : w.grownBy wz (some tb) := grown_under HG.out (hbz.mono (by omega))
  unfold set7 at hwz
  rw [← hwz]
  refine bodyPost_ret (v := nilE) (by simp [results, Tryz.results38, go_sem, z0, z1, z2, z3, z4, z5, z6, nilE]) rfl ⟨hgz, .inr ⟨2, atP e (ts.drop k), _, rfl, rfl, ⟨_, _, _, _, _, _, _, _, _, _, _, rfl⟩, by decide, ?_⟩⟩
  exact H0.out.past HG.out HT.out (hbz.mono (by omega))

def PintC : Prop := ∀ (s : ByteArray) (n : Int) (w : World), s.size ≤ 18 → Lib.atoi s.data.toList = some n → Calls Tryz.prog 71 #[.string s, .int .i64 10, .int .i64 64] w fun x w' => x = .returned (.tuple #[.int .i64 n, .nilIface]) ∧ Below w.heap.size w w'
def Numb (ts : List Tok) : Prop := ∀ t ∈ ts, t.1 = 2 → t.2.2.length ≤ 18 ∧ Lib.atoi t.2.2 = some (Par.numV t.2.2)
structure InA (w wa : World) (tb : Nat) : Prop where
  gr : w.grownBy wa (some tb)
  box : wa.heap[w.heap.size]? = some (.cells #[.pointer (some ⟨tb, 0, none⟩)] 48 (0, 0))
  res : wa.heap[w.heap.size + 1]? = some (.cells ZE 26 (0, 0))
  lo : tb < w.heap.size
theorem inA {w wa : World} {tb e : Nat} {ts : List Tok} {v : Value} {k : Nat} {c p bl al x : Int} (h : Tx w tb e ts v k c p bl al) (hwa : wa = (((w.setCell ⟨tb, 6, none⟩ (.int .i64 x)).alloc (.cells #[.pointer (some ⟨tb, 0, none⟩)] 48)).alloc (.cells ZE 26))) : InA w wa tb := by
  have hg := (h.deep x).1
  have hsz : (w.setCell ⟨tb, 6, none⟩ (.int .i64 x)).heap.size = w.heap.size := by simp [World.setCell]
  have hs1 : ((w.setCell ⟨tb, 6, none⟩ (.int .i64 x)).alloc (.cells #[.pointer (some ⟨tb, 0, none⟩)] 48)).heap.size = w.heap.size + 1 := by rw [← hsz]; exact Array.size_push _
  have b1 := (Below.refl _ (w.setCell ⟨tb, 6, none⟩ (.int .i64 x))).alloc (Nat.le_refl _) (.cells #[.pointer (some ⟨tb, 0, none⟩)] 48)
  have b2 := b1.alloc b1.size (.cells ZE 26)
  rw [hwa]
  refine ⟨grown_below hg b2, ?_, ?_, h.lt⟩
  · refine heap_past_alloc ?_
    rw [← hsz]
    exact heap_at_alloc _ _ _ rfl
  · rw [← hs1]
    exact heap_at_alloc _ _ _ rfl
theorem inD {w wa w1 wt : World} {tb : Nat} {t : Tok} (h : InA w wa tb) (hb : Below wa.heap.size wa w1) (hwt : wt = w1.alloc (.cells #[.int .i64 t.1, .int .i64 (t.2.1 : Int), .string (ba t.2.2)] 80)) : InD w wt tb w1.heap.size t := by
  have l1 := lt_of_block h.res
  have l2 := hb.size
  have b2 := (Below.refl _ w1).alloc (Nat.le_refl _) (.cells #[.int .i64 t.1, .int .i64 (t.2.1 : Int), .string (ba t.2.2)] 80)
  rw [hwt]
  exact ⟨grown_below (grown_below h.gr hb) b2, heap_past_alloc ((hb.block _ (by omega)).trans h.box), heap_past_alloc ((hb.block _ (by omega)).trans h.res), heap_at_alloc _ _ _ rfl, h.lo, by omega⟩
set_option maxRecDepth 100000 in
set_option maxHeartbeats 8000000 in
theorem one_some {tb e d : Nat} {ts : List Tok} {v : Value} {bl : Int} (hd : d < 12) (hgd : Par.Good ts) (hsh : Short ts) (hnb : Numb ts) (hpi : PintC) {E P : List Tok → Res Tr} (hE : ExD tb e ts v bl ((d + 1 : Nat) : Int) E) (hP : OnD tb e ts v bl ((d + 1 : Nat) : Int) P) : OnD tb e ts v bl d (Par.oneD e E P) := by
  intro w k p h
  obtain ⟨q0, q1, q2, q3, q4, q5, q6⟩ := h.cells
  have z6 := h.free 6
  have hlt := h.lt
  have hd1 : decide ((12 : Int) ≤ (d : Int)) = false := by simp; omega
  have hmf : ∀ (fn : Fn) (first cap : Array Value) (w : World), (Instr.makeFunc fn first cap).run Tryz.prog w = .ok (.func fn first cap) w := fun _ _ _ _ => rfl
  obtain ⟨wa, hwa⟩ : ∃ wa, wa = (((w.setCell ⟨tb, 6, none⟩ (.int .i64 ((d : Int) + 1))).alloc (.cells #[.pointer (some ⟨tb, 0, none⟩)] 48)).alloc (.cells ZE 26)) := ⟨_, rfl⟩
  have hda : Tx (w.setCell ⟨tb, 6, none⟩ (.int .i64 ((d : Int) + 1))) tb e ts v k 0 p bl ((d + 1 : Nat) : Int) := by have := (h.deep ((d : Int) + 1)).2; simpa using this
  have hga := (h.deep ((d : Int) + 1)).1
  have HIA : Hid (InA w wa tb) := inA h (by rw [hwa])
  have HTA : Hid (Tx wa tb e ts v k 0 p bl ((d + 1 : Nat) : Int)) := by
    show Tx _ _ _ _ _ _ _ _ _ _
    refine hda.later ?_
    rw [hwa]
    have h1 := (Below.refl _ (w.setCell ⟨tb, 6, none⟩ (.int .i64 ((d : Int) + 1)))).alloc (Nat.le_refl _) (.cells #[.pointer (some ⟨tb, 0, none⟩)] 48)
    exact h1.alloc h1.size _
  have HH : Hid (Tx w tb e ts v k 0 p bl d) := h
  have HGd : Hid (Par.Good ts) := hgd
  have HSh : Hid (Short ts) := hsh
  have HNb : Hid (Numb ts) := hnb
  have HPi : Hid PintC := hpi
  have HE : Hid (ExD tb e ts v bl ((d + 1 : Nat) : Int) E) := hE
  have HP : Hid (OnD tb e ts v bl ((d + 1 : Nat) : Int) P) := hP
  obtain ⟨R, hR⟩ : ∃ R, R = Par.oneD e E P (ts.drop k) := ⟨_, rfl⟩
  rw [← hR]
  unfold Par.oneD at hR
  obtain ⟨t, ht⟩ : ∃ t, t = nx (ts.drop k) := ⟨_, rfl⟩
  rw [← ht] at hR
  rw [drop_tail] at hR
  have HR : Hid (R = _) := hR
  have HTk : Hid (t = nx (ts.drop k)) := ht
  have hd12 : d ≤ 12 := by omega
  have hkb : k ≤ 100000 := Nat.le_trans h.le h.few
  unfold ZE at hwa
  clear h hda hga hR ht hgd hsh hnb hpi hE hP
  go_enter_defers Tryz.func38, Tryz.ntmps38
  go_wp2_with fail
  rw [← hwa]
  clear hwa q0 q1 q2 q3 q4 q5 q6 z6
  refine (peekD HTA.out).mono ?_
  rintro x w1 ⟨rfl, hb1⟩
  unfold tkV
  rw [← HTk.out]
  obtain ⟨wt, hwt⟩ : ∃ wt, wt = w1.alloc (.cells #[.int .i64 t.1, .int .i64 (t.2.1 : Int), .string (ba t.2.2)] 80) := ⟨_, rfl⟩
  have HI : Hid (InD w wt tb w1.heap.size t) := inD HIA.out hb1 hwt
  have HT : Hid (Tx wt tb e ts v k 0 p bl ((d + 1 : Nat) : Int)) := by
    show Tx _ _ _ _ _ _ _ _ _ _
    refine (HTA.out.later hb1).later ?_
    rw [hwt]
    exact (Below.refl _ _).alloc (Nat.le_refl _) _
  have hK := HI.out.hK
  obtain ⟨l1, l2, x0, k0, k1, k2⟩ := HI.out.cells
  clear hb1 HIA HTA
  go_upto_region 9 with fail
  rw [← hwt]
  clear hwt
  by_cases c2 : t.1 = 2
  · have b2 : (t.1 == 2) = true := by simp [c2]
    have hkl : k < ts.length := by
      apply Classical.byContradiction
      intro hne
      have h9 := HTk.out
      rw [nx_end (by omega)] at h9
      rw [h9] at c2
      cases c2
    have hgood := HNb.out t (by rw [HTk.out, nx_drop hkl]; exact List.getElem_mem hkl) c2
    have HF : Hid (R = .ok (.mk 1 t.2.1 (Par.numV t.2.2) 1 (ba []) [] []) (ts.drop (k + 1))) := by show _ = _; rw [HR.out, if_pos c2]
    obtain ⟨hgn, htn⟩ := HT.out.next hkl
    obtain ⟨q0, q1, q2, q3, q4, q5, q6⟩ := HT.out.cells
    have z1 := HT.out.free 1
    obtain ⟨wn, hwn⟩ : ∃ wn, wn = wt.setCell ⟨tb, 1, none⟩ (.int .i64 ((k : Int) + 1)) := ⟨_, rfl⟩
    rw [← hwn] at hgn htn
    have HIn : Hid (InD w wn tb w1.heap.size t) := HI.out.later hgn
    have HTn : Hid (Tx wn tb e ts v (k + 1) 0 p bl ((d + 1 : Nat) : Int)) := htn
    have HC := HPi.out (ba t.2.2) (Par.numV t.2.2) wn (by rw [ba_size]; exact hgood.1) (by rw [ba_data]; exact hgood.2)
    have hlt' := HT.out.lt
    clear hgn htn hgood c2
    go_wp2_with fail
    rw [← hwn]
    clear hwn q0 q1 q2 q3 q4 q5 q6 z1 x0 k0 k1 k2
    refine HC.mono ?_
    rintro x wA ⟨rfl, hb⟩
    have HIA : Hid (InD w wA tb w1.heap.size t) := HIn.out.below hb
    have HTA : Hid (Tx wA tb e ts v (k + 1) 0 p bl ((d + 1 : Nat) : Int)) := HTn.out.later hb
    obtain ⟨l3, l4, x0, k0, k1, k2⟩ := HIA.out.cells
    have hr := HIA.out.res
    unfold ZE at hr
    obtain ⟨⟨q0, q1, q2, q3, q4, q5, q6⟩, p0, p1, p2, p3, p4, p5, p6⟩ := blkE hr
    clear hr hb HC
    go_wp2
    exact door7D hd12 HH.out HIA.out ⟨HTA.out, .inl ⟨rfl, _, HF.out, leafT 1 _ _ 1 (by rw [ba_size]; simp [maxLen])⟩⟩ rfl
  · have b2 : (t.1 == 2) = false := by simp [c2]
    have hR := HR.out
    rw [if_neg c2] at hR
    clear HR c2
    have HR : Hid (R = _) := hR
    clear hR
    have hsk := skipD Par.wTrue HT.out
    go_wp2_with fail
    refine hsk.mono ?_
    rintro x wA ⟨rfl, hs⟩
    have HIA : Hid (InD w wA tb w1.heap.size t) := HI.out.later hs.1
    clear hsk l1 l2 x0 k0 k1 k2
    obtain ⟨l1, l2, x0, k0, k1, k2⟩ := HIA.out.cells
    by_cases cA : seesB Par.wTrue (ts.drop k) = true
    · rw [cA] at hs ⊢
      have HTA : Hid (Tx wA tb e ts v (k + 1) 0 p bl ((d + 1 : Nat) : Int)) := hs.2.2
      clear hs
      have HF : Hid (R = .ok (.mk 1 t.2.1 1 2 (ba []) [] []) (ts.drop (k + 1))) := by show _ = _; rw [HR.out, if_pos cA]
      
      have hr := HIA.out.res
      unfold ZE at hr
      obtain ⟨⟨q0, q1, q2, q3, q4, q5, q6⟩, p0, p1, p2, p3, p4, p5, p6⟩ := blkE hr
      clear hr
      clear cA HR
      go_wp2
      exact door7D hd12 HH.out HIA.out ⟨HTA.out, .inl ⟨rfl, _, HF.out, leafT 1 _ 1 2 (by rw [ba_size]; simp [maxLen])⟩⟩ rfl
    · have cA' : seesB Par.wTrue (ts.drop k) = false := by simpa using cA
      rw [cA'] at hs ⊢
      have HTA : Hid (Tx wA tb e ts v k 0 p bl ((d + 1 : Nat) : Int)) := hs.2.2
      clear hs
      have hR := HR.out
      rw [if_neg cA] at hR
      clear HR cA cA'
      have HR : Hid (R = _) := hR
      clear hR
      have hsk := skipD Par.wFalse HTA.out
      go_wp2_with fail
      refine hsk.mono ?_
      rintro x wB ⟨rfl, hs⟩
      have HIB : Hid (InD w wB tb w1.heap.size t) := HIA.out.later hs.1
      clear hsk l1 l2 x0 k0 k1 k2
      obtain ⟨l1, l2, x0, k0, k1, k2⟩ := HIB.out.cells
      by_cases cB : seesB Par.wFalse (ts.drop k) = true
      · rw [cB] at hs ⊢
        have HTB : Hid (Tx wB tb e ts v (k + 1) 0 p bl ((d + 1 : Nat) : Int)) := hs.2.2
        clear hs
        have HF : Hid (R = .ok (.mk 1 t.2.1 0 2 (ba []) [] []) (ts.drop (k + 1))) := by show _ = _; rw [HR.out, if_pos cB]
        
        have hr := HIB.out.res
        unfold ZE at hr
        obtain ⟨⟨q0, q1, q2, q3, q4, q5, q6⟩, p0, p1, p2, p3, p4, p5, p6⟩ := blkE hr
        clear hr
        clear cB HR
        go_wp2
        exact door7D hd12 HH.out HIB.out ⟨HTB.out, .inl ⟨rfl, _, HF.out, leafT 1 _ 0 2 (by rw [ba_size]; simp [maxLen])⟩⟩ rfl
      · have cB' : seesB Par.wFalse (ts.drop k) = false := by simpa using cB
        rw [cB'] at hs ⊢
        have HTB : Hid (Tx wB tb e ts v k 0 p bl ((d + 1 : Nat) : Int)) := hs.2.2
        clear hs
        have hR := HR.out
        rw [if_neg cB] at hR
        clear HR cB cB'
        have HR : Hid (R = _) := hR
        clear hR
        have hsk := skipD [45] HTB.out
        go_wp2_with fail
        refine hsk.mono ?_
        rintro x wC ⟨rfl, hs⟩
        have HIC : Hid (InD w wC tb w1.heap.size t) := HIB.out.later hs.1
        clear hsk l1 l2 x0 k0 k1 k2
        obtain ⟨l1, l2, x0, k0, k1, k2⟩ := HIC.out.cells
        by_cases cC : seesB [45] (ts.drop k) = true
        · rw [cC] at hs ⊢
          have HTC : Hid (Tx wC tb e ts v (k + 1) 0 p bl ((d + 1 : Nat) : Int)) := hs.2.2
          clear hs
          have HF : Hid (R = (P (ts.drop (k + 1))).bind fun x r => .ok (Par.opT t [x]) r) := by show _ = _; rw [HR.out, if_pos (.inl cC)]
          clear HR
          
          have HTS : Hid ((ba t.2.2).size ≤ maxLen) := by show _ ≤ _; rw [HTk.out]; exact HSh.out.nx k
          have HOP : Hid (∀ w', Below wC.heap.size wC w' → Calls Tryz.prog 38 #[.pointer (some ⟨tb, 0, none⟩)] w' (OnS wC tb e ts v bl ((d + 1 : Nat) : Int) R (fun a r => .ok (Par.opT t [a]) r) (w.heap.size + 1 + 1))) := by
            intro w' hb
            have hst : St w' tb e ts v bl ((d + 1 : Nat) : Int) R (fun r => (P r).bind fun x r => .ok (Par.opT t [x]) r) (k + 1) 0 p := ⟨HTC.out.later hb, .inl ⟨rfl, HF.out⟩⟩
            refine (oneSt HP.out hst).mono ?_
            exact fun x w'' h => ons_of (by omega) hb h
          go_upto_region 19 with fail
          refine Code.wp_mono noP_out ?_
          go_region_law (go_simp
                         go_at_call 38
                         refine (HOP.out _ (by first | exact Below.refl _ _ | exact below_drew _ | exact below_dN _ _)).mono ?_
                         rintro x wP ⟨y0, y1, y2, y3, y4, y5, n5, f5, y6, n6, f6, rfl, hgP, a, kP, cP, pP, hst, htr⟩
                         have HIP : Hid (InD w wP tb w1.heap.size t) := HIC.out.later hgP
                         have HSP : Hid (St wP tb e ts v bl ((d + 1 : Nat) : Int) R (fun r => .ok (Par.opT t [a]) r) kP cP pP) := hst
                         have HTP : Hid (Okd R → TrIs wP (fun b => w.heap.size + 1 + 1 ≤ b) a [.int .i64 y0, .int .i64 y1, .int .i64 y2, .int .i64 y3, .string y4, .slice y5 n5 f5, .slice y6 n6 f6]) := htr
                         obtain ⟨i1, i2, i3, j0, j1, j2⟩ := HIP.out.cells
                         have hr := HIP.out.res
                         unfold ZE at hr
                         obtain ⟨⟨r0, r1, r2, r3, r4, r5, r6⟩, s0, s1, s2, s3, s4, s5, s6⟩ := blkE hr
                         clear hr hgP hst htr
                         dsimp only)
          all_goals refine noP_in ?_
          all_goals clear r0 r1 r2 r3 r4 r5 r6 s0 s1 s2 s3 s4 s5 s6 i3 j0 j1 j2 x0 k0 k1 k2
          all_goals go_wp2
          all_goals exact door8D hd12 HH.out HIP.out HSP.out HTS.out (fun _ => labNone _ _) HTP.out rfl
        · have cC' : seesB [45] (ts.drop k) = false := by simpa using cC
          rw [cC'] at hs ⊢
          have HTC : Hid (Tx wC tb e ts v k 0 p bl ((d + 1 : Nat) : Int)) := hs.2.2
          clear hs
          have hsk := skipD [33] HTC.out
          go_wp2_with fail
          refine hsk.mono ?_
          rintro x wD ⟨rfl, hs⟩
          have HID : Hid (InD w wD tb w1.heap.size t) := HIC.out.later hs.1
          clear hsk l1 l2 x0 k0 k1 k2
          obtain ⟨l1, l2, x0, k0, k1, k2⟩ := HID.out.cells
          by_cases cD : seesB [33] (ts.drop k) = true
          · rw [cD] at hs ⊢
            have HTD : Hid (Tx wD tb e ts v (k + 1) 0 p bl ((d + 1 : Nat) : Int)) := hs.2.2
            clear hs
            have HF : Hid (R = (P (ts.drop (k + 1))).bind fun x r => .ok (Par.opT t [x]) r) := by show _ = _; rw [HR.out, if_pos (.inr cD)]
            clear HR
            
            have HTS : Hid ((ba t.2.2).size ≤ maxLen) := by show _ ≤ _; rw [HTk.out]; exact HSh.out.nx k
            have HOP : Hid (∀ w', Below wD.heap.size wD w' → Calls Tryz.prog 38 #[.pointer (some ⟨tb, 0, none⟩)] w' (OnS wD tb e ts v bl ((d + 1 : Nat) : Int) R (fun a r => .ok (Par.opT t [a]) r) (w.heap.size + 1 + 1))) := by
              intro w' hb
              have hst : St w' tb e ts v bl ((d + 1 : Nat) : Int) R (fun r => (P r).bind fun x r => .ok (Par.opT t [x]) r) (k + 1) 0 p := ⟨HTD.out.later hb, .inl ⟨rfl, HF.out⟩⟩
              refine (oneSt HP.out hst).mono ?_
              exact fun x w'' h => ons_of (by omega) hb h
            go_upto_region 19 with fail
            refine Code.wp_mono noP_out ?_
            go_region_law (go_simp
                           go_at_call 38
                           refine (HOP.out _ (by first | exact Below.refl _ _ | exact below_drew _ | exact below_dN _ _)).mono ?_
                           rintro x wP ⟨y0, y1, y2, y3, y4, y5, n5, f5, y6, n6, f6, rfl, hgP, a, kP, cP, pP, hst, htr⟩
                           have HIP : Hid (InD w wP tb w1.heap.size t) := HID.out.later hgP
                           have HSP : Hid (St wP tb e ts v bl ((d + 1 : Nat) : Int) R (fun r => .ok (Par.opT t [a]) r) kP cP pP) := hst
                           have HTP : Hid (Okd R → TrIs wP (fun b => w.heap.size + 1 + 1 ≤ b) a [.int .i64 y0, .int .i64 y1, .int .i64 y2, .int .i64 y3, .string y4, .slice y5 n5 f5, .slice y6 n6 f6]) := htr
                           obtain ⟨i1, i2, i3, j0, j1, j2⟩ := HIP.out.cells
                           have hr := HIP.out.res
                           unfold ZE at hr
                           obtain ⟨⟨r0, r1, r2, r3, r4, r5, r6⟩, s0, s1, s2, s3, s4, s5, s6⟩ := blkE hr
                           clear hr hgP hst htr
                           dsimp only)
            all_goals refine noP_in ?_
            all_goals clear r0 r1 r2 r3 r4 r5 r6 s0 s1 s2 s3 s4 s5 s6 i3 j0 j1 j2 x0 k0 k1 k2
            all_goals go_wp2
            all_goals exact door8D hd12 HH.out HIP.out HSP.out HTS.out (fun _ => labNone _ _) HTP.out rfl
          · have cD' : seesB [33] (ts.drop k) = false := by simpa using cD
            rw [cD'] at hs ⊢
            have HTD : Hid (Tx wD tb e ts v k 0 p bl ((d + 1 : Nat) : Int)) := hs.2.2
            clear hs
            have hR := HR.out
            rw [if_neg (by rintro (h | h); exact cC h; exact cD h)] at hR
            clear HR cC cC' cD cD'
            have HR : Hid (R = _) := hR
            clear hR
            have hsk := skipD [40] HTD.out
            go_wp2_with fail
            refine hsk.mono ?_
            rintro x wF ⟨rfl, hs⟩
            have HIF : Hid (InD w wF tb w1.heap.size t) := HID.out.later hs.1
            clear hsk l1 l2 x0 k0 k1 k2
            obtain ⟨l1, l2, x0, k0, k1, k2⟩ := HIF.out.cells
            by_cases cF : seesB [40] (ts.drop k) = true
            · rw [cF] at hs ⊢
              have HTF : Hid (Tx wF tb e ts v (k + 1) 0 p bl ((d + 1 : Nat) : Int)) := hs.2.2
              clear hs
              have HF : Hid (R = (E (ts.drop (k + 1))).bind fun x r => (Par.must e [41] r).bind fun _ r2 => .ok x r2) := by show _ = _; rw [HR.out, if_pos cF]
              clear HR cF
              
              have hst : St wF tb e ts v bl ((d + 1 : Nat) : Int) R (fun r => (E r).bind fun x r => (Par.must e [41] r).bind fun _ r2 => .ok x r2) (k + 1) 0 p := ⟨HTF.out, .inl ⟨rfl, HF.out⟩⟩
              
              have hx := exprSt HE.out hst
              go_wp2_with fail
              refine hx.mono ?_
              rintro x wx ⟨z0, z1, z2, z3, z4, z5, m5, d5, z6, m6, d6, rfl, hg, a, kx, cx, px, hst2, htr⟩
              obtain ⟨wy, hwy⟩ : ∃ wy, wy = wx.alloc (.cells #[.int .i64 z0, .int .i64 z1, .int .i64 z2, .int .i64 z3, .string z4, .slice z5 m5 d5, .slice z6 m6 d6] 26) := ⟨_, rfl⟩
              have hby : Below wx.heap.size wx wy := by rw [hwy]; exact (Below.refl _ _).alloc (Nat.le_refl _) _
              have HIx := HIF.out.later hg
              have HIy : Hid (InD w wy tb w1.heap.size t) := HIx.below hby
              have HYB : Hid (wy.heap[wx.heap.size]? = some (.cells #[.int .i64 z0, .int .i64 z1, .int .i64 z2, .int .i64 z3, .string z4, .slice z5 m5 d5, .slice z6 m6 d6] 26 (0, 0))) := by show _ = _; rw [hwy]; exact heap_at_alloc _ _ _ rfl
              have hzx := hg.size
              have HTr : Hid (Okd R → TrIs wy (fun b => w.heap.size + 1 + 1 ≤ b) a [.int .i64 z0, .int .i64 z1, .int .i64 z2, .int .i64 z3, .string z4, .slice z5 m5 d5, .slice z6 m6 d6]) := fun h => ((htr h).keeps (Keeps.of_below hby)).mono fun b hb _ => by omega
              have hn := needSt HGd.out (s := [41]) (fix_sign (by decide)) (by decide) (hst2.later hby)
              clear l1 l2 x0 k0 k1 k2
              obtain ⟨l1, l2, x0, k0, k1, k2⟩ := HIx.cells
              have l0 : w.heap.size < wx.heap.size := by omega
              clear hg hst2 htr hby HIx hx
              go_wp2_with fail
              rw [← hwy]
              clear hwy
              refine hn.mono ?_
              rintro x wz ⟨rfl, hgz, k3, c3, p3, hst3⟩
              have HIz : Hid (InD w wz tb w1.heap.size t) := HIy.out.later hgz
              have HSz : Hid (St wz tb e ts v bl ((d + 1 : Nat) : Int) R _ k3 c3 p3) := hst3
              have yl := lt_of_block HYB.out
              have yz := (hgz.block wx.heap.size yl (by simp; omega)).trans HYB.out
              have HTz : Hid (Okd R → TrIs wz (fun b => w.heap.size + 1 + 1 ≤ b) a [.int .i64 z0, .int .i64 z1, .int .i64 z2, .int .i64 z3, .string z4, .slice z5 m5 d5, .slice z6 m6 d6]) := fun h => (HTr.out h).keeps (Keeps.of_grown hgz fun b hb => by simp; omega)
              have hzz := hgz.size
              clear l1 l2 x0 k0 k1 k2
              obtain ⟨l1, l2, x0, k0, k1, k2⟩ := HIz.out.cells
              
              obtain ⟨⟨o0, o1, o2, o3, o4, o5, o6⟩, _⟩ := blkE yz
              
              have hr := HIz.out.res
              unfold ZE at hr
              obtain ⟨⟨q0, q1, q2, q3, q4, q5, q6⟩, p0, p1, p2, p3, p4, p5, p6⟩ := blkE hr
              clear hr
              
              clear hst hn hgz hst3 yz
              go_wp2
              exact door7D hd12 HH.out HIz.out (onf_of HSz.out HTz.out) rfl
            · have cF' : seesB [40] (ts.drop k) = false := by simpa using cF
              rw [cF'] at hs ⊢
              have HTF : Hid (Tx wF tb e ts v k 0 p bl ((d + 1 : Nat) : Int)) := hs.2.2
              clear hs
              have hR := HR.out
              rw [if_neg cF] at hR
              clear HR cF cF'
              have HR : Hid (R = _) := hR
              clear hR
              have hsk := skipD Par.wRelease HTF.out
              go_wp2_with fail
              refine hsk.mono ?_
              rintro x wG ⟨rfl, hs⟩
              have HIG : Hid (InD w wG tb w1.heap.size t) := HIF.out.later hs.1
              clear hsk l1 l2 x0 k0 k1 k2
              obtain ⟨l1, l2, x0, k0, k1, k2⟩ := HIG.out.cells
              by_cases cG : seesB Par.wRelease (ts.drop k) = true
              · rw [cG] at hs ⊢
                have HTG : Hid (Tx wG tb e ts v (k + 1) 0 p bl ((d + 1 : Nat) : Int)) := hs.2.2
                clear hs
                have HF : Hid (R = Par.relR e E (ts.drop k)) := by show _ = _; rw [HR.out, if_pos cG]
                clear HR cG
                
                have hst : St wG tb e ts v bl ((d + 1 : Nat) : Int) R (fun r => (Par.must e [40] r).bind fun _ r1 => (E r1).bind fun x r2 => (Par.must e [116, 111] r2).bind fun _ r3 => (Par.labelR e r3).bind fun l r4 => (Par.must e [41] r4).bind fun _ r5 => .ok (.mk 5 t.2.1 0 0 (ba []) l [x]) r5) (k + 1) 0 p := ⟨HTG.out, .inl ⟨rfl, by rw [HF.out]; unfold Par.relR; rw [drop_tail, ← HTk.out]⟩⟩
                have hn0 := needSt HGd.out (s := [40]) (fix_sign (by decide)) (by decide) hst
                go_wp2_with fail
                refine hn0.mono ?_
                rintro x wH ⟨rfl, hgH, kH, cH, pH, hstH⟩
                have HIH : Hid (InD w wH tb w1.heap.size t) := HIG.out.later hgH
                clear l1 l2 x0 k0 k1 k2
                obtain ⟨l1, l2, x0, k0, k1, k2⟩ := HIH.out.cells
                clear hn0 hgH hst
                
                have hx := exprSt HE.out hstH
                go_wp2_with fail
                refine hx.mono ?_
                rintro x wx ⟨z0, z1, z2, z3, z4, z5, m5, d5, z6, m6, d6, rfl, hg, a, kx, cx, px, hst2, htr⟩
                obtain ⟨wy, hwy⟩ : ∃ wy, wy = wx.alloc (.cells #[.int .i64 z0, .int .i64 z1, .int .i64 z2, .int .i64 z3, .string z4, .slice z5 m5 d5, .slice z6 m6 d6] 26) := ⟨_, rfl⟩
                have hby : Below wx.heap.size wx wy := by rw [hwy]; exact (Below.refl _ _).alloc (Nat.le_refl _) _
                have HIx := HIH.out.later hg
                have HIy : Hid (InD w wy tb w1.heap.size t) := HIx.below hby
                have HYB : Hid (wy.heap[wx.heap.size]? = some (.cells #[.int .i64 z0, .int .i64 z1, .int .i64 z2, .int .i64 z3, .string z4, .slice z5 m5 d5, .slice z6 m6 d6] 26 (0, 0))) := by show _ = _; rw [hwy]; exact heap_at_alloc _ _ _ rfl
                have hzx := hg.size
                have HTr : Hid (Okd R → TrIs wy (fun b => w.heap.size + 1 + 1 ≤ b) a [.int .i64 z0, .int .i64 z1, .int .i64 z2, .int .i64 z3, .string z4, .slice z5 m5 d5, .slice z6 m6 d6]) := fun h => ((htr h).keeps (Keeps.of_below hby)).mono fun b hb _ => by omega
                have hn := needSt HGd.out (s := [116, 111]) (.inl (by decide)) (by decide) (hst2.later hby)
                clear l1 l2 x0 k0 k1 k2
                obtain ⟨l1, l2, x0, k0, k1, k2⟩ := HIx.cells
                have l0 : w.heap.size < wx.heap.size := by omega
                clear hg hst2 htr hby HIx hx
                go_wp2_with fail
                rw [← hwy]
                clear hwy
                refine hn.mono ?_
                rintro x wz ⟨rfl, hgz, k3, c3, p3, hst3⟩
                have HIz : Hid (InD w wz tb w1.heap.size t) := HIy.out.later hgz
                have HSz : Hid (St wz tb e ts v bl ((d + 1 : Nat) : Int) R _ k3 c3 p3) := hst3
                have yl := lt_of_block HYB.out
                have yz := (hgz.block wx.heap.size yl (by simp; omega)).trans HYB.out
                have HTz : Hid (Okd R → TrIs wz (fun b => w.heap.size + 1 + 1 ≤ b) a [.int .i64 z0, .int .i64 z1, .int .i64 z2, .int .i64 z3, .string z4, .slice z5 m5 d5, .slice z6 m6 d6]) := fun h => (HTr.out h).keeps (Keeps.of_grown hgz fun b hb => by simp; omega)
                have hzz := hgz.size
                clear l1 l2 x0 k0 k1 k2
                obtain ⟨l1, l2, x0, k0, k1, k2⟩ := HIz.out.cells
                
                have HYz : Hid (wz.heap[wx.heap.size]? = _) := yz
                have hlb := labelSt HGd.out HSh.out hst3
                clear hstH hn hgz hst3 yz
                go_wp2_with fail
                refine hlb.mono ?_
                rintro x wL ⟨lo, ln, lc, rfl, hgL, l, k4, c4, p4, hst4, hlv⟩
                have HIL : Hid (InD w wL tb w1.heap.size t) := HIz.out.later hgL
                have HYL : Hid (wL.heap[wx.heap.size]? = _) := (hgL.block wx.heap.size (by omega) (by simp; omega)).trans HYz.out
                have HTL : Hid (Okd R → TrIs wL (fun b => w.heap.size + 1 + 1 ≤ b) a [.int .i64 z0, .int .i64 z1, .int .i64 z2, .int .i64 z3, .string z4, .slice z5 m5 d5, .slice z6 m6 d6]) := fun h => (HTz.out h).keeps (Keeps.of_grown hgL fun b hb => by simp; omega)
                have HLL : Hid (Okd R → LabV wL (fun b => w.heap.size + 1 + 1 ≤ b) (.slice lo ln lc) l) := fun h => (hlv h).mono fun b hb _ => by omega
                have hzL := hgL.size
                have hn5 := needSt HGd.out (s := [41]) (fix_sign (by decide)) (by decide) hst4
                clear l1 l2 x0 k0 k1 k2
                obtain ⟨l1, l2, x0, k0, k1, k2⟩ := HIL.out.cells
                clear hlb hgL hst4 hlv
                go_wp2_with fail
                refine hn5.mono ?_
                rintro x wM ⟨rfl, hgM, k5, c5, p5, hst5⟩
                have HIM : Hid (InD w wM tb w1.heap.size t) := HIL.out.later hgM
                have yM := (hgM.block wx.heap.size (by omega) (by simp; omega)).trans HYL.out
                have HTM : Hid (Okd R → TrIs wM (fun b => w.heap.size + 1 + 1 ≤ b) a [.int .i64 z0, .int .i64 z1, .int .i64 z2, .int .i64 z3, .string z4, .slice z5 m5 d5, .slice z6 m6 d6]) := fun h => (HTL.out h).keeps (Keeps.of_grown hgM fun b hb => by simp; omega)
                have HLM : Hid (Okd R → LabV wM (fun b => w.heap.size + 1 + 1 ≤ b) (.slice lo ln lc) l) := fun h => (HLL.out h).keeps (Keeps.of_grown hgM fun b hb => by simp; omega)
                have HSM : Hid (St wM tb e ts v bl ((d + 1 : Nat) : Int) R _ k5 c5 p5) := hst5
                have hzM := hgM.size
                clear l1 l2 x0 k0 k1 k2
                obtain ⟨l1, l2, x0, k0, k1, k2⟩ := HIM.out.cells
                obtain ⟨⟨o0, o1, o2, o3, o4, o5, o6⟩, _⟩ := blkE yM
                
                have hr := HIM.out.res
                unfold ZE at hr
                obtain ⟨⟨q0, q1, q2, q3, q4, q5, q6⟩, p0, p1, p2, p3, p4, p5, p6⟩ := blkE hr
                clear hr
                
                clear hn5 hgM hst5 yM
                go_wp2
                exact door8D hd12 HH.out HIM.out HSM.out (by show (ba []).size ≤ maxLen; rw [ba_size]; simp [maxLen]) HLM.out HTM.out rfl
              · have cG' : seesB Par.wRelease (ts.drop k) = false := by simpa using cG
                rw [cG'] at hs ⊢
                have HTG : Hid (Tx wG tb e ts v k 0 p bl ((d + 1 : Nat) : Int)) := hs.2.2
                clear hs
                have hR := HR.out
                rw [if_neg cG] at hR
                clear HR cG cG'
                have HR : Hid (R = _) := hR
                clear hR
                have hst : St wG tb e ts v bl ((d + 1 : Nat) : Int) R (fun r => (Par.nameR e r).bind fun s r => if isT [40] r = true then (Par.encl e [40] [44] [41] 4 E r).bind fun a r2 => .ok (.mk 4 t.2.1 0 0 s [] a) r2 else .ok (.mk 2 t.2.1 0 0 s [] []) r) k 0 p := ⟨HTG.out, .inl ⟨rfl, HR.out⟩⟩
                have hnm := nameSt HSh.out hst
                go_wp2_with fail
                refine hnm.mono ?_
                rintro x wN ⟨o, rfl, ho, hgN, kN, cN, pN, hstN⟩
                have HIN : Hid (InD w wN tb w1.heap.size t) := HIG.out.later hgN
                clear l1 l2 x0 k0 k1 k2
                obtain ⟨l1, l2, x0, k0, k1, k2⟩ := HIN.out.cells
                have hse := seesD [40] hstN.1
                have HSN : Hid (St wN tb e ts v bl ((d + 1 : Nat) : Int) R _ kN cN pN) := hstN
                have HO : Hid (o.size ≤ maxLen) := ho
                clear hst hnm hgN hstN ho HR
                go_wp2_with fail
                refine hse.mono ?_
                rintro x wO ⟨rfl, hbO⟩
                have HIO : Hid (InD w wO tb w1.heap.size t) := HIN.out.below hbO
                have HTO : Hid (Tx wO tb e ts v kN cN pN bl ((d + 1 : Nat) : Int)) := HSN.out.1.later hbO
                clear l1 l2 x0 k0 k1 k2
                obtain ⟨l1, l2, x0, k0, k1, k2⟩ := HIO.out.cells
                clear hse hbO
                by_cases cO : seesB [40] (ts.drop kN) = true
                · have hon : cN = 0 ∧ R = (Par.encl e [40] [44] [41] 4 E (ts.drop kN)).bind fun a r2 => .ok (.mk 4 t.2.1 0 0 o [] a) r2 := by
                    rcases HSN.out.2 with ⟨h1, h2⟩ | ⟨_, h2, _⟩
                    · refine ⟨h1, ?_⟩
                      rw [h2]
                      show (if isT [40] (ts.drop kN) = true then _ else _) = _
                      rw [if_pos (by rw [← sees_at HGd.out (fix_sign (by decide)) (by decide)]; exact cO)]
                    · rw [h2, sees_end] at cO; cases cO
                  obtain ⟨rfl, hRR⟩ := hon
                  have HRR : Hid (R = _) := hRR
                  rw [cO]
                  clear cO hRR
                  have HAR : Hid (∀ w', Below wO.heap.size wO w' → Calls Tryz.prog 72 #[.pointer (some ⟨tb, 0, none⟩)] w' (ArS wO tb e ts v bl ((d + 1 : Nat) : Int) R t.2.1 o (w.heap.size + 1 + 1))) := by
                    intro w' hb
                    refine (argsD HGd.out HE.out (HTO.out.later hb)).mono ?_
                    intro x w'' hp
                    exact ars_of HRR.out HO.out (by omega) hb hp
                  go_upto_region 33 with fail
                  refine Code.wp_mono noP_out ?_
                  go_region_law (go_simp
                                 go_at_call 72
                                 refine (HAR.out _ (by first | exact Below.refl _ _ | exact below_drew _ | exact below_dN _ _)).mono ?_
                                 rintro x wP ⟨lo, ln, lc, rfl, hgP, kP, cP, pP, hof⟩
                                 have HIP : Hid (InD w wP tb w1.heap.size t) := HIO.out.later hgP
                                 have HOF : Hid (OnF wP (w.heap.size + 1 + 1) tb e ts v kP cP pP bl ((d + 1 : Nat) : Int) R [.int .i64 4, .int .i64 (t.2.1 : Int), .int .i64 0, .int .i64 0, .string o, .slice none 0 0, .slice lo ln lc]) := hof
                                 obtain ⟨i1, i2, y0, j0, j1, j2⟩ := HIP.out.cells
                                 have hr := HIP.out.res
                                 unfold ZE at hr
                                 obtain ⟨⟨r0, r1, r2, r3, r4, r5, r6⟩, s0, s1, s2, s3, s4, s5, s6⟩ := blkE hr
                                 clear hr hgP hof
                                 dsimp only)
                  all_goals refine noP_in ?_
                  all_goals clear r0 r1 r2 r3 r4 r5 r6 s0 s1 s2 s3 s4 s5 s6 y0 j0 j1 j2 x0 k0 k1 k2
                  all_goals go_wp2
                  all_goals exact door7D hd12 HH.out HIP.out HOF.out rfl
                · have cO' : seesB [40] (ts.drop kN) = false := by simpa using cO
                  rw [cO']
                  have HOF : Hid (OnF wO (w.heap.size + 1 + 1) tb e ts v kN cN pN bl ((d + 1 : Nat) : Int) R [.int .i64 2, .int .i64 (t.2.1 : Int), .int .i64 0, .int .i64 0, .string o, .slice none 0 0, .slice none 0 0]) := by
                    refine ⟨HTO.out, ?_⟩
                    rcases HSN.out.2 with ⟨h1, h2⟩ | h
                    · refine .inl ⟨h1, .mk 2 t.2.1 0 0 o [] [], ?_, leafT 2 _ 0 0 HO.out⟩
                      rw [h2]
                      show (if isT [40] (ts.drop kN) = true then _ else _) = _
                      rw [if_neg (by rw [← sees_at HGd.out (fix_sign (by decide)) (by decide)]; exact cO)]
                    · exact .inr h
                
                  have hr := HIO.out.res
                  unfold ZE at hr
                  obtain ⟨⟨q0, q1, q2, q3, q4, q5, q6⟩, p0, p1, p2, p3, p4, p5, p6⟩ := blkE hr
                  clear hr
                  
                  clear cO cO'
                  go_wp2
                  exact door7D hd12 HH.out HIO.out HOF.out rfl
end Go.Proofs.YtcdeicfegfedfaaGreatDoor
