/- The document's own reader: label, where it goes on. -/
import Derived.Test.YtcdeicfegfedfaaGreatDoorGaDcD
import Derived.Test.YtcdeicfegfedfaaGreatDoorGaRl
import Derived.Deep.CutBlock
import Derived.Deep.CutRange
import Derived.Deep.DeepCutAuto
import Derived.Deep.RegionLaw
import Derived.Deep.AppendLies
namespace Go.Proofs.YtcdeicfegfedfaaGreatDoor
open Go.RowKit
open Par (Tok Tr Po Res nx atP isT seesB ba)

/- What is left behind a label's policies, and behind one of them. -/
def lbEnd (e : Nat) (l : List Po) (r : List Tok) : Res (List Po) := (Par.must e [125] r).bind fun _ r3 => .ok l r3
def lbRest (e : Nat) (acc : List Po) (a : Po) (r : List Tok) : Res (List Po) := (Par.listF e [59] (Par.policyR e) (199 - acc.length) (acc ++ [a]) r).bind (lbEnd e)
/- Behind a policy's colon. -/
def plRest (e : Nat) (acc : List Po) (o : ByteArray) (r : List Tok) : Res (List Po) := if (nx r).1 = 1 then (Par.listR e [44] 6 (Par.nameR e) r).bind fun l r3 => lbRest e acc (o, l) r3 else lbRest e acc (o, []) r
theorem pl_bind (e : Nat) (acc : List Po) (r : List Tok) : (Par.policyR e r).bind (lbRest e acc) = (Par.nameR e r).bind fun o r => (Par.must e [58] r).bind fun _ r2 => plRest e acc o r2 := by
  unfold Par.policyR
  rw [bind_bind]
  congr 1
  funext o r1
  rw [bind_bind]
  congr 1
  funext _ r2
  unfold plRest
  by_cases h : (nx r2).1 = 1
  · rw [if_pos h, if_pos h, bind_bind]; rfl
  · rw [if_neg h, if_neg h]; rfl
theorem lb_start (e : Nat) (r : List Tok) : (Par.listR e [59] 200 (Par.policyR e) r).bind (lbEnd e) = (Par.policyR e r).bind (lbRest e []) := by
  unfold Par.listR
  rw [bind_bind]
  rfl
theorem lb_more {e : Nat} {acc : List Po} {a : Po} {ts : List Tok} {k : Nat} (h : isT [59] (ts.drop k) = true) (hn : acc.length < 199) : lbRest e acc a (ts.drop k) = (Par.policyR e (ts.drop (k + 1))).bind (lbRest e (acc ++ [a])) := by
  unfold lbRest
  rw [show 199 - acc.length = (199 - (acc ++ [a]).length) + 1 by simp; omega, listF_more h, bind_bind]
theorem lb_full {e : Nat} {acc : List Po} {a : Po} {r : List Tok} (h : isT [59] r = true) (hn : acc.length = 199) : lbRest e acc a r = .no 2 (atP e r) := by
  unfold lbRest
  rw [hn, listF_full h]
  rfl
theorem lb_end {e : Nat} {acc : List Po} {a : Po} {r : List Tok} (h : isT [59] r = false) : lbRest e acc a r = (Par.must e [125] r).bind fun _ r3 => .ok (acc ++ [a]) r3 := by
  unfold lbRest
  rw [listF_end h]
  rfl
/- Behind some of a policy's readers. -/
def rdRest (e : Nat) (acc : List Po) (o : ByteArray) (l : List ByteArray) (r : List Tok) : Res (List Po) := (Par.listF e [44] (Par.nameR e) (6 - l.length) l r).bind fun l r3 => lbRest e acc (o, l) r3
theorem rd_start {e : Nat} {acc : List Po} {o : ByteArray} {r : List Tok} (h : (nx r).1 = 1) : plRest e acc o r = (Par.nameR e r).bind fun a r => rdRest e acc o [a] r := by
  unfold plRest
  rw [if_pos h]
  unfold Par.listR
  rw [bind_bind]
  rfl
theorem rd_end {e : Nat} {acc : List Po} {o : ByteArray} {l : List ByteArray} {r : List Tok} (h : isT [44] r = false) : rdRest e acc o l r = lbRest e acc (o, l) r := by
  unfold rdRest
  rw [listF_end h]
  rfl
theorem rd_full {e : Nat} {acc : List Po} {o : ByteArray} {l : List ByteArray} {r : List Tok} (h : isT [44] r = true) (hn : l.length = 6) : rdRest e acc o l r = .no 2 (atP e r) := by
  unfold rdRest
  rw [hn, listF_full h]
  rfl
theorem rd_more {e : Nat} {acc : List Po} {o : ByteArray} {l : List ByteArray} {ts : List Tok} {k : Nat} (h : isT [44] (ts.drop k) = true) (hn : l.length < 6) : rdRest e acc o l (ts.drop k) = (Par.nameR e (ts.drop (k + 1))).bind fun a r => rdRest e acc o (l ++ [a]) r := by
  unfold rdRest
  rw [show 6 - l.length = (6 - (l.length + 1)) + 1 by omega, listF_more h, bind_bind]
  congr 1
  funext a r
  rw [List.length_append]
  rfl
def rdLeft (w : World) (X : Nat) : Nat := 6 - lenOf ((w.cell? ⟨X, 1, none⟩).getD undef)
theorem pol_set {w : World} {X : Nat} {x y u : Value} (h : w.heap[X]? = some (.cells #[x, y] 56 (0, 0))) : (w.setCell ⟨X, 1, none⟩ u).heap[X]? = some (.cells #[x, u] 56 (0, 0)) := by
  simp only [World.setCell, Array.getElem?_modify, h]
  simp
def LbOn (w wr : World) (tb e : Nat) (ts : List Tok) (v : Value) (bl al : Int) (R : Res (List Po)) (lv : Value) (n : Nat) : Prop :=
  ∃ acc kk pp, n = acc.length ∧ w.grownBy wr (some tb) ∧ OwnL ElP wr w.heap.size 56 2 lv acc ∧ Tx wr tb e ts v kk 0 pp bl al ∧ R = (Par.policyR e (ts.drop kk)).bind (lbRest e acc)
def PlSt (wr wc : World) (tb e : Nat) (ts : List Tok) (v : Value) (bl al : Int) (R : Res (List Po)) (K : List ByteArray → List Tok → Res (List Po)) (X : Nat) (o : ByteArray) : Prop :=
  ∃ ao cc accR k c p, wr.grownBy wc (some tb) ∧ wc.heap[X]? = some (.cells #[.string o, .slice ao accR.length cc] 56 (0, 0)) ∧ OwnL ElS wc (X + 1) 9 1 (.slice ao accR.length cc) accR ∧ accR.length ≤ 6 ∧ St wc tb e ts v bl al R (K accR) k c p

theorem rd_fin {w wo wm w8 : World} {tb e : Nat} {ts : List Tok} {v : Value} {bl al bl0 al0 : Int} {R : Res (List Po)} {K : List ByteArray → List Tok → Res (List Po)} {X g8 cap8 k0 km : Nat} {c0 p0 cm pm : Int} {o n2 : ByteArray} {accR : List ByteArray} {z : Value} (h0 : Tx w tb e ts v k0 c0 p0 bl0 al0) (hwo : w.grownBy wo (some tb)) (hgm : wo.grownBy wm (some tb)) (hX : wo.heap.size ≤ X) (hb8 : Below (X + 1) wm w8) (hx8 : w8.heap[X]? = some (.cells #[.string o, z] 56 (0, 0))) (ho8 : OwnL ElS w8 (X + 1) 9 1 (.slice (some ⟨g8, 0, none⟩) (accR.length + 1) cap8) (accR ++ [n2])) (hl : accR.length < 6) (hs : St wm tb e ts v bl al R (K (accR ++ [n2])) km cm pm) :
    PlSt wo (w8.setCell ⟨X, 1, none⟩ (.slice (some ⟨g8, 0, none⟩) (accR.length + 1) cap8)) tb e ts v bl al R K X o ∧ rdLeft (w8.setCell ⟨X, 1, none⟩ (.slice (some ⟨g8, 0, none⟩) (accR.length + 1) cap8)) X = 6 - (accR.length + 1) := by
  have hlen : (accR ++ [n2]).length = accR.length + 1 := by simp
  have hx9 := pol_set (u := .slice (some ⟨g8, 0, none⟩) (accR.length + 1) cap8) hx8
  have hbx : Below X w8 (w8.setCell ⟨X, 1, none⟩ (.slice (some ⟨g8, 0, none⟩) (accR.length + 1) cap8)) := (Below.refl X w8).setCell (Nat.le_refl _) _
  have hb9 : Below X wm (w8.setCell ⟨X, 1, none⟩ (.slice (some ⟨g8, 0, none⟩) (accR.length + 1) cap8)) := (hb8.mono (by omega)).trans hbx
  have hsw := hwo.size
  refine ⟨⟨some ⟨g8, 0, none⟩, cap8, accR ++ [n2], km, cm, pm, grown_under hgm (hb9.mono hX), ?_, ?_, by omega, h0.past (hwo.trans hgm) hs.1 (hb9.mono (by omega)), hs.2⟩, ?_⟩
  · rw [hlen]; exact hx9
  · rw [hlen]; exact ho8.grown isElS (grown_set (grown_refl _ _) rfl _) (Nat.lt_succ_self _)
  · unfold rdLeft
    have x1 : (w8.setCell ⟨X, 1, none⟩ (.slice (some ⟨g8, 0, none⟩) (accR.length + 1) cap8)).cell? ⟨X, 1, none⟩ = some (.slice (some ⟨g8, 0, none⟩) (accR.length + 1) cap8) := by simp [World.cell?, hx9]
    rw [x1]
    rfl

set_option maxRecDepth 100000 in
set_option maxHeartbeats 8000000 in
theorem labelD {w : World} {tb e : Nat} {ts : List Tok} {v : Value} {bl al : Int} (hgd : Par.Good ts) (hsh : Short ts) {k : Nat} {p : Int} (h : Tx w tb e ts v k 0 p bl al) :
    Calls Tryz.prog 21 #[.pointer (some ⟨tb, 0, none⟩)] w (DPost w tb e ts v bl al (Par.labelR e (ts.drop k)) (fun w' l u => OwnL ElP w' w.heap.size 56 2 u l) JL) := by
  obtain ⟨R, hR⟩ : ∃ R, R = Par.labelR e (ts.drop k) := ⟨_, rfl⟩
  have hst : St w tb e ts v bl al R (fun r => (Par.must e [123] r).bind fun _ r2 => (if isT [125] r2 = true then Res.ok [] r2 else Par.listR e [59] 200 (Par.policyR e) r2).bind (lbEnd e)) k 0 p := ⟨h, .inl ⟨rfl, hR⟩⟩
  have hn := needSt hgd (fix_sign (by decide)) (by decide) hst
  have H : Hid (Tx w tb e ts v k 0 p bl al) := h
  have HGd : Hid (Par.Good ts) := hgd
  have HSh : Hid (Short ts) := hsh
  have hlt0 := h.lt
  rw [← hR]
  clear h hgd hsh hR hst
  go_enter Tryz.func21, Tryz.ntmps21
  go_wp2_with fail
  refine hn.mono ?_
  rintro x w1 ⟨rfl, hg1, k1, c1, p1, hs1⟩
  have HG1 : Hid (w.grownBy w1 (some tb)) := hg1
  have HS1 : Hid (St w1 tb e ts v bl al R (fun r2 => (if isT [125] r2 = true then Res.ok [] r2 else Par.listR e [59] 200 (Par.policyR e) r2).bind (lbEnd e)) k1 c1 p1) := hs1
  have hs := skipD [125] hs1.1
  rw [sees_at HGd.out (fix_sign (by decide)) (by decide)] at hs
  obtain ⟨r2, hr2⟩ : ∃ r2, isT [125] (ts.drop k1) = r2 := ⟨_, rfl⟩
  have HR2 : Hid (isT [125] (ts.drop k1) = r2) := hr2
  rw [hr2] at hs
  clear hn hg1 hs1 hr2
  go_wp2_with fail
  refine hs.mono ?_
  rintro x w2 ⟨rfl, hsk⟩
  have HG2 : Hid (w.grownBy w2 (some tb)) := HG1.out.trans hsk.1
  cases r2 with
  | true =>
    have HF : Hid (R = .ok [] (ts.drop (k1 + 1)) ∧ Tx w2 tb e ts v (k1 + 1) 0 p1 bl al) := by
      have hk := hsk.2.1 rfl
      rcases HS1.out.2 with ⟨rfl, h2⟩ | ⟨_, h2, _⟩
      · refine ⟨?_, hsk.2.2⟩
        rw [h2]
        simp only
        rw [HR2.out]
        simp only [if_true, Res.bind, lbEnd]
        rw [must_at HR2.out]
        rfl
      · omega
    clear hsk hs
    go_wp2
    go_ret
    exact ⟨HG2.out, .inl ⟨[], k1 + 1, p1, _, HF.out.1, rfl, OwnL.nil _ _ _ _ _, HF.out.2⟩⟩
  | false =>
    have H2 : Hid (Tx w2 tb e ts v k1 c1 p1 bl al) := hsk.2.2
    obtain ⟨q0, q1, q2, q3, q4, q5, q6⟩ := H2.out.cells
    have hlt := H2.out.lt
    clear hsk hs
    rcases HS1.out.2 with ⟨hc, h2⟩ | ⟨hc, h2, q, h3, h4⟩
    · subst hc
      have HL0 : Hid (LbOn w w2 tb e ts v bl al R (.slice none 0 0) 0) := by
        refine ⟨[], k1, p1, rfl, HG2.out, OwnL.nil _ _ _ _ _, H2.out, ?_⟩
        rw [h2]
        simp only
        rw [HR2.out]
        exact lb_start e _
      clear h2
      go_wp2
      go_loopw [3] (fun lv wr => ∃ ao n cc, lv = .slice ao n cc ∧ n ≤ 199 ∧ Hid (LbOn w wr tb e ts v bl al R lv n)) (fun lv _ => 200 - lenOf lv)
      case atStart => exact ⟨_, _, _, rfl, Nat.zero_le _, HL0.out⟩
      case round =>
        clear HL0 q0 q1 q2 q3 q4 q5 q6 hlt
        obtain ⟨wo, rfl⟩ : ∃ wo, wo = wr := ⟨_, rfl⟩
        obtain ⟨ao, n, cc, rfl, hn9, HD⟩ := hrel
        obtain ⟨acc, kk, pp, hn, hgr, hor, htr, hRr⟩ := HD.out
        subst hn
        rw [pl_bind] at hRr
        have hnm := nameSt (K := fun o r => (Par.must e [58] r).bind fun _ r2 => plRest e acc o r2) HSh.out (⟨htr, .inl ⟨rfl, hRr⟩⟩ : St wo tb e ts v bl al R (fun r => (Par.nameR e r).bind fun o r => (Par.must e [58] r).bind fun _ r2 => plRest e acc o r2) kk 0 pp)
        have HGr : Hid (w.grownBy wo (some tb)) := hgr
        have HOr : Hid (OwnL ElP wo w.heap.size 56 2 (.slice ao acc.length cc) acc) := hor
        have hltr := htr.lt
        clear HD hgr hor htr hRr
        go_wp2_with fail
        refine hnm.mono ?_
        rintro x w3 ⟨o, rfl, hoz, hg3, k3, c3, p3, hs3⟩
        have HOZ : Hid (o.size ≤ maxLen) := hoz
        obtain ⟨w4, hw4⟩ : ∃ w4, w4 = w3.alloc (.cells #[.string o, .slice none 0 0] 56) := ⟨_, rfl⟩
        have hb4 : Below w3.heap.size w3 w4 := by rw [hw4]; exact (Below.refl _ _).alloc (Nat.le_refl _) _
        have HX4 : Hid (w4.heap[w3.heap.size]? = some (.cells #[.string o, .slice none 0 0] 56 (0, 0))) := by rw [hw4]; exact heap_at_alloc _ _ _ rfl
        have HG4 : Hid (wo.grownBy w4 (some tb)) := grown_under hg3 (hb4.mono hg3.size)
        have hnd := needSt (K := plRest e acc o) HGd.out (fix_sign (by decide)) (by decide) (hs3.later hb4)
        have HW4 : Hid (w4 = w3.alloc (.cells #[.string o, .slice none 0 0] 56)) := hw4
        have hsz3 := hg3.size
        have hsz4 := lt_of_block HX4.out
        clear hnm hg3 hs3 hw4 hb4 hoz
        go_wp2_with fail
        rw [← HW4.out]
        refine hnd.mono ?_
        rintro x w5 ⟨rfl, hg5, k5, c5, p5, hs5⟩
        have HG5 : Hid (wo.grownBy w5 (some tb)) := HG4.out.trans hg5
        have HX5 : Hid (w5.heap[w3.heap.size]? = some (.cells #[.string o, .slice none 0 0] 56 (0, 0))) := (hg5.block _ hsz4 (by simp; omega)).trans HX4.out
        have hpk := peekD hs5.1
        have HS5 : Hid (St w5 tb e ts v bl al R (plRest e acc o) k5 c5 p5) := hs5
        obtain ⟨t, ht⟩ : ∃ t, t = nx (ts.drop k5) := ⟨_, rfl⟩
        have HT : Hid (nx (ts.drop k5) = t) := ht.symm
        rw [← ht] at hpk
        obtain ⟨t0, t1, t2⟩ := t
        unfold tkV at hpk
        simp only at hpk
        obtain ⟨s2, hs2⟩ : ∃ s2, s2 = ba t2 := ⟨_, rfl⟩
        rw [← hs2] at hpk
        have hsz5 := lt_of_block HX5.out
        clear hnd hs5 hg5 ht hs2
        go_wp2_with fail
        refine hpk.mono ?_
        rintro x w6 ⟨rfl, hb6⟩
        have HG6 : Hid (wo.grownBy w6 (some tb)) := grown_under HG5.out (hb6.mono HG5.out.size)
        have HX6 : Hid (w6.heap[w3.heap.size]? = some (.cells #[.string o, .slice none 0 0] 56 (0, 0))) := (hb6.block _ hsz5).trans HX5.out
        have HS6 : Hid (St w6 tb e ts v bl al R (plRest e acc o) k5 c5 p5) := HS5.out.later hb6
        have hsz6 := lt_of_block HX6.out
        clear hpk hb6 HS5 HX5 HG5 HW4 HX4 HG4 hsz5 hsz4
        have hf0 := fTok0 (.int .i64 t0) (.int .i64 (t1 : Int)) (.string s2) w6
        go_upto_if 25 with fail
        go_cut [] (fun wc => Hid (PlSt wo wc tb e ts v bl al R (fun l r => lbRest e acc (o, l) r) w3.heap.size o))
        case first =>
          by_cases ht1 : t0 = 1
          · subst ht1
            have hk5 : k5 < ts.length := by
              apply Classical.byContradiction
              intro hne
              have h9 := HT.out
              rw [nx_end (by omega)] at h9
              simp at h9
            have hon : c5 = 0 ∧ R = plRest e acc o (ts.drop k5) := by
              rcases HS6.out.2 with h1 | ⟨_, h1, _⟩
              · exact h1
              · omega
            obtain ⟨h50, h5R⟩ := hon
            subst h50
            rw [rd_start (by rw [HT.out])] at h5R
            have hnm := nameSt (K := fun a r => rdRest e acc o [a] r) HSh.out (⟨HS6.out.1, .inl ⟨rfl, h5R⟩⟩ : St w6 tb e ts v bl al R (fun r => (Par.nameR e r).bind fun a r => rdRest e acc o [a] r) k5 0 p5)
            clear h5R hk5
            go_wp2_with fail
            refine hnm.mono ?_
            rintro x w7 ⟨n1, rfl, hnz, hg7, k7, c7, p7, hs7⟩
            have hX7 : w7.heap[w3.heap.size]? = some (.cells #[.string o, .slice none 0 0] 56 (0, 0)) := (hg7.block _ hsz6 (by simp; omega)).trans HX6.out
            have x1 : w7.cell? ⟨w3.heap.size, 1, none⟩ = some (.slice none 0 0) := by simp [World.cell?, hX7]
            have y1 : w7.frozen? ⟨w3.heap.size, 1, none⟩ = false := by simp [World.frozen?, hX7]
            have hsz7 := lt_of_block hX7
            have HI0 : Hid (PlSt wo ((w7.setCell ⟨w3.heap.size, 1, none⟩ (.slice (some ⟨w7.heap.size, 0, none⟩) 1 1)).alloc (.cells #[.string n1] 9)) tb e ts v bl al R (rdRest e acc o) w3.heap.size o) := by
              have hgr7 : wo.grownBy w7 (some tb) := HG6.out.trans hg7
              have hgw := HGr.out.size
              have e7 : (w7.setCell ⟨w3.heap.size, 1, none⟩ (.slice (some ⟨w7.heap.size, 0, none⟩) 1 1)).heap.size = w7.heap.size := by simp [World.setCell]
              have hbx : Below wo.heap.size w7 ((w7.setCell ⟨w3.heap.size, 1, none⟩ (.slice (some ⟨w7.heap.size, 0, none⟩) 1 1)).alloc (.cells #[.string n1] 9)) := ((Below.refl _ w7).setCell (by simp; omega) _).alloc (by rw [e7]; omega) _
              have how := OwnL.one (El := ElS) (w := w7.setCell ⟨w3.heap.size, 1, none⟩ (.slice (some ⟨w7.heap.size, 0, none⟩) 1 1)) (B := w3.heap.size + 1) (e := 9) (a := n1) (xs := #[.string n1]) isElS ⟨rfl, hnz⟩ (by rw [e7]; omega)
              rw [e7] at how
              exact ⟨_, _, [n1], k7, c7, p7, grown_under hgr7 hbx, heap_past_alloc (pol_set hX7), how, by simp, H.out.past (HGr.out.trans hgr7) hs7.1 (hbx.mono hgw), hs7.2⟩
            clear hnm hg7 hs7 hX7 hnz HG6 HX6 HS6
            go_wp2
            go_loopw [30] (fun _ wi => Hid (PlSt wo wi tb e ts v bl al R (rdRest e acc o) w3.heap.size o)) (fun _ wi => rdLeft wi w3.heap.size)
            case atStart => exact HI0
            case round =>
              clear HI0 x1 y1 hsz7 hsz6
              obtain ⟨aor, ccr, accR, k9, c9, p9, hg9, hx9, ho9, hl9, hs9⟩ := hrel.out
              have HG9 : Hid (wo.grownBy wr (some tb)) := hg9
              have HX9 : Hid (wr.heap[w3.heap.size]? = some (.cells #[.string o, .slice aor accR.length ccr] 56 (0, 0))) := hx9
              have HO9 : Hid (OwnL ElS wr (w3.heap.size + 1) 9 1 (.slice aor accR.length ccr) accR) := ho9
              have HS9 : Hid (St wr tb e ts v bl al R (rdRest e acc o accR) k9 c9 p9) := hs9
              have hszi := lt_of_block hx9
              have hse := seesD [44] hs9.1
              rw [sees_at HGd.out (fix_sign (by decide)) (by decide)] at hse
              obtain ⟨r9, hr9⟩ : ∃ r9, isT [44] (ts.drop k9) = r9 := ⟨_, rfl⟩
              have HR9 : Hid (isT [44] (ts.drop k9) = r9) := hr9
              rw [hr9] at hse
              have HM : Hid (rdLeft wr w3.heap.size = 6 - accR.length) := by
                show _ = _
                unfold rdLeft
                have x1 : wr.cell? ⟨w3.heap.size, 1, none⟩ = some (.slice aor accR.length ccr) := by simp [World.cell?, hx9]
                rw [x1]
                rfl
              clear hrel hg9 hx9 ho9 hs9 hr9
              go_wp2_with fail
              refine hse.mono ?_
              rintro x wj ⟨rfl, hbj⟩
              have HGj : Hid (wo.grownBy wj (some tb)) := grown_under HG9.out (hbj.mono HG9.out.size)
              have HXj : Hid (wj.heap[w3.heap.size]? = some (.cells #[.string o, .slice aor accR.length ccr] 56 (0, 0))) := (hbj.block _ hszi).trans HX9.out
              have HOj : Hid (OwnL ElS wj (w3.heap.size + 1) 9 1 (.slice aor accR.length ccr) accR) := HO9.out.below isElS hbj
              have HSj : Hid (St wj tb e ts v bl al R (rdRest e acc o accR) k9 c9 p9) := HS9.out.later hbj
              have hszj := lt_of_block HXj.out
              clear hse hbj HG9 HX9 HO9 HS9 hszi
              cases r9 with
              | false =>
                have HF : Hid (PlSt wo wj tb e ts v bl al R (fun l r => lbRest e acc (o, l) r) w3.heap.size o) := by
                  refine ⟨_, _, accR, k9, c9, p9, HGj.out, HXj.out, HOj.out, hl9, HSj.out.1, ?_⟩
                  rcases HSj.out.2 with ⟨h1, h2⟩ | h1
                  · exact .inl ⟨h1, by rw [h2]; exact rd_end HR9.out⟩
                  · exact .inr h1
                go_wp2
                go_meet
                case rel => exact HF
              | true =>
                have hk9 : k9 < ts.length := isT_lt (by decide) HR9.out
                have HK9 : Hid (k9 < ts.length) := hk9
                have hon : c9 = 0 ∧ R = rdRest e acc o accR (ts.drop k9) := by
                  rcases HSj.out.2 with h1 | ⟨_, h1, _⟩
                  · exact h1
                  · omega
                obtain ⟨h90, h9R⟩ := hon
                subst h90
                have HRR : Hid (R = rdRest e acc o accR (ts.drop k9)) := h9R
                have x1 : wj.cell? ⟨w3.heap.size, 1, none⟩ = some (.slice aor accR.length ccr) := by have h9 := HXj.out; simp [World.cell?, h9]
                clear h9R hk9
                by_cases hf : accR.length = 6
                · have hwr := wrongD 2 HSj.out.1
                  have HF : Hid (accR.length = 6) := hf
                  have h6 : 6 ≤ accR.length := by omega
                  have hd : decide ((6 : Int) ≤ (accR.length : Int)) = true := by simp; omega
                  clear hf
                  go_wp2_with fail
                  refine hwr.mono ?_
                  rintro x wz ⟨rfl, hwz⟩
                  have HFz : Hid (PlSt wo wz tb e ts v bl al R (fun l r => lbRest e acc (o, l) r) w3.heap.size o) := by
                    obtain ⟨h8, h9⟩ := hwz
                    rw [if_pos rfl, if_pos rfl] at h9
                    refine ⟨_, _, accR, _, _, _, HGj.out.trans h8, (h8.block _ hszj (by simp; omega)).trans HXj.out, HOj.out.grown isElS h8 (by omega), hl9, h9, .inr ⟨by decide, rfl, _, rfl, ?_⟩⟩
                    rw [HRR.out]
                    exact rd_full HR9.out HF.out
                  clear hwz hwr
                  go_wp2
                  go_meet
                  case rel => exact HFz
                · have hd : decide ((6 : Int) ≤ (accR.length : Int)) = false := by simp; omega
                  have hln : accR.length < 6 := by omega
                  obtain ⟨q0, q1, _⟩ := HSj.out.1.cells
                  have z1 := HSj.out.1.free 1
                  have hlt := HSj.out.1.lt
                  have hkb : k9 ≤ 100000 := Nat.le_trans HSj.out.1.le HSj.out.1.few
                  obtain ⟨hgn, htn⟩ := HSj.out.1.next HK9.out
                  obtain ⟨wn, hwn⟩ : ∃ wn, wn = wj.setCell ⟨tb, 1, none⟩ (.int .i64 ((k9 : Int) + 1)) := ⟨_, rfl⟩
                  rw [← hwn] at hgn htn
                  have HGn : Hid (wo.grownBy wn (some tb)) := HGj.out.trans hgn
                  have HXn : Hid (wn.heap[w3.heap.size]? = some (.cells #[.string o, .slice aor accR.length ccr] 56 (0, 0))) := (hgn.block _ hszj (by simp; omega)).trans HXj.out
                  have HOn : Hid (OwnL ElS wn (w3.heap.size + 1) 9 1 (.slice aor accR.length ccr) accR) := HOj.out.grown isElS hgn (by omega)
                  have HSn : Hid (St wn tb e ts v bl al R (fun r => (Par.nameR e r).bind fun a r => rdRest e acc o (accR ++ [a]) r) (k9 + 1) 0 p9) := ⟨htn, .inl ⟨rfl, by rw [HRR.out]; exact rd_more HR9.out hln⟩⟩
                  have HNM : Hid (∀ w', Below wn.heap.size wn w' → Calls Tryz.prog 46 #[.pointer (some ⟨tb, 0, none⟩)] w' fun x w'' => ∃ n1 : ByteArray, x = .returned (.string n1) ∧ n1.size ≤ maxLen ∧ Stp wn tb e ts v bl al R (rdRest e acc o (accR ++ [n1])) w'') := by
                    show ∀ w', _
                    intro w' hb
                    refine (nameSt HSh.out (HSn.out.later hb)).mono ?_
                    rintro x w'' ⟨n1, h1, h2, h3, h4⟩
                    exact ⟨n1, h1, h2, World.grownBy.trans ⟨hb.os, hb.tape, hb.output, hb.size, fun j hj _ => hb.block j hj⟩ h3, h4⟩
                  have xn : wn.cell? ⟨w3.heap.size, 1, none⟩ = some (.slice aor accR.length ccr) := by have h9 := HXn.out; simp [World.cell?, h9]
                  have HWn : Hid (wn = wj.setCell ⟨tb, 1, none⟩ (.int .i64 ((k9 : Int) + 1))) := hwn
                  have hszn := lt_of_block HXn.out
                  clear hf hgn htn hwn
                  go_upto_region 13 with fail
                  rw [← HWn.out]
                  clear q0 q1 z1 hlt x1 hd
                  obtain ⟨i0, hi0, hz0, hz1, hz2⟩ := info_parts Tryz.infoLS
                  have hXn3 : tb ≠ w3.heap.size := by omega
                  go_region_law (first
                    | (go_simp
                       go_at_call 46
                       refine (HNM.out _ (by first | exact Below.refl _ _ | exact below_drew _ | exact below_dN _ _)).mono ?_
                       rintro x wm ⟨n2, rfl, hnz2, hgm, km, cm, pm, hsm⟩
                       have hXm : wm.heap[w3.heap.size]? = some (.cells #[.string o, .slice aor accR.length ccr] 56 (0, 0)) := (hgm.block _ hszn (by simp; omega)).trans HXn.out
                       have xm : wm.cell? ⟨w3.heap.size, 1, none⟩ = some (.slice aor accR.length ccr) := by simp [World.cell?, hXm]
                       have ym : wm.frozen? ⟨w3.heap.size, 1, none⟩ = false := by simp [World.frozen?, hXm]
                       have HXm : Hid (wm.heap[w3.heap.size]? = some (.cells #[.string o, .slice aor accR.length ccr] 56 (0, 0))) := hXm
                       have HGm : Hid (wn.grownBy wm (some tb)) := hgm
                       have HSm : Hid (St wm tb e ts v bl al R (rdRest e acc o (accR ++ [n2])) km cm pm) := hsm
                       have HOm : Hid (OwnL ElS wm (w3.heap.size + 1) 9 1 (.slice aor accR.length ccr) accR) := HOn.out.grown isElS hgm (by omega)
                       obtain ⟨css1, HPm, HPm2, HPm3⟩ : ∃ css1 : List (List Value), Hid (wm.ownsRow (w3.heap.size + 1) 9 1 (.slice aor accR.length ccr) accR.length css1.flatten) ∧ Hid (css1.length = accR.length) ∧ Hid (∀ i (h : i < accR.length) (h' : i < css1.length), ElS wm (SB (w3.heap.size + 1) (.slice aor accR.length ccr)) accR[i] css1[i]) := HOm.out.ex
                       have hszm := lt_of_block hXm
                       clear hXm hgm hsm
                       dsimp only)
                    | (refine step_append_lies _ rfl _ _ 54 rfl (w3.heap.size + 1) 9 i0 (.string ⟨#[]⟩) 1 16 Tryz.underlying54 hi0 hz0 hz1 hz2 rfl (by decide) _ _ _ rfl (World.ownsRow.alloc HPm.out _) ⟨wm.heap.size, 0, none⟩ 1 1 [.string n2] rfl rfl (newS _ _) (by intro u hu; simp only [List.mem_singleton] at hu; subst hu; rfl) (by decide) (by unfold maxLen; omega) (by omega) (by simp; omega) _ rfl ?_
                       intro g8 cap8 w8 hown8 hgrow8 hat8 hlt8
                       have hbm : Below wm.heap.size wm (wm.alloc (.cells #[.string n2] 9)) := (Below.refl _ _).alloc (Nat.le_refl _) _
                       have hLm : ∀ k, (Value.slice aor accR.length ccr).ownBlock = some k → w3.heap.size + 1 ≤ k ∧ k < wm.heap.size := HPm.out.lt
                       have hb8 : Below (w3.heap.size + 1) wm w8 := (hbm.mono (by omega)).grown hgrow8 (by have := hbm.size; omega) (fun k hk => (hLm k hk).1)
                       have HO8 : Hid (OwnL ElS w8 (w3.heap.size + 1) 9 1 (.slice (some ⟨g8, 0, none⟩) (accR.length + 1) cap8) (accR ++ [n2])) := OwnL.add isElS (w := wm) (w1 := wm.alloc (.cells #[.string n2] 9)) (css := css1) (fun k hk => (hLm k hk).2) HPm2.out (fun i hi hi' => isElS.keeps (HPm3.out i hi hi') (Keeps.of_below hbm)) ⟨rfl, hnz2⟩ (by omega) hown8 hgrow8 (hat8.imp (fun h => h.symm) (fun h => congrArg some h))
                       have HB8 : Hid (Below (w3.heap.size + 1) wm w8) := hb8
                       have hX8 : w8.heap[w3.heap.size]? = some (.cells #[.string o, .slice aor accR.length ccr] 56 (0, 0)) := (hb8.block _ (by omega)).trans HXm.out
                       have x8 : w8.cell? ⟨w3.heap.size, 1, none⟩ = some (.slice aor accR.length ccr) := by simp [World.cell?, hX8]
                       have y8 : w8.frozen? ⟨w3.heap.size, 1, none⟩ = false := by simp [World.frozen?, hX8]
                       have HX8 : Hid (w8.heap[w3.heap.size]? = some (.cells #[.string o, .slice aor accR.length ccr] 56 (0, 0))) := hX8
                       clear hbm hLm hb8 hown8 hgrow8 hat8 hX8))
                  all_goals have HFin := rd_fin (K := rdRest e acc o) H.out HGr.out (HGn.out.trans HGm.out) hsz3 HB8.out HX8.out HO8.out hln HSm.out
                  all_goals have HFn : Hid (PlSt wo (w8.setCell ⟨w3.heap.size, 1, none⟩ (.slice (some ⟨g8, 0, none⟩) (accR.length + 1) cap8)) tb e ts v bl al R (rdRest e acc o) w3.heap.size o ∧ rdLeft (w8.setCell ⟨w3.heap.size, 1, none⟩ (.slice (some ⟨g8, 0, none⟩) (accR.length + 1) cap8)) w3.heap.size = 6 - (accR.length + 1)) := HFin
                  all_goals clear HFin x8 y8 xm ym
                  all_goals go_wp2
                  all_goals exact ⟨HFn.out.1, by rw [HFn.out.2, HM.out]; omega⟩
          · have hte : (t0 == 1) = false := by simpa using ht1
            have HT1 : Hid (¬ t0 = 1) := ht1
            clear ht1
            go_wp2
            go_meet
            case rel =>
              refine ⟨none, 0, [], k5, c5, p5, HG6.out, HX6.out, OwnL.nil _ _ _ _ _, Nat.zero_le _, HS6.out.1, ?_⟩
              rcases HS6.out.2 with ⟨h1, h2⟩ | h1
              · refine .inl ⟨h1, ?_⟩
                rw [h2]
                unfold plRest
                rw [HT.out, if_neg HT1.out]
              · exact .inr h1
        case rest =>
          obtain ⟨aor, ccr, accR, k7, c7, p7, hg7, hx7, ho7, hl7, hs7⟩ := hcut.out
          have HG7 : Hid (wo.grownBy wc (some tb)) := hg7
          have HGw : Hid (w.grownBy wc (some tb)) := HGr.out.trans hg7
          have HS7 : Hid (St wc tb e ts v bl al R (fun r => lbRest e acc (o, accR) r) k7 c7 p7) := hs7
          have x0 : wc.cell? ⟨w3.heap.size, 0, none⟩ = some (.string o) := by simp [World.cell?, hx7]
          have x1 : wc.cell? ⟨w3.heap.size, 1, none⟩ = some (.slice aor accR.length ccr) := by simp [World.cell?, hx7]
          have hszc := lt_of_block hx7
          have HE7 : Hid (ElP wc (fun b => wo.heap.size ≤ b) (o, accR) [.string o, .slice aor accR.length ccr]) := by
            refine isElP.mono (S := fun b => w3.heap.size + 1 ≤ b) ?_ (fun b hb _ => by omega)
            exact ⟨_, rfl, HOZ.out, ho7.strs⟩
          obtain ⟨css, o1, o2, o3⟩ := HOr.out.ex
          obtain ⟨css1, pp1, pp2, pp3⟩ := (HOr.out.grown isElP hg7 H.out.lt).ex
          have HP : Hid (wc.ownsRow w.heap.size 56 2 (.slice ao acc.length cc) acc.length css1.flatten) := pp1
          have HP2 : Hid (css1.length = acc.length) := pp2
          have HP3 : Hid (∀ i (h : i < acc.length) (h' : i < css1.length), ElP wc (SB w.heap.size (.slice ao acc.length cc)) acc[i] css1[i]) := pp3
          have hswr : w.heap.size ≤ wo.heap.size := HGr.out.size
          have hsz7 : wo.heap.size ≤ wc.heap.size := hg7.size
          have HL : Hid (∀ k, (Value.slice ao acc.length cc).ownBlock = some k → w.heap.size ≤ k ∧ k < wo.heap.size) := o1.lt
          obtain ⟨i0, hi0, hz0, hz1, hz2⟩ := info_parts Tryz.infoLP
          clear hcut hg7 hx7 ho7 hl7 hs7 o1 o2 o3 pp1 pp2 pp3 HG6 HX6 HS6 hsz6 hf0 HT
          go_wp2_with (at_builtin; refine wpList_append_own_at _ rfl _ _ 23 rfl w.heap.size 56 i0 (.agg #[.string ⟨#[]⟩, .slice none 0 0]) 2 40 Tryz.underlying23 hi0 hz0 hz1 hz2 rfl (by decide) _ _ _ rfl (World.ownsRow.alloc HP.out _) ⟨wc.heap.size, 0, none⟩ 1 1 [.string o, .slice aor accR.length ccr] rfl rfl ?c1 ?c2 ?c3 ?c4 ?c5 ?_)
          case c1 => exact newP _ _
          case c2 => exact isElP.one HE7.out
          case c3 => unfold maxLen; omega
          case c4 => omega
          case c5 => simp; omega
          · intro u' w8 hown8 hgrow8 _ hat8
            have hb7 : Below wc.heap.size wc (wc.alloc (.cells #[.string o, .slice aor accR.length ccr] 56)) := (Below.refl _ _).alloc (Nat.le_refl _) _
            have HB8 : Below w.heap.size wc w8 := (hb7.mono (by omega)).grown hgrow8 (by have := hb7.size; omega) (fun k hk => (HL.out k hk).1)
            have HO8 : Hid (OwnL ElP w8 w.heap.size 56 2 u' (acc ++ [(o, accR)])) := by
              refine OwnL.add isElP (w := wo) (w1 := wc.alloc (.cells #[.string o, .slice aor accR.length ccr] 56)) (css := css1) ?_ HP2.out (fun i hi hi' => isElP.keeps (HP3.out i hi hi') (Keeps.of_below hb7)) (isElP.keeps HE7.out (Keeps.of_below hb7)) hswr hown8 hgrow8 (by simpa using hat8)
              exact fun k hk => (HL.out k hk).2
            have HG8 : Hid (w.grownBy w8 (some tb)) := grown_under HGw.out HB8
            have HS8 : Hid (St w8 tb e ts v bl al R (fun r => lbRest e acc (o, accR) r) k7 c7 p7) := ⟨H.out.past HGw.out HS7.out.1 HB8, HS7.out.2⟩
            obtain ⟨ao8, c8, hu8⟩ := HO8.out.slice
            rw [List.length_append, List.length_singleton] at hu8
            subst hu8
            have hse := seesD [59] HS8.out.1
            rw [sees_at HGd.out (fix_sign (by decide)) (by decide)] at hse
            obtain ⟨r9, hr9⟩ : ∃ r9, isT [59] (ts.drop k7) = r9 := ⟨_, rfl⟩
            have HR9 : Hid (isT [59] (ts.drop k7) = r9) := hr9
            rw [hr9] at hse
            clear hown8 hgrow8 hat8 hb7 HB8 hr9 x0 x1
            go_wp2_with fail
            refine hse.mono ?_
            rintro x w9 ⟨rfl, hb9⟩
            have HS9 : Hid (St w9 tb e ts v bl al R (fun r => lbRest e acc (o, accR) r) k7 c7 p7) := HS8.out.later hb9
            have HG9 : Hid (w.grownBy w9 (some tb)) := grown_under HG8.out (hb9.mono HG8.out.size)
            have HO9 : Hid (OwnL ElP w9 w.heap.size 56 2 (.slice ao8 (acc.length + 1) c8) (acc ++ [(o, accR)])) := HO8.out.below isElP hb9
            clear hse hb9
            cases r9 with
            | false =>
              have hst : St w9 tb e ts v bl al R (fun r => (Par.must e [125] r).bind fun _ r3 => .ok (acc ++ [(o, accR)]) r3) k7 c7 p7 := by
                refine ⟨HS9.out.1, ?_⟩
                rcases HS9.out.2 with ⟨h1, h2⟩ | h1
                · exact .inl ⟨h1, by rw [h2]; exact lb_end HR9.out⟩
                · exact .inr h1
              have hnd := needSt (K := fun r3 => .ok (acc ++ [(o, accR)]) r3) HGd.out (fix_sign (by decide)) (by decide) hst
              clear hst
              go_wp2_with fail
              refine hnd.mono ?_
              rintro x wz ⟨rfl, hgz, kz, cz, pz, hsz⟩
              have HGz : Hid (w9.grownBy wz (some tb)) := hgz
              have HSz : Hid (St wz tb e ts v bl al R (fun r3 => .ok (acc ++ [(o, accR)]) r3) kz cz pz) := hsz
              clear hnd hgz hsz
              go_wp2
              go_ret
              refine ⟨HG9.out.trans HGz.out, ?_⟩
              rcases HSz.out.2 with ⟨h1, h2⟩ | ⟨h1, h2, q, h3, h4⟩
              · have h5 := HSz.out.1
                rw [h1] at h5
                exact .inl ⟨_, _, _, _, h2, rfl, HO9.out.grown isElP HGz.out H.out.lt, h5⟩
              · have h5 := HSz.out.1
                rw [h2, h3] at h5
                exact .inr ⟨_, _, _, h4, rfl, ⟨_, _, _, rfl⟩, h1, h5⟩
            | true =>
              have hk7 : k7 < ts.length := isT_lt (by decide) HR9.out
              have HK7 : Hid (k7 < ts.length) := hk7
              have hon : c7 = 0 ∧ R = lbRest e acc (o, accR) (ts.drop k7) := by
                rcases HS9.out.2 with h1 | ⟨_, h1, _⟩
                · exact h1
                · omega
              obtain ⟨h70, h7R⟩ := hon
              subst h70
              have HRR : Hid (R = lbRest e acc (o, accR) (ts.drop k7)) := h7R
              clear h7R hk7
              by_cases hf : acc.length = 199
              · have hwr := wrongD 2 HS9.out.1
                have HF : Hid (acc.length = 199) := hf
                have h199 : 199 ≤ acc.length := by omega
                have hd : decide ((200 : Int) ≤ (acc.length : Int) + 1) = true := by simp; omega
                clear hf
                go_wp2_with fail
                refine hwr.mono ?_
                rintro x wz ⟨rfl, hwz⟩
                have HWz : Hid (WrP w9 tb e ts v k7 0 p7 bl al 2 wz) := hwz
                clear hwz hwr
                go_wp2
                go_ret
                obtain ⟨h8, h9⟩ := HWz.out
                rw [if_pos rfl, if_pos rfl] at h9
                exact ⟨HG9.out.trans h8, .inr ⟨2, _, _, by rw [HRR.out]; exact lb_full HR9.out HF.out, rfl, ⟨_, _, _, rfl⟩, by decide, h9⟩⟩
              · have hd : decide ((200 : Int) ≤ (acc.length : Int) + 1) = false := by simp; omega
                have hln : acc.length < 199 := by omega
                obtain ⟨q0, q1, _⟩ := HS9.out.1.cells
                have z1 := HS9.out.1.free 1
                have hlt := HS9.out.1.lt
                have hkb : k7 ≤ 100000 := Nat.le_trans HS9.out.1.le HS9.out.1.few
                obtain ⟨hgn, htn⟩ := HS9.out.1.next HK7.out
                have HLN : Hid (LbOn w (w9.setCell ⟨tb, 1, none⟩ (.int .i64 ((k7 : Int) + 1))) tb e ts v bl al R (.slice ao8 (acc.length + 1) c8) (acc.length + 1)) := by
                  refine ⟨acc ++ [(o, accR)], k7 + 1, p7, by simp, HG9.out.trans hgn, HO9.out.grown isElP hgn H.out.lt, htn, ?_⟩
                  rw [HRR.out]
                  exact lb_more HR9.out hln
                clear hf hgn htn
                go_wp2
                refine ⟨⟨ao8, acc.length + 1, c8, rfl, by omega, HLN.out⟩, ?_⟩
                simp only [lenOf]
                omega
    · have hce : (c1 != 0) = true := by simpa using hc
      have HC : Hid (c1 ≠ 0) := hc
      have H2' : Hid (Tx w2 tb e ts v ts.length c1 (q : Int) bl al) := by
        have h9 := H2.out
        rw [h2, h3] at h9
        exact h9
      have HR4 : Hid (R = .no c1 q) := h4
      clear hc h2 h3 h4
      go_wp2
      go_ret
      exact ⟨HG2.out, .inr ⟨_, _, _, HR4.out, rfl, ⟨_, _, _, rfl⟩, HC.out, H2'.out⟩⟩
end Go.Proofs.YtcdeicfegfedfaaGreatDoor
