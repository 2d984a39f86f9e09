/- Rows of channels; contracts of view.Sees and view.Alike. -/
import Derived.Test.YtfhpmnghakhlkaaDoorEyeC
import Derived.Test.YtfhpmnghakhlkaaDoorEvC
import Derived.Test.YtfhpmnghakhlkaaDoorIntC
namespace Go.Proofs.YtfhpmnghakhlkaaDoor
open Go.RowKit

/- A channel: where it stands, its name, whether it comes in, its type, its label's value. -/
abbrev Ch5 := Int × ByteArray × Bool × Int × Value
structure ChV (w : World) (ao : Option Addr) (b off : Nat) (l : List Ch5) : Prop where
  adr : 0 < l.length → ao = some ⟨b, off, none⟩
  c0 : ∀ k (h : k < l.length), w.cell? ⟨b, off + k * 5, none⟩ = some (.int .i64 l[k].1)
  c1 : ∀ k (h : k < l.length), w.cell? ⟨b, off + k * 5 + 1, none⟩ = some (.string l[k].2.1)
  c2 : ∀ k (h : k < l.length), w.cell? ⟨b, off + k * 5 + 2, none⟩ = some (.bool l[k].2.2.1)
  c3 : ∀ k (h : k < l.length), w.cell? ⟨b, off + k * 5 + 3, none⟩ = some (.int .i64 l[k].2.2.2.1)
  c4 : ∀ k (h : k < l.length), w.cell? ⟨b, off + k * 5 + 4, none⟩ = some l[k].2.2.2.2
  lt : 0 < l.length → b < w.heap.size
theorem ChV.later {w w' : World} {ao : Option Addr} {b off : Nat} {l : List Ch5} (h : ChV w ao b off l) (hb : Below w.heap.size w w') : ChV w' ao b off l :=
  ⟨h.adr, fun k hk => (hb.cell (p := ⟨b, off + k * 5, none⟩) (h.lt (by omega))).trans (h.c0 k hk), fun k hk => (hb.cell (p := ⟨b, off + k * 5 + 1, none⟩) (h.lt (by omega))).trans (h.c1 k hk), fun k hk => (hb.cell (p := ⟨b, off + k * 5 + 2, none⟩) (h.lt (by omega))).trans (h.c2 k hk), fun k hk => (hb.cell (p := ⟨b, off + k * 5 + 3, none⟩) (h.lt (by omega))).trans (h.c3 k hk), fun k hk => (hb.cell (p := ⟨b, off + k * 5 + 4, none⟩) (h.lt (by omega))).trans (h.c4 k hk), fun hn => Nat.lt_of_lt_of_le (h.lt hn) hb.size⟩
structure ChL (w : World) (vs : List Ch5) (xs : List (List Pol)) : Prop where
  ln : vs.length = xs.length
  at' : ∀ k (h : k < vs.length) (h' : k < xs.length), LabOf w vs[k].2.2.2.2 xs[k]
theorem ChL.later {w w' : World} {vs : List Ch5} {xs : List (List Pol)} (h : ChL w vs xs) (hb : Below w.heap.size w w') : ChL w' vs xs := ⟨h.ln, fun k hk hk' => (h.at' k hk hk').later hb⟩

def alkF (ls : List ByteArray) (ps : List (ByteArray × ByteArray)) (who : ByteArray) : List (List Pol) → List (List Int) → List (List Int) → Bool × Int
  | x :: xs, p :: a, q :: b => if seesE ls ps who x = 0 then (if (seesV ls ps who x && !decide (p = q)) = true then (false, 0) else alkF ls ps who xs a b) else (false, seesE ls ps who x)
  | _, _, _ => (true, 0)
def alkV (ls : List ByteArray) (ps : List (ByteArray × ByteArray)) (who : ByteArray) (xs : List (List Pol)) (a b : List (List Int)) : Bool × Int :=
  if a.length = xs.length ∧ b.length = xs.length ∧ xs.length ≤ 6 then alkF ls ps who xs a b else (false, 4)
theorem alkF_at {ls : List ByteArray} {ps : List (ByteArray × ByteArray)} {who : ByteArray} {xs : List (List Pol)} {a b : List (List Int)} {k : Nat} (hk : k < xs.length) (ha : k < a.length) (hb : k < b.length) :
    alkF ls ps who (xs.drop k) (a.drop k) (b.drop k) = if seesE ls ps who xs[k] = 0 then (if (seesV ls ps who xs[k] && !decide (a[k] = b[k])) = true then (false, 0) else alkF ls ps who (xs.drop (k + 1)) (a.drop (k + 1)) (b.drop (k + 1))) else (false, seesE ls ps who xs[k]) := by
  rw [List.drop_eq_getElem_cons hk, List.drop_eq_getElem_cons ha, List.drop_eq_getElem_cons hb, alkF]
theorem alkF_end (ls : List ByteArray) (ps : List (ByteArray × ByteArray)) (who : ByteArray) (a b : List (List Int)) : alkF ls ps who [] a b = (true, 0) := by
  unfold alkF; rfl

set_option maxHeartbeats 2000000 in
theorem seesT (ao po lo : Option Addr) (b off b' off' n m c d lb loff ln lc : Nat) (ls : List ByteArray) (ps : List (ByteArray × ByteArray)) (who : ByteArray) (x : List Pol) (w : World) (hc : Chiefs w ao po b off b' off' n m c ls ps) (hx : LabAt w lo lb loff ln lc x) :
    Calls Tryd.prog 16 #[.slice ao n c, .slice po m d, .string who, .slice lo ln lc] w fun e w' => e = .returned (.tuple #[.bool (seesV ls ps who x), .int .i64 (seesE ls ps who x)]) ∧ Below w.heap.size w w' := by
  have eg : ∀ args w, (callFunc 33 args).run Tryd.prog w = .ok (.enter 33 args) w := enters_of Tryd.func33 (by kernel_rfl) rfl
  have hcall := eyeC ao po b off b' off' n m c d ls ps who w hc
  have HC : Hid (Chiefs w ao po b off b' off' n m c ls ps) := hc
  have HX : Hid (LabAt w lo lb loff ln lc x) := hx
  clear hc hx
  go_enter Tryd.func16, Tryd.ntmps16
  go_wp2_with fail
  refine hcall.mono ?_
  rintro e w1 ⟨fv, S, M, rfl, hE, hb1⟩
  have hvis := hE.vis
  have hs1 := seesC S M fv ao po lo b off b' off' n m c d lb loff ln lc ls ps who x w1 (HC.out.later hb1) hE (HX.out.later hb1)
  have HB1 : Hid (Below w.heap.size w w1) := hb1
  clear hcall hE hb1
  subst hvis
  go_wp2_with fail
  refine hs1.mono ?_
  rintro e w2 ⟨rfl, hb2⟩
  have HB2 : Hid (Below w.heap.size w w2) := HB1.out.trans (hb2.mono HB1.out.size)
  clear hs1 hb2
  go_wp2
  go_ret2
  exact ⟨rfl, HB2.out⟩

set_option maxRecDepth 100000 in
set_option maxHeartbeats 4000000 in
theorem alikeC (ao po co xo yo pro : Option Addr) (b off b' off' n m c d cb coff cn cc xb xoff xn xc yb yoff yn yc prn prc : Nat) (ls : List ByteArray) (ps : List (ByteArray × ByteArray)) (who : ByteArray) (vs : List Ch5) (xs : List (List Pol)) (p q : List (List Int)) (w : World)
    (hc : Chiefs w ao po b off b' off' n m c ls ps) (hv : ChV w co cb coff vs) (hl : ChL w vs xs) (hn : cn = xs.length) (hcm : cn ≤ maxLen) (hp : InV w xo xb xoff p) (hpn : xn = p.length) (hpm : xn ≤ maxLen) (hq : InV w yo yb yoff q) (hqn : yn = q.length) (hqm : yn ≤ maxLen) :
    Calls Tryd.prog 17 #[.agg #[.slice ao n c, .slice po m d, .slice co cn cc, .slice pro prn prc], .string who, .slice xo xn xc, .slice yo yn yc] w fun e w' => e = .returned (.tuple #[.bool (alkV ls ps who xs p q).1, .int .i64 (alkV ls ps who xs p q).2]) ∧ Below w.heap.size w w' := by
  obtain ⟨wz, hwz⟩ : ∃ wz, wz = w.alloc (.cells #[.slice ao n c, .slice po m d, .slice co cn cc, .slice pro prn prc] 46) := ⟨_, rfl⟩
  have HBZ : Hid (Below w.heap.size w wz) := by rw [hwz]; exact (Below.refl _ _).alloc (Nat.le_refl _) _
  have HZ : Hid (wz.heap[w.heap.size]? = some (.cells #[.slice ao n c, .slice po m d, .slice co cn cc, .slice pro prn prc] 46 (0, 0))) := by show _ = _; rw [hwz]; exact heap_at_alloc _ _ _ rfl
  have HWZ : Hid (wz = w.alloc (.cells #[.slice ao n c, .slice po m d, .slice co cn cc, .slice pro prn prc] 46)) := hwz
  have HC : Hid (Chiefs wz ao po b off b' off' n m c ls ps) := hc.later HBZ.out
  have HV : Hid (ChV wz co cb coff vs) := hv.later HBZ.out
  have HL : Hid (ChL wz vs xs) := hl.later HBZ.out
  have HP : Hid (InV wz xo xb xoff p) := hp.later HBZ.out
  have HQ : Hid (InV wz yo yb yoff q) := hq.later HBZ.out
  have HN : Hid (cn = xs.length) := hn
  have HPN : Hid (xn = p.length) := hpn
  have HQN : Hid (yn = q.length) := hqn
  unfold maxLen at hcm hpm hqm
  clear hc hv hl hp hq hn hpn hqn hwz
  by_cases hg : xn = cn ∧ yn = cn ∧ cn ≤ 6
  · obtain ⟨g1, g2, g3⟩ := hg
    subst g1 g2
    have HAV : Hid (alkV ls ps who xs p q = alkF ls ps who xs p q) := by
      show _ = _
      unfold alkV
      rw [if_pos]
      have := HN.out
      have := HPN.out
      have := HQN.out
      omega
    rw [HAV.out]
    have hcall := eyeC ao po b off b' off' n m c d ls ps who wz HC.out
    have eg : ∀ args w, (callFunc 33 args).run Tryd.prog w = .ok (.enter 33 args) w := enters_of Tryd.func33 (by kernel_rfl) rfl
    have d6 : decide ((6 : Int) < (yn : Int)) = false := by simp; omega
    have d6' : decide (6 < yn) = false := by simp; omega
    clear hcm hpm hqm HAV
    go_enter Tryd.func17, Tryd.ntmps17
    go_wp2_with fail
    rw [← HWZ.out]
    refine hcall.mono ?_
    rintro e w1 ⟨fv, S, M, rfl, hE, hb1⟩
    have hvis := hE.vis
    have HE : Hid (EyeIs w1 fv S M ao po n m c d who (mineF ls ps who)) := hE
    have HB1 : Hid (Below wz.heap.size wz w1) := hb1
    have k1 := (hb1.block _ (lt_of_block HZ.out)).trans HZ.out
    have z2 : w1.cell? ⟨w.heap.size, 2, none⟩ = some (.slice co yn cc) := by simp [World.cell?, k1]
    have lz : w.heap.size < w1.heap.size := lt_of_block k1
    clear hcall hE hb1 HWZ k1
    subst hvis
    go_wp2
    clear z2 lz d6 d6'
    go_loopw [42] (fun i wr => ∃ k : Nat, k ≤ yn ∧ i = .int .i64 k ∧ Hid (alkF ls ps who (xs.drop k) (p.drop k) (q.drop k) = alkF ls ps who xs p q) ∧ Hid (Below w1.heap.size w1 wr)) (fun i _ => yn - (intOf i).toNat)
    case atStart => exact ⟨0, Nat.zero_le _, rfl, by show _ = _; simp, Below.refl _ _⟩
    case round =>
      obtain ⟨k, hk, rfl, HK, HBR⟩ := hrel
      by_cases hlt : k < yn
      · have hkx : k < xs.length := by have := HN.out; omega
        have hkv : k < vs.length := by have := HL.out.ln; omega
        have hkp : k < p.length := by have := HPN.out; omega
        have hkq : k < q.length := by have := HQN.out; omega
        have hb := HB1.out.trans (HBR.out.mono HB1.out.size)
        have hV := HV.out.later hb
        have hL := HL.out.later hb
        have hco := hV.adr (by omega)
        have f0 := hV.c0 k hkv
        have f1 := hV.c1 k hkv
        have f2 := hV.c2 k hkv
        have f3 := hV.c3 k hkv
        have f4 := hV.c4 k hkv
        have hlb := hL.at' k hkv hkx
        have hst := alkF_at (ls := ls) (ps := ps) (who := who) hkx hkp hkq
        obtain ⟨v0, hv0⟩ : ∃ v, v = vs[k].1 := ⟨_, rfl⟩
        obtain ⟨v1, hv1⟩ : ∃ v, v = vs[k].2.1 := ⟨_, rfl⟩
        obtain ⟨v2, hv2⟩ : ∃ v, v = vs[k].2.2.1 := ⟨_, rfl⟩
        obtain ⟨v3, hv3⟩ : ∃ v, v = vs[k].2.2.2.1 := ⟨_, rfl⟩
        rw [← hv0] at f0
        rw [← hv1] at f1
        rw [← hv2] at f2
        rw [← hv3] at f3
        obtain ⟨go, gb, goff, gn, gc, hgv, hgl⟩ := hlb
        rw [hgv] at f4
        obtain ⟨x, hx⟩ : ∃ x, x = xs[k] := ⟨_, rfl⟩
        rw [← hx] at hgl hst
        obtain ⟨wy, hwy⟩ : ∃ wy, wy = wr.alloc (.cells #[.int .i64 v0, .string v1, .bool v2, .int .i64 v3, .slice go gn gc] 54) := ⟨_, rfl⟩
        have hby : Below wr.heap.size wr wy := by rw [hwy]; exact (Below.refl _ _).alloc (Nat.le_refl _) _
        have hby1 : Below w1.heap.size w1 wy := HBR.out.trans (hby.mono HBR.out.size)
        have hbyz : Below wz.heap.size wz wy := HB1.out.trans (hby1.mono HB1.out.size)
        have hs1 := seesC S M _ ao po go b off b' off' n m c d gb goff gn gc ls ps who x wy (HC.out.later hbyz) (HE.out.later hby1) (hgl.later hby)
        have HWY : Hid (wy = wr.alloc (.cells #[.int .i64 v0, .string v1, .bool v2, .int .i64 v3, .slice go gn gc] 54)) := hwy
        have HBY : Hid (Below w1.heap.size w1 wy) := hby1
        obtain ⟨e1, he1⟩ : ∃ e1, e1 = seesE ls ps who x := ⟨_, rfl⟩
        obtain ⟨t1, ht1⟩ : ∃ t1, t1 = seesV ls ps who x := ⟨_, rfl⟩
        rw [← he1] at hs1 hst
        rw [← ht1] at hs1 hst
        clear hV hL hv0 hv1 hv2 hv3 hgv hgl hx hwy hby hby1 hbyz he1 ht1 hb
        subst hco
        by_cases h1 : e1 = 0
        · subst h1
          rw [if_pos rfl] at hst
          go_wp2_with fail
          rw [← HWY.out]
          refine hs1.mono ?_
          rintro e w3 ⟨rfl, hb3⟩
          have HB3 : Hid (Below w1.heap.size w1 w3) := HBY.out.trans (hb3.mono HBY.out.size)
          clear hb3 hs1 HWY HBY HBR
          cases t1
          · rw [Bool.false_and, if_neg (by decide)] at hst
            have HST : Hid (alkF ls ps who (xs.drop (k + 1)) (p.drop (k + 1)) (q.drop (k + 1)) = alkF ls ps who xs p q) := by show _ = _; rw [← HK.out, hst]
            clear hst
            go_upto_region 11 with fail
            go_quiet (fail)
            have HBN : Hid (Below w1.heap.size w1 (w3.drewN nq)) := HB3.out.trans ((below_drewN w3 nq).mono HB3.out.size)
            go_wp2
            go_roundw
            case rel => exact ⟨k + 1, by omega, by go_num, HST, HBN⟩
            case measure => simp [intOf]; omega
          · have hb := HB1.out.trans (HB3.out.mono HB1.out.size)
            have hP := HP.out.later hb
            have hQ := HQ.out.later hb
            have hxo := hP.adr (by omega)
            have hyo := hQ.adr (by omega)
            obtain ⟨pv, g0, hg0⟩ := hP.at' k hkp
            obtain ⟨qv, g1, hg1⟩ := hQ.at' k hkq
            obtain ⟨po', pb, poff, pc, hpv, hpl, hpi⟩ := hg0
            obtain ⟨qo', qb, qoff, qc, hqv, hql, hqi⟩ := hg1
            subst hpv hqv
            have HEQ : Hid (∀ q', Calls Tryd.prog 20 #[.slice po' p[k].length pc, .slice qo' q[k].length qc] (w3.drewN q') fun e w' => e = .returned (.bool (decide (p[k] = q[k]))) ∧ ∃ q, w' = (w3.drewN q').drewN q) := fun q' =>
              eqInts po' qo' pb poff qb qoff p[k].length q[k].length pc qc p[k] q[k] (w3.drewN q') rfl rfl hpl hql (hpi.later (below_drewN _ _)) (hqi.later (below_drewN _ _))
            obtain ⟨N1, hN1⟩ : ∃ N, N = p[k].length := ⟨_, rfl⟩
            obtain ⟨N2, hN2⟩ : ∃ N, N = q[k].length := ⟨_, rfl⟩
            obtain ⟨t2, ht2⟩ : ∃ t, t = decide (p[k] = q[k]) := ⟨_, rfl⟩
            rw [← hN1] at g0 HEQ
            rw [← hN2] at g1 HEQ
            rw [← ht2] at hst HEQ
            rw [Bool.true_and] at hst
            clear hb hP hQ hpl hpi hql hqi hN1 hN2 ht2
            subst hxo hyo
            go_upto_region 11 with fail
            cases t2
            · have HES : Hid (alkF ls ps who xs p q = (false, 0)) := by show _ = _; rw [← HK.out, hst]; rfl
              clear hst
              go_quiet ((go_at_call 20; exact Calls.quiet_of (HEQ.out _)))
              have HBN : Hid (Below w.heap.size w (w3.drewN nq)) := HBZ.out.trans ((HB1.out.trans ((HB3.out.trans ((below_drewN w3 nq).mono HB3.out.size)).mono HB1.out.size)).mono HBZ.out.size)
              go_wp2
              go_ret2
              refine ⟨?_, HBN.out⟩
              rw [HES.out]; rfl
            · have HST : Hid (alkF ls ps who (xs.drop (k + 1)) (p.drop (k + 1)) (q.drop (k + 1)) = alkF ls ps who xs p q) := by show _ = _; rw [← HK.out, hst]; rfl
              clear hst
              go_quiet ((go_at_call 20; exact Calls.quiet_of (HEQ.out _)))
              have HBN : Hid (Below w1.heap.size w1 (w3.drewN nq)) := HB3.out.trans ((below_drewN w3 nq).mono HB3.out.size)
              go_wp2
              go_roundw
              case rel => exact ⟨k + 1, by omega, by go_num, HST, HBN⟩
              case measure => simp [intOf]; omega
        · have HES : Hid (alkF ls ps who xs p q = (false, e1)) := by show _ = _; rw [← HK.out, hst, if_neg h1]
          have bn : (e1 == 0) = false := by simp [h1]
          have bb : (e1 != 0) = true := by simp [h1]
          clear hst h1
          go_wp2_with fail
          rw [← HWY.out]
          refine hs1.mono ?_
          rintro e w3 ⟨rfl, hb3⟩
          have HBE : Hid (Below w.heap.size w w3) := HBZ.out.trans ((HB1.out.trans ((HBY.out.trans (hb3.mono HBY.out.size)).mono HB1.out.size)).mono HBZ.out.size)
          clear hb3 hs1
          go_wp2
          go_ret2
          refine ⟨?_, HBE.out⟩
          rw [HES.out]; rfl
      · have HES : Hid (alkF ls ps who xs p q = (true, 0)) := by
          show _ = _
          rw [← HK.out, List.drop_of_length_le (by have := HN.out; omega), alkF_end]
        have HBE : Hid (Below w.heap.size w wr) := HBZ.out.trans ((HB1.out.trans (HBR.out.mono HB1.out.size)).mono HBZ.out.size)
        go_wp2
        go_ret2
        refine ⟨?_, HBE.out⟩
        rw [HES.out]; rfl
  · have HAV : Hid (alkV ls ps who xs p q = (false, 4)) := by
      show _ = _
      unfold alkV
      rw [if_neg]
      intro h
      apply hg
      have := HN.out
      have := HPN.out
      have := HQN.out
      omega
    rw [HAV.out]
    simp only
    by_cases h1 : xn = cn
    · by_cases h2 : yn = cn
      · have b1 : ((xn : Int) == (cn : Int)) = true := by simp; omega
        have b1' : ((xn : Int) != (cn : Int)) = false := by simp; omega
        have b2 : ((yn : Int) == (cn : Int)) = true := by simp; omega
        have b2' : ((yn : Int) != (cn : Int)) = false := by simp; omega
        have d6 : decide ((6 : Int) < (cn : Int)) = true := by simp; omega
        have d6' : decide (6 < cn) = true := by simp; omega
        subst h1 h2
        go_enter Tryd.func17, Tryd.ntmps17
        go_wp2
        go_ret2
        refine ⟨rfl, ?_⟩
        rw [← HWZ.out]; exact HBZ.out
      · have b1 : ((xn : Int) == (cn : Int)) = true := by simp; omega
        have b1' : ((xn : Int) != (cn : Int)) = false := by simp; omega
        have b2 : ((yn : Int) == (cn : Int)) = false := by simp; omega
        have b2' : ((yn : Int) != (cn : Int)) = true := by simp; omega
        go_enter Tryd.func17, Tryd.ntmps17
        go_wp2
        go_ret2
        refine ⟨rfl, ?_⟩
        rw [← HWZ.out]; exact HBZ.out
    · have b1 : ((xn : Int) == (cn : Int)) = false := by simp; omega
      have b1' : ((xn : Int) != (cn : Int)) = true := by simp; omega
      go_enter Tryd.func17, Tryd.ntmps17
      go_wp2
      go_ret2
      refine ⟨rfl, ?_⟩
      rw [← HWZ.out]; exact HBZ.out
end Go.Proofs.YtfhpmnghakhlkaaDoor
