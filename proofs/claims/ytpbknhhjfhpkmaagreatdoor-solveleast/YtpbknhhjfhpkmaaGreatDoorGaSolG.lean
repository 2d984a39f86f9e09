/- Contract of solve's court.set: a label as bits. Contract of solve.gather: the court. -/
import Derived.Test.YtpbknhhjfhpkmaaGreatDoorGaSolE
import Derived.Test.YtpbknhhjfhpkmaaGreatDoorGaLabW
import Derived.Test.YtpbknhhjfhpkmaaGreatDoorForC
namespace Go.Proofs.YtpbknhhjfhpkmaaGreatDoor
open Go.RowKit

def putS (s : Nat → Nat) (o r : Nat) : Nat → Nat := fun i => if i = o then s i ||| 2 ^ r else s i
def polR (ls : List ByteArray) (p : Pol) : Nat := strike (Sol.grp ls p.2) (2 ^ Act.pos ls p.1)
def setF (ls : List ByteArray) (x : List Pol) : Nat → Nat := x.foldl (fun s p => putS s (Act.pos ls p.1) (polR ls p)) (fun _ => 0)
theorem setF_step {ls : List ByteArray} {x : List Pol} {k : Nat} (hk : k < x.length) : setF ls (x.take (k + 1)) = putS (setF ls (x.take k)) (Act.pos ls x[k].1) (polR ls x[k]) := by
  unfold setF
  rw [List.take_succ_eq_append_getElem hk, List.foldl_append]
  rfl
theorem polR_lt {ls : List ByteArray} (h6 : ls.length ≤ 6) {p : Pol} (hp : Lab.Of ls p) : polR ls p < 64 := strike_lt (n := 6) (grp_small h6 hp.2)
theorem putS_ok {s : Nat → Nat} (hs : SetOK s) {r : Nat} (hr : r < 64) (o : Nat) : SetOK (putS s o r) := by
  intro i
  unfold putS
  split
  · have h1 : s i < 2 ^ 64 := Nat.lt_of_lt_of_le (hs i) (by decide)
    have h2 : 2 ^ r < 2 ^ 64 := Nat.pow_lt_pow_right (by omega) hr
    exact Nat.lt_of_lt_of_le (Nat.or_lt_two_pow h1 h2) (by decide)
  · exact hs i
theorem setF_ok {ls : List ByteArray} (h6 : ls.length ≤ 6) {x : List Pol} (hx : Lab.OfL ls x) : SetOK (setF ls x) := by
  unfold setF
  have key : ∀ (l : List Pol) (s : Nat → Nat), (∀ p ∈ l, Lab.Of ls p) → SetOK s → SetOK (l.foldl (fun s p => putS s (Act.pos ls p.1) (polR ls p)) s) := by
    intro l
    induction l with
    | nil => intro s _ hs; exact hs
    | cons p r ih => intro s hl hs; exact ih _ (fun q hq => hl q (by simp [hq])) (putS_ok hs (polR_lt h6 (hl p (by simp))) _)
  exact key x _ hx (fun _ => by decide)
/- It has just the label's policies. -/
theorem strike_is {ls : List ByteArray} {p : Pol} {g : Nat} : polR ls p = g ↔ Sol.IsStrike (Sol.grp ls p.2) (Act.pos ls p.1) g := by
  have h0 : Sol.IsStrike (Sol.grp ls p.2) (Act.pos ls p.1) (polR ls p) := fun i => by
    unfold polR
    rw [strike_bit, Nat.testBit_two_pow, Bool.and_eq_true]
    simp only [Bool.not_eq_true', decide_eq_false_iff_not]
    exact ⟨fun ⟨h1, h2⟩ => ⟨h1, fun e => h2 e.symm⟩, fun ⟨h1, h2⟩ => ⟨h1, fun e => h2 e.symm⟩⟩
  constructor
  · intro h; rw [← h]; exact h0
  · intro h
    apply Nat.eq_of_testBit_eq
    intro i
    cases ha : (polR ls p).testBit i with
    | true => exact ((h i).2 ((h0 i).1 ha)).symm
    | false =>
      cases hb : g.testBit i with
      | false => rfl
      | true => rw [(h0 i).2 ((h i).1 hb)] at ha; cases ha
theorem setF_is (ls : List ByteArray) (x : List Pol) : Sol.IsSet ls x (setF ls x) := by
  intro o g
  unfold setF
  have key : ∀ (l : List Pol) (s : Nat → Nat), ((l.foldl (fun s p => putS s (Act.pos ls p.1) (polR ls p)) s) o).testBit g = true ↔ (s o).testBit g = true ∨ ∃ p ∈ l, Act.pos ls p.1 = o ∧ Sol.IsStrike (Sol.grp ls p.2) o g := by
    intro l
    induction l with
    | nil => intro s; simp
    | cons p r ih =>
      intro s
      rw [List.foldl_cons, ih]
      have hp : ((putS s (Act.pos ls p.1) (polR ls p)) o).testBit g = true ↔ (s o).testBit g = true ∨ (Act.pos ls p.1 = o ∧ Sol.IsStrike (Sol.grp ls p.2) o g) := by
        unfold putS
        split
        · rename_i e
          rw [Nat.testBit_or, Bool.or_eq_true, Nat.testBit_two_pow, decide_eq_true_eq, strike_is, ← e]
          simp
        · rename_i e
          constructor
          · exact .inl
          · rintro (h | ⟨h, _⟩)
            · exact h
            · exact absurd h.symm e
      rw [hp]
      constructor
      · rintro ((h | h) | ⟨p', h1, h2⟩)
        · exact .inl h
        · exact .inr ⟨p, by simp, h⟩
        · exact .inr ⟨p', by simp [h1], h2⟩
      · rintro (h | ⟨p', h1, h2⟩)
        · exact .inl (.inl h)
        · rcases List.mem_cons.1 h1 with rfl | h1
          · exact .inl (.inr h2)
          · exact .inr ⟨p', h1, h2⟩
  rw [key]
  simp

structure StSt (w wr : World) (s : Nat → Nat) : Prop where
  bel : Below w.heap.size w wr
  res : SetAt wr w.heap.size (fun _ => 0)
  own : SetAt wr (w.heap.size + 1) s
theorem StSt.later {w wr w' : World} {s : Nat → Nat} (h : StSt w wr s) (hb : Below wr.heap.size wr w') : StSt w w' s := ⟨h.bel.trans (hb.mono h.bel.size), h.res.later hb, h.own.later hb⟩
theorem StSt.put {w wr : World} {s : Nat → Nat} (h : StSt w wr s) {o : Nat} (ho : o < 6) {r : Nat} : StSt w (wr.setCell ⟨w.heap.size + 1, o, none⟩ (.int .u64 ((s o ||| 2 ^ r : Nat) : Int))) (putS s o r) := by
  have e : putS s o r = fun j => if j = o then s o ||| 2 ^ r else s j := by
    funext j
    unfold putS
    by_cases hj : j = o
    · subst hj; rfl
    · rw [if_neg hj, if_neg hj]
  rw [e]
  exact ⟨h.bel.setCell (by simp) _, heap_past_set h.res (by simp), h.own.set ho _⟩
theorem pow_mod64 {i : Nat} (hi : i < 64) : (2 : Int) ^ i % 18446744073709551616 = ((2 ^ i : Nat) : Int) := by
  have h : (2 : Nat) ^ i < 18446744073709551616 := Nat.lt_of_lt_of_le (Nat.pow_lt_pow_right (by omega) hi) (by decide)
  have e2 : (2 : Int) ^ i = ((2 ^ i : Nat) : Int) := by exact_mod_cast rfl
  rw [e2]
  obtain ⟨K, hK⟩ : ∃ K : Nat, K = 2 ^ i := ⟨_, rfl⟩
  rw [← hK] at h ⊢
  omega

set_option maxRecDepth 100000 in
set_option maxHeartbeats 4000000 in
theorem setCt (q : Nat) (ao lo : Option Addr) (b off n c lb loff ln lc : Nat) (A : Nat → Nat) (ls : List ByteArray) (x : List Pol) (w : World) (hc : CrtAt w q ao n c A) (hn : n = ls.length) (h6 : n ≤ 6) (hs : Strs w ao b off ls) (hx : LabAt w lo lb loff ln lc x) (hof : Lab.OfL ls x) :
    Calls Tryz.prog 39 #[.pointer (some ⟨q, 0, none⟩), .slice lo ln lc] w fun e w' => e = .returned (.agg (setA (setF ls x))) ∧ Below w.heap.size w w' := by
  have HI : Hid ((Tryz.prog.info? 54).map (·.size) = some 6) := Tryz.infoSet
  have HC : Hid (CrtAt w q ao n c A) := hc
  have HN : Hid (n = ls.length) := hn
  have HS : Hid (Strs w ao b off ls) := hs
  have HX : Hid (LabAt w lo lb loff ln lc x) := hx
  have HOF : Hid (Lab.OfL ls x) := hof
  have hlm := hx.mn
  unfold maxLen at hlm
  obtain ⟨wz, hwz⟩ : ∃ wz, wz = (w.alloc (.cells (setA fun _ => 0) 54)).alloc (.cells (setA fun _ => 0) 54) := ⟨_, rfl⟩
  have HST : Hid (StSt w wz (setF ls (x.take 0))) := by
    refine ⟨by rw [hwz]; exact ((Below.refl _ _).alloc (Nat.le_refl _) _).alloc (by simp) _, ?_, ?_⟩
    · show wz.heap[_]? = _
      rw [hwz]; exact heap_past_alloc (heap_at_alloc _ _ _ rfl)
    · show wz.heap[_]? = _
      rw [hwz]; exact heap_at_alloc _ _ _ (by simp)
  have HWZ : Hid (wz = (w.alloc (.cells #[.int .u64 0, .int .u64 0, .int .u64 0, .int .u64 0, .int .u64 0, .int .u64 0] 54)).alloc (.cells #[.int .u64 0, .int .u64 0, .int .u64 0, .int .u64 0, .int .u64 0, .int .u64 0] 54)) := hwz
  clear hc hn hs hx hof hwz
  go_enter Tryz.func39, Tryz.ntmps39
  go_wp2
  rw [← HWZ.out]
  clear HWZ
  go_loopw [12] (fun i wr => ∃ k : Nat, k ≤ ln ∧ i = .int .i64 k ∧ Hid (StSt w wr (setF ls (x.take k)))) (fun i _ => ln - (intOf i).toNat)
  case atStart => exact ⟨0, Nat.zero_le _, rfl, HST⟩
  case round =>
    clear HST
    obtain ⟨k, hk, rfl, HP⟩ := hrel
    by_cases hlt : k < ln
    · have hkl : k < x.length := by have := HX.out.ln; omega
      have hX := HX.out.later HP.out.bel
      have hlo := hX.pols.adr (by omega)
      have f0 := hX.pols.c0 k hkl
      obtain ⟨pv, f1, hpv⟩ := hX.pols.c1 k hkl
      have hst := setF_step (ls := ls) hkl
      have hpo := HOF.out _ (List.getElem_mem hkl)
      obtain ⟨p, hp⟩ : ∃ p, p = x[k] := ⟨_, rfl⟩
      rw [← hp] at f0 hpv hst hpo
      obtain ⟨o, rs⟩ := p
      simp only at f0 hpv hst
      obtain ⟨ro, rb, roff, rc, hv1, hv2, hv3, hrs⟩ := hpv
      subst hv1
      obtain ⟨wy, hwy⟩ : ∃ wy, wy = wr.alloc (.cells #[.string o, .slice ro rs.length rc] 63) := ⟨_, rfl⟩
      have hby : Below wr.heap.size wr wy := by rw [hwy]; exact (Below.refl _ _).alloc (Nat.le_refl _) _
      have ky : wy.heap[wr.heap.size]? = some (.cells #[.string o, .slice ro rs.length rc] 63 (0, 0)) := by rw [hwy]; exact heap_at_alloc _ _ _ rfl
      have hbyw : Below w.heap.size w wy := HP.out.bel.trans (hby.mono HP.out.bel.size)
      have hom : o ∈ ls := hpo.1
      have hpl := Act.pos_lt hom
      have HIX : Hid (∀ m, Calls Tryz.prog 60 #[.slice ao n c, .string o] (wy.drewN m) fun e w' => e = .returned (.int .i64 (Act.pos ls o : Int)) ∧ w' = wy.drewN m) := fun m => by
        have h := index_any ao b off n c ls o (wy.drewN m) HN.out (by unfold maxLen; omega) (HS.out.later (hbyw.trans ((below_drewN wy m).mono hbyw.size)))
        rw [Act.posI_mem hom] at h; exact h
      have HSY : Hid (StSt w wy (setF ls (x.take k))) := HP.out.later hby
      have hcy := HC.out.later hbyw
      have y0 : wy.cell? ⟨wr.heap.size, 0, none⟩ = some (.string o) := by simp [World.cell?, ky]
      have q0 := hcy.c0
      have lqy := lt_of_block hcy.blk
      have lyy := lt_of_block ky
      have HWY : Hid (wy = wr.alloc (.cells #[.string o, .slice ro rs.length rc] 63)) := hwy
      have HBY : Hid (Below w.heap.size w wy) := hbyw
      have HKY : Hid (wy.heap[wr.heap.size]? = some (.cells #[.string o, .slice ro rs.length rc] 63 (0, 0))) := ky
      have HRS : Hid (Strs wy ro rb roff rs) := hrs.later hby
      have HPO : Hid (Lab.Of ls (o, rs)) := hpo
      have HPP : Hid (polR ls (o, rs) = strike (Sol.grp ls rs) (2 ^ Act.pos ls o)) := rfl
      have hr64 := polR_lt (by have := HN.out; omega) hpo
      obtain ⟨P, hP⟩ : ∃ P, P = Act.pos ls o := ⟨_, rfl⟩
      rw [← hP] at HIX hst hpl HPP
      have hp6 : P < 6 := by have := HN.out; omega
      obtain ⟨N1, hN1⟩ : ∃ N, N = rs.length := ⟨_, rfl⟩
      rw [← hN1] at HWY HKY f1 hv2
      have HN1 : Hid (N1 = rs.length) := hN1
      have hN1m : N1 ≤ maxLen := by omega
      clear hX hp hpo hrs hwy hby ky hbyw hom hcy hP hN1
      subst hlo
      go_upto_region 5 with fail
      rw [← HWY.out]
      clear HWY
      go_quiet ((go_at_call 60; exact Calls.quiet_of_same (HIX.out _)))
      obtain ⟨wv, hwv⟩ : ∃ wv, wv = wy.drewN nq := ⟨_, rfl⟩
      have hbv : Below wy.heap.size wy wv := by rw [hwv]; exact below_drewN wy nq
      have HSV : Hid (StSt w wv (setF ls (x.take k))) := HSY.out.later hbv
      have hBV := HBY.out.trans (hbv.mono HBY.out.size)
      have kv := (hbv.block _ (lt_of_block HKY.out)).trans HKY.out
      have y1 : wv.cell? ⟨wr.heap.size, 1, none⟩ = some (.slice ro N1 rc) := by simp [World.cell?, kv]
      have lyv := lt_of_block kv
      have hgr := groupC q ao ro b off rb roff n c N1 rc A ls rs wv (HC.out.later hBV) HN.out h6 (HS.out.later hBV) HN1.out hN1m (HRS.out.later hbv) HPO.out.2
      have hal := aloneC P wv (by omega)
      rw [← hwv]
      clear hwv hbv hBV kv y0 q0 lqy lyy HIX HSY HKY
      have hgs := grp_small (ls := ls) (by have := HN.out; omega) HPO.out.2
      have hP2 : 2 ^ P < 64 := Nat.lt_of_lt_of_le (Nat.pow_lt_pow_right (by omega) hp6) (by decide)
      obtain ⟨G, hG⟩ : ∃ G, G = Sol.grp ls rs := ⟨_, rfl⟩
      obtain ⟨Q, hQ⟩ : ∃ Q, Q = 2 ^ P := ⟨_, rfl⟩
      rw [← hG] at hgr hgs HPP
      rw [← hQ] at hal hP2 HPP
      have han := andnot8 (a := G) (b := Q) (by omega) (by omega)
      rw [← HPP.out] at han
      obtain ⟨R, hR⟩ : ∃ R, R = polR ls (o, rs) := ⟨_, rfl⟩
      rw [← hR] at han hst hr64
      have hsh := pow_mod64 hr64
      obtain ⟨s, hsd⟩ : ∃ s, s = setF ls (x.take k) := ⟨_, rfl⟩
      have HSO : Hid (SetOK s) := by rw [hsd]; exact setF_ok (by have := HN.out; omega) fun p hp => HOF.out p (List.mem_of_mem_take hp)
      rw [← hsd] at HSV hst
      have g1 := HSV.out.own.cell hp6
      have g2 := HSV.out.own.free P
      have lg := lt_of_block HSV.out.own
      have hpr : 2 ^ R < 18446744073709551616 := Nat.lt_of_lt_of_le (Nat.pow_lt_pow_right (by omega) hr64) (by decide)
      have hor := bits_or_u64_nat (s P) (2 ^ R) (HSO.out P) hpr
      have HPUT : Hid (StSt w (wv.setCell ⟨w.heap.size + 1, P, none⟩ (.int .u64 ((s P ||| 2 ^ R : Nat) : Int))) (setF ls (x.take (k + 1)))) := by rw [hst]; exact HSV.out.put hp6
      obtain ⟨a, ha⟩ : ∃ a, a = s P := ⟨_, rfl⟩
      obtain ⟨M, hM⟩ : ∃ M, M = 2 ^ R := ⟨_, rfl⟩
      rw [← ha] at g1 hor HPUT
      rw [← hM] at hor HPUT hsh
      obtain ⟨V, hV⟩ : ∃ V, V = a ||| M := ⟨_, rfl⟩
      rw [← hV] at hor HPUT
      have i1 : (P : Int) < 6 := by omega
      have HBE : Hid (bits .or .u64 (a : Int) (IntKind.u64.wrap (2 ^ R)) = (V : Int)) := by show _ = _; rw [IntKind.wrap_u64, hsh, hor]
      clear hG hQ hR hsd ha hM hV hst hgs hP2 hpr HPP hsh hor
      go_wp2_with fail
      refine hgr.mono ?_
      rintro e w1 ⟨rfl, hw⟩
      have hw' := hw.symm
      subst hw'
      go_wp2_with fail
      refine hal.mono ?_
      rintro e w1 ⟨rfl, hw⟩
      have hw' := hw.symm
      subst hw'
      go_wp2
      go_roundw
      case rel =>
        refine ⟨k + 1, by omega, by go_num, ?_⟩
        rw [HBE.out]
        exact HPUT
      case measure => simp [intOf]; omega
    · have HE : Hid (setF ls (x.take k) = setF ls x) := by
        show _ = _
        rw [List.take_of_length_le (by have := HX.out.ln; omega)]
      rw [HE.out] at HP
      have hres := HP.out.res
      have hown := HP.out.own
      have l0 := lt_of_block hres
      have l1 := lt_of_block hown
      go_upto_region 9 with fail
      refine wp_region_lit ?_
      refine wpList_load_row rfl 54 _ rfl (w.heap.size + 1) rfl 54 (setA (setF ls x)) (0, 0) _ HP.out.own Tryz.underlying54 rfl (by rw [HI.out, setA_size]) ?_
      refine wpList_store_row rfl 54 _ _ rfl w.heap.size (setA (setF ls x)) rfl rfl 54 _ HP.out.res (by rw [HI.out, setA_size]) (by rw [setA_size, setA_size]) (setA_one _) ?_
      have HW : Hid ((wr.setRow w.heap.size (setA (setF ls x))).heap[w.heap.size]? = some (.cells (setA (setF ls x)) 54 (0, 0))) := setRow_heap _ _ _ _ _ _ HP.out.res
      have HB : Hid (Below w.heap.size w (wr.setRow w.heap.size (setA (setF ls x)))) := below_setRow' HP.out.bel (Nat.le_refl _) _
      obtain ⟨wz, hwz⟩ : ∃ wz, wz = wr.setRow w.heap.size (setA (setF ls x)) := ⟨_, rfl⟩
      rw [← hwz] at HW HB ⊢
      obtain ⟨TT, hTT⟩ : ∃ TT, TT = setA (setF ls x) := ⟨_, rfl⟩
      have HZ : Hid (TT.size = 6) := by show _ = _; rw [hTT, setA_size]
      have HTT : Hid (TT = setA (setF ls x)) := hTT
      rw [← hTT] at HW ⊢
      clear hwz hTT
      go_wp2_with fail
      refine bodyPost_ret (v := .agg TT) (results_cell_row rfl _ _ w.heap.size 54 TT (0, 0) _ rfl HW.out Tryz.underlying54 rfl (by rw [HI.out, HZ.out])) rfl ⟨by rw [HTT.out], HB.out⟩
end Go.Proofs.YtpbknhhjfhpkmaaGreatDoor

namespace Go.Proofs.YtpbknhhjfhpkmaaGreatDoor
open Go.RowKit

/- Of each chief, by its place, who acts for it. -/
def actG (ls : List ByteArray) (ps : List (ByteArray × ByteArray)) (i : Nat) : Nat := if h : i < ls.length then Sol.grp ls (Act.forF ls ps ls[i]) else 0
theorem actG_lt {ls : List ByteArray} (h6 : ls.length ≤ 6) (ps : List (ByteArray × ByteArray)) (i : Nat) : actG ls ps i < 64 := by
  unfold actG
  split
  · exact grp_small h6 fun s hs => (List.mem_filter.1 hs).1
  · omega
theorem actG_is {ls : List ByteArray} {ps : List (ByteArray × ByteArray)} (hr : Act.Right ls ps) : Sol.Acting ls ps (actG ls ps) := by
  intro i j hi hj
  unfold actG
  rw [dif_pos hi, Sol.grp_bit]
  constructor
  · rintro ⟨s, hs, e⟩
    obtain ⟨h1, h2⟩ := (Act.forF_mem hr (List.getElem_mem hi)).1 hs
    have : s = ls[j] := by
      have h3 := Act.at_pos h1
      simp only [e] at h3
      exact h3.symm
    rw [← this]; exact h2
  · intro h
    exact ⟨ls[j], (Act.forF_mem hr (List.getElem_mem hi)).2 ⟨List.getElem_mem hj, h⟩, Act.pos_at hr.nd hj⟩
theorem crtA_set (ao : Option Addr) (n c : Nat) (A : Nat → Nat) {i : Nat} (hi : i < 6) (v : Nat) : (crtA ao n c A).setIfInBounds (1 + i) (.int .u8 (v : Int)) = crtA ao n c (fun j => if j = i then v else A j) := by
  match i, hi with
  | 0, _ => rfl
  | 1, _ => rfl
  | 2, _ => rfl
  | 3, _ => rfl
  | 4, _ => rfl
  | 5, _ => rfl
structure GatSt (w wr : World) (ao : Option Addr) (n c : Nat) (A : Nat → Nat) : Prop where
  bel : Below w.heap.size w wr
  crt : CrtAt wr w.heap.size ao n c A
theorem GatSt.later {w wr w' : World} {ao : Option Addr} {n c : Nat} {A : Nat → Nat} (h : GatSt w wr ao n c A) (hb : Below wr.heap.size wr w') : GatSt w w' ao n c A := ⟨h.bel.trans (hb.mono h.bel.size), h.crt.later hb⟩
theorem GatSt.put {w wr : World} {ao : Option Addr} {n c : Nat} {A : Nat → Nat} (h : GatSt w wr ao n c A) {i : Nat} (hi : i < 6) {v : Nat} (hv : v < 64) : GatSt w (wr.setCell ⟨w.heap.size, 1 + i, none⟩ (.int .u8 (v : Int))) ao n c (fun j => if j = i then v else A j) := by
  refine ⟨h.bel.setCell (by simp) _, ?_, fun j => ?_⟩
  · rw [heap_setCell_same wr _ _ _ _ _ h.crt.blk, crtA_set ao n c A hi]
  · show (if j = i then v else A j) < 64
    split
    · exact hv
    · exact h.crt.ok j
theorem GatSt.drew {w wr : World} {ao : Option Addr} {n c : Nat} {A : Nat → Nat} (h : GatSt w wr ao n c A) : GatSt w wr.drew ao n c A := ⟨⟨h.bel.os, h.bel.tape, h.bel.output, h.bel.size, h.bel.block⟩, h.crt.blk, h.crt.ok⟩
theorem below_dr' (w : World) : Below w.heap.size w w.drew := ⟨rfl, rfl, rfl, Nat.le_refl _, fun _ _ => rfl⟩

set_option maxRecDepth 100000 in
set_option maxHeartbeats 4000000 in
theorem gatherC (ao po : Option Addr) (b off b' off' n m c d : Nat) (ls : List ByteArray) (ps : List (ByteArray × ByteArray)) (w : World) (hc : Chiefs w ao po b off b' off' n m c ls ps) (h0 : checkF ls ps = 0) :
    Calls Tryz.prog 19 #[.slice ao n c, .slice po m d] w fun e w' => e = .returned (.pointer (some ⟨w.heap.size, 0, none⟩)) ∧ CrtAt w' w.heap.size ao n c (actG ls ps) ∧ Below w.heap.size w w' := by
  have HC : Hid (Chiefs w ao po b off b' off' n m c ls ps) := hc
  have HZ : Hid (checkF ls ps = 0) := h0
  obtain ⟨g6, _, _, _⟩ := right_of h0
  have hn6 : n ≤ 6 := by have := hc.ln; omega
  obtain ⟨wz, hwz⟩ : ∃ wz, wz = w.alloc (.cells (crtA ao n c fun _ => 0) 91) := ⟨_, rfl⟩
  have HST : Hid (GatSt w wz ao n c (upS 0 (actG ls ps) fun _ => 0)) := by
    refine ⟨by rw [hwz]; exact (Below.refl _ _).alloc (Nat.le_refl _) _, ?_, fun i => ?_⟩
    · rw [hwz]; exact heap_at_alloc _ _ _ rfl
    · show (if i < 0 then _ else 0) < 64
      rw [if_neg (by omega)]; omega
  have HWZ : Hid (wz = w.alloc (.cells #[.slice ao n c, .int .u8 0, .int .u8 0, .int .u8 0, .int .u8 0, .int .u8 0, .int .u8 0] 91)) := hwz
  clear hc h0 hwz g6
  go_enter Tryz.func19, Tryz.ntmps19
  go_wp2
  rw [← HWZ.out]
  clear HWZ
  go_loopw [15] (fun i wr => ∃ k : Nat, k ≤ n ∧ i = .int .i64 k ∧ Hid (GatSt w wr ao n c (upS k (actG ls ps) fun _ => 0))) (fun i _ => n - (intOf i).toNat)
  case atStart => exact ⟨0, Nat.zero_le _, rfl, HST⟩
  case round =>
    clear HST
    obtain ⟨k, hk, rfl, HP⟩ := hrel
    by_cases hlt : k < n
    · have hkl : k < ls.length := by have := HC.out.ln; omega
      have hao := HC.out.strs.adr (by omega)
      have f0 := (HC.out.strs.later HP.out.bel).cell k hkl
      have hmem := List.getElem_mem hkl
      have hak : actG ls ps k = Sol.grp ls (Act.forF ls ps ls[k]) := by unfold actG; rw [dif_pos hkl]
      have hstep := upS_step (actG ls ps) (fun _ => 0) k
      obtain ⟨y, hy⟩ : ∃ y, y = ls[k] := ⟨_, rfl⟩
      rw [← hy] at f0 hmem hak
      have hfor := for_any ao po b off b' off' n m c d ls ps y wr (HC.out.later HP.out.bel)
      have hfe : forE ls ps y = 0 := by unfold forE; rw [if_pos HZ.out, if_pos (Act.has_iff.2 hmem)]
      have hfv : forV ls ps y = Act.forF ls ps y := by unfold forV; rw [if_pos hfe]
      rw [hfe, hfv] at hfor
      obtain ⟨F, hF⟩ : ∃ F, F = Act.forF ls ps y := ⟨_, rfl⟩
      have HFI : Hid (∀ s ∈ F, s ∈ ls) := fun s hs => by rw [hF] at hs; exact (List.mem_filter.1 hs).1
      have hFl : F.length ≤ 6 := by
        rw [hF]
        have h1 := List.length_filter_le (fun a => Act.acts ls ps a y) ls
        unfold Act.forF
        have := HC.out.ln
        omega
      rw [← hF] at hfor hak
      have hv64 := actG_lt (ls := ls) (by have := HC.out.ln; omega) ps k
      have hk6 : k < 6 := by omega
      clear hy hfe hfv hF hmem
      subst hao
      go_wp2_with fail
      refine hfor.mono ?_
      rintro e w1 ⟨v, rfl, hown, hb1⟩
      obtain ⟨fo, fb, fc, hfv', _, _, fss⟩ := strs_of_own hown
      subst hfv'
      have HS1 : Hid (GatSt w w1 (some ⟨b, off, none⟩) n c (upS k (actG ls ps) fun _ => 0)) := HP.out.later hb1
      have HGR : Hid (∀ W, Below w1.heap.size w1 W → Calls Tryz.prog 47 #[.pointer (some ⟨w.heap.size, 0, none⟩), .slice fo F.length fc] W fun e w' => e = .returned (.int .u8 (actG ls ps k : Int)) ∧ w' = W) := fun W hW => by
        rw [hak]
        exact groupC w.heap.size _ fo b off fb 0 n c F.length fc _ ls F W (HS1.out.crt.later hW) HC.out.ln hn6 (HC.out.strs.later (HS1.out.bel.trans (hW.mono HS1.out.bel.size))) rfl (by unfold maxLen; omega) (fss.later hW) HFI.out
      have l1 := lt_of_block HS1.out.crt.blk
      have c1 := HS1.out.crt.ca hk6
      have z1 : w1.frozen? ⟨w.heap.size, 1 + k, none⟩ = false := by simp [World.frozen?, HS1.out.crt.blk]
      have HSTEP : Hid ((fun j => if j = k then actG ls ps k else upS k (actG ls ps) (fun _ => 0) j) = upS (k + 1) (actG ls ps) fun _ => 0) := hstep
      obtain ⟨V, hV⟩ : ∃ V, V = actG ls ps k := ⟨_, rfl⟩
      rw [← hV] at HGR HSTEP hv64
      obtain ⟨N1, hN1⟩ : ∃ N, N = F.length := ⟨_, rfl⟩
      rw [← hN1] at HGR ⊢
      obtain ⟨old, hold⟩ : ∃ o, o = upS k (actG ls ps) (fun _ => 0) k := ⟨_, rfl⟩
      rw [← hold] at c1
      have i1 : (k : Int) < 6 := by omega
      clear hfor hown hb1 fss hstep hV hN1 hold HP f0 hak
      go_upto_region 6 with fail
      go_region_with (go_at_call 47; refine (HGR.out _ (by exact below_dr' _)).mono ?_; rintro e w2 ⟨rfl, hw2⟩; have hw2' := hw2.symm; subst hw2')
      all_goals (try go_wp2_with fail)
      all_goals go_roundw
      all_goals first
        | (refine ⟨k + 1, by omega, by go_num, ?_⟩
           show GatSt _ _ _ _ _ _
           rw [← HSTEP.out]
           repeat (refine GatSt.drew ?_)
           refine GatSt.put ?_ hk6 hv64
           repeat (refine GatSt.drew ?_)
           exact HS1.out)
        | (simp [intOf]; omega)
    · have HE : Hid (crtA ao n c (upS k (actG ls ps) fun _ => 0) = crtA ao n c (actG ls ps)) := by
        show _ = _
        have h : ∀ i, upS k (actG ls ps) (fun _ => 0) i = actG ls ps i := fun i => by
          unfold upS
          by_cases hi : i < k
          · rw [if_pos hi]
          · rw [if_neg hi]
            unfold actG
            rw [dif_neg (by have := HC.out.ln; omega)]
        unfold crtA
        rw [h 0, h 1, h 2, h 3, h 4, h 5]
      have HCR : Hid (CrtAt wr w.heap.size ao n c (actG ls ps)) := ⟨by rw [← HE.out]; exact HP.out.crt.blk, fun i => actG_lt (by have := HC.out.ln; omega) ps i⟩
      go_wp2
      go_ret
      exact ⟨rfl, HCR.out, HP.out.bel⟩
end Go.Proofs.YtpbknhhjfhpkmaaGreatDoor
