/- Contract of solve.Least. -/
import Derived.Test.YtnligpcfkmdjeaaGreatDoorSvA
import Derived.Test.YtnligpcfkmdjeaaGreatDoorSolT
namespace Go.Proofs.YtnligpcfkmdjeaaGreatDoor
open Go.RowKit

theorem letL_is {ls : List ByteArray} {A : Nat → Nat} (h6 : ls.length ≤ 6) (hA0 : ∀ i, ls.length ≤ i → A i = 0) (o g : Nat) : Sol.IsLets ls A o g (letL A o g) := fun j => by
  unfold letL
  rw [letF_bit]
  constructor
  · rintro (h | ⟨i, _, h2, h3⟩)
    · exact .inl h
    · refine .inr ⟨i, ?_, h2, h3⟩
      apply Classical.byContradiction
      intro hn
      rw [hA0 i (by omega), Nat.zero_testBit] at h3
      cases h3
  · rintro (h | ⟨i, h1, h2, h3⟩)
    · exact .inl h
    · exact .inr ⟨i, by omega, h2, h3⟩
theorem actG_zero {ls : List ByteArray} {ps : List (ByteArray × ByteArray)} {i : Nat} (h : ls.length ≤ i) : actG ls ps i = 0 := by
  unfold actG
  rw [dif_neg (by omega)]
/- A label of chiefs with few readers each passes. -/
theorem chkL_zero {ls : List ByteArray} : ∀ {x : List Pol}, Lab.OfL ls x → (∀ p ∈ x, p.2.length ≤ 6) → chkL ls x = 0
  | [], _, _ => rfl
  | p :: r, ho, h6 => by
    rw [chkL, if_pos (among_of (h6 p List.mem_cons_self) (ho p List.mem_cons_self).2), if_pos (Act.has_iff.2 (ho p List.mem_cons_self).1)]
    exact chkL_zero (fun q hq => ho q (List.mem_cons_of_mem _ hq)) (fun q hq => h6 q (List.mem_cons_of_mem _ hq))
theorem checkL_zero {ls : List ByteArray} {ps : List (ByteArray × ByteArray)} {x : List Pol} (h0 : checkF ls ps = 0) (hl : x.length ≤ 200) (ho : Lab.OfL ls x) (h6 : ∀ p ∈ x, p.2.length ≤ 6) : checkL ls ps x = 0 := by
  unfold checkL
  rw [if_pos h0, if_neg (by omega)]
  exact chkL_zero ho h6
/- A normal form of chiefs' policies. -/
theorem norm_ok {ls : List ByteArray} {ps : List (ByteArray × ByteArray)} {x y : List Pol} (h6 : ls.length ≤ 6) (hx : Lab.OfL ls x) (hx6 : ∀ p ∈ x, p.2.length ≤ 6) (h : Lab.Norm blt plt ps x y) : Lab.OfL ls y ∧ y.length ≤ 192 ∧ (∀ p ∈ y, p.2.length ≤ 6) ∧ Lab.Norm blt plt ps y y := by
  have hof : Lab.OfL ls y := fun c hc => of_clean hx ((h.mem c).1 hc).1
  have hcl : ∀ c ∈ y, Lab.CleanOf blt c c := fun c hc => by
    obtain ⟨⟨p, _, hp⟩, _⟩ := (h.mem c).1 hc
    exact Lab.clean_clean hp
  refine ⟨hof, Lab.norm_few blt_order plt_order h6 h.up hcl hof, fun c hc => ?_, Lab.norm_norm blt_order h⟩
  obtain ⟨⟨p, hp, hcp⟩, _⟩ := (h.mem c).1 hc
  rw [← Lab.clean_unique blt_order (plainF_clean p) hcp]
  have h1 := plainF_len p
  have h2 := hx6 p hp
  omega
theorem labF_few {ls : List ByteArray} {s : Nat → Nat} (h6 : ls.length ≤ 6) (h : Fit ls.length s) : ∀ p ∈ labF ls s, p.2.length ≤ 6 := fun p hp => by
  obtain ⟨o, ho, g, _, rfl⟩ := (labF_mem h6 h p).1 hp
  have h2 : (Sol.names ls g).length ≤ ls.length := List.length_filter_le _ _
  show (Sol.names ls g).length ≤ 6
  omega
/- Labels that may go to and from the least ones are the least ones. -/
theorem least_same {ps : List (ByteArray × ByteArray)} {l : List (Sol.Bnd ByteArray)} {g h : Nat → Sol.Has ByteArray} (hl : Sol.Least ps l g) (h1 : ∀ k, Sol.go ps (h k) (g k)) (h2 : ∀ k, Sol.go ps (g k) (h k)) : Sol.Least ps l h :=
  ⟨fun b hb hd => Sol.go_trans (Sol.brings_mono (fun i _ => h1 i)) (Sol.go_trans (hl.holds b hb hd) (h2 _)), fun h' hh k => Sol.go_trans (h1 k) (hl.least h' hh k)⟩
theorem come_out {N : Nat} {vs : List WayV} (hr : InRange N vs) {f : Nat → Nat → Nat} (hc : Come vs f) : ∀ k, N ≤ k → f k = fun _ => 0 := by
  induction hc with
  | none => exact fun _ _ => rfl
  | put f v _ hv hd ih =>
    intro k hk
    unfold Sol.putF
    rw [if_neg]
    · exact ih k hk
    · intro e
      obtain ⟨d, hd1, hd2⟩ := ((hr v hv).2).resolve_left hd
      rw [hd1] at e
      simp at e
      omega
theorem least_of_norm {ls : List ByteArray} {ps : List (ByteArray × ByteArray)} {N : Nat} {l : List (Sol.Bnd ByteArray)} {vs : List WayV} {f : Nat → Nat → Nat} {ys : List (List Pol)} (h6 : ls.length ≤ 6) (hl : Sol.Least ps l (Sol.fs ls f)) (hr : InRange N vs) (hc : Come vs f) (hfit : ∀ k, Fit ls.length (f k)) (hN : ys.length = N) (hn : ∀ k (h : k < ys.length), Lab.Norm blt plt ps (labF ls (f k)) ys[k]) : Sol.Least ps l (Sol.hs ys) := by
  have key : ∀ k, Sol.go ps (Sol.hs ys k) (Sol.fs ls f k) ∧ Sol.go ps (Sol.fs ls f k) (Sol.hs ys k) := fun k => by
    by_cases hk : k < ys.length
    · have e : ∀ p, Sol.hs ys k p ↔ p ∈ ys[k] := fun p => by simp [Sol.hs, List.getD, hk]
      have hm := labF_mem h6 (hfit k)
      refine ⟨fun q hq => ?_, fun q hq => ?_⟩
      · obtain ⟨p, hp, hc⟩ := Lab.norm_from (hn k hk) q ((e q).1 hq)
        exact ⟨p, (hm p).1 hp, hc⟩
      · obtain ⟨p, hp, hc⟩ := Lab.norm_to blt_order plt_order (hn k hk) q ((hm q).2 hq)
        exact ⟨p, (e p).2 hp, hc⟩
    · refine ⟨fun q hq => ?_, fun q hq => ?_⟩
      · exfalso
        simp [Sol.hs, List.getD, hk] at hq
      · exfalso
        have := come_out hr hc k (by omega)
        unfold Sol.fs at hq
        rw [this] at hq
        exact Sol.labS_none ls q hq
  exact least_same hl (fun k => (key k).1) (fun k => (key k).2)
/- What Least answers where nothing is wrong. -/
structure LeastOK (ls : List ByteArray) (ps : List (ByteArray × ByteArray)) (N : Nat) (l : List RBd) (ys : List (List Pol)) : Prop where
  len : ys.length = N
  ok : ∀ y ∈ ys, checkL ls ps y = 0
  norm : ∀ y ∈ ys, Lab.Norm blt plt ps y y
  least : Sol.Least ps (l.map toB) (Sol.hs ys)
  form : ∃ (vs : List WayV) (f : Nat → Nat → Nat), Ways ls ps (l.map toB) vs ∧ Come vs f ∧ Stable vs f ∧ ∀ k (h : k < ys.length), Lab.Norm blt plt ps (labF ls (f k)) ys[k]

set_option maxRecDepth 100000 in
set_option maxHeartbeats 8000000 in
theorem leastL (ao po lo : Option Addr) (b off b' off' n m c d lb loff ln lc : Nat) (Ni : Int) (ls : List ByteArray) (ps : List (ByteArray × ByteArray)) (l : List RBd) (w : World) (hc : Chiefs w ao po b off b' off' n m c ls ps) (hl : Bds w lo lb loff l) (hn : ln = l.length) (hm : ln ≤ maxLen) (hT : TzTab w) :
    Calls Tryz.prog 7 #[.slice ao n c, .slice po m d, .int .i64 Ni, .slice lo ln lc] w fun e w' => Below w.heap.size w w' ∧
      ((chkB ls ps Ni l ≠ 0 ∧ e = .returned (.tuple #[.slice none 0 0, .int .i64 (chkB ls ps Ni l)])) ∨ (chkB ls ps Ni l = 0 ∧ ∃ (ro : Option Addr) (rb rc : Nat) (ys : List (List Pol)), e = .returned (.tuple #[.slice ro ys.length rc, .int .i64 0]) ∧ ys.length ≤ maxLen ∧ LbsAt w' ro rb 0 ys ∧ LeastOK ls ps Ni.toNat l ys)) := by
  have hck := checkBC ao po lo b off b' off' n m c d lb loff ln lc Ni ls ps l w hc hl hn hm
  have HC : Hid (Chiefs w ao po b off b' off' n m c ls ps) := hc
  have HL : Hid (Bds w lo lb loff l) := hl
  have HLN : Hid (ln = l.length) := hn
  have HT : Hid (TzTab w) := hT
  clear hc hl hn hT
  by_cases h0 : chkB ls ps Ni l = 0
  · rw [h0] at hck
    obtain ⟨hF, hN1, hN2, hl400, hgood⟩ : checkF ls ps = 0 ∧ 0 ≤ Ni ∧ Ni ≤ 400 ∧ l.length ≤ 400 ∧ ∀ x ∈ l, oneE ls ps Ni x = 0 := by
      unfold chkB at h0
      split at h0
      · rename_i hF
        split at h0
        · cases h0
        · rename_i hr
          refine ⟨hF, by omega, by omega, by omega, bdsE_zero h0⟩
      · rename_i hF
        exact absurd h0 hF
    obtain ⟨N, hN⟩ : ∃ N : Nat, Ni = (N : Int) := ⟨Ni.toNat, by omega⟩
    subst hN
    have hN400 : N ≤ 400 := by omega
    have HF : Hid (checkF ls ps = 0) := hF
    have HG : Hid (∀ x ∈ l, GoodB ls N x) := fun x hx => good_of (hgood x hx)
    have hl4 : ln ≤ 400 := by have := HLN.out; omega
    obtain ⟨i0, hi, hz0, hz1, hz2⟩ := info_parts Tryz.infoLabD
    have HH0 : Hid (chkB ls ps (N : Int) l = 0) := h0
    clear hgood hN1 hN2 hl400 hF h0
    go_enter Tryz.func7, Tryz.ntmps7
    go_wp2_with fail
    refine hck.mono ?_
    rintro e w1 ⟨rfl, hb1⟩
    have HB1 : Hid (Below w.heap.size w w1) := hb1
    have hga := gatherC ao po b off b' off' n m c d ls ps w1 (HC.out.later hb1) HF.out
    clear hb1 hck
    go_wp2_with fail
    refine hga.mono ?_
    rintro e w2 ⟨rfl, hcrt, hb2⟩
    have HB2 : Hid (Below w.heap.size w w2) := HB1.out.trans (hb2.mono HB1.out.size)
    have HCR : Hid (CrtAt w2 w1.heap.size ao n c (actG ls ps)) := hcrt
    obtain ⟨q, hq⟩ : ∃ q, q = w1.heap.size := ⟨_, rfl⟩
    rw [← hq] at HCR ⊢
    have hwy := waysC q ao lo b off n c lb loff ln lc N ls ps l w2 HCR.out HF.out HC.out.ln (HC.out.strs.later HB2.out) (HL.out.later HB2.out) HLN.out hl4 HG.out
    clear hb2 hga hcrt hq
    go_wp2_with fail
    refine hwy.mono ?_
    rintro e w3 ⟨wo, wb, wc, vs, rfl, hws, hways, hrng, hb3⟩
    have HB3 : Hid (Below w2.heap.size w2 w3) := hb3
    have hle := leastC N wo wb 0 wc vs w3 hN400 (by rw [hways.1, List.length_map]; have := HLN.out; omega) hws hrng
    have HWS : Hid (Ways ls ps (l.map toB) vs) := hways
    have HRN : Hid (InRange N vs) := hrng
    clear hwy hb3 hws hways hrng
    go_wp2_with fail
    refine hle.mono ?_
    rintro e w4 ⟨sb, f, rfl, hsets, hcome, hok, hstab, hb4⟩
    have HB4 : Hid (Below w2.heap.size w2 w4) := HB3.out.trans (hb4.mono HB3.out.size)
    have HSE : Hid (SetsAt w4 (some ⟨sb, 0, none⟩) sb 0 N f) := hsets
    have HFF : Hid (Come vs f ∧ (∀ k, SetOK (f k)) ∧ Stable vs f ∧ ∀ k, Fit ls.length (f k)) := ⟨hcome, hok, hstab, hcome.fit HWS.out⟩
    clear hle hb4 hsets hcome hok hstab
    go_wp2
    have HS0 : Hid (∃ L : List LV, LsSt2 w4 w4 (.slice none 0 0) L ∧ L.length = 0 ∧ ∀ k (h : k < L.length), Lab.Norm blt plt ps (labF ls (f k)) L[k].1) := ⟨[], ⟨Below.refl _ _, World.ownsRow_nil _ _ _ _, fun y hy => (by cases hy)⟩, rfl, fun k h => by simp at h⟩
    go_loopw [12, 34] (fun v i wr => ∃ k : Nat, k ≤ N ∧ i = .int .i64 k ∧ Hid (∃ L : List LV, LsSt2 w4 wr v L ∧ L.length = k ∧ ∀ k (h : k < L.length), Lab.Norm blt plt ps (labF ls (f k)) L[k].1)) (fun _ i _ => N - (intOf i).toNat)
    case atStart => exact ⟨0, Nat.zero_le _, rfl, HS0.out⟩
    case round =>
      clear HS0
      obtain ⟨k, hk, rfl, HP⟩ := hrel
      obtain ⟨L, hLs, hLk, hLn⟩ := HP.out
      have HLS : Hid (LsSt2 w4 wr u12 L) := hLs
      have HLX : Hid (L.length = k ∧ ∀ k (h : k < L.length), Lab.Norm blt plt ps (labF ls (f k)) L[k].1) := ⟨hLk, hLn⟩
      clear HP hLs hLn
      by_cases hlt : k < N
      · have t0 : wr.cell? ⟨sb, k * 6, none⟩ = some (.int .u64 (f k 0)) := by have := cell_below HLS.out.bel (HSE.out.cell k hlt 0 (by omega)); simpa using this
        have t1 : wr.cell? ⟨sb, k * 6 + 1, none⟩ = some (.int .u64 (f k 1)) := by have := cell_below HLS.out.bel (HSE.out.cell k hlt 1 (by omega)); simpa using this
        have t2 : wr.cell? ⟨sb, k * 6 + 2, none⟩ = some (.int .u64 (f k 2)) := by have := cell_below HLS.out.bel (HSE.out.cell k hlt 2 (by omega)); simpa using this
        have t3 : wr.cell? ⟨sb, k * 6 + 3, none⟩ = some (.int .u64 (f k 3)) := by have := cell_below HLS.out.bel (HSE.out.cell k hlt 3 (by omega)); simpa using this
        have t4 : wr.cell? ⟨sb, k * 6 + 4, none⟩ = some (.int .u64 (f k 4)) := by have := cell_below HLS.out.bel (HSE.out.cell k hlt 4 (by omega)); simpa using this
        have t5 : wr.cell? ⟨sb, k * 6 + 5, none⟩ = some (.int .u64 (f k 5)) := by have := cell_below HLS.out.bel (HSE.out.cell k hlt 5 (by omega)); simpa using this
        have lsb := World.block_lt_of_cell? _ _ t0
        obtain ⟨wy, hwy⟩ : ∃ wy, wy = wr.alloc (.cells (setA (f k)) 65) := ⟨_, rfl⟩
        have hby : Below wr.heap.size wr wy := by rw [hwy]; exact (Below.refl _ _).alloc (Nat.le_refl _) _
        have HBY : Hid (Below w4.heap.size w4 wy) := HLS.out.bel.trans (hby.mono HLS.out.bel.size)
        have HB0 : Hid (Below w.heap.size w wy) := HB2.out.trans ((HB4.out.mono HB2.out.size).trans (HBY.out.mono (Nat.le_trans HB2.out.size HB4.out.size)))
        have HWY : Hid (wy = wr.alloc (.cells #[.int .u64 (f k 0), .int .u64 (f k 1), .int .u64 (f k 2), .int .u64 (f k 3), .int .u64 (f k 4), .int .u64 (f k 5)] 65)) := hwy
        have hlb := labelCt q ao b off n c (actG ls ps) ls (f k) wy (HCR.out.later (HB4.out.trans (HBY.out.mono HB4.out.size))) HC.out.ln (by have := (right_of HF.out).1; have := HC.out.ln; omega) (right_of HF.out).2.2.1.1 (HC.out.strs.later HB0.out) (HFF.out.2.1 k) (HFF.out.2.2.2 k) (HT.out.later HB0.out)
        have HA : Hid (setA (f k) = #[.int .u64 (f k 0), .int .u64 (f k 1), .int .u64 (f k 2), .int .u64 (f k 3), .int .u64 (f k 4), .int .u64 (f k 5)]) := rfl
        obtain ⟨ov, ocap, hov⟩ := slice_of HLS.out.own
        rw [hLk] at hov
        subst hov
        have HY4 : Hid (LsSt2 w4 wy (.slice ov k ocap) L) := HLS.out.later hby
        clear hby hwy
        go_wp2_with fail
        rw [← HWY.out, ← HA.out]
        refine hlb.mono ?_
        rintro e w5 ⟨v5, rfl, hlab5, hb5⟩
        have hof := labF_of (s := f k) (by have := (right_of HF.out).1; omega) (HFF.out.2.2.2 k)
        have hln := labF_len (s := f k) (HFF.out.2.2.2 k)
        have hr6 : ∀ p ∈ labF ls (f k), p.2.length ≤ 6 := fun p hp => by
          obtain ⟨o, ho, g, _, rfl⟩ := (labF_mem (by have := (right_of HF.out).1; omega) (HFF.out.2.2.2 k) p).1 hp
          have h1 := (right_of HF.out).1
          have h2 : (Sol.names ls g).length ≤ ls.length := List.length_filter_le _ _
          show (Sol.names ls g).length ≤ 6
          omega
        have hsm := smallP_of HF.out hof hr6
        obtain ⟨vo, vb, voff, vc, rfl, hat5⟩ := hlab5.at' hsm
        have HB5 : Hid (Below wy.heap.size wy w5) := hb5
        have HB05 : Hid (Below w.heap.size w w5) := HB0.out.trans (hb5.mono HB0.out.size)
        have hz := checkL_zero HF.out (by omega) hof hr6
        have hnm := normC ao po vo b off b' off' n m c d vb voff (labF ls (f k)).length vc ls ps (labF ls (f k)) w5 (HC.out.later HB05.out) hat5
        rw [hz] at hnm
        have HY5 : Hid (LsSt2 w4 w5 (.slice ov k ocap) L) := HY4.out.later hb5
        clear hlb hlab5 hb5 hof hln hr6 hsm hat5 hz t0 t1 t2 t3 t4 t5 HWY
        go_wp2_with fail
        refine hnm.mono ?_
        rintro e w6 ⟨v6, y6, rfl, hnorm, hnew, hb6⟩
        have HNO : Hid (Lab.Norm blt plt ps (labF ls (f k)) y6) := (by first | exact hnorm rfl | exact hnorm trivial)
        have HY6 : Hid (LsSt2 w4 w6 (.slice ov k ocap) L) := HY5.out.later hb6
        have HOF : Hid (OffLb w6 (Value.slice ov k ocap).ownBlock (y6, v6)) := OffLb.of_new hnew (fun j e => (HY5.out.own.lt _ e).2)
        obtain ⟨v6o, v6c, hv6⟩ : ∃ o cp, v6 = .slice o y6.length cp := by
          obtain ⟨M, ao', b'', cap, _, h2, _⟩ := HOF.out.ex
          exact ⟨ao', cap, h2⟩
        subst hv6
        have HO6 : Hid (w6.ownsRow w4.heap.size 34 1 (.slice ov k ocap) k (L.map (·.2))) := by have := HY6.out.own; rw [hLk] at this; exact this
        have hbig : w4.heap.size ≤ w6.heap.size := HY6.out.bel.size
        clear hnm hnorm hnew hb6
        go_wp2_with (at_builtin; refine wpList_append_lies _ rfl _ _ 25 rfl w4.heap.size 34 i0 (.slice none 0 0) 1 24 Tryz.underlying25 hi hz0 hz1 hz2 rfl (by decide) _ _ _ rfl (World.ownsRow.alloc HO6.out _) ⟨w6.heap.size, 0, none⟩ 1 1 [.slice v6o y6.length v6c] rfl rfl ?c1 ?c2 (by omega) ?c3 ?c4 ?c5 _ rfl ?_)
        case c1 => exact one_new _ _ _
        case c2 => intro u hu; simp at hu; subst hu; rfl
        case c3 => unfold maxLen; omega
        case c4 => omega
        case c5 => simp; omega
        · rintro g7 cap7 w7 hown7 hgr7 hloc7 _
          have HN7 : Hid (∃ L : List LV, LsSt2 w4 w7 (.slice (some ⟨g7, 0, none⟩) (k + 1) cap7) L ∧ L.length = k + 1 ∧ ∀ k (h : k < L.length), Lab.Norm blt plt ps (labF ls (f k)) L[k].1) := by
            have h7 : Below w6.heap.size w6 (w6.alloc (.cells #[.slice v6o y6.length v6c] 34)) := (Below.refl _ _).alloc (Nat.le_refl _) _
            refine ⟨L ++ [(y6, .slice v6o y6.length v6c)], (HY6.out.later h7).step (HOF.out.later h7) (by rw [hLk]; exact hown7) hgr7 (hloc7.elim (fun e => .inl e.symm) (fun e => .inr (by rw [e]; simp [Value.ownBlock]))), by simp [hLk], fun j hj => ?_⟩
            by_cases e : j < L.length
            · rw [List.getElem_append_left e]; exact HLX.out.2 j e
            · have e2 : j = k := by simp at hj; omega
              subst e2
              rw [List.getElem_append_right (by omega)]
              simpa [hLk] using HNO.out
          clear hown7 hgr7 hloc7
          go_wp2
          go_roundw
          case rel => exact ⟨k + 1, by omega, by go_num, HN7⟩
          case measure => simp [intOf]; omega
      · have hkN : k = N := by omega
        subst hkN
        have h6 : ls.length ≤ 6 := by have := (right_of HF.out).1; omega
        have hall : ∀ y ∈ L.map (·.1), Lab.OfL ls y ∧ y.length ≤ 192 ∧ (∀ p ∈ y, p.2.length ≤ 6) ∧ Lab.Norm blt plt ps y y := fun y hy => by
          obtain ⟨z, hz, rfl⟩ := List.mem_map.1 hy
          obtain ⟨j, hj, rfl⟩ := List.mem_iff_getElem.1 hz
          exact norm_ok h6 (labF_of h6 (HFF.out.2.2.2 j)) (labF_few h6 (HFF.out.2.2.2 j)) (HLX.out.2 j hj)
        obtain ⟨ro, rb, rc, e1, e2, e3⟩ := HLS.out.fin (fun y hy => smallP_of HF.out (hall y.1 (List.mem_map_of_mem hy)).1 (hall y.1 (List.mem_map_of_mem hy)).2.2.1)
        subst e1
        have HFIN : Hid ((L.map (·.1)).length ≤ maxLen ∧ LbsAt wr ro rb 0 (L.map (·.1)) ∧ LeastOK ls ps k l (L.map (·.1)) ∧ Below w.heap.size w wr) := by
          have hform : ∀ j (h : j < (L.map (·.1)).length), Lab.Norm blt plt ps (labF ls (f j)) (L.map (·.1))[j] := fun j h => by
            rw [List.getElem_map]; exact HLX.out.2 j (by rw [List.length_map] at h; exact h)
          have hleast := come_least HWS.out h6 HFF.out.1 HFF.out.2.2.1
          refine ⟨e2, e3, ⟨by rw [List.length_map, hLk], fun y hy => ?_, fun y hy => (hall y hy).2.2.2, ?_, vs, f, HWS.out, HFF.out.1, HFF.out.2.2.1, hform⟩, HB2.out.trans ((HB4.out.mono HB2.out.size).trans (HLS.out.bel.mono (Nat.le_trans HB2.out.size HB4.out.size)))⟩
          · obtain ⟨h1, h2, h3, _⟩ := hall y hy
            exact checkL_zero HF.out (by omega) h1 h3
          · exact least_of_norm h6 hleast HRN.out HFF.out.1 HFF.out.2.2.2 (by rw [List.length_map, hLk]) hform
        clear e2 e3 hall
        go_wp2
        go_ret2
        refine ⟨HFIN.out.2.2.2, .inr ⟨HH0.out, ro, rb, rc, L.map (·.1), ?_, HFIN.out.1, HFIN.out.2.1, HFIN.out.2.2.1⟩⟩
        rw [List.length_map, hLk]
        rfl
  · obtain ⟨e0, he0⟩ : ∃ e0, e0 = chkB ls ps Ni l := ⟨_, rfl⟩
    rw [← he0] at hck h0 ⊢
    have hb : (e0 == 0) = false := by simp [h0]
    have hb' : (e0 != 0) = true := by simp [h0]
    have HH : Hid (e0 ≠ 0) := h0
    clear h0 he0
    go_enter Tryz.func7, Tryz.ntmps7
    go_wp2_with fail
    refine hck.mono ?_
    rintro e w1 ⟨rfl, hb1⟩
    have HB1 : Hid (Below w.heap.size w w1) := hb1
    clear hb1 hck
    go_wp2
    go_ret2
    exact ⟨HB1.out, .inl ⟨HH.out, rfl⟩⟩
end Go.Proofs.YtnligpcfkmdjeaaGreatDoor
