/- Contract of solve's court: label. -/
import Derived.Test.YtnligpcfkmdjeaaGreatDoorGaRd
import Derived.Test.YtnligpcfkmdjeaaGreatDoorGaNorm
import Derived.RangeFuncBox
namespace Go.Proofs.YtnligpcfkmdjeaaGreatDoor
open Go.RowKit Go.Shelf

attribute [local go_sem] Oper.semAt_some

/- A policy whose owner is a chief. -/
abbrev PC (ls : List ByteArray) := { p : PB // p.1.1 < ls.length }
def polOf (ls : List ByteArray) (p : PB) : Pol := (ls.getD p.1.1 ⟨#[]⟩, Sol.names ls p.1.2)
theorem labF_eq (ls : List ByteArray) (s : Nat → Nat) : labF ls s = (polsF s 6).map (polOf ls) := rfl
/- What is gathered: a row of its own, behind a box. -/
def LbI (base B : Nat) (ls : List ByteArray) (pre : List (PC ls)) (W : World) : Prop := ∃ (v : Value) (L : List PV), Boxed W B 34 v ∧ W.ownsRow base 72 2 v L.length (polC L) ∧ (∀ y ∈ L, Off W v.ownBlock y) ∧ L.map (·.1) = pre.map (fun p => polOf ls p.1)
theorem off_own {X Y : World} {row g : Option Nat} {y : PV} (h : Off X g y) (hg : X.grownBy Y row) (hrow : ∀ r, row = some r → ∃ o : Obj, X.heap[r]? = some o ∧ o.isCells = false) : Off Y g y := by
  obtain ⟨ro, rb, roff, rc, h1, h2, h3, h4, h5⟩ := h
  refine ⟨ro, rb, roff, rc, h1, h2, h3, strs_kept h4 hg fun hp e => ?_, h5⟩
  obtain ⟨o, ho, hc⟩ := hrow rb e.symm
  have := h4.cell 0 hp
  simp only [World.cell?, ho] at this
  cases o <;> first | (simp at this; done) | (exact absurd hc (by simp [Obj.isCells]))
theorem blk_own {X Y : World} {row : Option Nat} {b : Nat} {c : Array Value} {t : TypeId} {f : Nat × Nat} (h : X.heap[b]? = some (.cells c t f)) (hg : X.grownBy Y row) (hrow : ∀ r, row = some r → ∃ o : Obj, X.heap[r]? = some o ∧ o.isCells = false) : Y.heap[b]? = some (.cells c t f) := by
  rw [hg.block _ (lt_of_block h) (fun e => by
    obtain ⟨o, ho, hc⟩ := hrow b e.symm
    rw [h] at ho; cases ho; cases hc)]
  exact h
theorem lbI_own (base B : Nat) (ls : List ByteArray) : Own (LbI base B ls) := by
  rintro s X Y row ⟨v, L, hv, hr, ho, hL⟩ hg hrow
  refine ⟨v, L, hv.kept hg (fun e' => ?_), hr.kept hg ?_, fun y hy => off_own (ho y hy) hg hrow, hL⟩
  · obtain ⟨o, ho, hc⟩ := hrow B e'.symm
    rw [show X.heap[B]? = _ from hv] at ho; cases ho; cases hc
  · rcases hr.2 with ⟨rfl, _⟩ | ⟨g, cap, cur, rfl, _, hgb, _⟩
    · exact .inl rfl
    · refine .inr fun e' => ?_
      obtain ⟨o, ho, hc⟩ := hrow g (by simpa [Value.ownBlock] using e'.symm)
      rw [hgb] at ho; cases ho; cases hc
theorem lbI_below {base B : Nat} {ls : List ByteArray} {pre : List (PC ls)} {W W1 : World} (h : LbI base B ls pre W) (hb : Below W.heap.size W W1) : LbI base B ls pre W1 := by
  obtain ⟨v, L, hv, hr, ho, hL⟩ := h
  exact ⟨v, L, (hb.block _ (lt_of_block hv)).trans hv, own_below hr hb, fun y hy => (ho y hy).later hb, hL⟩

theorem label_step {w W w4 w5 w6 : World} {ov : Option Addr} {ocap g6 cap6 : Nat} {L : List PV} {y : PV} {B : Nat} (h7 : Below w.heap.size w W) (hv : Boxed W (w.heap.size + 1 + 1) B (.slice ov L.length ocap)) (hrow : W.ownsRow (w.heap.size + 1 + 1 + 1) 72 2 (.slice ov L.length ocap) L.length (polC L))
    (hoff : ∀ z ∈ L, Off W (Value.slice ov L.length ocap).ownBlock z) (hb4 : Below W.heap.size W w4) (hown4 : w4.ownsRow W.heap.size 9 1 y.2 y.1.2.length (strC y.1.2)) (hw5 : w5 = w4.alloc (.cells #[.string y.1.1, y.2] 72))
    (hown6 : w6.ownsRow (w.heap.size + 1 + 1 + 1) 72 2 (.slice (some ⟨g6, 0, none⟩) (L.length + 1) cap6) (L.length + 1) (polC L ++ [.string y.1.1, y.2])) (hgr6 : w5.grownBy w6 (Value.slice ov L.length ocap).ownBlock) (hloc6 : (Value.slice ov L.length ocap).ownBlock = some g6 ∨ g6 = w5.heap.size) :
    Hid (Hid (w6.frozen? ⟨w.heap.size + 1 + 1, 0, none⟩ = false ∧ Boxed w6 (w.heap.size + 1 + 1) B (.slice ov L.length ocap) ∧ w6.ownsRow (w.heap.size + 1 + 1 + 1) 72 2 (.slice (some ⟨g6, 0, none⟩) (L.length + 1) cap6) (L ++ [y]).length (polC (L ++ [y])) ∧ (∀ z ∈ L ++ [y], Off w6 (some g6) z) ∧ KeepsOthers W w6 ∧ Below w.heap.size W w6) ∧ ∀ {p : Addr} {u : Value}, w5.cell? p = some u → some p.block ≠ (Value.slice ov L.length ocap).ownBlock → w6.cell? p = some u) := by
  have h45 : Below w4.heap.size w4 w5 := by rw [hw5]; exact (Below.refl _ _).alloc (Nat.le_refl _) _
  have hb5 : Below W.heap.size W w5 := hb4.trans (h45.mono hb4.size)
  have hrow5 := own_below hrow hb5
  have hlt : ∀ k, (Value.slice ov L.length ocap).ownBlock = some k → w.heap.size + 1 + 1 + 1 ≤ k ∧ k < W.heap.size := fun k he => hrow.lt _ he
  have hbx : Boxed w5 (w.heap.size + 1 + 1) B (.slice ov L.length ocap) := (hb5.block _ (lt_of_block hv)).trans hv
  have hne : some (w.heap.size + 1 + 1) ≠ (Value.slice ov L.length ocap).ownBlock := fun e => by have := (hlt _ e.symm).1; omega
  have hbx6 : Boxed w6 (w.heap.size + 1 + 1) B (.slice ov L.length ocap) := (hgr6.block _ (lt_of_block hbx) hne).trans hbx
  have hcells : ∀ k, (Value.slice ov L.length ocap).ownBlock = some k → ∃ c, w5.heap[k]? = some (.cells c 72 (0, 0)) := fun k he => by
    rcases hrow5.2 with ⟨h1, _⟩ | ⟨g, cap, cur, h1, _, hgb, _⟩
    · rw [h1] at he; cases he
    · rw [h1] at he
      have e' : g = k := by simpa [Value.ownBlock] using he
      subst e'
      exact ⟨cur, hgb⟩
  have hloc : (Value.slice (some ⟨g6, 0, none⟩) (L.length + 1) cap6).ownBlock = (Value.slice ov L.length ocap).ownBlock ∨ (Value.slice (some ⟨g6, 0, none⟩) (L.length + 1) cap6).ownBlock = some w5.heap.size := by
    rcases hloc6 with e | e
    · exact .inl e.symm
    · exact .inr (by rw [← e]; rfl)
  refine ⟨⟨by simp [World.frozen?, show w6.heap[w.heap.size + 1 + 1]? = _ from hbx6], hbx6, ?_, fun z hz => ?_, ?_, ?_⟩, fun {p u} hp hn => (hgr6.cell_far p (World.block_lt_of_cell? w5 p hp) hn).trans hp⟩
  · rw [← polC_snoc, List.length_append]; exact hown6
  · have key : ∀ z : PV, Off w5 (Value.slice ov L.length ocap).ownBlock z → Off w6 (some g6) z := fun z h => off_step h hgr6 hloc
    rcases List.mem_append.1 hz with hz | hz
    · exact key z ((hoff z hz).later hb5)
    · have e : z = y := by simpa using hz
      subst e
      obtain ⟨ro, rb, rc, k1, k2, k3, k4, k5⟩ : ∃ ro rb rc, z.2 = .slice ro z.1.2.length rc ∧ z.1.2.length ≤ rc ∧ rc ≤ maxLen ∧ Strs w4 ro rb 0 z.1.2 ∧ (0 < z.1.2.length → W.heap.size ≤ rb) := by
        rcases hown4.2 with ⟨hv0, h0⟩ | ⟨g, cap, cur, hv0, hg, hh, hc1, hc2, hsz, htk⟩
        · exact ⟨none, 0, 0, by rw [hv0, h0], by omega, by simp [maxLen], ⟨fun hp => by omega, fun k hk => by omega, fun hp => by omega⟩, fun hp => by omega⟩
        · refine ⟨some ⟨g, 0, none⟩, g, cap, hv0, hc1, hc2, ⟨fun _ => rfl, fun k hk => ?_, fun _ => lt_of_block hh⟩, fun _ => hg⟩
          have hu : (strC z.1.2)[k]? = some (.string z.1.2[k]) := by simp [strC, hk]
          rw [← htk, List.getElem?_take, if_pos (by omega)] at hu
          rw [Nat.zero_add]
          simp [World.cell?, hh]
          simpa using hu
      refine key z ⟨ro, rb, 0, rc, k1, k2, k3, k4.later h45, fun hp he => ?_⟩
      have := (hlt rb he.symm).2
      have := k5 hp
      omega
  · refine (keeps_below hb5).trans ⟨hgr6.size, fun k o hk hc => ?_⟩
    refine (hgr6.block k (lt_of_block hk) fun e => ?_).trans hk
    obtain ⟨c, hcc⟩ := hcells k e.symm
    rw [hcc] at hk
    cases hk
    cases hc
  · exact (hb5.mono h7.size).grown hgr6 (Nat.le_trans h7.size hb5.size) (fun k e => by have := (hlt k e).1; omega)
/- Behind the store into the box. -/
theorem label_fin {w W w6 : World} {ov : Option Addr} {ocap g6 cap6 : Nat} {L : List PV} {y : PV} {ls : List ByteArray} {pre : List (PC ls)} {x : PC ls}
    (h : Hid (w6.frozen? ⟨w.heap.size + 1 + 1, 0, none⟩ = false ∧ Boxed w6 (w.heap.size + 1 + 1) 34 (.slice ov L.length ocap) ∧ w6.ownsRow (w.heap.size + 1 + 1 + 1) 72 2 (.slice (some ⟨g6, 0, none⟩) (L.length + 1) cap6) (L ++ [y]).length (polC (L ++ [y])) ∧ (∀ z ∈ L ++ [y], Off w6 (some g6) z) ∧ KeepsOthers W w6 ∧ Below w.heap.size W w6))
    (hL : L.map (·.1) = pre.map (fun p => polOf ls p.1)) (hy : y.1 = polOf ls x.1) :
    LbI (w.heap.size + 1 + 1 + 1) (w.heap.size + 1 + 1) ls (pre ++ [x]) (w6.setCell ⟨w.heap.size + 1 + 1, 0, none⟩ (.slice (some ⟨g6, 0, none⟩) (L.length + 1) cap6)) ∧ KeepsOthers W (w6.setCell ⟨w.heap.size + 1 + 1, 0, none⟩ (.slice (some ⟨g6, 0, none⟩) (L.length + 1) cap6)) ∧ Below w.heap.size W (w6.setCell ⟨w.heap.size + 1 + 1, 0, none⟩ (.slice (some ⟨g6, 0, none⟩) (L.length + 1) cap6)) := by
  obtain ⟨_, hb, ho, hf, hk, hbel⟩ := h.out
  have hgs := grownBy_setCell' w6 (w.heap.size + 1 + 1) (.slice (some ⟨g6, 0, none⟩) (L.length + 1) cap6)
  refine ⟨⟨_, L ++ [y], ?_, ho.kept hgs ?_, fun z hz => ?_, by rw [List.map_append, List.map_append, hL]; simp [hy]⟩, hk.trans (KeepsOthers.setCell _ _ _), hbel.setCell (p := ⟨w.heap.size + 1 + 1, 0, none⟩) (by simp; omega) _⟩
  · exact heap_setCell_same w6 _ _ _ _ _ hb
  · refine .inr fun e => ?_
    have := (ho.lt _ e).1
    omega
  · obtain ⟨ro, rb, roff, rc, h1, h2, h3, h4, h5⟩ := hf z hz
    refine ⟨ro, rb, roff, rc, h1, h2, h3, strs_kept h4 hgs fun hp e => ?_, h5⟩
    have e' : rb = w.heap.size + 1 + 1 := by simpa using e
    subst e'
    have := h4.cell 0 hp
    rw [cell_blk hb] at this
    match roff, this with
    | 0, this => cases this
    | r + 1, this => simp at this

set_option maxRecDepth 100000 in
set_option maxHeartbeats 4000000 in
theorem labelCt (q : Nat) (ao : Option Addr) (b off n c : Nat) (A : Nat → Nat) (ls : List ByteArray) (s : Nat → Nat) (w : World) (hc : CrtAt w q ao n c A) (hn : n = ls.length) (h6 : n ≤ 6) (hnd : ls.Nodup) (hst : Strs w ao b off ls) (hs : SetOK s) (hf : Fit ls.length s) (hT : TzTab w) :
    Calls Tryz.prog 33 #[.pointer (some ⟨q, 0, none⟩), .agg (setA s)] w fun e w' => ∃ v, e = .returned v ∧ LabNew w' w.heap.size v (labF ls s) ∧ Below w.heap.size w w' := by
  obtain ⟨wz, hwz⟩ : ∃ wz, wz = ((w.alloc (.cells #[.pointer (some ⟨q, 0, none⟩)] 57)).alloc (.cells (setA s) 65)).alloc (.cells #[.slice none 0 0] 34) := ⟨_, rfl⟩
  have HWZ : Hid (wz = ((w.alloc (.cells #[.pointer (some ⟨q, 0, none⟩)] 57)).alloc (.cells (setA s) 65)).alloc (.cells #[.slice none 0 0] 34)) := hwz
  have HBZ : Hid (Below w.heap.size w wz) := by
    show Below _ _ _
    rw [hwz]
    exact (((Below.refl _ _).alloc (Nat.le_refl _) _).alloc (by simp) _).alloc (by simp; omega) _
  have k0 : wz.heap[w.heap.size]? = some (.cells #[.pointer (some ⟨q, 0, none⟩)] 57 (0, 0)) := by rw [hwz]; exact heap_past_alloc (heap_past_alloc (heap_at_alloc _ _ _ rfl))
  have k2 : wz.heap[w.heap.size + 1 + 1]? = some (.cells #[.slice none 0 0] 34 (0, 0)) := by rw [hwz]; exact heap_at_alloc _ _ _ (by simp)
  have HA : Hid (setA s = #[.int .u64 (s 0), .int .u64 (s 1), .int .u64 (s 2), .int .u64 (s 3), .int .u64 (s 4), .int .u64 (s 5)]) := rfl
  have q0 : (setA s)[0]? = some (.int .u64 (s 0)) := rfl
  have q1 : (setA s)[1]? = some (.int .u64 (s 1)) := rfl
  have q2 : (setA s)[2]? = some (.int .u64 (s 2)) := rfl
  have q3 : (setA s)[3]? = some (.int .u64 (s 3)) := rfl
  have q4 : (setA s)[4]? = some (.int .u64 (s 4)) := rfl
  have q5 : (setA s)[5]? = some (.int .u64 (s 5)) := rfl
  have hszz : wz.heap.size = w.heap.size + 1 + 1 + 1 := by rw [hwz]; simp
  have HK : Hid (wz.heap[w.heap.size]? = some (.cells #[.pointer (some ⟨q, 0, none⟩)] 57 (0, 0)) ∧ wz.heap[w.heap.size + 1 + 1]? = some (.cells #[.slice none 0 0] 34 (0, 0)) ∧ wz.heap.size = w.heap.size + 1 + 1 + 1) := ⟨k0, k2, hszz⟩
  have HC : Hid (CrtAt w q ao n c A) := hc
  have HN : Hid (n = ls.length ∧ n ≤ 6 ∧ ls.Nodup) := ⟨hn, h6, hnd⟩
  have HST : Hid (Strs w ao b off ls) := hst
  have HS : Hid (SetOK s) := hs
  have HF : Hid (Fit ls.length s) := hf
  have HT : Hid (TzTab w) := hT
  have hmx : Tryz.prog.follows .mixedOrders = true := by kernel_rfl
  obtain ⟨i0, hi, hz0, hz1, hz2⟩ := info_parts Tryz.infoPolD
  clear hwz k0 k2 hc hn h6 hnd hst hs hf hT hszz
  refine (callsIn_wide (n := 5)).1 ?_
  refine callsIn_of_wp_marks Tryz.func33 rfl trivial ?_ rfl
  simp only [Tryz.ntmps33, List.size_toArray, List.length_cons, List.length_nil, Nat.reduceAdd, Nat.reduceSub, Array.replicate_succ, Array.replicate_zero, List.push_toArray, List.append_toArray, List.nil_append, List.cons_append]
  gi_wp2
  rw [← HWZ.out]
  rw [← HA.out]
  clear HWZ q0 q1 q2 q3 q4 q5
  refine ⟨trivial, (policiesIn 4 s _).mono ?_⟩
  rintro e w2 ⟨rfl, hw2⟩
  have HB2 : Hid (Below w.heap.size w w2) := by
    show Below _ _ _
    rw [hw2]; exact HBZ.out.alloc HBZ.out.size _
  have e0 : w2.cell? ⟨w.heap.size, 0, none⟩ = some (.pointer (some ⟨q, 0, none⟩)) := by rw [hw2]; exact cell_al _ (cell_blk HK.out.1)
  have HI0 : Hid (LbI (w.heap.size + 1 + 1 + 1) (w.heap.size + 1 + 1) ls [] w2) := by
    refine ⟨.slice none 0 0, [], ?_, World.ownsRow_nil _ _ _ _, fun y hy => (by cases hy), rfl⟩
    show w2.heap[_]? = _
    rw [hw2]; exact heap_past_alloc HK.out.2.1
  have hset : SetAt w2 wz.heap.size s := by show w2.heap[_]? = _; rw [hw2]; exact heap_at_alloc _ _ _ rfl
  have HSQ : Hid (SeqStopsK Fence.wide 4 Tryz.prog 112 #[.pointer (some ⟨wz.heap.size, 0, none⟩)] (fun x : PC ls => #[Value.agg #[.int .i64 (x.1.1.1 : Int), .int .u8 (x.1.1.2 : Int)]]) (Below w.heap.size) (fun ys => ys.map (·.1) = polsF s 6) (fun pre => pre.map (·.1) <+: polsF s 6) (polsF s 6).length w2) :=
    pol_stopsP 4 wz.heap.size w.heap.size s (by omega) HS.out HT.out.2 (fun p => p.1.1 < ls.length) (fun p hp => (HF.out _ _ (polsF_mem.1 hp).2).1) w2 hset (HT.out.later HB2.out)
  clear hw2 hset HS HBZ
  gi_wp2
  refine wpIn_rangeFunc_ownH rfl (by omega) (gf := 112) (lb := #[.pointer (some ⟨wz.heap.size, 0, none⟩)]) rfl trivial (enters_of Tryz.func112 (by kernel_rfl) rfl)
    HSQ.out belowK_t (belowK_b HB2.out.size) (Below.refl _ _) (fun _ => rfl)
    (fun pre W => (LbI (w.heap.size + 1 + 1 + 1) (w.heap.size + 1 + 1) ls pre W ∧ W.cell? ⟨w.heap.size, 0, none⟩ = some (.pointer (some ⟨q, 0, none⟩))) ∧ Below w.heap.size w W)
    (fun _ _ _ => False)
    (OwnFrom.and (Own.from (fun s A B row hs hg hr => ⟨lbI_own _ _ _ s A B row hs.1 hg hr, cell_kept hs.2 hg hr⟩) _) (ownFrom_below (Nat.le_refl _) HB2.out.size))
    (fun _ _ _ _ _ hs _ _ => hs)
    ⟨⟨HI0.out, e0⟩, HB2.out⟩
    (fun x a' W => (∃ Bx, W.heap[Bx]? = some (.cells #[.int .i64 (x.1.1.1 : Int), .int .u8 (x.1.1.2 : Int)] 126 (0, 0)) ∧ a' = { tmps := #[.pointer (some ⟨q, 0, none⟩), .agg (setA s), .pointer (some ⟨w.heap.size, 0, none⟩), .pointer (some ⟨w.heap.size + 1, 0, none⟩), .slice none 0 0, .pointer (some ⟨w.heap.size + 1 + 1, 0, none⟩), .pointer (some ⟨Bx, 0, none⟩), .agg (setA s), .func (.func 112) #[] #[.pointer (some ⟨wz.heap.size, 0, none⟩)], .agg #[.int .i64 (x.1.1.1 : Int), .int .u8 (x.1.1.2 : Int)], undef, undef, undef, undef, undef, undef, undef, undef, undef, undef, undef, undef, undef, undef, undef, undef, undef], defers := [] }))
    ?hAx ?assign ?body ?done ?stop
  case hAx =>
    intro x a'
    exact Own.from (fun s A B row hs hg hr => by obtain ⟨Bx, g1, g3⟩ := hs; exact ⟨Bx, blk_own g1 hg hr, g3⟩) _
  case assign =>
    rintro l pre x W K ⟨⟨h1, h2⟩, h7⟩ hK
    gi_wp2
    have hn : (W.alloc (.cells #[.int .i64 (x.1.1.1 : Int), .int .u8 (x.1.1.2 : Int)] 126)).heap[W.heap.size]? = some (.cells #[.int .i64 (x.1.1.1 : Int), .int .u8 (x.1.1.2 : Int)] 126 (0, 0)) := heap_at_alloc _ _ _ rfl
    exact hK _ _ ((KeepsOthers.alloc _ _).from _) ((Below.refl _ W).alloc h7.size _) ⟨⟨lbI_below h1 ((Below.refl _ W).alloc (Nat.le_refl _) _), cell_al _ h2⟩, h7.alloc h7.size _⟩ ⟨W.heap.size, hn, rfl⟩
  case body =>
    rintro l pre x a' W hl hr ⟨⟨⟨v, L, hv, hrow, hoff, hL⟩, h2⟩, h7⟩ ⟨Bx, xb, rfl⟩ hlt
    have x0 : W.cell? ⟨Bx, 0, none⟩ = some (.int .i64 (x.1.1.1 : Int)) := cell_blk xb
    have x1 : W.cell? ⟨Bx, 1, none⟩ = some (.int .u8 (x.1.1.2 : Int)) := cell_blk xb
    have HBX : Hid (some Bx ≠ v.ownBlock) := by
      intro e
      rcases hrow.2 with ⟨rfl, _⟩ | ⟨g, cap, cur, rfl, _, hgb, _⟩
      · cases e
      · have e' : Bx = g := by simpa [Value.ownBlock] using e
        subst e'
        rw [hgb] at xb
        injection xb with xb
        injection xb with _ xb _
        exact absurd xb (by decide)
    have hcW := HC.out.below' h7
    have c0 := hcW.c0
    have lq := lt_of_block hcW.blk
    have HSTW : Hid (Strs W ao b off ls) := HST.out.later h7
    have HCW : Hid (CrtAt W q ao n c A) := hcW
    have hxo : x.1.1.1 < ls.length := x.2
    have hxg := x.1.2.2
    have HPO : Hid (polOf ls x.1 = (ls[x.1.1.1], Sol.names ls x.1.1.2)) := by show _ = _; unfold polOf; simp [List.getD, hxo]
    have hao := HSTW.out.adr (by omega)
    have f0 := HSTW.out.cell x.1.1.1 hxo
    have hnames : ∀ W' : World, Below W.heap.size W W' → Calls Tryz.prog 73 #[.pointer (some ⟨q, 0, none⟩), .int .u8 (x.1.1.2 : Int)] W' fun e w' => ∃ v, e = .returned v ∧ w'.ownsRow W'.heap.size 9 1 v (Sol.names ls x.1.1.2).length (strC (Sol.names ls x.1.1.2)) ∧ Below W'.heap.size W' w' :=
      fun W' hb => namesCt q ao b off n c A ls x.1.1.2 W' (HCW.out.later hb) HN.out.1 HN.out.2.1 HN.out.2.2 (HSTW.out.later hb) hxg
    obtain ⟨nm, hnm⟩ : ∃ nm, nm = ls[x.1.1.1] := ⟨_, rfl⟩
    obtain ⟨rs, hrs⟩ : ∃ rs, rs = Sol.names ls x.1.1.2 := ⟨_, rfl⟩
    obtain ⟨xo, hxo'⟩ : ∃ xo, xo = x.1.1.1 := ⟨_, rfl⟩
    obtain ⟨xg, hxg'⟩ : ∃ xg, xg = x.1.1.2 := ⟨_, rfl⟩
    rw [← hnm] at f0 HPO
    simp only [← hrs] at hnames
    rw [← hrs] at HPO
    rw [← hxo'] at f0 x0 hxo ⊢
    rw [← hxg'] at x1 hxg ⊢
    simp only [← hxg'] at hnames
    have hxn : (xo : Int) < (n : Int) := by have := HN.out.1; omega
    obtain ⟨ov, ocap, hov⟩ := slice_of hrow
    subst hov
    subst hao
    have cv : W.cell? ⟨w.heap.size + 1 + 1, 0, none⟩ = some (.slice ov L.length ocap) := cell_blk hv
    have H7 : Hid (Below w.heap.size w W) := h7
    have HROW : Hid (W.ownsRow (w.heap.size + 1 + 1 + 1) 72 2 (.slice ov L.length ocap) L.length (polC L)) := hrow
    have HOFF : Hid (∀ y ∈ L, Off W (Value.slice ov L.length ocap).ownBlock y) := hoff
    have HLM : Hid (L.map (·.1) = pre.map (fun p => polOf ls p.1)) := hL
    have HV : Hid (Boxed W (w.heap.size + 1 + 1) 34 (.slice ov L.length ocap)) := hv
    clear hcW hnm hrs hxo' hxg' h7 hrow hoff hL hv
    have HNB : Hid (w.heap.size + 1 + 1 ≠ w.heap.size ∧ w.heap.size + 1 + 1 ≠ q ∧ w.heap.size + 1 + 1 ≠ Bx ∧ w.heap.size + 1 + 1 ≠ b) := by
      have hq := lt_of_block HC.out.blk
      have hb := HST.out.lt (by omega)
      refine ⟨by omega, by omega, fun e => ?_, by omega⟩
      rw [← e] at xb
      have hv' : W.heap[w.heap.size + 1 + 1]? = _ := HV.out
      rw [hv'] at xb
      injection xb with xb
      injection xb with _ xb _
      exact absurd xb (by decide)
    clear xb
    have HLEN : Hid (L.length + 1 ≤ 193) := by
      have h1 : L.length = pre.length := by have := congrArg List.length HLM.out; simpa using this
      have := pols_few HF.out
      show _ ≤ _
      omega
    have HLO : Hid (some w.heap.size ≠ (Value.slice ov L.length ocap).ownBlock ∧ some q ≠ (Value.slice ov L.length ocap).ownBlock ∧ some b ≠ (Value.slice ov L.length ocap).ownBlock ∧ some (w.heap.size + 1 + 1) ≠ (Value.slice ov L.length ocap).ownBlock) := by
      have hq := lt_of_block HC.out.blk
      have hb := HST.out.lt (by omega)
      have hne : ∀ k, k < w.heap.size + 1 + 1 + 1 → some k ≠ (Value.slice ov L.length ocap).ownBlock := fun k hk e => by have := (HROW.out.lt _ e.symm).1; omega
      exact ⟨hne _ (by omega), hne _ (by omega), hne _ (by omega), hne _ (by omega)⟩
    gi_wp2
    refine wpIn_held_round (S := fun W' => W'.cell? ⟨w.heap.size, 0, none⟩ = some (.pointer (some ⟨q, 0, none⟩)) ∧ W'.cell? ⟨q, 0, none⟩ = some (.slice (some ⟨b, off, none⟩) n c) ∧ W'.cell? ⟨Bx, 0, none⟩ = some (.int .i64 (xo : Int)) ∧ W'.cell? ⟨Bx, 1, none⟩ = some (.int .u8 (xg : Int)) ∧ W'.cell? ⟨b, off + xo, none⟩ = some (.string nm)) (by kernel_rfl) ?hq hmx ⟨h2, c0, x0, x1, f0⟩ ?_
    case hq =>
      rintro ⟨_, _, h⟩
      exact h
    intro hHeld
    refine wpAnyH_take (i := 1) (v := .pointer (some ⟨q, 0, none⟩)) rfl (by kernel_rfl) (by kernel_rfl) (by kernel_rfl) (fun _ _ _ h => h) (Or.inl ⟨by rfl, fun W' hSw => by dsimp only at hSw; go_simp⟩) hHeld ?_
    simp only [Act.put]
    refine wpAnyH_take (i := 2) (v := .pointer (some ⟨q, 0, none⟩)) rfl (by kernel_rfl) (by kernel_rfl) (by kernel_rfl) (fun _ _ _ h => h) (Or.inl ⟨by rfl, fun W' hSw => by dsimp only at hSw; go_simp⟩) hHeld ?_
    simp only [Act.put]
    refine wpAnyH_take (i := 3) (v := .pointer (some ⟨q, 0, none⟩)) rfl (by kernel_rfl) (by kernel_rfl) (by kernel_rfl) (fun _ _ _ h => h) (Or.inl ⟨by rfl, fun W' hSw => by dsimp only at hSw; go_simp⟩) hHeld ?_
    simp only [Act.put]
    refine wpAnyH_take (i := 4) (v := .slice (some ⟨b, off, none⟩) n c) rfl (by kernel_rfl) (by kernel_rfl) (by kernel_rfl) (fun _ _ _ h => h) (Or.inl ⟨by rfl, fun W' hSw => by dsimp only at hSw; go_simp⟩) hHeld ?_
    simp only [Act.put]
    refine wpAnyH_take (i := 5) (v := .pointer (some ⟨Bx, 0, none⟩)) rfl (by kernel_rfl) (by kernel_rfl) (by kernel_rfl) (fun _ _ _ h => h) (Or.inl ⟨by rfl, fun W' hSw => by dsimp only at hSw; go_simp⟩) hHeld ?_
    simp only [Act.put]
    refine wpAnyH_take (i := 6) (v := .int .i64 (xo : Int)) rfl (by kernel_rfl) (by kernel_rfl) (by kernel_rfl) (fun _ _ _ h => h) (Or.inl ⟨by rfl, fun W' hSw => by dsimp only at hSw; go_simp⟩) hHeld ?_
    simp only [Act.put]
    refine wpAnyH_take (i := 7) (v := .pointer (some ⟨b, off + xo, none⟩)) rfl (by kernel_rfl) (by kernel_rfl) (by kernel_rfl) (fun _ _ _ h => h) (Or.inl ⟨by rfl, fun W' hSw => by dsimp only at hSw; go_simp⟩) hHeld ?_
    simp only [Act.put]
    refine wpAnyH_take (i := 8) (v := .string nm) rfl (by kernel_rfl) (by kernel_rfl) (by kernel_rfl) (fun _ _ _ h => h) (Or.inl ⟨by rfl, fun W' hSw => by dsimp only at hSw; go_simp⟩) hHeld ?_
    simp only [Act.put]
    refine wpAnyH_take (i := 9) (v := .pointer (some ⟨q, 0, none⟩)) rfl (by kernel_rfl) (by kernel_rfl) (by kernel_rfl) (fun _ _ _ h => h) (Or.inl ⟨by rfl, fun W' hSw => by dsimp only at hSw; go_simp⟩) hHeld ?_
    simp only [Act.put]
    refine wpAnyH_take (i := 10) (v := .pointer (some ⟨Bx, 1, none⟩)) rfl (by kernel_rfl) (by kernel_rfl) (by kernel_rfl) (fun _ _ _ h => h) (Or.inl ⟨by rfl, fun W' hSw => by dsimp only at hSw; go_simp⟩) hHeld ?_
    simp only [Act.put]
    refine wpAnyH_take (i := 11) (v := .int .u8 (xg : Int)) rfl (by kernel_rfl) (by kernel_rfl) (by kernel_rfl) (fun _ _ _ h => h) (Or.inl ⟨by rfl, fun W' hSw => by dsimp only at hSw; go_simp⟩) hHeld ?_
    simp only [Act.put]
    refine wpAnyH_ready (rs := [0, 12]) (by kernel_rfl) (by simp) ?_
    refine AllReadyH.cons rfl (fun K hK => ?_) (AllReadyH.cons rfl (fun K hK => ?_) AllReadyH.nil)
    · go_simp
      refine hK.out _ _ ⟨h2, c0, x0, x1, f0⟩ ?_
      clear hK K
      intro hHeld
      refine wpAnyH_ready (rs := [12]) (by kernel_rfl) (by simp) ?_
      refine AllReadyH.cons rfl (fun K hK => ?_) AllReadyH.nil
      go_simp
      refine (hnames W.drew ⟨rfl, rfl, rfl, Nat.le_refl _, fun _ _ => rfl⟩).mono ?_
      rintro e w4 ⟨v4, rfl, hown4, hb4⟩
      obtain ⟨ro, rcap, hv4⟩ := slice_of hown4
      subst hv4
      have HOWN4 : Hid (w4.ownsRow W.heap.size 9 1 (.slice ro rs.length rcap) rs.length (strC rs)) := hown4
      have HB4 : Hid (Below W.heap.size W w4) := ⟨hb4.os, hb4.tape, hb4.output, hb4.size, hb4.block⟩
      have a0 := cell_below HB4.out cv
      have a1 := cell_below HB4.out h2
      have a2 := cell_below HB4.out c0
      have a3 := cell_below HB4.out x0
      have a4 := cell_below HB4.out x1
      have a5 := cell_below HB4.out f0
      clear hown4 hb4 hHeld cv h2 c0 x0 x1 f0 hnames
      refine hK.out _ _ ⟨a1, a2, a3, a4, a5⟩ ?_
      clear hK K
      intro hHeld
      refine wpAnyH_take (i := 13) (v := .agg #[.string nm, .slice ro rs.length rcap]) rfl (by kernel_rfl) (by kernel_rfl) (by kernel_rfl) (fun _ _ _ h => h) (Or.inl ⟨by rfl, fun W' hSw => by dsimp only at hSw; go_simp⟩) hHeld ?_
      simp only [Act.put]
      refine wpAnyH_ready (rs := [14]) (by kernel_rfl) (by simp) ?_
      refine AllReadyH.cons rfl (fun K hK => ?_) AllReadyH.nil
      go_simp
      obtain ⟨w5, hw5⟩ : ∃ w5, w5 = w4.alloc (.cells #[.string nm, .slice ro rs.length rcap] 72) := ⟨_, rfl⟩
      rw [← hw5]
      have H45 : Hid (Below w4.heap.size w4 w5) := by show Below _ _ _; rw [hw5]; exact (Below.refl _ _).alloc (Nat.le_refl _) _
      have HB5 : Hid (Below W.heap.size W w5) := HB4.out.trans (H45.out.mono HB4.out.size)
      have b0 := cell_below H45.out a0
      have b1 := cell_below H45.out a1
      have b2 := cell_below H45.out a2
      have b3 := cell_below H45.out a3
      have b4 := cell_below H45.out a4
      have b5 := cell_below H45.out a5
      have HNEW : Hid (∀ j u, ([.string nm, .slice ro rs.length rcap] : List Value)[j]? = some u → w5.cell? ((⟨w4.heap.size, 0, none⟩ : Addr).add j) = some u) := by rw [hw5]; exact two_new w4 _ _ _
      have HW5 : Hid (w5 = w4.alloc (.cells #[.string nm, .slice ro rs.length rcap] 72)) := hw5
      clear hw5 a0 a1 a2 a3 a4 a5 hHeld
      refine hK.out _ _ ⟨b1, b2, b3, b4, b5⟩ ?_
      clear hK K
      intro hHeld
      refine wpAnyH_ready (rs := [15]) (by kernel_rfl) (by simp) ?_
      refine AllReadyH.cons rfl (fun K hK => ?_) AllReadyH.nil
      refine step_append_lies w5 rfl (.tmp 10) (.tmp 24) 34 rfl (w.heap.size + 1 + 1 + 1) 72 i0 (.agg #[.string ⟨#[]⟩, .slice none 0 0]) 2 40 Tryz.underlying34 hi hz0 hz1 hz2 rfl (by decide) (.slice ov L.length ocap) L.length (polC L) rfl (own_below HROW.out HB5.out) ⟨w4.heap.size, 0, none⟩ 1 1 [.string nm, .slice ro rs.length rcap] rfl rfl HNEW.out ?h1 (by omega) ?h63 ?hby ?hbase w5.heap.size rfl ?_
      case h1 => intro u hu; simp at hu; rcases hu with rfl | rfl <;> rfl
      case h63 => have := HLEN.out; unfold maxLen; omega
      case hby => have := HLEN.out; omega
      case hbase =>
        have := HB5.out.size
        have h8 := lt_of_block (HV.out : W.heap[_]? = _)
        omega
      rintro g6 cap6 w6 hown6 hgr6 hloc6 hlt6
      obtain ⟨FB, FC⟩ := (label_step (w := w) (W := W) (w4 := w4) (w5 := w5) (w6 := w6) (L := L) (y := ((nm, rs), .slice ro rs.length rcap)) H7.out HV.out HROW.out HOFF.out HB4.out HOWN4.out HW5.out hown6 hgr6 hloc6).out
      have d1 := FC b1 HLO.out.1
      have d2 := FC b2 HLO.out.2.1
      have d3 := FC b3 HBX.out
      have d4 := FC b4 HBX.out
      have d5 := FC b5 HLO.out.2.2.1
      have d0 := FC b0 HLO.out.2.2.2
      have dz : w6.frozen? ⟨w.heap.size + 1 + 1, 0, none⟩ = false := FB.out.1
      have HFB : Hid _ := FB
      clear hown6 hgr6 hloc6 FC FB b0 b1 b2 b3 b4 b5 hHeld
      refine hK.out _ _ ⟨d1, d2, d3, d4, d5⟩ ?_
      clear hK K
      intro hHeld
      simp only [Act.put]
      refine wpAnyH_ready (rs := [16]) (by kernel_rfl) (by simp) ?_
      refine AllReadyH.cons rfl (fun K hK => ?_) AllReadyH.nil
      go_simp
      have HBE : Hid (w.heap.size + 1 + 1 ≠ w.heap.size ∧ w.heap.size + 1 + 1 ≠ q ∧ w.heap.size + 1 + 1 ≠ Bx ∧ w.heap.size + 1 + 1 ≠ b) := HNB
      refine hK.out _ _ ⟨(World.cell?_setCell_far w6 ⟨w.heap.size + 1 + 1, 0, none⟩ _ _ HBE.out.1).trans d1, (World.cell?_setCell_far w6 ⟨w.heap.size + 1 + 1, 0, none⟩ _ _ HBE.out.2.1).trans d2, (World.cell?_setCell_far w6 ⟨w.heap.size + 1 + 1, 0, none⟩ _ _ HBE.out.2.2.1).trans d3, (World.cell?_setCell_far w6 ⟨w.heap.size + 1 + 1, 0, none⟩ _ _ HBE.out.2.2.1).trans d4, (World.cell?_setCell_far w6 ⟨w.heap.size + 1 + 1, 0, none⟩ _ _ HBE.out.2.2.2).trans d5⟩ ?_
      clear hK K
      intro _
      refine wpAnyH_done (by kernel_rfl) ?_ _
      obtain ⟨f1, f2, f3⟩ := label_fin (x := x) HFB HLM.out HPO.out.symm
      have f4 := (World.cell?_setCell_far w6 ⟨w.heap.size + 1 + 1, 0, none⟩ ⟨w.heap.size, 0, none⟩ (.slice (some ⟨g6, 0, none⟩) (L.length + 1) cap6) HBE.out.1).trans d1
      exact ⟨f2.from _, f3, ⟨f1, f4⟩, H7.out.trans f3⟩
    · go_simp
      refine (hnames W.drew ⟨rfl, rfl, rfl, Nat.le_refl _, fun _ _ => rfl⟩).mono ?_
      rintro e w4 ⟨v4, rfl, hown4, hb4⟩
      obtain ⟨ro, rcap, hv4⟩ := slice_of hown4
      subst hv4
      have HOWN4 : Hid (w4.ownsRow W.heap.size 9 1 (.slice ro rs.length rcap) rs.length (strC rs)) := hown4
      have HB4 : Hid (Below W.heap.size W w4) := ⟨hb4.os, hb4.tape, hb4.output, hb4.size, hb4.block⟩
      have a0 := cell_below HB4.out cv
      have a1 := cell_below HB4.out h2
      have a2 := cell_below HB4.out c0
      have a3 := cell_below HB4.out x0
      have a4 := cell_below HB4.out x1
      have a5 := cell_below HB4.out f0
      clear hown4 hb4 hHeld cv h2 c0 x0 x1 f0 hnames
      refine hK.out _ _ ⟨a1, a2, a3, a4, a5⟩ ?_
      clear hK K
      intro hHeld
      refine wpAnyH_take (i := 13) (v := .agg #[.string nm, .slice ro rs.length rcap]) rfl (by kernel_rfl) (by kernel_rfl) (by kernel_rfl) (fun _ _ _ h => h) (Or.inl ⟨by rfl, fun W' hSw => by dsimp only at hSw; go_simp⟩) hHeld ?_
      simp only [Act.put]
      refine wpAnyH_ready (rs := [0, 14]) (by kernel_rfl) (by simp) ?_
      refine AllReadyH.cons rfl (fun K hK => ?_) (AllReadyH.cons rfl (fun K hK => ?_) AllReadyH.nil)
      · go_simp
        refine hK.out _ _ ⟨a1, a2, a3, a4, a5⟩ ?_
        clear hK K
        intro hHeld
        refine wpAnyH_ready (rs := [14]) (by kernel_rfl) (by simp) ?_
        refine AllReadyH.cons rfl (fun K hK => ?_) AllReadyH.nil
        go_simp
        obtain ⟨w5, hw5⟩ : ∃ w5, w5 = w4.alloc (.cells #[.string nm, .slice ro rs.length rcap] 72) := ⟨_, rfl⟩
        rw [← hw5]
        have H45 : Hid (Below w4.heap.size w4 w5) := by show Below _ _ _; rw [hw5]; exact (Below.refl _ _).alloc (Nat.le_refl _) _
        have HB5 : Hid (Below W.heap.size W w5) := HB4.out.trans (H45.out.mono HB4.out.size)
        have b0 := cell_below H45.out a0
        have b1 := cell_below H45.out a1
        have b2 := cell_below H45.out a2
        have b3 := cell_below H45.out a3
        have b4 := cell_below H45.out a4
        have b5 := cell_below H45.out a5
        have HNEW : Hid (∀ j u, ([.string nm, .slice ro rs.length rcap] : List Value)[j]? = some u → w5.cell? ((⟨w4.heap.size, 0, none⟩ : Addr).add j) = some u) := by rw [hw5]; exact two_new w4 _ _ _
        have HW5 : Hid (w5 = w4.alloc (.cells #[.string nm, .slice ro rs.length rcap] 72)) := hw5
        clear hw5 a0 a1 a2 a3 a4 a5 hHeld
        refine hK.out _ _ ⟨b1, b2, b3, b4, b5⟩ ?_
        clear hK K
        intro hHeld
        refine wpAnyH_ready (rs := [15]) (by kernel_rfl) (by simp) ?_
        refine AllReadyH.cons rfl (fun K hK => ?_) AllReadyH.nil
        refine step_append_lies w5 rfl (.tmp 10) (.tmp 24) 34 rfl (w.heap.size + 1 + 1 + 1) 72 i0 (.agg #[.string ⟨#[]⟩, .slice none 0 0]) 2 40 Tryz.underlying34 hi hz0 hz1 hz2 rfl (by decide) (.slice ov L.length ocap) L.length (polC L) rfl (own_below HROW.out HB5.out) ⟨w4.heap.size, 0, none⟩ 1 1 [.string nm, .slice ro rs.length rcap] rfl rfl HNEW.out ?h1 (by omega) ?h63 ?hby ?hbase w5.heap.size rfl ?_
        case h1 => intro u hu; simp at hu; rcases hu with rfl | rfl <;> rfl
        case h63 => have := HLEN.out; unfold maxLen; omega
        case hby => have := HLEN.out; omega
        case hbase =>
          have := HB5.out.size
          have h8 := lt_of_block (HV.out : W.heap[_]? = _)
          omega
        rintro g6 cap6 w6 hown6 hgr6 hloc6 hlt6
        obtain ⟨FB, FC⟩ := (label_step (w := w) (W := W) (w4 := w4) (w5 := w5) (w6 := w6) (L := L) (y := ((nm, rs), .slice ro rs.length rcap)) H7.out HV.out HROW.out HOFF.out HB4.out HOWN4.out HW5.out hown6 hgr6 hloc6).out
        have d1 := FC b1 HLO.out.1
        have d2 := FC b2 HLO.out.2.1
        have d3 := FC b3 HBX.out
        have d4 := FC b4 HBX.out
        have d5 := FC b5 HLO.out.2.2.1
        have d0 := FC b0 HLO.out.2.2.2
        have dz : w6.frozen? ⟨w.heap.size + 1 + 1, 0, none⟩ = false := FB.out.1
        have HFB : Hid _ := FB
        clear hown6 hgr6 hloc6 FC FB b0 b1 b2 b3 b4 b5 hHeld
        refine hK.out _ _ ⟨d1, d2, d3, d4, d5⟩ ?_
        clear hK K
        intro hHeld
        simp only [Act.put]
        refine wpAnyH_ready (rs := [16]) (by kernel_rfl) (by simp) ?_
        refine AllReadyH.cons rfl (fun K hK => ?_) AllReadyH.nil
        go_simp
        have HBE : Hid (w.heap.size + 1 + 1 ≠ w.heap.size ∧ w.heap.size + 1 + 1 ≠ q ∧ w.heap.size + 1 + 1 ≠ Bx ∧ w.heap.size + 1 + 1 ≠ b) := HNB
        refine hK.out _ _ ⟨(World.cell?_setCell_far w6 ⟨w.heap.size + 1 + 1, 0, none⟩ _ _ HBE.out.1).trans d1, (World.cell?_setCell_far w6 ⟨w.heap.size + 1 + 1, 0, none⟩ _ _ HBE.out.2.1).trans d2, (World.cell?_setCell_far w6 ⟨w.heap.size + 1 + 1, 0, none⟩ _ _ HBE.out.2.2.1).trans d3, (World.cell?_setCell_far w6 ⟨w.heap.size + 1 + 1, 0, none⟩ _ _ HBE.out.2.2.1).trans d4, (World.cell?_setCell_far w6 ⟨w.heap.size + 1 + 1, 0, none⟩ _ _ HBE.out.2.2.2).trans d5⟩ ?_
        clear hK K
        intro _
        refine wpAnyH_done (by kernel_rfl) ?_ _
        obtain ⟨f1, f2, f3⟩ := label_fin (x := x) HFB HLM.out HPO.out.symm
        have f4 := (World.cell?_setCell_far w6 ⟨w.heap.size + 1 + 1, 0, none⟩ ⟨w.heap.size, 0, none⟩ (.slice (some ⟨g6, 0, none⟩) (L.length + 1) cap6) HBE.out.1).trans d1
        exact ⟨f2.from _, f3, ⟨f1, f4⟩, H7.out.trans f3⟩
      · go_simp
        obtain ⟨w5, hw5⟩ : ∃ w5, w5 = w4.alloc (.cells #[.string nm, .slice ro rs.length rcap] 72) := ⟨_, rfl⟩
        rw [← hw5]
        have H45 : Hid (Below w4.heap.size w4 w5) := by show Below _ _ _; rw [hw5]; exact (Below.refl _ _).alloc (Nat.le_refl _) _
        have HB5 : Hid (Below W.heap.size W w5) := HB4.out.trans (H45.out.mono HB4.out.size)
        have b0 := cell_below H45.out a0
        have b1 := cell_below H45.out a1
        have b2 := cell_below H45.out a2
        have b3 := cell_below H45.out a3
        have b4 := cell_below H45.out a4
        have b5 := cell_below H45.out a5
        have HNEW : Hid (∀ j u, ([.string nm, .slice ro rs.length rcap] : List Value)[j]? = some u → w5.cell? ((⟨w4.heap.size, 0, none⟩ : Addr).add j) = some u) := by rw [hw5]; exact two_new w4 _ _ _
        have HW5 : Hid (w5 = w4.alloc (.cells #[.string nm, .slice ro rs.length rcap] 72)) := hw5
        clear hw5 a0 a1 a2 a3 a4 a5 hHeld
        refine hK.out _ _ ⟨b1, b2, b3, b4, b5⟩ ?_
        clear hK K
        intro hHeld
        refine wpAnyH_ready (rs := [0]) (by kernel_rfl) (by simp) ?_
        refine AllReadyH.cons rfl (fun K hK => ?_) AllReadyH.nil
        go_simp
        refine hK.out _ _ ⟨b1, b2, b3, b4, b5⟩ ?_
        clear hK K
        intro hHeld
        refine wpAnyH_ready (rs := [15]) (by kernel_rfl) (by simp) ?_
        refine AllReadyH.cons rfl (fun K hK => ?_) AllReadyH.nil
        refine step_append_lies w5 rfl (.tmp 10) (.tmp 24) 34 rfl (w.heap.size + 1 + 1 + 1) 72 i0 (.agg #[.string ⟨#[]⟩, .slice none 0 0]) 2 40 Tryz.underlying34 hi hz0 hz1 hz2 rfl (by decide) (.slice ov L.length ocap) L.length (polC L) rfl (own_below HROW.out HB5.out) ⟨w4.heap.size, 0, none⟩ 1 1 [.string nm, .slice ro rs.length rcap] rfl rfl HNEW.out ?h1 (by omega) ?h63 ?hby ?hbase w5.heap.size rfl ?_
        case h1 => intro u hu; simp at hu; rcases hu with rfl | rfl <;> rfl
        case h63 => have := HLEN.out; unfold maxLen; omega
        case hby => have := HLEN.out; omega
        case hbase =>
          have := HB5.out.size
          have h8 := lt_of_block (HV.out : W.heap[_]? = _)
          omega
        rintro g6 cap6 w6 hown6 hgr6 hloc6 hlt6
        obtain ⟨FB, FC⟩ := (label_step (w := w) (W := W) (w4 := w4) (w5 := w5) (w6 := w6) (L := L) (y := ((nm, rs), .slice ro rs.length rcap)) H7.out HV.out HROW.out HOFF.out HB4.out HOWN4.out HW5.out hown6 hgr6 hloc6).out
        have d1 := FC b1 HLO.out.1
        have d2 := FC b2 HLO.out.2.1
        have d3 := FC b3 HBX.out
        have d4 := FC b4 HBX.out
        have d5 := FC b5 HLO.out.2.2.1
        have d0 := FC b0 HLO.out.2.2.2
        have dz : w6.frozen? ⟨w.heap.size + 1 + 1, 0, none⟩ = false := FB.out.1
        have HFB : Hid _ := FB
        clear hown6 hgr6 hloc6 FC FB b0 b1 b2 b3 b4 b5 hHeld
        refine hK.out _ _ ⟨d1, d2, d3, d4, d5⟩ ?_
        clear hK K
        intro hHeld
        simp only [Act.put]
        refine wpAnyH_ready (rs := [16]) (by kernel_rfl) (by simp) ?_
        refine AllReadyH.cons rfl (fun K hK => ?_) AllReadyH.nil
        go_simp
        have HBE : Hid (w.heap.size + 1 + 1 ≠ w.heap.size ∧ w.heap.size + 1 + 1 ≠ q ∧ w.heap.size + 1 + 1 ≠ Bx ∧ w.heap.size + 1 + 1 ≠ b) := HNB
        refine hK.out _ _ ⟨(World.cell?_setCell_far w6 ⟨w.heap.size + 1 + 1, 0, none⟩ _ _ HBE.out.1).trans d1, (World.cell?_setCell_far w6 ⟨w.heap.size + 1 + 1, 0, none⟩ _ _ HBE.out.2.1).trans d2, (World.cell?_setCell_far w6 ⟨w.heap.size + 1 + 1, 0, none⟩ _ _ HBE.out.2.2.1).trans d3, (World.cell?_setCell_far w6 ⟨w.heap.size + 1 + 1, 0, none⟩ _ _ HBE.out.2.2.1).trans d4, (World.cell?_setCell_far w6 ⟨w.heap.size + 1 + 1, 0, none⟩ _ _ HBE.out.2.2.2).trans d5⟩ ?_
        clear hK K
        intro _
        refine wpAnyH_done (by kernel_rfl) ?_ _
        obtain ⟨f1, f2, f3⟩ := label_fin (x := x) HFB HLM.out HPO.out.symm
        have f4 := (World.cell?_setCell_far w6 ⟨w.heap.size + 1 + 1, 0, none⟩ ⟨w.heap.size, 0, none⟩ (.slice (some ⟨g6, 0, none⟩) (L.length + 1) cap6) HBE.out.1).trans d1
        exact ⟨f2.from _, f3, ⟨f1, f4⟩, H7.out.trans f3⟩
  case done =>
    rintro D ys W hD hys ⟨⟨⟨v, L, hv, hrow, hoff, hL⟩, h2⟩, h7⟩ hK
    have cv := hv.cell
    have HLF : Hid (L.map (·.1) = labF ls s) := by
      show _ = _
      rw [hL, labF_eq, ← hys, List.map_map]
      rfl
    have HLN : Hid (L.length = (labF ls s).length) := by rw [← HLF.out, List.length_map]; rfl
    obtain ⟨ov, ocap, hov⟩ := slice_of hrow
    subst hov
    gi_wp2
    refine ⟨by simp, .inl ⟨_, _, rfl, run_takeDeferred hK, ?_⟩⟩
    have hgp := grownBy_putObj' W D (.deferred none)
    have hrowD : ∀ r, some D = some r → ∃ o : Obj, W.heap[r]? = some o ∧ o.isCells = false := fun r e => by cases e; exact ⟨_, hK, rfl⟩
    refine ⟨_, results_tmp rfl _ _ _, _, rfl, ⟨L, HLF.out, ?_, fun z hz => (off_own (hoff z hz) hgp hrowD).at'⟩, h7.trans (belowK_b (w := w) (Nat.le_refl _) W D _ _ (by have := HB2.out.size; omega) hK rfl rfl)⟩
    rw [← HLN.out]
    refine ownsRow_le' (hrow.kept hgp ?_) (by omega)
    rcases hrow.2 with ⟨h1, _⟩ | ⟨g, cap, cur, h1, _, hgb, _⟩
    · rw [h1]; exact .inl rfl
    · rw [h1]
      refine .inr fun e' => ?_
      obtain ⟨o, ho, hc⟩ := hrowD g (by simpa [Value.ownBlock] using e'.symm)
      rw [hgb] at ho; cases ho; cases hc
  case stop =>
    rintro D c pre W _ _ h _
    exact h.elim
end Go.Proofs.YtnligpcfkmdjeaaGreatDoor
