/- Contract of solve's court: label. Contract of solve.Least. -/
import Derived.Test.YtpbknhhjfhpkmaaGreatDoorGaRd
import Derived.Test.YtpbknhhjfhpkmaaGreatDoorGaNorm
import Derived.RangeFuncBox
import Derived.Test.YtpbknhhjfhpkmaaGreatDoorGaSvA
namespace Go.Proofs.YtpbknhhjfhpkmaaGreatDoor
open Go.RowKit Go.Shelf

attribute [local go_sem] Oper.semAt_some

/- A policy whose owner is a chief. -/
abbrev PC (ls : List ByteArray) := { p : PB // p.1.1 < ls.length }
def polOf (ls : List ByteArray) (p : PB) : Pol := (ls.getD p.1.1 ⟨#[]⟩, Sol.names ls p.1.2)
theorem labF_eq (ls : List ByteArray) (s : Nat → Nat) : labF ls s = (polsF s 6).map (polOf ls) := rfl
/- What is gathered: a row of its own, behind a box. -/
def LbI (base B : Nat) (ls : List ByteArray) (pre : List (PC ls)) (W : World) : Prop := ∃ (v : Value) (L : List PV), Boxed W B 34 v ∧ W.ownsRow base 63 2 v L.length (polC L) ∧ (∀ y ∈ L, Off W v.ownBlock y) ∧ L.map (·.1) = pre.map (fun p => polOf ls p.1)
theorem off_own {X Y : World} {row g : Option Nat} {y : PV} (h : Off X g y) (hg : X.grownBy Y row) (hrow : ∀ r, row = some r → ∃ o : Obj, X.heap[r]? = some o ∧ o.isCells = false) : Off Y g y := by
  obtain ⟨ro, rb, roff, rc, h1, h2, h3, h4, h5⟩ := h
  refine ⟨ro, rb, roff, rc, h1, h2, h3, strs_kept h4 hg fun hp e => ?_, h5⟩
  obtain ⟨o, ho, hc⟩ := hrow rb e.symm
  have := h4.cell 0 hp
  simp only [World.cell?, ho] at this
  cases o <;> first | (simp at this; done) | (exact absurd hc (by simp [Obj.isCells]))
theorem blk_own {X Y : World} {row : Option Nat} {b : Nat} {c : Array Value} {t : TypeId} {f : Nat × Nat} (h : X.heap[b]? = some (.cells c t f)) (hg : X.grownBy Y row) (hrow : ∀ r, row = some r → ∃ o : Obj, X.heap[r]? = some o ∧ o.isCells = false) : Y.heap[b]? = some (.cells c t f) := by
  rw [hg.block _ (lt_of_block h) (fun e => by
    obtain ⟨o, ho, hc⟩ := hrow b e.symm
    rw [h] at ho; cases ho; cases hc)]
  exact h
theorem lbI_own (base B : Nat) (ls : List ByteArray) : Own (LbI base B ls) := by
  rintro s X Y row ⟨v, L, hv, hr, ho, hL⟩ hg hrow
  refine ⟨v, L, hv.kept hg (fun e' => ?_), hr.kept hg ?_, fun y hy => off_own (ho y hy) hg hrow, hL⟩
  · obtain ⟨o, ho, hc⟩ := hrow B e'.symm
    rw [show X.heap[B]? = _ from hv] at ho; cases ho; cases hc
  · rcases hr.2 with ⟨rfl, _⟩ | ⟨g, cap, cur, rfl, _, hgb, _⟩
    · exact .inl rfl
    · refine .inr fun e' => ?_
      obtain ⟨o, ho, hc⟩ := hrow g (by simpa [Value.ownBlock] using e'.symm)
      rw [hgb] at ho; cases ho; cases hc
theorem lbI_below {base B : Nat} {ls : List ByteArray} {pre : List (PC ls)} {W W1 : World} (h : LbI base B ls pre W) (hb : Below W.heap.size W W1) : LbI base B ls pre W1 := by
  obtain ⟨v, L, hv, hr, ho, hL⟩ := h
  exact ⟨v, L, (hb.block _ (lt_of_block hv)).trans hv, own_below hr hb, fun y hy => (ho y hy).later hb, hL⟩

theorem label_step {w W w4 w5 w6 : World} {ov : Option Addr} {ocap g6 cap6 : Nat} {L : List PV} {y : PV} {B : Nat} (h7 : Below w.heap.size w W) (hv : Boxed W (w.heap.size + 1 + 1) B (.slice ov L.length ocap)) (hrow : W.ownsRow (w.heap.size + 1 + 1 + 1) 63 2 (.slice ov L.length ocap) L.length (polC L))
    (hoff : ∀ z ∈ L, Off W (Value.slice ov L.length ocap).ownBlock z) (hb4 : Below W.heap.size W w4) (hown4 : w4.ownsRow W.heap.size 9 1 y.2 y.1.2.length (strC y.1.2)) (hw5 : w5 = w4.alloc (.cells #[.string y.1.1, y.2] 63))
    (hown6 : w6.ownsRow (w.heap.size + 1 + 1 + 1) 63 2 (.slice (some ⟨g6, 0, none⟩) (L.length + 1) cap6) (L.length + 1) (polC L ++ [.string y.1.1, y.2])) (hgr6 : w5.grownBy w6 (Value.slice ov L.length ocap).ownBlock) (hloc6 : (Value.slice ov L.length ocap).ownBlock = some g6 ∨ g6 = w5.heap.size) :
    Hid (Hid (w6.frozen? ⟨w.heap.size + 1 + 1, 0, none⟩ = false ∧ Boxed w6 (w.heap.size + 1 + 1) B (.slice ov L.length ocap) ∧ w6.ownsRow (w.heap.size + 1 + 1 + 1) 63 2 (.slice (some ⟨g6, 0, none⟩) (L.length + 1) cap6) (L ++ [y]).length (polC (L ++ [y])) ∧ (∀ z ∈ L ++ [y], Off w6 (some g6) z) ∧ KeepsOthers W w6 ∧ Below w.heap.size W w6) ∧ ∀ {p : Addr} {u : Value}, w5.cell? p = some u → some p.block ≠ (Value.slice ov L.length ocap).ownBlock → w6.cell? p = some u) := by
  have h45 : Below w4.heap.size w4 w5 := by rw [hw5]; exact (Below.refl _ _).alloc (Nat.le_refl _) _
  have hb5 : Below W.heap.size W w5 := hb4.trans (h45.mono hb4.size)
  have hrow5 := own_below hrow hb5
  have hlt : ∀ k, (Value.slice ov L.length ocap).ownBlock = some k → w.heap.size + 1 + 1 + 1 ≤ k ∧ k < W.heap.size := fun k he => hrow.lt _ he
  have hbx : Boxed w5 (w.heap.size + 1 + 1) B (.slice ov L.length ocap) := (hb5.block _ (lt_of_block hv)).trans hv
  have hne : some (w.heap.size + 1 + 1) ≠ (Value.slice ov L.length ocap).ownBlock := fun e => by have := (hlt _ e.symm).1; omega
  have hbx6 : Boxed w6 (w.heap.size + 1 + 1) B (.slice ov L.length ocap) := (hgr6.block _ (lt_of_block hbx) hne).trans hbx
  have hcells : ∀ k, (Value.slice ov L.length ocap).ownBlock = some k → ∃ c, w5.heap[k]? = some (.cells c 63 (0, 0)) := fun k he => by
    rcases hrow5.2 with ⟨h1, _⟩ | ⟨g, cap, cur, h1, _, hgb, _⟩
    · rw [h1] at he; cases he
    · rw [h1] at he
      have e' : g = k := by simpa [Value.ownBlock] using he
      subst e'
      exact ⟨cur, hgb⟩
  have hloc : (Value.slice (some ⟨g6, 0, none⟩) (L.length + 1) cap6).ownBlock = (Value.slice ov L.length ocap).ownBlock ∨ (Value.slice (some ⟨g6, 0, none⟩) (L.length + 1) cap6).ownBlock = some w5.heap.size := by
    rcases hloc6 with e | e
    · exact .inl e.symm
    · exact .inr (by rw [← e]; rfl)
  refine ⟨⟨by simp [World.frozen?, show w6.heap[w.heap.size + 1 + 1]? = _ from hbx6], hbx6, ?_, fun z hz => ?_, ?_, ?_⟩, fun {p u} hp hn => (hgr6.cell_far p (World.block_lt_of_cell? w5 p hp) hn).trans hp⟩
  · rw [← polC_snoc, List.length_append]; exact hown6
  · have key : ∀ z : PV, Off w5 (Value.slice ov L.length ocap).ownBlock z → Off w6 (some g6) z := fun z h => off_step h hgr6 hloc
    rcases List.mem_append.1 hz with hz | hz
    · exact key z ((hoff z hz).later hb5)
    · have e : z = y := by simpa using hz
      subst e
      obtain ⟨ro, rb, rc, k1, k2, k3, k4, k5⟩ : ∃ ro rb rc, z.2 = .slice ro z.1.2.length rc ∧ z.1.2.length ≤ rc ∧ rc ≤ maxLen ∧ Strs w4 ro rb 0 z.1.2 ∧ (0 < z.1.2.length → W.heap.size ≤ rb) := by
        rcases hown4.2 with ⟨hv0, h0⟩ | ⟨g, cap, cur, hv0, hg, hh, hc1, hc2, hsz, htk⟩
        · exact ⟨none, 0, 0, by rw [hv0, h0], by omega, by simp [maxLen], ⟨fun hp => by omega, fun k hk => by omega, fun hp => by omega⟩, fun hp => by omega⟩
        · refine ⟨some ⟨g, 0, none⟩, g, cap, hv0, hc1, hc2, ⟨fun _ => rfl, fun k hk => ?_, fun _ => lt_of_block hh⟩, fun _ => hg⟩
          have hu : (strC z.1.2)[k]? = some (.string z.1.2[k]) := by simp [strC, hk]
          rw [← htk, List.getElem?_take, if_pos (by omega)] at hu
          rw [Nat.zero_add]
          simp [World.cell?, hh]
          simpa using hu
      refine key z ⟨ro, rb, 0, rc, k1, k2, k3, k4.later h45, fun hp he => ?_⟩
      have := (hlt rb he.symm).2
      have := k5 hp
      omega
  · refine (keeps_below hb5).trans ⟨hgr6.size, fun k o hk hc => ?_⟩
    refine (hgr6.block k (lt_of_block hk) fun e => ?_).trans hk
    obtain ⟨c, hcc⟩ := hcells k e.symm
    rw [hcc] at hk
    cases hk
    cases hc
  · exact (hb5.mono h7.size).grown hgr6 (Nat.le_trans h7.size hb5.size) (fun k e => by have := (hlt k e).1; omega)
/- Behind the store into the box. -/
theorem label_fin {w W w6 : World} {ov : Option Addr} {ocap g6 cap6 : Nat} {L : List PV} {y : PV} {ls : List ByteArray} {pre : List (PC ls)} {x : PC ls}
    (h : Hid (w6.frozen? ⟨w.heap.size + 1 + 1, 0, none⟩ = false ∧ Boxed w6 (w.heap.size + 1 + 1) 34 (.slice ov L.length ocap) ∧ w6.ownsRow (w.heap.size + 1 + 1 + 1) 63 2 (.slice (some ⟨g6, 0, none⟩) (L.length + 1) cap6) (L ++ [y]).length (polC (L ++ [y])) ∧ (∀ z ∈ L ++ [y], Off w6 (some g6) z) ∧ KeepsOthers W w6 ∧ Below w.heap.size W w6))
    (hL : L.map (·.1) = pre.map (fun p => polOf ls p.1)) (hy : y.1 = polOf ls x.1) :
    LbI (w.heap.size + 1 + 1 + 1) (w.heap.size + 1 + 1) ls (pre ++ [x]) (w6.setCell ⟨w.heap.size + 1 + 1, 0, none⟩ (.slice (some ⟨g6, 0, none⟩) (L.length + 1) cap6)) ∧ KeepsOthers W (w6.setCell ⟨w.heap.size + 1 + 1, 0, none⟩ (.slice (some ⟨g6, 0, none⟩) (L.length + 1) cap6)) ∧ Below w.heap.size W (w6.setCell ⟨w.heap.size + 1 + 1, 0, none⟩ (.slice (some ⟨g6, 0, none⟩) (L.length + 1) cap6)) := by
  obtain ⟨_, hb, ho, hf, hk, hbel⟩ := h.out
  have hgs := grownBy_setCell' w6 (w.heap.size + 1 + 1) (.slice (some ⟨g6, 0, none⟩) (L.length + 1) cap6)
  refine ⟨⟨_, L ++ [y], ?_, ho.kept hgs ?_, fun z hz => ?_, by rw [List.map_append, List.map_append, hL]; simp [hy]⟩, hk.trans (KeepsOthers.setCell _ _ _), hbel.setCell (p := ⟨w.heap.size + 1 + 1, 0, none⟩) (by simp; omega) _⟩
  · exact heap_setCell_same w6 _ _ _ _ _ hb
  · refine .inr fun e => ?_
    have := (ho.lt _ e).1
    omega
  · obtain ⟨ro, rb, roff, rc, h1, h2, h3, h4, h5⟩ := hf z hz
    refine ⟨ro, rb, roff, rc, h1, h2, h3, strs_kept h4 hgs fun hp e => ?_, h5⟩
    have e' : rb = w.heap.size + 1 + 1 := by simpa using e
    subst e'
    have := h4.cell 0 hp
    rw [cell_blk hb] at this
    match roff, this with
    | 0, this => cases this
    | r + 1, this => simp at this

set_option maxRecDepth 100000 in
set_option maxHeartbeats 4000000 in
theorem labelCt (q : Nat) (ao : Option Addr) (b off n c : Nat) (A : Nat → Nat) (ls : List ByteArray) (s : Nat → Nat) (w : World) (hc : CrtAt w q ao n c A) (hn : n = ls.length) (h6 : n ≤ 6) (hnd : ls.Nodup) (hst : Strs w ao b off ls) (hs : SetOK s) (hf : Fit ls.length s) (hT : TzTab w) :
    Calls Tryz.prog 23 #[.pointer (some ⟨q, 0, none⟩), .agg (setA s)] w fun e w' => ∃ v, e = .returned v ∧ LabNew w' w.heap.size v (labF ls s) ∧ Below w.heap.size w w' := by
  obtain ⟨wz, hwz⟩ : ∃ wz, wz = ((w.alloc (.cells #[.pointer (some ⟨q, 0, none⟩)] 46)).alloc (.cells (setA s) 54)).alloc (.cells #[.slice none 0 0] 34) := ⟨_, rfl⟩
  have HWZ : Hid (wz = ((w.alloc (.cells #[.pointer (some ⟨q, 0, none⟩)] 46)).alloc (.cells (setA s) 54)).alloc (.cells #[.slice none 0 0] 34)) := hwz
  have HBZ : Hid (Below w.heap.size w wz) := by
    show Below _ _ _
    rw [hwz]
    exact (((Below.refl _ _).alloc (Nat.le_refl _) _).alloc (by simp) _).alloc (by simp; omega) _
  have k0 : wz.heap[w.heap.size]? = some (.cells #[.pointer (some ⟨q, 0, none⟩)] 46 (0, 0)) := by rw [hwz]; exact heap_past_alloc (heap_past_alloc (heap_at_alloc _ _ _ rfl))
  have k2 : wz.heap[w.heap.size + 1 + 1]? = some (.cells #[.slice none 0 0] 34 (0, 0)) := by rw [hwz]; exact heap_at_alloc _ _ _ (by simp)
  have HA : Hid (setA s = #[.int .u64 (s 0), .int .u64 (s 1), .int .u64 (s 2), .int .u64 (s 3), .int .u64 (s 4), .int .u64 (s 5)]) := rfl
  have q0 : (setA s)[0]? = some (.int .u64 (s 0)) := rfl
  have q1 : (setA s)[1]? = some (.int .u64 (s 1)) := rfl
  have q2 : (setA s)[2]? = some (.int .u64 (s 2)) := rfl
  have q3 : (setA s)[3]? = some (.int .u64 (s 3)) := rfl
  have q4 : (setA s)[4]? = some (.int .u64 (s 4)) := rfl
  have q5 : (setA s)[5]? = some (.int .u64 (s 5)) := rfl
  have hszz : wz.heap.size = w.heap.size + 1 + 1 + 1 := by rw [hwz]; simp
  have HK : Hid (wz.heap[w.heap.size]? = some (.cells #[.pointer (some ⟨q, 0, none⟩)] 46 (0, 0)) ∧ wz.heap[w.heap.size + 1 + 1]? = some (.cells #[.slice none 0 0] 34 (0, 0)) ∧ wz.heap.size = w.heap.size + 1 + 1 + 1) := ⟨k0, k2, hszz⟩
  have HC : Hid (CrtAt w q ao n c A) := hc
  have HN : Hid (n = ls.length ∧ n ≤ 6 ∧ ls.Nodup) := ⟨hn, h6, hnd⟩
  have HST : Hid (Strs w ao b off ls) := hst
  have HS : Hid (SetOK s) := hs
  have HF : Hid (Fit ls.length s) := hf
  have HT : Hid (TzTab w) := hT
  have hmx : Tryz.prog.follows .mixedOrders = true := by kernel_rfl
  obtain ⟨i0, hi, hz0, hz1, hz2⟩ := info_parts Tryz.infoPolD
  clear hwz k0 k2 hc hn h6 hnd hst hs hf hT hszz
  refine (callsIn_wide (n := 5)).1 ?_
  refine callsIn_of_wp_marks Tryz.func23 rfl trivial ?_ rfl
  simp only [Tryz.ntmps23, List.size_toArray, List.length_cons, List.length_nil, Nat.reduceAdd, Nat.reduceSub, Array.replicate_succ, Array.replicate_zero, List.push_toArray, List.append_toArray, List.nil_append, List.cons_append]
  gi_wp2
  rw [← HWZ.out]
  rw [← HA.out]
  clear HWZ q0 q1 q2 q3 q4 q5
  refine ⟨trivial, (policiesIn 4 s _).mono ?_⟩
  rintro e w2 ⟨rfl, hw2⟩
  have HB2 : Hid (Below w.heap.size w w2) := by
    show Below _ _ _
    rw [hw2]; exact HBZ.out.alloc HBZ.out.size _
  have e0 : w2.cell? ⟨w.heap.size, 0, none⟩ = some (.pointer (some ⟨q, 0, none⟩)) := by rw [hw2]; exact cell_al _ (cell_blk HK.out.1)
  have HI0 : Hid (LbI (w.heap.size + 1 + 1 + 1) (w.heap.size + 1 + 1) ls [] w2) := by
    refine ⟨.slice none 0 0, [], ?_, World.ownsRow_nil _ _ _ _, fun y hy => (by cases hy), rfl⟩
    show w2.heap[_]? = _
    rw [hw2]; exact heap_past_alloc HK.out.2.1
  have hset : SetAt w2 wz.heap.size s := by show w2.heap[_]? = _; rw [hw2]; exact heap_at_alloc _ _ _ rfl
  have HSQ : Hid (SeqStopsK Fence.wide 4 Tryz.prog 97 #[.pointer (some ⟨wz.heap.size, 0, none⟩)] (fun x : PC ls => #[Value.agg #[.int .i64 (x.1.1.1 : Int), .int .u8 (x.1.1.2 : Int)]]) (Below w.heap.size) (fun ys => ys.map (·.1) = polsF s 6) (fun pre => pre.map (·.1) <+: polsF s 6) (polsF s 6).length w2) :=
    pol_stopsP 4 wz.heap.size w.heap.size s (by omega) HS.out HT.out.2 (fun p => p.1.1 < ls.length) (fun p hp => (HF.out _ _ (polsF_mem.1 hp).2).1) w2 hset (HT.out.later HB2.out)
  clear hw2 hset HS HBZ
  gi_wp2
  refine wpIn_rangeFunc_ownH rfl (by omega) (gf := 97) (lb := #[.pointer (some ⟨wz.heap.size, 0, none⟩)]) rfl trivial (enters_of Tryz.func97 (by kernel_rfl) rfl)
    HSQ.out belowK_t (belowK_b HB2.out.size) (Below.refl _ _) (fun _ => rfl)
    (fun pre W => (LbI (w.heap.size + 1 + 1 + 1) (w.heap.size + 1 + 1) ls pre W ∧ W.cell? ⟨w.heap.size, 0, none⟩ = some (.pointer (some ⟨q, 0, none⟩))) ∧ Below w.heap.size w W)
    (fun _ _ _ => False)
    (OwnFrom.and (Own.from (fun s A B row hs hg hr => ⟨lbI_own _ _ _ s A B row hs.1 hg hr, cell_kept hs.2 hg hr⟩) _) (ownFrom_below (Nat.le_refl _) HB2.out.size))
    (fun _ _ _ _ _ hs _ _ => hs)
    ⟨⟨HI0.out, e0⟩, HB2.out⟩
    (fun x a' W => (∃ Bx, W.heap[Bx]? = some (.cells #[.int .i64 (x.1.1.1 : Int), .int .u8 (x.1.1.2 : Int)] 112 (0, 0)) ∧ a' = { tmps := #[.pointer (some ⟨q, 0, none⟩), .agg (setA s), .pointer (some ⟨w.heap.size, 0, none⟩), .pointer (some ⟨w.heap.size + 1, 0, none⟩), .slice none 0 0, .pointer (some ⟨w.heap.size + 1 + 1, 0, none⟩), .pointer (some ⟨Bx, 0, none⟩), .agg (setA s), .func (.func 97) #[] #[.pointer (some ⟨wz.heap.size, 0, none⟩)], .agg #[.int .i64 (x.1.1.1 : Int), .int .u8 (x.1.1.2 : Int)], undef, undef, undef, undef, undef, undef, undef, undef, undef, undef, undef, undef, undef, undef, undef, undef, undef], defers := [] }))
    ?hAx ?assign ?body ?done ?stop
  case hAx =>
    intro x a'
    exact Own.from (fun s A B row hs hg hr => by obtain ⟨Bx, g1, g3⟩ := hs; exact ⟨Bx, blk_own g1 hg hr, g3⟩) _
  case assign =>
    rintro l pre x W K ⟨⟨h1, h2⟩, h7⟩ hK
    gi_wp2
    have hn : (W.alloc (.cells #[.int .i64 (x.1.1.1 : Int), .int .u8 (x.1.1.2 : Int)] 112)).heap[W.heap.size]? = some (.cells #[.int .i64 (x.1.1.1 : Int), .int .u8 (x.1.1.2 : Int)] 112 (0, 0)) := heap_at_alloc _ _ _ rfl
    exact hK _ _ ((KeepsOthers.alloc _ _).from _) ((Below.refl _ W).alloc h7.size _) ⟨⟨lbI_below h1 ((Below.refl _ W).alloc (Nat.le_refl _) _), cell_al _ h2⟩, h7.alloc h7.size _⟩ ⟨W.heap.size, hn, rfl⟩
  case body =>
    rintro l pre x a' W hl hr ⟨⟨⟨v, L, hv, hrow, hoff, hL⟩, h2⟩, h7⟩ ⟨Bx, xb, rfl⟩ hlt
    have x0 : W.cell? ⟨Bx, 0, none⟩ = some (.int .i64 (x.1.1.1 : Int)) := cell_blk xb
    have x1 : W.cell? ⟨Bx, 1, none⟩ = some (.int .u8 (x.1.1.2 : Int)) := cell_blk xb
    have HBX : Hid (some Bx ≠ v.ownBlock) := by
      intro e
      rcases hrow.2 with ⟨rfl, _⟩ | ⟨g, cap, cur, rfl, _, hgb, _⟩
      · cases e
      · have e' : Bx = g := by simpa [Value.ownBlock] using e
        subst e'
        rw [hgb] at xb
        injection xb with xb
        injection xb with _ xb _
        exact absurd xb (by decide)
    have hcW := HC.out.below' h7
    have c0 := hcW.c0
    have lq := lt_of_block hcW.blk
    have HSTW : Hid (Strs W ao b off ls) := HST.out.later h7
    have HCW : Hid (CrtAt W q ao n c A) := hcW
    have hxo : x.1.1.1 < ls.length := x.2
    have hxg := x.1.2.2
    have HPO : Hid (polOf ls x.1 = (ls[x.1.1.1], Sol.names ls x.1.1.2)) := by show _ = _; unfold polOf; simp [List.getD, hxo]
    have hao := HSTW.out.adr (by omega)
    have f0 := HSTW.out.cell x.1.1.1 hxo
    have hnames : ∀ W' : World, Below W.heap.size W W' → Calls Tryz.prog 58 #[.pointer (some ⟨q, 0, none⟩), .int .u8 (x.1.1.2 : Int)] W' fun e w' => ∃ v, e = .returned v ∧ w'.ownsRow W'.heap.size 9 1 v (Sol.names ls x.1.1.2).length (strC (Sol.names ls x.1.1.2)) ∧ Below W'.heap.size W' w' :=
      fun W' hb => namesCt q ao b off n c A ls x.1.1.2 W' (HCW.out.later hb) HN.out.1 HN.out.2.1 HN.out.2.2 (HSTW.out.later hb) hxg
    obtain ⟨nm, hnm⟩ : ∃ nm, nm = ls[x.1.1.1] := ⟨_, rfl⟩
    obtain ⟨rs, hrs⟩ : ∃ rs, rs = Sol.names ls x.1.1.2 := ⟨_, rfl⟩
    obtain ⟨xo, hxo'⟩ : ∃ xo, xo = x.1.1.1 := ⟨_, rfl⟩
    obtain ⟨xg, hxg'⟩ : ∃ xg, xg = x.1.1.2 := ⟨_, rfl⟩
    rw [← hnm] at f0 HPO
    simp only [← hrs] at hnames
    rw [← hrs] at HPO
    rw [← hxo'] at f0 x0 hxo ⊢
    rw [← hxg'] at x1 hxg ⊢
    simp only [← hxg'] at hnames
    have hxn : (xo : Int) < (n : Int) := by have := HN.out.1; omega
    obtain ⟨ov, ocap, hov⟩ := slice_of hrow
    subst hov
    subst hao
    have cv : W.cell? ⟨w.heap.size + 1 + 1, 0, none⟩ = some (.slice ov L.length ocap) := cell_blk hv
    have H7 : Hid (Below w.heap.size w W) := h7
    have HROW : Hid (W.ownsRow (w.heap.size + 1 + 1 + 1) 63 2 (.slice ov L.length ocap) L.length (polC L)) := hrow
    have HOFF : Hid (∀ y ∈ L, Off W (Value.slice ov L.length ocap).ownBlock y) := hoff
    have HLM : Hid (L.map (·.1) = pre.map (fun p => polOf ls p.1)) := hL
    have HV : Hid (Boxed W (w.heap.size + 1 + 1) 34 (.slice ov L.length ocap)) := hv
    clear hcW hnm hrs hxo' hxg' h7 hrow hoff hL hv
    have HNB : Hid (w.heap.size + 1 + 1 ≠ w.heap.size ∧ w.heap.size + 1 + 1 ≠ q ∧ w.heap.size + 1 + 1 ≠ Bx ∧ w.heap.size + 1 + 1 ≠ b) := by
      have hq := lt_of_block HC.out.blk
      have hb := HST.out.lt (by omega)
      refine ⟨by omega, by omega, fun e => ?_, by omega⟩
      rw [← e] at xb
      have hv' : W.heap[w.heap.size + 1 + 1]? = _ := HV.out
      rw [hv'] at xb
      injection xb with xb
      injection xb with _ xb _
      exact absurd xb (by decide)
    clear xb
    have HLEN : Hid (L.length + 1 ≤ 193) := by
      have h1 : L.length = pre.length := by have := congrArg List.length HLM.out; simpa using this
      have := pols_few HF.out
      show _ ≤ _
      omega
    have HLO : Hid (some w.heap.size ≠ (Value.slice ov L.length ocap).ownBlock ∧ some q ≠ (Value.slice ov L.length ocap).ownBlock ∧ some b ≠ (Value.slice ov L.length ocap).ownBlock ∧ some (w.heap.size + 1 + 1) ≠ (Value.slice ov L.length ocap).ownBlock) := by
      have hq := lt_of_block HC.out.blk
      have hb := HST.out.lt (by omega)
      have hne : ∀ k, k < w.heap.size + 1 + 1 + 1 → some k ≠ (Value.slice ov L.length ocap).ownBlock := fun k hk e => by have := (HROW.out.lt _ e.symm).1; omega
      exact ⟨hne _ (by omega), hne _ (by omega), hne _ (by omega), hne _ (by omega)⟩
    gi_wp2
    refine wpIn_held_round (S := fun W' => W'.cell? ⟨w.heap.size, 0, none⟩ = some (.pointer (some ⟨q, 0, none⟩)) ∧ W'.cell? ⟨q, 0, none⟩ = some (.slice (some ⟨b, off, none⟩) n c) ∧ W'.cell? ⟨Bx, 0, none⟩ = some (.int .i64 (xo : Int)) ∧ W'.cell? ⟨Bx, 1, none⟩ = some (.int .u8 (xg : Int)) ∧ W'.cell? ⟨b, off + xo, none⟩ = some (.string nm)) (by kernel_rfl) ?hq hmx ⟨h2, c0, x0, x1, f0⟩ ?_
    case hq =>
      rintro ⟨_, _, h⟩
      exact h
    intro hHeld
    refine wpAnyH_take (i := 1) (v := .pointer (some ⟨q, 0, none⟩)) rfl (by kernel_rfl) (by kernel_rfl) (by kernel_rfl) (fun _ _ _ h => h) (Or.inl ⟨by rfl, fun W' hSw => by dsimp only at hSw; go_simp⟩) hHeld ?_
    simp only [Act.put]
    refine wpAnyH_take (i := 2) (v := .pointer (some ⟨q, 0, none⟩)) rfl (by kernel_rfl) (by kernel_rfl) (by kernel_rfl) (fun _ _ _ h => h) (Or.inl ⟨by rfl, fun W' hSw => by dsimp only at hSw; go_simp⟩) hHeld ?_
    simp only [Act.put]
    refine wpAnyH_take (i := 3) (v := .pointer (some ⟨q, 0, none⟩)) rfl (by kernel_rfl) (by kernel_rfl) (by kernel_rfl) (fun _ _ _ h => h) (Or.inl ⟨by rfl, fun W' hSw => by dsimp only at hSw; go_simp⟩) hHeld ?_
    simp only [Act.put]
    refine wpAnyH_take (i := 4) (v := .slice (some ⟨b, off, none⟩) n c) rfl (by kernel_rfl) (by kernel_rfl) (by kernel_rfl) (fun _ _ _ h => h) (Or.inl ⟨by rfl, fun W' hSw => by dsimp only at hSw; go_simp⟩) hHeld ?_
    simp only [Act.put]
    refine wpAnyH_take (i := 5) (v := .pointer (some ⟨Bx, 0, none⟩)) rfl (by kernel_rfl) (by kernel_rfl) (by kernel_rfl) (fun _ _ _ h => h) (Or.inl ⟨by rfl, fun W' hSw => by dsimp only at hSw; go_simp⟩) hHeld ?_
    simp only [Act.put]
    refine wpAnyH_take (i := 6) (v := .int .i64 (xo : Int)) rfl (by kernel_rfl) (by kernel_rfl) (by kernel_rfl) (fun _ _ _ h => h) (Or.inl ⟨by rfl, fun W' hSw => by dsimp only at hSw; go_simp⟩) hHeld ?_
    simp only [Act.put]
    refine wpAnyH_take (i := 7) (v := .pointer (some ⟨b, off + xo, none⟩)) rfl (by kernel_rfl) (by kernel_rfl) (by kernel_rfl) (fun _ _ _ h => h) (Or.inl ⟨by rfl, fun W' hSw => by dsimp only at hSw; go_simp⟩) hHeld ?_
    simp only [Act.put]
    refine wpAnyH_take (i := 8) (v := .string nm) rfl (by kernel_rfl) (by kernel_rfl) (by kernel_rfl) (fun _ _ _ h => h) (Or.inl ⟨by rfl, fun W' hSw => by dsimp only at hSw; go_simp⟩) hHeld ?_
    simp only [Act.put]
    refine wpAnyH_take (i := 9) (v := .pointer (some ⟨q, 0, none⟩)) rfl (by kernel_rfl) (by kernel_rfl) (by kernel_rfl) (fun _ _ _ h => h) (Or.inl ⟨by rfl, fun W' hSw => by dsimp only at hSw; go_simp⟩) hHeld ?_
    simp only [Act.put]
    refine wpAnyH_take (i := 10) (v := .pointer (some ⟨Bx, 1, none⟩)) rfl (by kernel_rfl) (by kernel_rfl) (by kernel_rfl) (fun _ _ _ h => h) (Or.inl ⟨by rfl, fun W' hSw => by dsimp only at hSw; go_simp⟩) hHeld ?_
    simp only [Act.put]
    refine wpAnyH_take (i := 11) (v := .int .u8 (xg : Int)) rfl (by kernel_rfl) (by kernel_rfl) (by kernel_rfl) (fun _ _ _ h => h) (Or.inl ⟨by rfl, fun W' hSw => by dsimp only at hSw; go_simp⟩) hHeld ?_
    simp only [Act.put]
    refine wpAnyH_ready (rs := [0, 12]) (by kernel_rfl) (by simp) ?_
    refine AllReadyH.cons rfl (fun K hK => ?_) (AllReadyH.cons rfl (fun K hK => ?_) AllReadyH.nil)
    · go_simp
      refine hK.out _ _ ⟨h2, c0, x0, x1, f0⟩ ?_
      clear hK K
      intro hHeld
      refine wpAnyH_ready (rs := [12]) (by kernel_rfl) (by simp) ?_
      refine AllReadyH.cons rfl (fun K hK => ?_) AllReadyH.nil
      go_simp
      refine (hnames W.drew ⟨rfl, rfl, rfl, Nat.le_refl _, fun _ _ => rfl⟩).mono ?_
      rintro e w4 ⟨v4, rfl, hown4, hb4⟩
      obtain ⟨ro, rcap, hv4⟩ := slice_of hown4
      subst hv4
      have HOWN4 : Hid (w4.ownsRow W.heap.size 9 1 (.slice ro rs.length rcap) rs.length (strC rs)) := hown4
      have HB4 : Hid (Below W.heap.size W w4) := ⟨hb4.os, hb4.tape, hb4.output, hb4.size, hb4.block⟩
      have a0 := cell_below HB4.out cv
      have a1 := cell_below HB4.out h2
      have a2 := cell_below HB4.out c0
      have a3 := cell_below HB4.out x0
      have a4 := cell_below HB4.out x1
      have a5 := cell_below HB4.out f0
      clear hown4 hb4 hHeld cv h2 c0 x0 x1 f0 hnames
      refine hK.out _ _ ⟨a1, a2, a3, a4, a5⟩ ?_
      clear hK K
      intro hHeld
      refine wpAnyH_take (i := 13) (v := .agg #[.string nm, .slice ro rs.length rcap]) rfl (by kernel_rfl) (by kernel_rfl) (by kernel_rfl) (fun _ _ _ h => h) (Or.inl ⟨by rfl, fun W' hSw => by dsimp only at hSw; go_simp⟩) hHeld ?_
      simp only [Act.put]
      refine wpAnyH_ready (rs := [14]) (by kernel_rfl) (by simp) ?_
      refine AllReadyH.cons rfl (fun K hK => ?_) AllReadyH.nil
      go_simp
      obtain ⟨w5, hw5⟩ : ∃ w5, w5 = w4.alloc (.cells #[.string nm, .slice ro rs.length rcap] 63) := ⟨_, rfl⟩
      rw [← hw5]
      have H45 : Hid (Below w4.heap.size w4 w5) := by show Below _ _ _; rw [hw5]; exact (Below.refl _ _).alloc (Nat.le_refl _) _
      have HB5 : Hid (Below W.heap.size W w5) := HB4.out.trans (H45.out.mono HB4.out.size)
      have b0 := cell_below H45.out a0
      have b1 := cell_below H45.out a1
      have b2 := cell_below H45.out a2
      have b3 := cell_below H45.out a3
      have b4 := cell_below H45.out a4
      have b5 := cell_below H45.out a5
      have HNEW : Hid (∀ j u, ([.string nm, .slice ro rs.length rcap] : List Value)[j]? = some u → w5.cell? ((⟨w4.heap.size, 0, none⟩ : Addr).add j) = some u) := by rw [hw5]; exact two_new w4 _ _ _
      have HW5 : Hid (w5 = w4.alloc (.cells #[.string nm, .slice ro rs.length rcap] 63)) := hw5
      clear hw5 a0 a1 a2 a3 a4 a5 hHeld
      refine hK.out _ _ ⟨b1, b2, b3, b4, b5⟩ ?_
      clear hK K
      intro hHeld
      refine wpAnyH_ready (rs := [15]) (by kernel_rfl) (by simp) ?_
      refine AllReadyH.cons rfl (fun K hK => ?_) AllReadyH.nil
      refine step_append_lies w5 rfl (.tmp 10) (.tmp 24) 34 rfl (w.heap.size + 1 + 1 + 1) 63 i0 (.agg #[.string ⟨#[]⟩, .slice none 0 0]) 2 40 Tryz.underlying34 hi hz0 hz1 hz2 rfl (by decide) (.slice ov L.length ocap) L.length (polC L) rfl (own_below HROW.out HB5.out) ⟨w4.heap.size, 0, none⟩ 1 1 [.string nm, .slice ro rs.length rcap] rfl rfl HNEW.out ?h1 (by omega) ?h63 ?hby ?hbase w5.heap.size rfl ?_
      case h1 => intro u hu; simp at hu; rcases hu with rfl | rfl <;> rfl
      case h63 => have := HLEN.out; unfold maxLen; omega
      case hby => have := HLEN.out; omega
      case hbase =>
        have := HB5.out.size
        have h8 := lt_of_block (HV.out : W.heap[_]? = _)
        omega
      rintro g6 cap6 w6 hown6 hgr6 hloc6 hlt6
      obtain ⟨FB, FC⟩ := (label_step (w := w) (W := W) (w4 := w4) (w5 := w5) (w6 := w6) (L := L) (y := ((nm, rs), .slice ro rs.length rcap)) H7.out HV.out HROW.out HOFF.out HB4.out HOWN4.out HW5.out hown6 hgr6 hloc6).out
      have d1 := FC b1 HLO.out.1
      have d2 := FC b2 HLO.out.2.1
      have d3 := FC b3 HBX.out
      have d4 := FC b4 HBX.out
      have d5 := FC b5 HLO.out.2.2.1
      have d0 := FC b0 HLO.out.2.2.2
      have dz : w6.frozen? ⟨w.heap.size + 1 + 1, 0, none⟩ = false := FB.out.1
      have HFB : Hid _ := FB
      clear hown6 hgr6 hloc6 FC FB b0 b1 b2 b3 b4 b5 hHeld
      refine hK.out _ _ ⟨d1, d2, d3, d4, d5⟩ ?_
      clear hK K
      intro hHeld
      simp only [Act.put]
      refine wpAnyH_ready (rs := [16]) (by kernel_rfl) (by simp) ?_
      refine AllReadyH.cons rfl (fun K hK => ?_) AllReadyH.nil
      go_simp
      have HBE : Hid (w.heap.size + 1 + 1 ≠ w.heap.size ∧ w.heap.size + 1 + 1 ≠ q ∧ w.heap.size + 1 + 1 ≠ Bx ∧ w.heap.size + 1 + 1 ≠ b) := HNB
      refine hK.out _ _ ⟨(World.cell?_setCell_far w6 ⟨w.heap.size + 1 + 1, 0, none⟩ _ _ HBE.out.1).trans d1, (World.cell?_setCell_far w6 ⟨w.heap.size + 1 + 1, 0, none⟩ _ _ HBE.out.2.1).trans d2, (World.cell?_setCell_far w6 ⟨w.heap.size + 1 + 1, 0, none⟩ _ _ HBE.out.2.2.1).trans d3, (World.cell?_setCell_far w6 ⟨w.heap.size + 1 + 1, 0, none⟩ _ _ HBE.out.2.2.1).trans d4, (World.cell?_setCell_far w6 ⟨w.heap.size + 1 + 1, 0, none⟩ _ _ HBE.out.2.2.2).trans d5⟩ ?_
      clear hK K
      intro _
      refine wpAnyH_done (by kernel_rfl) ?_ _
      obtain ⟨f1, f2, f3⟩ := label_fin (x := x) HFB HLM.out HPO.out.symm
      have f4 := (World.cell?_setCell_far w6 ⟨w.heap.size + 1 + 1, 0, none⟩ ⟨w.heap.size, 0, none⟩ (.slice (some ⟨g6, 0, none⟩) (L.length + 1) cap6) HBE.out.1).trans d1
      exact ⟨f2.from _, f3, ⟨f1, f4⟩, H7.out.trans f3⟩
    · go_simp
      refine (hnames W.drew ⟨rfl, rfl, rfl, Nat.le_refl _, fun _ _ => rfl⟩).mono ?_
      rintro e w4 ⟨v4, rfl, hown4, hb4⟩
      obtain ⟨ro, rcap, hv4⟩ := slice_of hown4
      subst hv4
      have HOWN4 : Hid (w4.ownsRow W.heap.size 9 1 (.slice ro rs.length rcap) rs.length (strC rs)) := hown4
      have HB4 : Hid (Below W.heap.size W w4) := ⟨hb4.os, hb4.tape, hb4.output, hb4.size, hb4.block⟩
      have a0 := cell_below HB4.out cv
      have a1 := cell_below HB4.out h2
      have a2 := cell_below HB4.out c0
      have a3 := cell_below HB4.out x0
      have a4 := cell_below HB4.out x1
      have a5 := cell_below HB4.out f0
      clear hown4 hb4 hHeld cv h2 c0 x0 x1 f0 hnames
      refine hK.out _ _ ⟨a1, a2, a3, a4, a5⟩ ?_
      clear hK K
      intro hHeld
      refine wpAnyH_take (i := 13) (v := .agg #[.string nm, .slice ro rs.length rcap]) rfl (by kernel_rfl) (by kernel_rfl) (by kernel_rfl) (fun _ _ _ h => h) (Or.inl ⟨by rfl, fun W' hSw => by dsimp only at hSw; go_simp⟩) hHeld ?_
      simp only [Act.put]
      refine wpAnyH_ready (rs := [0, 14]) (by kernel_rfl) (by simp) ?_
      refine AllReadyH.cons rfl (fun K hK => ?_) (AllReadyH.cons rfl (fun K hK => ?_) AllReadyH.nil)
      · go_simp
        refine hK.out _ _ ⟨a1, a2, a3, a4, a5⟩ ?_
        clear hK K
        intro hHeld
        refine wpAnyH_ready (rs := [14]) (by kernel_rfl) (by simp) ?_
        refine AllReadyH.cons rfl (fun K hK => ?_) AllReadyH.nil
        go_simp
        obtain ⟨w5, hw5⟩ : ∃ w5, w5 = w4.alloc (.cells #[.string nm, .slice ro rs.length rcap] 63) := ⟨_, rfl⟩
        rw [← hw5]
        have H45 : Hid (Below w4.heap.size w4 w5) := by show Below _ _ _; rw [hw5]; exact (Below.refl _ _).alloc (Nat.le_refl _) _
        have HB5 : Hid (Below W.heap.size W w5) := HB4.out.trans (H45.out.mono HB4.out.size)
        have b0 := cell_below H45.out a0
        have b1 := cell_below H45.out a1
        have b2 := cell_below H45.out a2
        have b3 := cell_below H45.out a3
        have b4 := cell_below H45.out a4
        have b5 := cell_below H45.out a5
        have HNEW : Hid (∀ j u, ([.string nm, .slice ro rs.length rcap] : List Value)[j]? = some u → w5.cell? ((⟨w4.heap.size, 0, none⟩ : Addr).add j) = some u) := by rw [hw5]; exact two_new w4 _ _ _
        have HW5 : Hid (w5 = w4.alloc (.cells #[.string nm, .slice ro rs.length rcap] 63)) := hw5
        clear hw5 a0 a1 a2 a3 a4 a5 hHeld
        refine hK.out _ _ ⟨b1, b2, b3, b4, b5⟩ ?_
        clear hK K
        intro hHeld
        refine wpAnyH_ready (rs := [15]) (by kernel_rfl) (by simp) ?_
        refine AllReadyH.cons rfl (fun K hK => ?_) AllReadyH.nil
        refine step_append_lies w5 rfl (.tmp 10) (.tmp 24) 34 rfl (w.heap.size + 1 + 1 + 1) 63 i0 (.agg #[.string ⟨#[]⟩, .slice none 0 0]) 2 40 Tryz.underlying34 hi hz0 hz1 hz2 rfl (by decide) (.slice ov L.length ocap) L.length (polC L) rfl (own_below HROW.out HB5.out) ⟨w4.heap.size, 0, none⟩ 1 1 [.string nm, .slice ro rs.length rcap] rfl rfl HNEW.out ?h1 (by omega) ?h63 ?hby ?hbase w5.heap.size rfl ?_
        case h1 => intro u hu; simp at hu; rcases hu with rfl | rfl <;> rfl
        case h63 => have := HLEN.out; unfold maxLen; omega
        case hby => have := HLEN.out; omega
        case hbase =>
          have := HB5.out.size
          have h8 := lt_of_block (HV.out : W.heap[_]? = _)
          omega
        rintro g6 cap6 w6 hown6 hgr6 hloc6 hlt6
        obtain ⟨FB, FC⟩ := (label_step (w := w) (W := W) (w4 := w4) (w5 := w5) (w6 := w6) (L := L) (y := ((nm, rs), .slice ro rs.length rcap)) H7.out HV.out HROW.out HOFF.out HB4.out HOWN4.out HW5.out hown6 hgr6 hloc6).out
        have d1 := FC b1 HLO.out.1
        have d2 := FC b2 HLO.out.2.1
        have d3 := FC b3 HBX.out
        have d4 := FC b4 HBX.out
        have d5 := FC b5 HLO.out.2.2.1
        have d0 := FC b0 HLO.out.2.2.2
        have dz : w6.frozen? ⟨w.heap.size + 1 + 1, 0, none⟩ = false := FB.out.1
        have HFB : Hid _ := FB
        clear hown6 hgr6 hloc6 FC FB b0 b1 b2 b3 b4 b5 hHeld
        refine hK.out _ _ ⟨d1, d2, d3, d4, d5⟩ ?_
        clear hK K
        intro hHeld
        simp only [Act.put]
        refine wpAnyH_ready (rs := [16]) (by kernel_rfl) (by simp) ?_
        refine AllReadyH.cons rfl (fun K hK => ?_) AllReadyH.nil
        go_simp
        have HBE : Hid (w.heap.size + 1 + 1 ≠ w.heap.size ∧ w.heap.size + 1 + 1 ≠ q ∧ w.heap.size + 1 + 1 ≠ Bx ∧ w.heap.size + 1 + 1 ≠ b) := HNB
        refine hK.out _ _ ⟨(World.cell?_setCell_far w6 ⟨w.heap.size + 1 + 1, 0, none⟩ _ _ HBE.out.1).trans d1, (World.cell?_setCell_far w6 ⟨w.heap.size + 1 + 1, 0, none⟩ _ _ HBE.out.2.1).trans d2, (World.cell?_setCell_far w6 ⟨w.heap.size + 1 + 1, 0, none⟩ _ _ HBE.out.2.2.1).trans d3, (World.cell?_setCell_far w6 ⟨w.heap.size + 1 + 1, 0, none⟩ _ _ HBE.out.2.2.1).trans d4, (World.cell?_setCell_far w6 ⟨w.heap.size + 1 + 1, 0, none⟩ _ _ HBE.out.2.2.2).trans d5⟩ ?_
        clear hK K
        intro _
        refine wpAnyH_done (by kernel_rfl) ?_ _
        obtain ⟨f1, f2, f3⟩ := label_fin (x := x) HFB HLM.out HPO.out.symm
        have f4 := (World.cell?_setCell_far w6 ⟨w.heap.size + 1 + 1, 0, none⟩ ⟨w.heap.size, 0, none⟩ (.slice (some ⟨g6, 0, none⟩) (L.length + 1) cap6) HBE.out.1).trans d1
        exact ⟨f2.from _, f3, ⟨f1, f4⟩, H7.out.trans f3⟩
      · go_simp
        obtain ⟨w5, hw5⟩ : ∃ w5, w5 = w4.alloc (.cells #[.string nm, .slice ro rs.length rcap] 63) := ⟨_, rfl⟩
        rw [← hw5]
        have H45 : Hid (Below w4.heap.size w4 w5) := by show Below _ _ _; rw [hw5]; exact (Below.refl _ _).alloc (Nat.le_refl _) _
        have HB5 : Hid (Below W.heap.size W w5) := HB4.out.trans (H45.out.mono HB4.out.size)
        have b0 := cell_below H45.out a0
        have b1 := cell_below H45.out a1
        have b2 := cell_below H45.out a2
        have b3 := cell_below H45.out a3
        have b4 := cell_below H45.out a4
        have b5 := cell_below H45.out a5
        have HNEW : Hid (∀ j u, ([.string nm, .slice ro rs.length rcap] : List Value)[j]? = some u → w5.cell? ((⟨w4.heap.size, 0, none⟩ : Addr).add j) = some u) := by rw [hw5]; exact two_new w4 _ _ _
        have HW5 : Hid (w5 = w4.alloc (.cells #[.string nm, .slice ro rs.length rcap] 63)) := hw5
        clear hw5 a0 a1 a2 a3 a4 a5 hHeld
        refine hK.out _ _ ⟨b1, b2, b3, b4, b5⟩ ?_
        clear hK K
        intro hHeld
        refine wpAnyH_ready (rs := [0]) (by kernel_rfl) (by simp) ?_
        refine AllReadyH.cons rfl (fun K hK => ?_) AllReadyH.nil
        go_simp
        refine hK.out _ _ ⟨b1, b2, b3, b4, b5⟩ ?_
        clear hK K
        intro hHeld
        refine wpAnyH_ready (rs := [15]) (by kernel_rfl) (by simp) ?_
        refine AllReadyH.cons rfl (fun K hK => ?_) AllReadyH.nil
        refine step_append_lies w5 rfl (.tmp 10) (.tmp 24) 34 rfl (w.heap.size + 1 + 1 + 1) 63 i0 (.agg #[.string ⟨#[]⟩, .slice none 0 0]) 2 40 Tryz.underlying34 hi hz0 hz1 hz2 rfl (by decide) (.slice ov L.length ocap) L.length (polC L) rfl (own_below HROW.out HB5.out) ⟨w4.heap.size, 0, none⟩ 1 1 [.string nm, .slice ro rs.length rcap] rfl rfl HNEW.out ?h1 (by omega) ?h63 ?hby ?hbase w5.heap.size rfl ?_
        case h1 => intro u hu; simp at hu; rcases hu with rfl | rfl <;> rfl
        case h63 => have := HLEN.out; unfold maxLen; omega
        case hby => have := HLEN.out; omega
        case hbase =>
          have := HB5.out.size
          have h8 := lt_of_block (HV.out : W.heap[_]? = _)
          omega
        rintro g6 cap6 w6 hown6 hgr6 hloc6 hlt6
        obtain ⟨FB, FC⟩ := (label_step (w := w) (W := W) (w4 := w4) (w5 := w5) (w6 := w6) (L := L) (y := ((nm, rs), .slice ro rs.length rcap)) H7.out HV.out HROW.out HOFF.out HB4.out HOWN4.out HW5.out hown6 hgr6 hloc6).out
        have d1 := FC b1 HLO.out.1
        have d2 := FC b2 HLO.out.2.1
        have d3 := FC b3 HBX.out
        have d4 := FC b4 HBX.out
        have d5 := FC b5 HLO.out.2.2.1
        have d0 := FC b0 HLO.out.2.2.2
        have dz : w6.frozen? ⟨w.heap.size + 1 + 1, 0, none⟩ = false := FB.out.1
        have HFB : Hid _ := FB
        clear hown6 hgr6 hloc6 FC FB b0 b1 b2 b3 b4 b5 hHeld
        refine hK.out _ _ ⟨d1, d2, d3, d4, d5⟩ ?_
        clear hK K
        intro hHeld
        simp only [Act.put]
        refine wpAnyH_ready (rs := [16]) (by kernel_rfl) (by simp) ?_
        refine AllReadyH.cons rfl (fun K hK => ?_) AllReadyH.nil
        go_simp
        have HBE : Hid (w.heap.size + 1 + 1 ≠ w.heap.size ∧ w.heap.size + 1 + 1 ≠ q ∧ w.heap.size + 1 + 1 ≠ Bx ∧ w.heap.size + 1 + 1 ≠ b) := HNB
        refine hK.out _ _ ⟨(World.cell?_setCell_far w6 ⟨w.heap.size + 1 + 1, 0, none⟩ _ _ HBE.out.1).trans d1, (World.cell?_setCell_far w6 ⟨w.heap.size + 1 + 1, 0, none⟩ _ _ HBE.out.2.1).trans d2, (World.cell?_setCell_far w6 ⟨w.heap.size + 1 + 1, 0, none⟩ _ _ HBE.out.2.2.1).trans d3, (World.cell?_setCell_far w6 ⟨w.heap.size + 1 + 1, 0, none⟩ _ _ HBE.out.2.2.1).trans d4, (World.cell?_setCell_far w6 ⟨w.heap.size + 1 + 1, 0, none⟩ _ _ HBE.out.2.2.2).trans d5⟩ ?_
        clear hK K
        intro _
        refine wpAnyH_done (by kernel_rfl) ?_ _
        obtain ⟨f1, f2, f3⟩ := label_fin (x := x) HFB HLM.out HPO.out.symm
        have f4 := (World.cell?_setCell_far w6 ⟨w.heap.size + 1 + 1, 0, none⟩ ⟨w.heap.size, 0, none⟩ (.slice (some ⟨g6, 0, none⟩) (L.length + 1) cap6) HBE.out.1).trans d1
        exact ⟨f2.from _, f3, ⟨f1, f4⟩, H7.out.trans f3⟩
  case done =>
    rintro D ys W hD hys ⟨⟨⟨v, L, hv, hrow, hoff, hL⟩, h2⟩, h7⟩ hK
    have cv := hv.cell
    have HLF : Hid (L.map (·.1) = labF ls s) := by
      show _ = _
      rw [hL, labF_eq, ← hys, List.map_map]
      rfl
    have HLN : Hid (L.length = (labF ls s).length) := by rw [← HLF.out, List.length_map]; rfl
    obtain ⟨ov, ocap, hov⟩ := slice_of hrow
    subst hov
    gi_wp2
    refine ⟨by simp, .inl ⟨_, _, rfl, run_takeDeferred hK, ?_⟩⟩
    have hgp := grownBy_putObj' W D (.deferred none)
    have hrowD : ∀ r, some D = some r → ∃ o : Obj, W.heap[r]? = some o ∧ o.isCells = false := fun r e => by cases e; exact ⟨_, hK, rfl⟩
    refine ⟨_, results_tmp rfl _ _ _, _, rfl, ⟨L, HLF.out, ?_, fun z hz => (off_own (hoff z hz) hgp hrowD).at'⟩, h7.trans (belowK_b (w := w) (Nat.le_refl _) W D _ _ (by have := HB2.out.size; omega) hK rfl rfl)⟩
    rw [← HLN.out]
    refine ownsRow_le' (hrow.kept hgp ?_) (by omega)
    rcases hrow.2 with ⟨h1, _⟩ | ⟨g, cap, cur, h1, _, hgb, _⟩
    · rw [h1]; exact .inl rfl
    · rw [h1]
      refine .inr fun e' => ?_
      obtain ⟨o, ho, hc⟩ := hrowD g (by simpa [Value.ownBlock] using e'.symm)
      rw [hgb] at ho; cases ho; cases hc
  case stop =>
    rintro D c pre W _ _ h _
    exact h.elim
end Go.Proofs.YtpbknhhjfhpkmaaGreatDoor

namespace Go.Proofs.YtpbknhhjfhpkmaaGreatDoor
open Go.RowKit

theorem letL_is {ls : List ByteArray} {A : Nat → Nat} (h6 : ls.length ≤ 6) (hA0 : ∀ i, ls.length ≤ i → A i = 0) (o g : Nat) : Sol.IsLets ls A o g (letL A o g) := fun j => by
  unfold letL
  rw [letF_bit]
  constructor
  · rintro (h | ⟨i, _, h2, h3⟩)
    · exact .inl h
    · refine .inr ⟨i, ?_, h2, h3⟩
      apply Classical.byContradiction
      intro hn
      rw [hA0 i (by omega), Nat.zero_testBit] at h3
      cases h3
  · rintro (h | ⟨i, h1, h2, h3⟩)
    · exact .inl h
    · exact .inr ⟨i, by omega, h2, h3⟩
theorem actG_zero {ls : List ByteArray} {ps : List (ByteArray × ByteArray)} {i : Nat} (h : ls.length ≤ i) : actG ls ps i = 0 := by
  unfold actG
  rw [dif_neg (by omega)]
/- A label of chiefs with few readers each passes. -/
theorem chkL_zero {ls : List ByteArray} : ∀ {x : List Pol}, Lab.OfL ls x → (∀ p ∈ x, p.2.length ≤ 6) → chkL ls x = 0
  | [], _, _ => rfl
  | p :: r, ho, h6 => by
    rw [chkL, if_pos (among_of (h6 p List.mem_cons_self) (ho p List.mem_cons_self).2), if_pos (Act.has_iff.2 (ho p List.mem_cons_self).1)]
    exact chkL_zero (fun q hq => ho q (List.mem_cons_of_mem _ hq)) (fun q hq => h6 q (List.mem_cons_of_mem _ hq))
theorem checkL_zero {ls : List ByteArray} {ps : List (ByteArray × ByteArray)} {x : List Pol} (h0 : checkF ls ps = 0) (hl : x.length ≤ 200) (ho : Lab.OfL ls x) (h6 : ∀ p ∈ x, p.2.length ≤ 6) : checkL ls ps x = 0 := by
  unfold checkL
  rw [if_pos h0, if_neg (by omega)]
  exact chkL_zero ho h6
/- A normal form of chiefs' policies. -/
theorem norm_ok {ls : List ByteArray} {ps : List (ByteArray × ByteArray)} {x y : List Pol} (h6 : ls.length ≤ 6) (hx : Lab.OfL ls x) (hx6 : ∀ p ∈ x, p.2.length ≤ 6) (h : Lab.Norm blt plt ps x y) : Lab.OfL ls y ∧ y.length ≤ 192 ∧ (∀ p ∈ y, p.2.length ≤ 6) ∧ Lab.Norm blt plt ps y y := by
  have hof : Lab.OfL ls y := fun c hc => of_clean hx ((h.mem c).1 hc).1
  have hcl : ∀ c ∈ y, Lab.CleanOf blt c c := fun c hc => by
    obtain ⟨⟨p, _, hp⟩, _⟩ := (h.mem c).1 hc
    exact Lab.clean_clean hp
  refine ⟨hof, Lab.norm_few blt_order plt_order h6 h.up hcl hof, fun c hc => ?_, Lab.norm_norm blt_order h⟩
  obtain ⟨⟨p, hp, hcp⟩, _⟩ := (h.mem c).1 hc
  rw [← Lab.clean_unique blt_order (plainF_clean p) hcp]
  have h1 := plainF_len p
  have h2 := hx6 p hp
  omega
theorem labF_few {ls : List ByteArray} {s : Nat → Nat} (h6 : ls.length ≤ 6) (h : Fit ls.length s) : ∀ p ∈ labF ls s, p.2.length ≤ 6 := fun p hp => by
  obtain ⟨o, ho, g, _, rfl⟩ := (labF_mem h6 h p).1 hp
  have h2 : (Sol.names ls g).length ≤ ls.length := List.length_filter_le _ _
  show (Sol.names ls g).length ≤ 6
  omega
/- Labels that may go to and from the least ones are the least ones. -/
theorem least_same {ps : List (ByteArray × ByteArray)} {l : List (Sol.Bnd ByteArray)} {g h : Nat → Sol.Has ByteArray} (hl : Sol.Least ps l g) (h1 : ∀ k, Sol.go ps (h k) (g k)) (h2 : ∀ k, Sol.go ps (g k) (h k)) : Sol.Least ps l h :=
  ⟨fun b hb hd => Sol.go_trans (Sol.brings_mono (fun i _ => h1 i)) (Sol.go_trans (hl.holds b hb hd) (h2 _)), fun h' hh k => Sol.go_trans (h1 k) (hl.least h' hh k)⟩
theorem come_out {N : Nat} {vs : List WayV} (hr : InRange N vs) {f : Nat → Nat → Nat} (hc : Come vs f) : ∀ k, N ≤ k → f k = fun _ => 0 := by
  induction hc with
  | none => exact fun _ _ => rfl
  | put f v _ hv hd ih =>
    intro k hk
    unfold Sol.putF
    rw [if_neg]
    · exact ih k hk
    · intro e
      obtain ⟨d, hd1, hd2⟩ := ((hr v hv).2).resolve_left hd
      rw [hd1] at e
      simp at e
      omega
theorem least_of_norm {ls : List ByteArray} {ps : List (ByteArray × ByteArray)} {N : Nat} {l : List (Sol.Bnd ByteArray)} {vs : List WayV} {f : Nat → Nat → Nat} {ys : List (List Pol)} (h6 : ls.length ≤ 6) (hl : Sol.Least ps l (Sol.fs ls f)) (hr : InRange N vs) (hc : Come vs f) (hfit : ∀ k, Fit ls.length (f k)) (hN : ys.length = N) (hn : ∀ k (h : k < ys.length), Lab.Norm blt plt ps (labF ls (f k)) ys[k]) : Sol.Least ps l (Sol.hs ys) := by
  have key : ∀ k, Sol.go ps (Sol.hs ys k) (Sol.fs ls f k) ∧ Sol.go ps (Sol.fs ls f k) (Sol.hs ys k) := fun k => by
    by_cases hk : k < ys.length
    · have e : ∀ p, Sol.hs ys k p ↔ p ∈ ys[k] := fun p => by simp [Sol.hs, List.getD, hk]
      have hm := labF_mem h6 (hfit k)
      refine ⟨fun q hq => ?_, fun q hq => ?_⟩
      · obtain ⟨p, hp, hc⟩ := Lab.norm_from (hn k hk) q ((e q).1 hq)
        exact ⟨p, (hm p).1 hp, hc⟩
      · obtain ⟨p, hp, hc⟩ := Lab.norm_to blt_order plt_order (hn k hk) q ((hm q).2 hq)
        exact ⟨p, (e p).2 hp, hc⟩
    · refine ⟨fun q hq => ?_, fun q hq => ?_⟩
      · exfalso
        simp [Sol.hs, List.getD, hk] at hq
      · exfalso
        have := come_out hr hc k (by omega)
        unfold Sol.fs at hq
        rw [this] at hq
        exact Sol.labS_none ls q hq
  exact least_same hl (fun k => (key k).1) (fun k => (key k).2)
/- What Least answers where nothing is wrong. -/
structure LeastOK (ls : List ByteArray) (ps : List (ByteArray × ByteArray)) (N : Nat) (l : List RBd) (ys : List (List Pol)) : Prop where
  len : ys.length = N
  ok : ∀ y ∈ ys, checkL ls ps y = 0
  norm : ∀ y ∈ ys, Lab.Norm blt plt ps y y
  least : Sol.Least ps (l.map toB) (Sol.hs ys)
  form : ∃ (vs : List WayV) (f : Nat → Nat → Nat), Ways ls ps (l.map toB) vs ∧ Come vs f ∧ Stable vs f ∧ ∀ k (h : k < ys.length), Lab.Norm blt plt ps (labF ls (f k)) ys[k]

set_option maxRecDepth 100000 in
set_option maxHeartbeats 8000000 in
theorem leastL (ao po lo : Option Addr) (b off b' off' n m c d lb loff ln lc : Nat) (Ni : Int) (ls : List ByteArray) (ps : List (ByteArray × ByteArray)) (l : List RBd) (w : World) (hc : Chiefs w ao po b off b' off' n m c ls ps) (hl : Bds w lo lb loff l) (hn : ln = l.length) (hm : ln ≤ maxLen) (hT : TzTab w) :
    Calls Tryz.prog 5 #[.slice ao n c, .slice po m d, .int .i64 Ni, .slice lo ln lc] w fun e w' => Below w.heap.size w w' ∧
      ((chkB ls ps Ni l ≠ 0 ∧ e = .returned (.tuple #[.slice none 0 0, .int .i64 (chkB ls ps Ni l)])) ∨ (chkB ls ps Ni l = 0 ∧ ∃ (ro : Option Addr) (rb rc : Nat) (ys : List (List Pol)), e = .returned (.tuple #[.slice ro ys.length rc, .int .i64 0]) ∧ ys.length ≤ maxLen ∧ LbsAt w' ro rb 0 ys ∧ LeastOK ls ps Ni.toNat l ys)) := by
  have hck := checkBC ao po lo b off b' off' n m c d lb loff ln lc Ni ls ps l w hc hl hn hm
  have HC : Hid (Chiefs w ao po b off b' off' n m c ls ps) := hc
  have HL : Hid (Bds w lo lb loff l) := hl
  have HLN : Hid (ln = l.length) := hn
  have HT : Hid (TzTab w) := hT
  clear hc hl hn hT
  by_cases h0 : chkB ls ps Ni l = 0
  · rw [h0] at hck
    obtain ⟨hF, hN1, hN2, hl400, hgood⟩ : checkF ls ps = 0 ∧ 0 ≤ Ni ∧ Ni ≤ 400 ∧ l.length ≤ 400 ∧ ∀ x ∈ l, oneE ls ps Ni x = 0 := by
      unfold chkB at h0
      split at h0
      · rename_i hF
        split at h0
        · cases h0
        · rename_i hr
          refine ⟨hF, by omega, by omega, by omega, bdsE_zero h0⟩
      · rename_i hF
        exact absurd h0 hF
    obtain ⟨N, hN⟩ : ∃ N : Nat, Ni = (N : Int) := ⟨Ni.toNat, by omega⟩
    subst hN
    have hN400 : N ≤ 400 := by omega
    have HF : Hid (checkF ls ps = 0) := hF
    have HG : Hid (∀ x ∈ l, GoodB ls N x) := fun x hx => good_of (hgood x hx)
    have hl4 : ln ≤ 400 := by have := HLN.out; omega
    obtain ⟨i0, hi, hz0, hz1, hz2⟩ := info_parts Tryz.infoLabD
    have HH0 : Hid (chkB ls ps (N : Int) l = 0) := h0
    clear hgood hN1 hN2 hl400 hF h0
    go_enter Tryz.func5, Tryz.ntmps5
    go_wp2_with fail
    refine hck.mono ?_
    rintro e w1 ⟨rfl, hb1⟩
    have HB1 : Hid (Below w.heap.size w w1) := hb1
    have hga := gatherC ao po b off b' off' n m c d ls ps w1 (HC.out.later hb1) HF.out
    clear hb1 hck
    go_wp2_with fail
    refine hga.mono ?_
    rintro e w2 ⟨rfl, hcrt, hb2⟩
    have HB2 : Hid (Below w.heap.size w w2) := HB1.out.trans (hb2.mono HB1.out.size)
    have HCR : Hid (CrtAt w2 w1.heap.size ao n c (actG ls ps)) := hcrt
    obtain ⟨q, hq⟩ : ∃ q, q = w1.heap.size := ⟨_, rfl⟩
    rw [← hq] at HCR ⊢
    have hwy := waysC q ao lo b off n c lb loff ln lc N ls ps l w2 HCR.out HF.out HC.out.ln (HC.out.strs.later HB2.out) (HL.out.later HB2.out) HLN.out hl4 HG.out
    clear hb2 hga hcrt hq
    go_wp2_with fail
    refine hwy.mono ?_
    rintro e w3 ⟨wo, wb, wc, vs, rfl, hws, hways, hrng, hb3⟩
    have HB3 : Hid (Below w2.heap.size w2 w3) := hb3
    have hle := leastC N wo wb 0 wc vs w3 hN400 (by rw [hways.1, List.length_map]; have := HLN.out; omega) hws hrng
    have HWS : Hid (Ways ls ps (l.map toB) vs) := hways
    have HRN : Hid (InRange N vs) := hrng
    clear hwy hb3 hws hways hrng
    go_wp2_with fail
    refine hle.mono ?_
    rintro e w4 ⟨sb, f, rfl, hsets, hcome, hok, hstab, hb4⟩
    have HB4 : Hid (Below w2.heap.size w2 w4) := HB3.out.trans (hb4.mono HB3.out.size)
    have HSE : Hid (SetsAt w4 (some ⟨sb, 0, none⟩) sb 0 N f) := hsets
    have HFF : Hid (Come vs f ∧ (∀ k, SetOK (f k)) ∧ Stable vs f ∧ ∀ k, Fit ls.length (f k)) := ⟨hcome, hok, hstab, hcome.fit HWS.out⟩
    clear hle hb4 hsets hcome hok hstab
    go_wp2
    have HS0 : Hid (∃ L : List LV, LsSt2 w4 w4 (.slice none 0 0) L ∧ L.length = 0 ∧ ∀ k (h : k < L.length), Lab.Norm blt plt ps (labF ls (f k)) L[k].1) := ⟨[], ⟨Below.refl _ _, World.ownsRow_nil _ _ _ _, fun y hy => (by cases hy)⟩, rfl, fun k h => by simp at h⟩
    go_loopw [12, 34] (fun v i wr => ∃ k : Nat, k ≤ N ∧ i = .int .i64 k ∧ Hid (∃ L : List LV, LsSt2 w4 wr v L ∧ L.length = k ∧ ∀ k (h : k < L.length), Lab.Norm blt plt ps (labF ls (f k)) L[k].1)) (fun _ i _ => N - (intOf i).toNat)
    case atStart => exact ⟨0, Nat.zero_le _, rfl, HS0.out⟩
    case round =>
      clear HS0
      obtain ⟨k, hk, rfl, HP⟩ := hrel
      obtain ⟨L, hLs, hLk, hLn⟩ := HP.out
      have HLS : Hid (LsSt2 w4 wr u12 L) := hLs
      have HLX : Hid (L.length = k ∧ ∀ k (h : k < L.length), Lab.Norm blt plt ps (labF ls (f k)) L[k].1) := ⟨hLk, hLn⟩
      clear HP hLs hLn
      by_cases hlt : k < N
      · have t0 : wr.cell? ⟨sb, k * 6, none⟩ = some (.int .u64 (f k 0)) := by have := cell_below HLS.out.bel (HSE.out.cell k hlt 0 (by omega)); simpa using this
        have t1 : wr.cell? ⟨sb, k * 6 + 1, none⟩ = some (.int .u64 (f k 1)) := by have := cell_below HLS.out.bel (HSE.out.cell k hlt 1 (by omega)); simpa using this
        have t2 : wr.cell? ⟨sb, k * 6 + 2, none⟩ = some (.int .u64 (f k 2)) := by have := cell_below HLS.out.bel (HSE.out.cell k hlt 2 (by omega)); simpa using this
        have t3 : wr.cell? ⟨sb, k * 6 + 3, none⟩ = some (.int .u64 (f k 3)) := by have := cell_below HLS.out.bel (HSE.out.cell k hlt 3 (by omega)); simpa using this
        have t4 : wr.cell? ⟨sb, k * 6 + 4, none⟩ = some (.int .u64 (f k 4)) := by have := cell_below HLS.out.bel (HSE.out.cell k hlt 4 (by omega)); simpa using this
        have t5 : wr.cell? ⟨sb, k * 6 + 5, none⟩ = some (.int .u64 (f k 5)) := by have := cell_below HLS.out.bel (HSE.out.cell k hlt 5 (by omega)); simpa using this
        have lsb := World.block_lt_of_cell? _ _ t0
        obtain ⟨wy, hwy⟩ : ∃ wy, wy = wr.alloc (.cells (setA (f k)) 54) := ⟨_, rfl⟩
        have hby : Below wr.heap.size wr wy := by rw [hwy]; exact (Below.refl _ _).alloc (Nat.le_refl _) _
        have HBY : Hid (Below w4.heap.size w4 wy) := HLS.out.bel.trans (hby.mono HLS.out.bel.size)
        have HB0 : Hid (Below w.heap.size w wy) := HB2.out.trans ((HB4.out.mono HB2.out.size).trans (HBY.out.mono (Nat.le_trans HB2.out.size HB4.out.size)))
        have HWY : Hid (wy = wr.alloc (.cells #[.int .u64 (f k 0), .int .u64 (f k 1), .int .u64 (f k 2), .int .u64 (f k 3), .int .u64 (f k 4), .int .u64 (f k 5)] 54)) := hwy
        have hlb := labelCt q ao b off n c (actG ls ps) ls (f k) wy (HCR.out.later (HB4.out.trans (HBY.out.mono HB4.out.size))) HC.out.ln (by have := (right_of HF.out).1; have := HC.out.ln; omega) (right_of HF.out).2.2.1.1 (HC.out.strs.later HB0.out) (HFF.out.2.1 k) (HFF.out.2.2.2 k) (HT.out.later HB0.out)
        have HA : Hid (setA (f k) = #[.int .u64 (f k 0), .int .u64 (f k 1), .int .u64 (f k 2), .int .u64 (f k 3), .int .u64 (f k 4), .int .u64 (f k 5)]) := rfl
        obtain ⟨ov, ocap, hov⟩ := slice_of HLS.out.own
        rw [hLk] at hov
        subst hov
        have HY4 : Hid (LsSt2 w4 wy (.slice ov k ocap) L) := HLS.out.later hby
        clear hby hwy
        go_wp2_with fail
        rw [← HWY.out, ← HA.out]
        refine hlb.mono ?_
        rintro e w5 ⟨v5, rfl, hlab5, hb5⟩
        have hof := labF_of (s := f k) (by have := (right_of HF.out).1; omega) (HFF.out.2.2.2 k)
        have hln := labF_len (s := f k) (HFF.out.2.2.2 k)
        have hr6 : ∀ p ∈ labF ls (f k), p.2.length ≤ 6 := fun p hp => by
          obtain ⟨o, ho, g, _, rfl⟩ := (labF_mem (by have := (right_of HF.out).1; omega) (HFF.out.2.2.2 k) p).1 hp
          have h1 := (right_of HF.out).1
          have h2 : (Sol.names ls g).length ≤ ls.length := List.length_filter_le _ _
          show (Sol.names ls g).length ≤ 6
          omega
        have hsm := smallP_of HF.out hof hr6
        obtain ⟨vo, vb, voff, vc, rfl, hat5⟩ := hlab5.at' hsm
        have HB5 : Hid (Below wy.heap.size wy w5) := hb5
        have HB05 : Hid (Below w.heap.size w w5) := HB0.out.trans (hb5.mono HB0.out.size)
        have hz := checkL_zero HF.out (by omega) hof hr6
        have hnm := normC ao po vo b off b' off' n m c d vb voff (labF ls (f k)).length vc ls ps (labF ls (f k)) w5 (HC.out.later HB05.out) hat5
        rw [hz] at hnm
        have HY5 : Hid (LsSt2 w4 w5 (.slice ov k ocap) L) := HY4.out.later hb5
        clear hlb hlab5 hb5 hof hln hr6 hsm hat5 hz t0 t1 t2 t3 t4 t5 HWY
        go_wp2_with fail
        refine hnm.mono ?_
        rintro e w6 ⟨v6, y6, rfl, hnorm, hnew, hb6⟩
        have HNO : Hid (Lab.Norm blt plt ps (labF ls (f k)) y6) := (by first | exact hnorm rfl | exact hnorm trivial)
        have HY6 : Hid (LsSt2 w4 w6 (.slice ov k ocap) L) := HY5.out.later hb6
        have HOF : Hid (OffLb w6 (Value.slice ov k ocap).ownBlock (y6, v6)) := OffLb.of_new hnew (fun j e => (HY5.out.own.lt _ e).2)
        obtain ⟨v6o, v6c, hv6⟩ : ∃ o cp, v6 = .slice o y6.length cp := by
          obtain ⟨M, ao', b'', cap, _, h2, _⟩ := HOF.out.ex
          exact ⟨ao', cap, h2⟩
        subst hv6
        have HO6 : Hid (w6.ownsRow w4.heap.size 34 1 (.slice ov k ocap) k (L.map (·.2))) := by have := HY6.out.own; rw [hLk] at this; exact this
        have hbig : w4.heap.size ≤ w6.heap.size := HY6.out.bel.size
        clear hnm hnorm hnew hb6
        go_wp2_with (at_builtin; refine wpList_append_lies _ rfl _ _ 25 rfl w4.heap.size 34 i0 (.slice none 0 0) 1 24 Tryz.underlying25 hi hz0 hz1 hz2 rfl (by decide) _ _ _ rfl (World.ownsRow.alloc HO6.out _) ⟨w6.heap.size, 0, none⟩ 1 1 [.slice v6o y6.length v6c] rfl rfl ?c1 ?c2 (by omega) ?c3 ?c4 ?c5 _ rfl ?_)
        case c1 => exact one_new _ _ _
        case c2 => intro u hu; simp at hu; subst hu; rfl
        case c3 => unfold maxLen; omega
        case c4 => omega
        case c5 => simp; omega
        · rintro g7 cap7 w7 hown7 hgr7 hloc7 _
          have HN7 : Hid (∃ L : List LV, LsSt2 w4 w7 (.slice (some ⟨g7, 0, none⟩) (k + 1) cap7) L ∧ L.length = k + 1 ∧ ∀ k (h : k < L.length), Lab.Norm blt plt ps (labF ls (f k)) L[k].1) := by
            have h7 : Below w6.heap.size w6 (w6.alloc (.cells #[.slice v6o y6.length v6c] 34)) := (Below.refl _ _).alloc (Nat.le_refl _) _
            refine ⟨L ++ [(y6, .slice v6o y6.length v6c)], (HY6.out.later h7).step (HOF.out.later h7) (by rw [hLk]; exact hown7) hgr7 (hloc7.elim (fun e => .inl e.symm) (fun e => .inr (by rw [e]; simp [Value.ownBlock]))), by simp [hLk], fun j hj => ?_⟩
            by_cases e : j < L.length
            · rw [List.getElem_append_left e]; exact HLX.out.2 j e
            · have e2 : j = k := by simp at hj; omega
              subst e2
              rw [List.getElem_append_right (by omega)]
              simpa [hLk] using HNO.out
          clear hown7 hgr7 hloc7
          go_wp2
          go_roundw
          case rel => exact ⟨k + 1, by omega, by go_num, HN7⟩
          case measure => simp [intOf]; omega
      · have hkN : k = N := by omega
        subst hkN
        have h6 : ls.length ≤ 6 := by have := (right_of HF.out).1; omega
        have hall : ∀ y ∈ L.map (·.1), Lab.OfL ls y ∧ y.length ≤ 192 ∧ (∀ p ∈ y, p.2.length ≤ 6) ∧ Lab.Norm blt plt ps y y := fun y hy => by
          obtain ⟨z, hz, rfl⟩ := List.mem_map.1 hy
          obtain ⟨j, hj, rfl⟩ := List.mem_iff_getElem.1 hz
          exact norm_ok h6 (labF_of h6 (HFF.out.2.2.2 j)) (labF_few h6 (HFF.out.2.2.2 j)) (HLX.out.2 j hj)
        obtain ⟨ro, rb, rc, e1, e2, e3⟩ := HLS.out.fin (fun y hy => smallP_of HF.out (hall y.1 (List.mem_map_of_mem hy)).1 (hall y.1 (List.mem_map_of_mem hy)).2.2.1)
        subst e1
        have HFIN : Hid ((L.map (·.1)).length ≤ maxLen ∧ LbsAt wr ro rb 0 (L.map (·.1)) ∧ LeastOK ls ps k l (L.map (·.1)) ∧ Below w.heap.size w wr) := by
          have hform : ∀ j (h : j < (L.map (·.1)).length), Lab.Norm blt plt ps (labF ls (f j)) (L.map (·.1))[j] := fun j h => by
            rw [List.getElem_map]; exact HLX.out.2 j (by rw [List.length_map] at h; exact h)
          have hleast := come_least HWS.out h6 HFF.out.1 HFF.out.2.2.1
          refine ⟨e2, e3, ⟨by rw [List.length_map, hLk], fun y hy => ?_, fun y hy => (hall y hy).2.2.2, ?_, vs, f, HWS.out, HFF.out.1, HFF.out.2.2.1, hform⟩, HB2.out.trans ((HB4.out.mono HB2.out.size).trans (HLS.out.bel.mono (Nat.le_trans HB2.out.size HB4.out.size)))⟩
          · obtain ⟨h1, h2, h3, _⟩ := hall y hy
            exact checkL_zero HF.out (by omega) h1 h3
          · exact least_of_norm h6 hleast HRN.out HFF.out.1 HFF.out.2.2.2 (by rw [List.length_map, hLk]) hform
        clear e2 e3 hall
        go_wp2
        go_ret2
        refine ⟨HFIN.out.2.2.2, .inr ⟨HH0.out, ro, rb, rc, L.map (·.1), ?_, HFIN.out.1, HFIN.out.2.1, HFIN.out.2.2.1⟩⟩
        rw [List.length_map, hLk]
        rfl
  · obtain ⟨e0, he0⟩ : ∃ e0, e0 = chkB ls ps Ni l := ⟨_, rfl⟩
    rw [← he0] at hck h0 ⊢
    have hb : (e0 == 0) = false := by simp [h0]
    have hb' : (e0 != 0) = true := by simp [h0]
    have HH : Hid (e0 ≠ 0) := h0
    clear h0 he0
    go_enter Tryz.func5, Tryz.ntmps5
    go_wp2_with fail
    refine hck.mono ?_
    rintro e w1 ⟨rfl, hb1⟩
    have HB1 : Hid (Below w.heap.size w w1) := hb1
    clear hb1 hck
    go_wp2
    go_ret2
    exact ⟨HB1.out, .inl ⟨HH.out, rfl⟩⟩
end Go.Proofs.YtpbknhhjfhpkmaaGreatDoor
