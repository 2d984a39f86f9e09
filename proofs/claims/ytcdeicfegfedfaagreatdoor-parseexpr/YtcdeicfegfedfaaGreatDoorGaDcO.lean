/- The document's own reader: an operand is laid on expr's stack. The document's own reader: what expr holds between its steps. -/
import Derived.Test.YtcdeicfegfedfaaGreatDoorGaDcG
import Derived.Test.YtcdeicfegfedfaaGreatDoorGaDcK
import Derived.Deep.AppendLies
import Derived.Test.YtcdeicfegfedfaaGreatDoorGaMap
import Derived.Test.YtcdeicfegfedfaaGreatDoorGaDoc
import Derived.Test.YtcdeicfegfedfaaGreatDoorGaScan
namespace Go.Proofs.YtcdeicfegfedfaaGreatDoor
open Go.RowKit
open Par (Tok Tr Po Res nx atP isT seesB ba)

theorem own_set {w : World} {B e e' sz n X : Nat} {v u : Value} {xs : List Value} {c : Array Value} (h : w.ownsRow B e sz v n xs) (hX : w.heap[X]? = some (.cells c e' (0, 0))) (hne : e ≠ e') : (w.setCell ⟨X, 0, none⟩ u).ownsRow B e sz v n xs := by
  refine ⟨h.1, ?_⟩
  rcases h.2 with h | ⟨g, cap, cur, h1, h2, h3, h4⟩
  · exact .inl h
  · refine .inr ⟨g, cap, cur, h1, h2, ?_, h4⟩
    rw [Below.heap_setCell _ _ _ _ (by
      rintro rfl
      have := h3.symm.trans hX
      simp at this
      exact hne this.2)]
    exact h3
theorem own_ne {w : World} {B e e' sz n b : Nat} {v : Value} {xs : List Value} {c : Array Value} (h : w.ownsRow B e sz v n xs) (hb : w.heap[b]? = some (.cells c e' (0, 0))) (he : e' ≠ e) : some b ≠ v.ownBlock := fun hq => by
  rcases h.2 with ⟨hv, _⟩ | ⟨g, cap, cur, hv, _, hg, _⟩
  · rw [hv] at hq; cases hq
  · rw [hv] at hq
    cases hq
    have := hb.symm.trans hg
    simp at this
    exact he this.2
/- Seven cells of a row. -/
def set7o (w : World) (b o : Nat) (x0 x1 x2 x3 x4 x5 x6 : Value) : World :=
  ((((((w.setCell ⟨b, o, none⟩ x0).setCell ⟨b, o + 1, none⟩ x1).setCell ⟨b, o + 2, none⟩ x2).setCell ⟨b, o + 3, none⟩ x3).setCell ⟨b, o + 4, none⟩ x4).setCell ⟨b, o + 5, none⟩ x5).setCell ⟨b, o + 6, none⟩ x6
theorem own_set7o {w : World} {B e g n cap : Nat} {xs : List Value} {y0 y1 y2 y3 y4 y5 y6 : Value} (h : w.ownsRow B e 7 (.slice (some ⟨g, 0, none⟩) n cap) n (xs ++ [y0, y1, y2, y3, y4, y5, y6])) (o : Nat) (ho : xs.length = o) (x0 x1 x2 x3 x4 x5 x6 : Value) :
    (set7o w g o x0 x1 x2 x3 x4 x5 x6).ownsRow B e 7 (.slice (some ⟨g, 0, none⟩) n cap) n (xs ++ [x0, x1, x2, x3, x4, x5, x6]) ∧ w.grownBy (set7o w g o x0 x1 x2 x3 x4 x5 x6) (some g) := by
  subst ho
  obtain ⟨a0, b0⟩ := h.stored xs.length x0
  obtain ⟨a1, b1⟩ := a0.stored (xs.length + 1) x1
  obtain ⟨a2, b2⟩ := a1.stored (xs.length + 2) x2
  obtain ⟨a3, b3⟩ := a2.stored (xs.length + 3) x3
  obtain ⟨a4, b4⟩ := a3.stored (xs.length + 4) x4
  obtain ⟨a5, b5⟩ := a4.stored (xs.length + 5) x5
  obtain ⟨a6, b6⟩ := a5.stored (xs.length + 6) x6
  refine ⟨?_, (((((b0.trans b1).trans b2).trans b3).trans b4).trans b5).trans b6⟩
  have e : ((((((((xs ++ [y0, y1, y2, y3, y4, y5, y6]).set xs.length x0).set (xs.length + 1) x1).set (xs.length + 2) x2).set (xs.length + 3) x3).set (xs.length + 4) x4).set (xs.length + 5) x5).set (xs.length + 6) x6) = xs ++ [x0, x1, x2, x3, x4, x5, x6] := by
    simp
  rw [← e]
  exact a6
theorem set_comm (w : World) {a b : Addr} (u v : Value) (h : a.block ≠ b.block) : (w.setCell a u).setCell b v = (w.setCell b v).setCell a u := by
  unfold World.setCell
  congr 1
  apply Array.ext_getElem?
  intro i
  simp only [Array.getElem?_modify]
  by_cases h1 : a.block = i
  · have h2 : b.block ≠ i := by omega
    simp [h1, h2]
  · simp [h1]
theorem set7o_comm (w : World) {g o L : Nat} (u : Value) (h : L ≠ g) (x0 x1 x2 x3 x4 x5 x6 : Value) : set7o (w.setCell ⟨L, 0, none⟩ u) g o x0 x1 x2 x3 x4 x5 x6 = (set7o w g o x0 x1 x2 x3 x4 x5 x6).setCell ⟨L, 0, none⟩ u := by
  unfold set7o
  rw [set_comm w u x0 h, set_comm _ u x1 h, set_comm _ u x2 h, set_comm _ u x3 h, set_comm _ u x4 h, set_comm _ u x5 h, set_comm _ u x6 h]
theorem opr_push {ok : Prop} {w0 wm w8 : World} {B L G : Nat} {lv sv : Value} {g8 c8 : Nat} {xs : List Tr} {ss : List Tok} {a : Tr} {css : List (List Value)} {y0 y1 y2 y3 y4 y5 y6 : Value} {z0 z1 z2 z3 : Int} {z4 : ByteArray} {z5 : Option Addr} {m5 d5 : Nat} {z6 : Option Addr} {m6 d6 : Nat} (h : Stk ok wm B L G lv sv xs ss) (hB : B ≤ w0.heap.size) (hL : L < w0.heap.size) (hG : G < w0.heap.size) (h0 : w0.heap.size ≤ wm.heap.size) (hlv : ∀ k, lv.ownBlock = some k → k < w0.heap.size) (hsv : ∀ k, sv.ownBlock = some k → k < w0.heap.size)
    (hc : css.length = xs.length) (p1 : wm.ownsRow B 26 7 lv xs.length css.flatten) (p3 : ∀ i (h : i < xs.length) (h' : i < css.length), ElX ok L G sv wm (SB B lv) xs[i] css[i])
    (hx : ok → TrIs wm (fun b => w0.heap.size ≤ b) a [.int .i64 z0, .int .i64 z1, .int .i64 z2, .int .i64 z3, .string z4, .slice z5 m5 d5, .slice z6 m6 d6])
    (hown : w8.ownsRow B 26 7 (.slice (some ⟨g8, 0, none⟩) (xs.length + 1) c8) (xs.length + 1) (css.flatten ++ [y0, y1, y2, y3, y4, y5, y6])) (hgrow : wm.grownBy w8 lv.ownBlock) (hat : lv.ownBlock = some g8 ∨ g8 = wm.heap.size) :
    L ≠ g8 ∧ Stk ok ((set7o w8 g8 (xs.length * 7) (.int .i64 z0) (.int .i64 z1) (.int .i64 z2) (.int .i64 z3) (.string z4) (.slice z5 m5 d5) (.slice z6 m6 d6)).setCell ⟨L, 0, none⟩ (.slice (some ⟨g8, 0, none⟩) (xs.length + 1) c8)) B L G (.slice (some ⟨g8, 0, none⟩) (xs.length + 1) c8) sv (xs ++ [a]) ss ∧
      wm.grownBy (set7o w8 g8 (xs.length * 7) (.int .i64 z0) (.int .i64 z1) (.int .i64 z2) (.int .i64 z3) (.string z4) (.slice z5 m5 d5) (.slice z6 m6 d6)) lv.ownBlock := by
  have hcl : css.flatten.length = xs.length * 7 := p1.1
  obtain ⟨q1, q2⟩ := own_set7o hown _ hcl (.int .i64 z0) (.int .i64 z1) (.int .i64 z2) (.int .i64 z3) (.string z4) (.slice z5 m5 d5) (.slice z6 m6 d6)
  obtain ⟨wg, hwg⟩ : ∃ wg, wg = set7o w8 g8 (xs.length * 7) (.int .i64 z0) (.int .i64 z1) (.int .i64 z2) (.int .i64 z3) (.string z4) (.slice z5 m5 d5) (.slice z6 m6 d6) := ⟨_, rfl⟩
  rw [← hwg] at q1 q2 ⊢
  clear hwg
  have hg : wm.grownBy wg lv.ownBlock := by
    refine ⟨q2.os.trans hgrow.os, q2.tape.trans hgrow.tape, q2.output.trans hgrow.output, Nat.le_trans hgrow.size q2.size, fun j hj hn => ?_⟩
    have hs := hgrow.size
    rw [q2.block j (by omega) ?_, hgrow.block j hj hn]
    rintro hq
    cases hq
    rcases hat with h9 | h9
    · exact hn h9.symm
    · omega
  have lo : OwnL (ElX ok L G sv) wg B 26 7 (.slice (some ⟨g8, 0, none⟩) (xs.length + 1) c8) (xs ++ [a]) := by
    refine OwnL.add (isElX ok L G sv) (w := w0) (w1 := wm) (css := css) hlv hc p3 ⟨⟨_, _, _, _, _, _, _, _, _, _, _, rfl⟩, fun o => ?_⟩ hB q1 hg (hat.imp (fun h9 => by rw [h9]; rfl) (fun h9 => by rw [h9]; rfl))
    refine (hx o).mono fun b hb _ => ⟨hb, by omega, by omega, fun hq => ?_⟩
    have := hsv b hq.symm
    omega
  have ty : ∀ {b : Nat} {c : Array Value} {e : TypeId}, wm.heap[b]? = some (.cells c e (0, 0)) → e ≠ 26 → some b ≠ lv.ownBlock := fun {b c e} hb he => own_ne p1 hb he
  have lb : wg.heap[L]? = _ := (hg.block L (lt_of_block h.lb) (ty h.lb (by decide))).trans h.lb
  have gb : wg.heap[G]? = _ := (hg.block G (lt_of_block h.gb) (ty h.gb (by decide))).trans h.gb
  have nLG : L ≠ G := by
    rintro rfl
    have := h.lb.symm.trans h.gb
    simp at this
  have nL8 : L ≠ g8 := by
    rintro rfl
    rcases hat with h9 | h9
    · exact ty h.lb (by decide) h9.symm
    · omega
  refine ⟨nL8, ⟨by simp [World.setCell, Array.getElem?_modify, lb], (Below.heap_setCell _ _ _ _ (Ne.symm nLG)).trans gb, ?_, ?_⟩, hg⟩
  · obtain ⟨csl, o1, o2, o3⟩ := lo.ex
    refine ⟨csl, own_set o1 lb (by decide), o2, fun i hi hi' => ⟨(o3 i hi hi').1, fun o => ?_⟩⟩
    refine ((o3 i hi hi').2 o).keeps ⟨?_, fun b hb _ => ?_⟩
    · simp [World.setCell]
    · exact Below.heap_setCell _ _ _ _ hb.2.1
  · obtain ⟨csg, o1, o2, o3⟩ := h.go.ex
    have o1' : wg.ownsRow B 80 3 sv ss.length csg.flatten := by
      refine ⟨o1.1, ?_⟩
      rcases o1.2 with h9 | ⟨g, cap, cur, h1, h2, h3, h4⟩
      · exact .inl h9
      · exact .inr ⟨g, cap, cur, h1, h2, (hg.block g (lt_of_block h3) (ty h3 (by decide))).trans h3, h4⟩
    exact ⟨csg, own_set o1' lb (by decide), o2, fun i hi hi' => o3 i hi hi'⟩
/- A region that draws: T holds as long as only operations below n have come up; those from n on wait for what is taken. -/
section
variable {P : Program} {ops : Array Oper} {Q : Exit → Act → World → Prop} {md : Region.Mode}
def SL (m : Nat) (T : World → Prop) : Nat → World → Prop := fun j w => j < m → T w
def waitsL (md : Region.Mode) (ops : Array Oper) (m i : Nat) : Bool := (List.range ops.size).all fun j => decide (j < m) || waitsB md ops j i
theorem anyL_take {T : World → Prop} {m i : Nat} (d : Tmp) {oi : Oper} {v : Value} {n : Nat} {ls : Array Bool} {a : Act} {w : World} (hi : ops[i]? = some oi) (hd : oi.dst = some d) (hs : Region.noSelect ops = true) (hf : Region.free md ops ls i = true) (hr : (Region.ready md ops ls).contains i = true) (hz : waitsL md ops m i = true)
    (hQ : ∀ c a w, Q (.panic c) (a.put oi.dst v) w → Q (.panic c) a w) (hy : YieldsIf P ops T oi v a) (ht : T w) (h : anyK P md ops Q (SL m T) n (ls.setIfInBounds i true) (a.put (some d) v) w) : anyK P md ops Q (SL m T) (n + 1) ls a w := by
  refine anyK_first hi (Region.noSelect_spec hs) hQ (fun j oj hj _ hfj w hw => hw ?_) (fun w hw _ => hw) n ls a w (Region.free_spec hi hf) (by simpa using hr) hy ht (by rw [hd]; exact h)
  apply Classical.byContradiction
  intro hjm
  have hjs : j < ops.size := (Array.getElem?_eq_some_iff.1 hj).1
  unfold waitsL at hz
  rw [List.all_eq_true] at hz
  have h1 := hz j (List.mem_range.2 hjs)
  have h2 : waitsB md ops j i = true := by
    rcases Bool.or_eq_true _ _ ▸ h1 with h1 | h1
    · exact absurd (of_decide_eq_true h1) hjm
    · exact h1
  unfold waitsB at h2
  rw [hj] at h2
  simp only [Array.any_eq_true, Bool.and_eq_true, beq_iff_eq] at h2
  obtain ⟨k, hk, h3, h4⟩ := h2
  exact hfj _ (Array.getElem_mem hk) h3 h4
theorem anyL_free {T : World → Prop} {m i : Nat} (d : Tmp) {oi : Oper} {v : Value} {n : Nat} {ls : Array Bool} {a : Act} {w : World} (hi : ops[i]? = some oi) (hd : oi.dst = some d) (hm : m ≤ i) (hs : Region.noSelect ops = true) (hf : Region.free md ops ls i = true) (hr : (Region.ready md ops ls).contains i = true)
    (hQ : ∀ c a w, Q (.panic c) (a.put oi.dst v) w → Q (.panic c) a w) (hy : YieldsIf P ops (fun _ => True) oi v a) (h : anyK P md ops Q (SL m T) n (ls.setIfInBounds i true) (a.put (some d) v) w) : anyK P md ops Q (SL m T) (n + 1) ls a w :=
  anyK_first hi (Region.noSelect_spec hs) hQ (fun _ _ _ _ _ _ _ => trivial) (fun w _ h => absurd h (Nat.not_lt.2 hm)) n ls a w (Region.free_spec hi hf) (by simpa using hr) hy trivial (by rw [hd]; exact h)
theorem anyL_one {T : World → Prop} {m i : Nat} {o : Oper} {n : Nat} {ls : Array Bool} {a : Act} {w : World} (hr : Region.ready md ops ls = [i]) (ho : ops[i]? = some o) (h : ∀ K' : Act → World → Prop, Shut (∀ a w, (i < m → T w) → anyK P md ops Q (SL m T) n (ls.setIfInBounds i true) a w → K' a w) → if Region.wanted o (yielded ops a.tmps) = true then Oper.wp P o a w K' Q else K' (a.put o.dst undef) w) : anyK P md ops Q (SL m T) (n + 1) ls a w := by
  refine anyK_all hr (by simp) (fun j hj => ?_)
  cases List.mem_singleton.1 hj
  exact wpOp_step ho (fun K' hK => h K' (fun a w hS hW => hK a w ⟨hS, hW⟩))
theorem anyL_two {T : World → Prop} {m i j : Nat} {oi oj : Oper} {n : Nat} {ls : Array Bool} {a : Act} {w : World} (hr : Region.ready md ops ls = [i, j]) (hoi : ops[i]? = some oi) (hoj : ops[j]? = some oj)
    (h1 : ∀ K' : Act → World → Prop, Shut (∀ a w, (i < m → T w) → anyK P md ops Q (SL m T) n (ls.setIfInBounds i true) a w → K' a w) → if Region.wanted oi (yielded ops a.tmps) = true then Oper.wp P oi a w K' Q else K' (a.put oi.dst undef) w)
    (h2 : ∀ K' : Act → World → Prop, Shut (∀ a w, (j < m → T w) → anyK P md ops Q (SL m T) n (ls.setIfInBounds j true) a w → K' a w) → if Region.wanted oj (yielded ops a.tmps) = true then Oper.wp P oj a w K' Q else K' (a.put oj.dst undef) w) : anyK P md ops Q (SL m T) (n + 1) ls a w := by
  refine anyK_all hr (by simp) (fun k hk => ?_)
  simp only [List.mem_cons, List.not_mem_nil, or_false] at hk
  rcases hk with rfl | rfl
  · exact wpOp_step hoi (fun K' hK => h1 K' (fun a w hS hW => hK a w ⟨hS, hW⟩))
  · exact wpOp_step hoj (fun K' hK => h2 K' (fun a w hS hW => hK a w ⟨hS, hW⟩))
theorem region_anyL {T : World → Prop} (m : Nat) {id : Nat} {a : Act} {w : World} (hm : P.follows .mixedOrders = true) (h : anyK P .any ops Q (SL m T) ops.size (Array.replicate ops.size false) a w.drew) : (Code.region id ops true).wp P Q a w := region_anyK hm h
end
end Go.Proofs.YtcdeicfegfedfaaGreatDoor

namespace Go.Proofs.YtcdeicfegfedfaaGreatDoor
open Go.RowKit
open Par (Tok Tr Po Res nx atP isT seesB ba)

/- What expr holds between its steps. -/
structure ExI (w wr : World) (tb e : Nat) (ts : List Tok) (v : Value) (bl al : Int) (P : List Tok → Res Tr) (R : Res Tr) (L G : Nat) (xs : List Tr) (x : Tr) (ss : List Tok) (k : Nat) (c p : Int) : Prop where
  gr : w.grownBy wr (some tb)
  res : wr.heap[w.heap.size]? = some (.cells ZE 26 (0, 0))
  stk : ∃ lv sv, Stk (Okd R) wr (w.heap.size + 1) L G lv sv (xs ++ [x]) ss
  len : xs.length = ss.length
  few : ss.length ≤ k
  tx : Tx wr tb e ts v k c p bl al
  lo : tb < w.heap.size
  on : (c = 0 ∧ Par.Cont P R (Par.stk xs ss) x (ts.drop k)) ∨ (c ≠ 0 ∧ k = ts.length ∧ ∃ q : Nat, p = (q : Int) ∧ R = .no c q)
theorem ElX.of {ok : Prop} {L G : Nat} {sv : Value} {w : World} {S : Nat → Prop} {a : Tr} {z0 z1 z2 z3 : Int} {z4 : ByteArray} {z5 : Option Addr} {m5 d5 : Nat} {z6 : Option Addr} {m6 d6 : Nat} (h : ok → TrIs w (fun b => S b ∧ b ≠ L ∧ b ≠ G ∧ some b ≠ sv.ownBlock) a [.int .i64 z0, .int .i64 z1, .int .i64 z2, .int .i64 z3, .string z4, .slice z5 m5 d5, .slice z6 m6 d6]) : ElX ok L G sv w S a (#[.int .i64 z0, .int .i64 z1, .int .i64 z2, .int .i64 z3, .string z4, .slice z5 m5 d5, .slice z6 m6 d6] : Array Value).toList := ⟨⟨_, _, _, _, _, _, _, _, _, _, _, rfl⟩, h⟩
theorem Stk.grown {ok : Prop} {w w' : World} {B L G tb : Nat} {lv sv : Value} {xs : List Tr} {ss : List Tok} (h : Stk ok w B L G lv sv xs ss) (hg : w.grownBy w' (some tb)) (hB : tb < B) (hL : tb ≠ L) (hG : tb ≠ G) : Stk ok w' B L G lv sv xs ss :=
  ⟨(hg.block _ (lt_of_block h.lb) (by simp; omega)).trans h.lb, (hg.block _ (lt_of_block h.gb) (by simp; omega)).trans h.gb, h.lo.grown (isElX ok L G _) hg hB, h.go.grown isElK hg hB⟩
theorem ExI.step {w wr w' : World} {tb e : Nat} {ts : List Tok} {v : Value} {bl al : Int} {P : List Tok → Res Tr} {R : Res Tr} {L G : Nat} {xs : List Tr} {x : Tr} {ss : List Tok} {k : Nat} {c p : Int} (h : ExI w wr tb e ts v bl al P R L G xs x ss k c p) (hb : Below wr.heap.size wr w') (hL : w.heap.size < L) (hG : w.heap.size < G) : ExI w w' tb e ts v bl al P R L G xs x ss k c p := by
  obtain ⟨lv, sv, hs⟩ := h.stk
  have hlo := h.lo
  have hg : wr.grownBy w' (some tb) := ⟨hb.os, hb.tape, hb.output, hb.size, fun j hj _ => hb.block j hj⟩
  exact ⟨h.gr.trans hg, (hb.block _ (lt_of_block h.res)).trans h.res, ⟨lv, sv, hs.grown hg (by omega) (by omega) (by omega)⟩, h.len, h.few, h.tx.later hb, h.lo, h.on⟩
/- Behind the last sign: what is put together is the result. -/
structure ExF (w wr : World) (tb e : Nat) (ts : List Tok) (v : Value) (bl al : Int) (R : Res Tr) (L G : Nat) (xs : List Tr) (x : Tr) (ss : List Tok) (k : Nat) (c p : Int) : Prop where
  gr : w.grownBy wr (some tb)
  res : wr.heap[w.heap.size]? = some (.cells ZE 26 (0, 0))
  stk : ∃ lv sv, Stk (Okd R) wr (w.heap.size + 1) L G lv sv (xs ++ [x]) ss
  len : xs.length = ss.length
  few : ss.length ≤ 100000
  tx : Tx wr tb e ts v k c p bl al
  lo : tb < w.heap.size
  on : (c = 0 ∧ R = .ok (Par.popS (Par.stk xs ss) x 0).2 (ts.drop k)) ∨ (c ≠ 0 ∧ k = ts.length ∧ ∃ q : Nat, p = (q : Int) ∧ R = .no c q)
theorem exf_of {w wr : World} {tb e : Nat} {ts : List Tok} {v : Value} {bl al : Int} {P : List Tok → Res Tr} {R : Res Tr} {L G : Nat} {xs : List Tr} {x : Tr} {ss : List Tok} {k : Nat} {c p : Int} (h : ExI w wr tb e ts v bl al P R L G xs x ss k c p) (h0 : Par.levF (nx (ts.drop k)).2.2 = 0) : ExF w wr tb e ts v bl al R L G xs x ss k c p :=
  ⟨h.gr, h.res, h.stk, h.len, Nat.le_trans h.few (Nat.le_trans h.tx.le h.tx.few), h.tx, h.lo, h.on.imp (fun ⟨h1, h2⟩ => ⟨h1, Par.cont_end h2 h0⟩) id⟩
def gLen (w : World) (G : Nat) : Nat := match w.cell? ⟨G, 0, none⟩ with
  | some sv => lenOf sv
  | none => 0
theorem Stk.gLen {ok : Prop} {w : World} {B L G : Nat} {lv sv : Value} {xs : List Tr} {ss : List Tok} (h : Stk ok w B L G lv sv xs ss) : gLen w G = ss.length := by
  have h1 : w.cell? ⟨G, 0, none⟩ = some sv := by simp [World.cell?, h.gb]
  unfold Go.Proofs.YtcdeicfegfedfaaGreatDoor.gLen
  rw [h1]
  exact h.go.len
def kOf (w : World) (tb : Nat) : Nat := match w.cell? ⟨tb, 1, none⟩ with
  | some (.int _ k) => k.toNat
  | _ => 0
theorem Tx.kOf {w : World} {tb e : Nat} {ts : List Tok} {v : Value} {k : Nat} {c p bl al : Int} (h : Tx w tb e ts v k c p bl al) : kOf w tb = k := by
  obtain ⟨_, q1, _⟩ := h.cells
  unfold Go.Proofs.YtcdeicfegfedfaaGreatDoor.kOf
  rw [q1]
  simp
/- While signs are taken off the stack: what the taking comes to stays. -/
structure ExL (w wr : World) (tb e : Nat) (ts : List Tok) (v : Value) (bl al : Int) (R : Res Tr) (L G K : Nat) (t : Tok) (D : List (Tr × Tok) × Tr) (xs : List Tr) (x : Tr) (ss : List Tok) (k : Nat) (c p : Int) : Prop where
  gr : w.grownBy wr (some tb)
  res : wr.heap[w.heap.size]? = some (.cells ZE 26 (0, 0))
  stk : ∃ lv sv, Stk (Okd R) wr (w.heap.size + 1) L G lv sv (xs ++ [x]) ss
  len : xs.length = ss.length
  few : ss.length ≤ k
  tx : Tx wr tb e ts v k c p bl al
  lo : tb < w.heap.size
  tok : wr.heap[K]? = some (.cells #[.int .i64 t.1, .int .i64 (t.2.1 : Int), .string (ba t.2.2)] 80 (0, 0))
  pop : Par.popS (Par.stk xs ss) x (Par.lvT t) = D
  kl : k < ts.length
theorem exl_of {w wr : World} {tb e : Nat} {ts : List Tok} {v : Value} {bl al : Int} {P : List Tok → Res Tr} {R : Res Tr} {L G K : Nat} {t : Tok} {xs : List Tr} {x : Tr} {ss : List Tok} {k : Nat} {c p : Int} (h : ExI w wr tb e ts v bl al P R L G xs x ss k c p) (hK : wr.heap[K]? = some (.cells #[.int .i64 t.1, .int .i64 (t.2.1 : Int), .string (ba t.2.2)] 80 (0, 0))) (hk : k < ts.length) : ExL w wr tb e ts v bl al R L G K t (Par.popS (Par.stk xs ss) x (Par.lvT t)) xs x ss k c p :=
  ⟨h.gr, h.res, h.stk, h.len, h.few, h.tx, h.lo, hK, rfl, hk⟩
/- Is the sign above one that binds at least as close? -/
def topB (us : List Tok) (v : Nat) : Bool := match us.getLast? with
  | some s => decide (v ≤ Par.lvT s)
  | none => false
theorem topB_snoc (us : List Tok) (s : Tok) (v : Nat) : topB (us ++ [s]) v = decide (v ≤ Par.lvT s) := by simp [topB]
theorem beqZ (n : Nat) : ((n : Int) == 0) = decide (n = 0) := by
  by_cases h : n = 0
  · rw [h]; rfl
  · have h1 : ((n : Int) == 0) = false := by simp; omega
    rw [h1]
    simp [h]
theorem Oth.below {L G n : Nat} {w w' : World} (h : Oth L G w w') (hL : n < L) (hG : n < G) (hn : n ≤ w.heap.size) : Below n w w' :=
  ⟨h.os, h.tape, h.output, h.size, fun j hj => h.block j (by omega) (by omega) (by omega)⟩
theorem last_of {α : Type} {l : List α} (h : l ≠ []) : ∃ l' a, l = l' ++ [a] := ⟨l.dropLast, l.getLast h, (List.dropLast_concat_getLast h).symm⟩
/- One is put together. -/
theorem exf_put {w wr w9 : World} {tb e : Nat} {ts : List Tok} {v : Value} {bl al : Int} {R : Res Tr} {L G : Nat} {ys : List Tr} {o y : Tr} {us : List Tok} {s : Tok} {k k0 : Nat} {c p c0 p0 bl0 al0 : Int} {lv' sv' : Value} (h0 : Tx w tb e ts v k0 c0 p0 bl0 al0) (hL : w.heap.size < L) (hG : w.heap.size < G) (hf : ExF w wr tb e ts v bl al R L G (ys ++ [o]) y (us ++ [s]) k c p) (ho : Oth L G wr w9) (hs : Stk (Okd R) w9 (w.heap.size + 1) L G lv' sv' (ys ++ [Par.opT s [o, y]]) us) : ExF w w9 tb e ts v bl al R L G ys (Par.opT s [o, y]) us k c p := by
  have hlen : ys.length = us.length := by have := hf.len; simpa using this
  have hn := hf.gr.size
  have hb : Below w.heap.size wr w9 := ho.below hL hG hn
  refine ⟨grown_under hf.gr hb, (ho.block _ (lt_of_block hf.res) (by omega) (by omega)).trans hf.res, ⟨lv', sv', hs⟩, hlen, ?_, h0.past hf.gr hf.tx hb, hf.lo, ?_⟩
  · have := hf.few
    simp at this
    omega
  · rcases hf.on with ⟨h1, h2⟩ | h1
    · refine .inl ⟨h1, ?_⟩
      rw [h2, Par.pop_more hlen (Nat.zero_le _)]
    · exact .inr h1
theorem ExL.step {w wr w' : World} {tb e : Nat} {ts : List Tok} {v : Value} {bl al : Int} {R : Res Tr} {L G K : Nat} {t : Tok} {D : List (Tr × Tok) × Tr} {xs : List Tr} {x : Tr} {ss : List Tok} {k : Nat} {c p : Int} (h : ExL w wr tb e ts v bl al R L G K t D xs x ss k c p) (hb : Below wr.heap.size wr w') (hL : w.heap.size < L) (hG : w.heap.size < G) : ExL w w' tb e ts v bl al R L G K t D xs x ss k c p := by
  obtain ⟨lv, sv, hs⟩ := h.stk
  have hlo := h.lo
  have hg : wr.grownBy w' (some tb) := ⟨hb.os, hb.tape, hb.output, hb.size, fun j hj _ => hb.block j hj⟩
  exact ⟨h.gr.trans hg, (hb.block _ (lt_of_block h.res)).trans h.res, ⟨lv, sv, hs.grown hg (by omega) (by omega) (by omega)⟩, h.len, h.few, h.tx.later hb, h.lo, (hb.block _ (lt_of_block h.tok)).trans h.tok, h.pop, h.kl⟩
theorem exl_put {w wr w9 : World} {tb e : Nat} {ts : List Tok} {v : Value} {bl al : Int} {R : Res Tr} {L G K : Nat} {t : Tok} {D : List (Tr × Tok) × Tr} {ys : List Tr} {o y : Tr} {us : List Tok} {s : Tok} {k k0 : Nat} {c p c0 p0 bl0 al0 : Int} {lv' sv' : Value} (h0 : Tx w tb e ts v k0 c0 p0 bl0 al0) (hL : w.heap.size < L) (hG : w.heap.size < G) (hf : ExL w wr tb e ts v bl al R L G K t D (ys ++ [o]) y (us ++ [s]) k c p) (hle : Par.lvT t ≤ Par.lvT s) (ho : Oth L G wr w9) (hs : Stk (Okd R) w9 (w.heap.size + 1) L G lv' sv' (ys ++ [Par.opT s [o, y]]) us) : ExL w w9 tb e ts v bl al R L G K t D ys (Par.opT s [o, y]) us k c p := by
  have hlen : ys.length = us.length := by have := hf.len; simpa using this
  have hn := hf.gr.size
  have hb : Below w.heap.size wr w9 := ho.below hL hG hn
  obtain ⟨lv0, sv0, hs0⟩ := hf.stk
  have nKL : K ≠ L := by
    rintro rfl
    have := hf.tok.symm.trans hs0.lb
    simp at this
  have nKG : K ≠ G := by
    rintro rfl
    have := hf.tok.symm.trans hs0.gb
    simp at this
  refine ⟨grown_under hf.gr hb, (ho.block _ (lt_of_block hf.res) (by omega) (by omega)).trans hf.res, ⟨lv', sv', hs⟩, hlen, ?_, h0.past hf.gr hf.tx hb, hf.lo, (ho.block _ (lt_of_block hf.tok) nKL nKG).trans hf.tok, ?_, hf.kl⟩
  · have := hf.few
    simp at this
    omega
  · rw [← hf.pop, Par.pop_more hlen hle]
theorem exl_end {w wr : World} {tb e : Nat} {ts : List Tok} {v : Value} {bl al : Int} {R : Res Tr} {L G K : Nat} {t : Tok} {D : List (Tr × Tok) × Tr} {ys : List Tr} {y : Tr} {us : List Tok} {k : Nat} {c p : Int} (h : ExL w wr tb e ts v bl al R L G K t D ys y us k c p) (hb : topB us (Par.lvT t) = false) : D = (Par.stk ys us, y) := by
  rw [← h.pop]
  have hlen := h.len
  by_cases hu : us = []
  · subst hu
    obtain rfl : ys = [] := List.length_eq_zero_iff.1 (by simpa using hlen)
    rfl
  · obtain ⟨us', s, rfl⟩ := last_of hu
    obtain ⟨ys', o, rfl⟩ := last_of (l := ys) (by rintro rfl; simp at hlen)
    rw [topB_snoc] at hb
    exact Par.pop_stop (by simpa using hlen) (of_decide_eq_false hb)
theorem ex_start {w w1 wb : World} {tb e : Nat} {ts : List Tok} {v : Value} {bl al : Int} {P : List Tok → Res Tr} {R : Res Tr} {x : Tr} {k : Nat} {c p : Int} {z0 z1 z2 z3 : Int} {z4 : ByteArray} {z5 : Option Addr} {m5 d5 : Nat} {z6 : Option Addr} {m6 d6 : Nat} (hlo : tb < w.heap.size) (hg : w.grownBy w1 (some tb)) (hs : w.heap.size + 1 ≤ w1.heap.size) (hr : w1.heap[w.heap.size]? = some (.cells ZE 26 (0, 0))) (ht : Tx w1 tb e ts v k c p bl al)
    (hwb : wb = ((w1.alloc (.cells #[.int .i64 z0, .int .i64 z1, .int .i64 z2, .int .i64 z3, .string z4, .slice z5 m5 d5, .slice z6 m6 d6] 26)).alloc (.cells #[.slice (some ⟨w1.heap.size, 0, none⟩) 1 1] 24)).alloc (.cells #[.slice none 0 0] 59))
    (hx : Okd R → TrIs w1 (fun b => w.heap.size + 1 ≤ b) x [.int .i64 z0, .int .i64 z1, .int .i64 z2, .int .i64 z3, .string z4, .slice z5 m5 d5, .slice z6 m6 d6])
    (hon : (c = 0 ∧ Par.Cont P R (Par.stk [] []) x (ts.drop k)) ∨ (c ≠ 0 ∧ k = ts.length ∧ ∃ q : Nat, p = (q : Int) ∧ R = .no c q)) : ExI w wb tb e ts v bl al P R (w1.heap.size + 1) (w1.heap.size + 1 + 1) [] x [] k c p := by
  obtain ⟨u1, hu1⟩ : ∃ u1, u1 = w1.alloc (.cells #[.int .i64 z0, .int .i64 z1, .int .i64 z2, .int .i64 z3, .string z4, .slice z5 m5 d5, .slice z6 m6 d6] 26) := ⟨_, rfl⟩
  obtain ⟨u2, hu2⟩ : ∃ u2, u2 = u1.alloc (.cells #[.slice (some ⟨w1.heap.size, 0, none⟩) 1 1] 24) := ⟨_, rfl⟩
  have s1 : u1.heap.size = w1.heap.size + 1 := by rw [hu1]; exact Array.size_push _
  have s2 : u2.heap.size = w1.heap.size + 1 + 1 := by rw [← s1, hu2]; exact Array.size_push _
  have b1 : Below w1.heap.size w1 u1 := by rw [hu1]; exact (Below.refl _ w1).alloc (Nat.le_refl _) _
  have b2 : Below u1.heap.size u1 u2 := by rw [hu2]; exact (Below.refl _ u1).alloc (Nat.le_refl _) _
  have b3 : Below u2.heap.size u2 wb := by rw [hwb, ← hu1, ← hu2]; exact (Below.refl _ u2).alloc (Nat.le_refl _) _
  have bb : Below w1.heap.size w1 wb := (b1.trans (b2.mono (by omega))).trans (b3.mono (by omega))
  have lb : wb.heap[w1.heap.size + 1]? = some (.cells #[.slice (some ⟨w1.heap.size, 0, none⟩) 1 1] 24 (0, 0)) := by
    rw [b3.block _ (by omega), hu2, ← s1]
    exact heap_at_alloc _ _ _ rfl
  have gb : wb.heap[w1.heap.size + 1 + 1]? = some (.cells #[.slice none 0 0] 59 (0, 0)) := by
    rw [hwb, ← hu1, ← hu2, ← s2]
    exact heap_at_alloc _ _ _ rfl
  have lo1 : OwnL (ElX (Okd R) (w1.heap.size + 1) (w1.heap.size + 1 + 1) (.slice none 0 0)) u1 (w.heap.size + 1) 26 7 (.slice (some ⟨w1.heap.size, 0, none⟩) 1 1) [x] := by
    rw [hu1]
    exact OwnL.one (isElX _ _ _ _) (ElX.of fun o => TrIs.mono (hx o) fun b hb hl => ⟨hb, by omega, by omega, by simp [Value.ownBlock]⟩) (by omega)
  refine ⟨grown_below hg bb, (bb.block _ (by omega)).trans hr, ⟨_, _, lb, gb, (lo1.below (isElX _ _ _ _) b2).below (isElX _ _ _ _) b3, OwnL.nil _ _ _ _ _⟩, rfl, Nat.zero_le _, ht.later bb, hlo, hon⟩
theorem newK (w : World) (e : TypeId) {x0 x1 x2 : Value} : ∀ j u, ([x0, x1, x2] : List Value)[j]? = some u → (w.alloc (.cells #[x0, x1, x2] e)).cell? ((⟨w.heap.size, 0, none⟩ : Addr).add j) = some u := by
  intro j u hj
  have e0 : (w.alloc (.cells #[x0, x1, x2] e)).cell? ⟨w.heap.size, j, none⟩ = (#[x0, x1, x2] : Array Value)[j]? := World.cell?_alloc_at _ _ _ _ (by simp)
  have e1 : (⟨w.heap.size, 0, none⟩ : Addr).add j = ⟨w.heap.size, j, none⟩ := by simp [Addr.add]; intro h; exact h.symm
  rw [e1, e0]
  simpa using hj
/- A sign is laid on the stack. -/
theorem sgn_push {ok : Prop} {wn w8 : World} {B L G : Nat} {lv sv sv' : Value} {xs : List Tr} {ss : List Tok} {t : Tok} {css : List (List Value)} (h : Stk ok wn B L G lv sv xs ss) (hB : B ≤ wn.heap.size) (ht : (ba t.2.2).size ≤ maxLen) (hc : css.length = ss.length) (p1 : wn.ownsRow B 80 3 sv ss.length css.flatten) (p3 : ∀ i (h : i < ss.length) (h' : i < css.length), ElK wn (SB B sv) ss[i] css[i])
    (hown : w8.ownsRow B 80 3 sv' (ss.length + 1) (css.flatten ++ [.int .i64 t.1, .int .i64 (t.2.1 : Int), .string (ba t.2.2)])) (hgrow : (wn.alloc (.cells #[.int .i64 t.1, .int .i64 (t.2.1 : Int), .string (ba t.2.2)] 80)).grownBy w8 sv.ownBlock) (hat : sv'.ownBlock = sv.ownBlock ∨ sv'.ownBlock = some (wn.heap.size + 1)) : Stk ok (w8.setCell ⟨G, 0, none⟩ sv') B L G lv sv' xs (ss ++ [t]) := by
  have sz1 : (wn.alloc (.cells #[.int .i64 t.1, .int .i64 (t.2.1 : Int), .string (ba t.2.2)] 80)).heap.size = wn.heap.size + 1 := Array.size_push _
  have b1 : Below wn.heap.size wn (wn.alloc (.cells #[.int .i64 t.1, .int .i64 (t.2.1 : Int), .string (ba t.2.2)] 80)) := (Below.refl _ _).alloc (Nat.le_refl _) _
  have fr : ∀ b, b < wn.heap.size → some b ≠ sv.ownBlock → w8.heap[b]? = wn.heap[b]? := fun b hb hn => (hgrow.block b (by omega) hn).trans (b1.block b hb)
  have ty : ∀ {b : Nat} {c : Array Value} {e : TypeId}, wn.heap[b]? = some (.cells c e (0, 0)) → e ≠ 80 → some b ≠ sv.ownBlock := fun {b c e} hb he hq => by
    rcases p1.2 with ⟨hv, _⟩ | ⟨g, cap, cur, hv, _, hg, _⟩
    · rw [hv] at hq; cases hq
    · rw [hv] at hq
      cases hq
      have := hb.symm.trans hg
      simp at this
      exact he this.2
  have lt0 : ∀ k, sv.ownBlock = some k → k < wn.heap.size := fun k hk => (p1.lt k hk).2
  have nLG : L ≠ G := by
    rintro rfl
    have := h.lb.symm.trans h.gb
    simp at this
  have l8 : w8.heap[L]? = _ := (fr L (lt_of_block h.lb) (ty h.lb (by decide))).trans h.lb
  have g8 : w8.heap[G]? = _ := (fr G (lt_of_block h.gb) (ty h.gb (by decide))).trans h.gb
  have go8 : OwnL ElK w8 B 80 3 sv' (ss ++ [t]) := OwnL.add isElK (w := wn) (w1 := wn.alloc (.cells #[.int .i64 t.1, .int .i64 (t.2.1 : Int), .string (ba t.2.2)] 80)) (css := css) lt0 hc (fun i hi hi' => p3 i hi hi') ⟨rfl, ht⟩ hB hown hgrow (by rw [sz1]; exact hat)
  refine ⟨(Below.heap_setCell _ _ _ _ nLG).trans l8, by simp [World.setCell, Array.getElem?_modify, g8], ?_, ?_⟩
  · obtain ⟨csl, o1, o2, o3⟩ := h.lo.ex
    have o1' : w8.ownsRow B 26 7 lv xs.length csl.flatten := by
      refine ⟨o1.1, ?_⟩
      rcases o1.2 with h9 | ⟨g, cap, cur, h1, h2, h3, h4⟩
      · exact .inl h9
      · exact .inr ⟨g, cap, cur, h1, h2, (fr g (lt_of_block h3) (ty h3 (by decide))).trans h3, h4⟩
    refine ⟨csl, own_set o1' g8 (by decide), o2, fun i hi hi' => ⟨(o3 i hi hi').1, fun o => ?_⟩⟩
    have t1 := TrIs.mono (S' := fun b => (SB B lv b ∧ b ≠ L ∧ b ≠ G ∧ some b ≠ sv'.ownBlock) ∧ b < wn.heap.size ∧ some b ≠ sv.ownBlock) ((o3 i hi hi').2 o) fun b hb hl => ⟨⟨hb.1, hb.2.1, hb.2.2.1, by
      rcases hat with h9 | h9
      · rw [h9]; exact hb.2.2.2
      · rw [h9]; simp; omega⟩, hl, hb.2.2.2⟩
    refine (t1.keeps ⟨?_, fun b hb _ => ?_⟩).mono fun b hb _ => hb.1
    · have := hgrow.size
      simp [World.setCell]
      omega
    · rw [Below.heap_setCell _ _ _ _ hb.1.2.2.1]
      exact fr b hb.2.1 hb.2.2
  · obtain ⟨csg, o1, o2, o3⟩ := go8.ex
    exact ⟨csg, own_set o1 g8 (by decide), o2, fun i hi hi' => o3 i hi hi'⟩
theorem ex_ret {w wr : World} {tb e : Nat} {ts : List Tok} {v : Value} {bl al : Int} {R : Res Tr} {L G : Nat} {y : Tr} {k k0 : Nat} {c p c0 p0 bl0 al0 : Int} {tm : Array Value} {z0 z1 z2 z3 : Int} {z4 : ByteArray} {z5 : Option Addr} {m5 d5 : Nat} {z6 : Option Addr} {m6 d6 : Nat} (h0 : Tx w tb e ts v k0 c0 p0 bl0 al0) (hf : ExF w wr tb e ts v bl al R L G [] y [] k c p) (ht : Okd R → TrIs wr (fun b => w.heap.size + 1 ≤ b) y [.int .i64 z0, .int .i64 z1, .int .i64 z2, .int .i64 z3, .string z4, .slice z5 m5 d5, .slice z6 m6 d6]) (ht2 : tm[2]? = some (.pointer (some ⟨w.heap.size, 0, none⟩))) :
    bodyPost Tryz.prog Tryz.f18 (DPost w tb e ts v bl al R (VE w.heap.size) JE) .ret { tmps := tm, defers := [] } (set7 wr w.heap.size (.int .i64 z0) (.int .i64 z1) (.int .i64 z2) (.int .i64 z3) (.string z4) (.slice z5 m5 d5) (.slice z6 m6 d6)) := by
  obtain ⟨wz, hwz⟩ : ∃ wz, wz = set7 wr w.heap.size (.int .i64 z0) (.int .i64 z1) (.int .i64 z2) (.int .i64 z3) (.string z4) (.slice z5 m5 d5) (.slice z6 m6 d6) := ⟨_, rfl⟩
  have hr := hf.res
  unfold ZE at hr
  have hn : wz.heap[w.heap.size]? = some (.cells #[.int .i64 z0, .int .i64 z1, .int .i64 z2, .int .i64 z3, .string z4, .slice z5 m5 d5, .slice z6 m6 d6] 26 (0, 0)) := by rw [hwz]; exact ex_set7 hr _ _ _ _ _ _ _
  have hb : Below w.heap.size wr wz := by rw [hwz]; exact below_set7 (Below.refl _ _) (Nat.le_refl _) _ _ _ _ _ _ _
  have hg7 : wr.grownBy wz (some w.heap.size) := by rw [hwz]; exact keptE
  obtain ⟨q0, q1, q2, q3, q4, q5, q6⟩ := ex_cells hn
  rw [← hwz]
  refine bodyPost_ret (v := .agg #[.int .i64 z0, .int .i64 z1, .int .i64 z2, .int .i64 z3, .string z4, .slice z5 m5 d5, .slice z6 m6 d6]) (by simp [results, Tryz.results18, go_sem, ht2, q0, q1, q2, q3, q4, q5, q6]) rfl ⟨grown_under hf.gr hb, ?_⟩
  have htx := h0.past hf.gr hf.tx hb
  rcases hf.on with ⟨rfl, hR⟩ | ⟨hc, rfl, q, rfl, hR⟩
  · refine .inl ⟨y, k, p, _, hR, rfl, ⟨_, _, _, _, _, _, _, _, _, _, _, rfl, ?_⟩, htx⟩
    exact ((ht ⟨_, _, hR⟩).keeps (Keeps.of_grown hg7 fun b hb => by simp; omega)).mono fun b hb _ => by omega
  · exact .inr ⟨c, q, _, hR, rfl, ⟨_, _, _, _, _, _, _, _, _, _, _, rfl⟩, hc, htx⟩
/- What the next operand came to. -/
structure ExN (w' : World) (tb e : Nat) (ts : List Tok) (v : Value) (bl al : Int) (P : List Tok → Res Tr) (R : Res Tr) (xs : List Tr) (ss : List Tok) (k1 B : Nat) (zs : List Value) (a : Tr) (k : Nat) (c p : Int) : Prop where
  gt : k1 < k
  tx : Tx w' tb e ts v k c p bl al
  tr : Okd R → TrIs w' (fun b => B ≤ b) a zs
  on : (c = 0 ∧ Par.Cont P R (Par.stk xs ss) a (ts.drop k)) ∨ (c ≠ 0 ∧ k = ts.length ∧ ∃ q : Nat, p = (q : Int) ∧ R = .no c q)
theorem exn_of {w' : World} {tb e : Nat} {ts : List Tok} {v : Value} {bl al : Int} {P : List Tok → Res Tr} {R : Res Tr} {xs ys : List Tr} {x y : Tr} {ss us : List Tok} {t : Tok} {k1 B : Nat} {zs : List Value} (hsf : Par.Sfx P) (hco : Par.Cont P R (Par.stk xs ss) x (ts.drop k1)) (hk : k1 < ts.length) (ht : t = nx (ts.drop k1)) (hl : 0 < Par.levF t.2.2) (hE : Par.popS (Par.stk xs ss) x (Par.lvT t) = (Par.stk ys us, y)) (hlen : ys.length = us.length)
    (hcs : (∃ a k p, P (ts.drop (k1 + 1)) = .ok a (ts.drop k) ∧ ElT w' (fun b => B ≤ b) a zs ∧ Tx w' tb e ts v k 0 p bl al) ∨ (∃ c q, P (ts.drop (k1 + 1)) = .no c q ∧ c ≠ 0 ∧ Tx w' tb e ts v ts.length c (q : Int) bl al)) : ∃ a k c p, ExN w' tb e ts v bl al P R (ys ++ [y]) (us ++ [t]) k1 B zs a k c p := by
  have hd : ts.drop k1 = t :: ts.drop (k1 + 1) := by rw [ht, nx_drop hk]; exact List.drop_eq_getElem_cons hk
  rw [hd] at hco
  rcases hcs with ⟨a, k, p, h1, h2, h3⟩ | ⟨c, q, h1, h2, h3⟩
  · have hle := h3.le
    have hsx := (hsf _ _ _ h1).length_le
    simp only [List.length_drop] at hsx
    refine ⟨a, k, 0, p, by omega, h3, fun _ => h2, .inl ⟨rfl, ?_⟩⟩
    have := Par.cont_step hco hl h1
    rw [hE] at this
    rw [Par.stk_push hlen]
    exact this
  · exact ⟨nilT, ts.length, c, q, hk, h3, fun o => (o.no (Par.cont_fail hco hl h1)).elim, .inr ⟨h2, rfl, q, rfl, Par.cont_fail hco hl h1⟩⟩
theorem ExN.later {w w' : World} {tb e : Nat} {ts : List Tok} {v : Value} {bl al : Int} {P : List Tok → Res Tr} {R : Res Tr} {xs : List Tr} {ss : List Tok} {k1 B : Nat} {zs : List Value} {a : Tr} {k : Nat} {c p : Int} (h : ExN w tb e ts v bl al P R xs ss k1 B zs a k c p) (hb : Below w.heap.size w w') : ExN w' tb e ts v bl al P R xs ss k1 B zs a k c p :=
  ⟨h.gt, h.tx.later hb, fun o => (h.tr o).keeps (Keeps.of_below hb), h.on⟩
theorem ex_fin {w w10 wm w8 : World} {tb e : Nat} {ts : List Tok} {v : Value} {bl al : Int} {P : List Tok → Res Tr} {R : Res Tr} {L G : Nat} {lv sv : Value} {ys : List Tr} {y a : Tr} {us : List Tok} {t : Tok} {k k1 k0 : Nat} {c p c0 p0 bl0 al0 : Int} {g8 c8 : Nat} {css : List (List Value)} {y0 y1 y2 y3 y4 y5 y6 : Value} {z0 z1 z2 z3 : Int} {z4 : ByteArray} {z5 : Option Addr} {m5 d5 : Nat} {z6 : Option Addr} {m6 d6 : Nat} (h0 : Tx w tb e ts v k0 c0 p0 bl0 al0) (hLn : w.heap.size < L) (hg10 : w.grownBy w10 (some tb)) (hr10 : w10.heap[w.heap.size]? = some (.cells ZE 26 (0, 0))) (hs10 : Stk (Okd R) w10 (w.heap.size + 1) L G lv sv (ys ++ [y]) (us ++ [t])) (hgm : w10.grownBy wm (some tb)) (hn : ExN wm tb e ts v bl al P R (ys ++ [y]) (us ++ [t]) k1 w10.heap.size [.int .i64 z0, .int .i64 z1, .int .i64 z2, .int .i64 z3, .string z4, .slice z5 m5 d5, .slice z6 m6 d6] a k c p) (hlen : ys.length = us.length) (hfew : us.length ≤ k1)
    (hs : Stk (Okd R) wm (w.heap.size + 1) L G lv sv (ys ++ [y]) (us ++ [t])) (hc : css.length = (ys ++ [y]).length) (p1 : wm.ownsRow (w.heap.size + 1) 26 7 lv (ys ++ [y]).length css.flatten) (p3 : ∀ i (h : i < (ys ++ [y]).length) (h' : i < css.length), ElX (Okd R) L G sv wm (SB (w.heap.size + 1) lv) (ys ++ [y])[i] css[i])
    (hown : w8.ownsRow (w.heap.size + 1) 26 7 (.slice (some ⟨g8, 0, none⟩) ((ys ++ [y]).length + 1) c8) ((ys ++ [y]).length + 1) (css.flatten ++ [y0, y1, y2, y3, y4, y5, y6])) (hgrow : wm.grownBy w8 lv.ownBlock) (hat : lv.ownBlock = some g8 ∨ g8 = wm.heap.size) :
    L ≠ g8 ∧ ExI w ((set7o w8 g8 ((ys ++ [y]).length * 7) (.int .i64 z0) (.int .i64 z1) (.int .i64 z2) (.int .i64 z3) (.string z4) (.slice z5 m5 d5) (.slice z6 m6 d6)).setCell ⟨L, 0, none⟩ (.slice (some ⟨g8, 0, none⟩) ((ys ++ [y]).length + 1) c8)) tb e ts v bl al P R L G (ys ++ [y]) a (us ++ [t]) k c p := by
  have hlt := h0.lt
  have hsz := hg10.size
  have hln := lt_of_block hr10
  obtain ⟨csg, q1, q2, q3⟩ := hs10.go.ex
  obtain ⟨csl, q4, q5, q6⟩ := hs10.lo.ex
  obtain ⟨nL, hst, hgf⟩ := opr_push hs (by omega) (lt_of_block hs10.lb) (lt_of_block hs10.gb) hgm.size (fun b hb => (q4.lt b hb).2) (fun b hb => (q1.lt b hb).2) hc p1 p3 hn.tr hown hgrow hat
  refine ⟨nL, ?_⟩
  obtain ⟨wg, hwg⟩ : ∃ wg, wg = set7o w8 g8 ((ys ++ [y]).length * 7) (.int .i64 z0) (.int .i64 z1) (.int .i64 z2) (.int .i64 z3) (.string z4) (.slice z5 m5 d5) (.slice z6 m6 d6) := ⟨_, rfl⟩
  rw [← hwg] at hst hgf ⊢
  have hz := hgm.size
  have hb : Below (w.heap.size + 1) wm (wg.setCell ⟨L, 0, none⟩ (.slice (some ⟨g8, 0, none⟩) ((ys ++ [y]).length + 1) c8)) := by
    refine Below.setCell ⟨hgf.os, hgf.tape, hgf.output, hgf.size, fun j hj => hgf.block j (by omega) fun hq => ?_⟩ (by show w.heap.size + 1 ≤ L; omega) _
    have := (p1.lt j hq.symm).1
    omega
  have hrm : wm.heap[w.heap.size]? = some (.cells ZE 26 (0, 0)) := (hgm.block _ hln (by simp; omega)).trans hr10
  refine ⟨grown_under (hg10.trans hgm) (hb.mono (by omega)), (hb.block _ (by omega)).trans hrm, ⟨_, _, hst⟩, by simp [hlen], ?_, h0.past (hg10.trans hgm) hn.tx (hb.mono (by omega)), hlt, hn.on⟩
  have := hn.gt
  simp
  omega
end Go.Proofs.YtcdeicfegfedfaaGreatDoor
