/- The document's own reader: one, its frame: how deep it is, and the way out. The document's own reader: a step from where it stands, on or stopped: expr, one, label. -/
import Derived.Test.YtcdeicfegfedfaaGreatDoorDcF
import Derived.Test.YtcdeicfegfedfaaGreatDoorGaBnd
namespace Go.Proofs.YtcdeicfegfedfaaGreatDoor
open Go.RowKit
open Par (Tok Tr Po Res nx atP isT seesB ba)

def OnD (tb e : Nat) (ts : List Tok) (v : Value) (bl al : Int) (P : List Tok → Res Tr) : Prop := ∀ (w : World) (k : Nat) (p : Int), Tx w tb e ts v k 0 p bl al → Calls Tryz.prog 38 #[.pointer (some ⟨tb, 0, none⟩)] w (DPost w tb e ts v bl al (P (ts.drop k)) (VE w.heap.size) JE)
theorem tx_set6 {W : World} {tb : Nat} {v : Value} {k e : Nat} {c p bl al al' : Int} (h : W.heap[tb]? = some (.cells (txC v k e c p bl al) 78 (0, 0))) : (W.setCell ⟨tb, 6, none⟩ (.int .i64 al')).heap[tb]? = some (.cells (txC v k e c p bl al') 78 (0, 0)) := by
  simp only [World.setCell, Array.getElem?_modify, h]
  simp [txC]
theorem Tx.deep {w : World} {tb e : Nat} {ts : List Tok} {v : Value} {k : Nat} {c p bl al : Int} (h : Tx w tb e ts v k c p bl al) (al' : Int) : w.grownBy (w.setCell ⟨tb, 6, none⟩ (.int .i64 al')) (some tb) ∧ Tx (w.setCell ⟨tb, 6, none⟩ (.int .i64 al')) tb e ts v k c p bl al' := by
  have hg : w.grownBy (w.setCell ⟨tb, 6, none⟩ (.int .i64 al')) (some tb) := grown_set (grown_refl _ _) rfl _
  exact ⟨hg, h.kept hg (tx_set6 h.blk) h.le h.big⟩
/- What one holds behind its step in. -/
structure InD (w wt : World) (tb K : Nat) (t : Tok) : Prop where
  gr : w.grownBy wt (some tb)
  box : wt.heap[w.heap.size]? = some (.cells #[.pointer (some ⟨tb, 0, none⟩)] 48 (0, 0))
  res : wt.heap[w.heap.size + 1]? = some (.cells ZE 26 (0, 0))
  tok : wt.heap[K]? = some (.cells #[.int .i64 t.1, .int .i64 (t.2.1 : Int), .string (ba t.2.2)] 80 (0, 0))
  lo : tb < w.heap.size
  hK : w.heap.size + 1 < K
theorem InD.later {w wt w' : World} {tb K : Nat} {t : Tok} (h : InD w wt tb K t) (hg : wt.grownBy w' (some tb)) : InD w w' tb K t := by
  have h1 := lt_of_block h.box
  have h2 := lt_of_block h.res
  have h3 := lt_of_block h.tok
  have h4 := h.lo
  have h5 := h.hK
  exact ⟨h.gr.trans hg, (hg.block _ h1 (by simp; omega)).trans h.box, (hg.block _ h2 (by simp; omega)).trans h.res, (hg.block _ h3 (by simp; omega)).trans h.tok, h4, h5⟩
theorem InD.below {w wt w' : World} {tb K : Nat} {t : Tok} (h : InD w wt tb K t) (hb : Below wt.heap.size wt w') : InD w w' tb K t := h.later ⟨hb.os, hb.tape, hb.output, hb.size, fun j hj _ => hb.block j hj⟩
theorem InD.cells {w wt : World} {tb K : Nat} {t : Tok} (h : InD w wt tb K t) : w.heap.size + 1 < wt.heap.size ∧ K < wt.heap.size ∧ wt.cell? ⟨w.heap.size, 0, none⟩ = some (.pointer (some ⟨tb, 0, none⟩)) ∧ wt.cell? ⟨K, 0, none⟩ = some (.int .i64 t.1) ∧ wt.cell? ⟨K, 1, none⟩ = some (.int .i64 (t.2.1 : Int)) ∧ wt.cell? ⟨K, 2, none⟩ = some (.string (ba t.2.2)) := by
  refine ⟨lt_of_block h.res, lt_of_block h.tok, ?_, ?_, ?_, ?_⟩
  · simp [World.cell?, h.box]
  all_goals simp [World.cell?, h.tok]
set_option maxRecDepth 100000 in
set_option maxHeartbeats 4000000 in
theorem oneOut {w : World} {tb e n : Nat} {ts : List Tok} {v : Value} {k : Nat} {c p bl : Int} {d : Nat} (u : FrameMode) (hd : d ≤ 12) (h : Tx w tb e ts v k c p bl ((d + 1 : Nat) : Int)) (hb : w.heap[n]? = some (.cells #[.pointer (some ⟨tb, 0, none⟩)] 48 (0, 0))) :
    CallsD Tryz.prog 70 #[.pointer (some ⟨n, 0, none⟩)] u w fun x u' w' => u' = u ∧ (x = .returned (.tuple #[]) ∧ w' = w.setCell ⟨tb, 6, none⟩ (.int .i64 (d : Int)) ∧ Tx w' tb e ts v k c p bl d) := by
  obtain ⟨q0, q1, q2, q3, q4, q5, q6⟩ := h.cells
  have z6 := h.free 6
  have hlt := h.lt
  have k0 : w.cell? ⟨n, 0, none⟩ = some (.pointer (some ⟨tb, 0, none⟩)) := by simp [World.cell?, hb]
  have H : Hid (Tx (w.setCell ⟨tb, 6, none⟩ (.int .i64 (d : Int))) tb e ts v k c p bl d) := (h.deep _).2
  clear h
  go_enter_d Tryz.func70, Tryz.ntmps70
  go_wp2
  go_end0
  exact ⟨rfl, rfl, H.out⟩
def oneD1 (n : Nat) : Deferred := { target := .fn (.func 70) #[.pointer (some ⟨n, 0, none⟩)], args := #[] }
/- What one has come to: its result laid in the seven cells zs. -/
def OnF (wz : World) (B tb e : Nat) (ts : List Tok) (v : Value) (k : Nat) (c p bl al : Int) (res : Res Tr) (zs : List Value) : Prop :=
  Tx wz tb e ts v k c p bl al ∧ ((c = 0 ∧ ∃ t, res = .ok t (ts.drop k) ∧ TrIs wz (fun b => B ≤ b) t zs) ∨ (c ≠ 0 ∧ k = ts.length ∧ ∃ q : Nat, p = (q : Int) ∧ res = .no c q))
theorem doorD {w wz : World} {tb e d : Nat} {ts : List Tok} {v : Value} {k : Nat} {c p bl : Int} {tm : Array Value} {res : Res Tr} {z0 z1 z2 z3 : Int} {z4 : ByteArray} {z5 : Option Addr} {m5 d5 : Nat} {z6 : Option Addr} {m6 d6 : Nat} (hd : d ≤ 12) (hg : w.grownBy wz (some tb)) (hlo : tb < w.heap.size)
    (hb : wz.heap[w.heap.size]? = some (.cells #[.pointer (some ⟨tb, 0, none⟩)] 48 (0, 0)))
    (hn : wz.heap[w.heap.size + 1]? = some (.cells #[.int .i64 z0, .int .i64 z1, .int .i64 z2, .int .i64 z3, .string z4, .slice z5 m5 d5, .slice z6 m6 d6] 26 (0, 0)))
    (hf : OnF wz w.heap.size tb e ts v k c p bl ((d + 1 : Nat) : Int) res [.int .i64 z0, .int .i64 z1, .int .i64 z2, .int .i64 z3, .string z4, .slice z5 m5 d5, .slice z6 m6 d6])
    (ht2 : tm[2]? = some (.pointer (some ⟨w.heap.size + 1, 0, none⟩))) :
    Leaves Tryz.prog Tryz.f38 tm (DPost w tb e ts v bl d res (VE w.heap.size) JE) [oneD1 w.heap.size] .returning wz := by
  refine leaves_cons (f := 70) (args := #[.pointer (some ⟨w.heap.size, 0, none⟩)]) (by simp) (by simp [go_sem]) ?_
  refine (oneOut .returning hd hf.1 hb).mono ?_
  rintro x u' w'' ⟨rfl, rfl, hw, hR⟩
  have hn' : w''.heap[w.heap.size + 1]? = some (.cells #[.int .i64 z0, .int .i64 z1, .int .i64 z2, .int .i64 z3, .string z4, .slice z5 m5 d5, .slice z6 m6 d6] 26 (0, 0)) := by
    rw [hw, Below.heap_setCell _ _ _ _ (by show w.heap.size + 1 ≠ tb; omega)]; exact hn
  obtain ⟨⟨q0, q1, q2, q3, q4, q5, q6⟩, _⟩ := blkE hn'
  refine ⟨.agg #[.int .i64 z0, .int .i64 z1, .int .i64 z2, .int .i64 z3, .string z4, .slice z5 m5 d5, .slice z6 m6 d6], by simp [results, Tryz.results38, go_sem, ht2, q0, q1, q2, q3, q4, q5, q6], by rw [hw]; exact grown_set hg rfl _, ?_⟩
  rcases hf.2 with ⟨rfl, a, h1, h2⟩ | ⟨hc, rfl, q, rfl, h1⟩
  · refine .inl ⟨a, k, p, _, h1, rfl, ⟨_, _, _, _, _, _, _, _, _, _, _, rfl, ?_⟩, hR⟩
    exact h2.keeps (by rw [hw]; exact Keeps.of_grown (grown_set (grown_refl _ _) rfl _) fun b hb => by simp; omega)
  · exact .inr ⟨c, q, _, h1, rfl, ⟨_, _, _, _, _, _, _, _, _, _, _, rfl⟩, hc, hR⟩
/- The result is laid, then the way out. -/
theorem door7D {w wz : World} {tb e d K : Nat} {ts : List Tok} {v : Value} {k k0 : Nat} {c p bl c0 p0 bl0 al0 : Int} {t : Tok} {tm : Array Value} {res : Res Tr} {z0 z1 z2 z3 : Int} {z4 : ByteArray} {z5 : Option Addr} {m5 d5 : Nat} {z6 : Option Addr} {m6 d6 : Nat} (hd : d ≤ 12) (h0 : Tx w tb e ts v k0 c0 p0 bl0 al0) (hi : InD w wz tb K t)
    (hf : OnF wz (w.heap.size + 1 + 1) tb e ts v k c p bl ((d + 1 : Nat) : Int) res [.int .i64 z0, .int .i64 z1, .int .i64 z2, .int .i64 z3, .string z4, .slice z5 m5 d5, .slice z6 m6 d6])
    (ht2 : tm[2]? = some (.pointer (some ⟨w.heap.size + 1, 0, none⟩))) :
    Leaves Tryz.prog Tryz.f38 tm (DPost w tb e ts v bl d res (VE w.heap.size) JE) [oneD1 w.heap.size] .returning (set7 wz (w.heap.size + 1) (.int .i64 z0) (.int .i64 z1) (.int .i64 z2) (.int .i64 z3) (.string z4) (.slice z5 m5 d5) (.slice z6 m6 d6)) := by
  have hlo := hi.lo
  have hn := hi.res
  unfold ZE at hn
  have hg7 : wz.grownBy (set7 wz (w.heap.size + 1) (.int .i64 z0) (.int .i64 z1) (.int .i64 z2) (.int .i64 z3) (.string z4) (.slice z5 m5 d5) (.slice z6 m6 d6)) (some (w.heap.size + 1)) := keptE
  have hbl := hg7.block
  have hB : Below (w.heap.size + 1) wz (set7 wz (w.heap.size + 1) (.int .i64 z0) (.int .i64 z1) (.int .i64 z2) (.int .i64 z3) (.string z4) (.slice z5 m5 d5) (.slice z6 m6 d6)) := below_set7 (Below.refl _ _) (Nat.le_refl _) _ _ _ _ _ _ _
  have hlt := lt_of_block hn
  refine doorD hd ⟨hB.os.trans hi.gr.os, hB.tape.trans hi.gr.tape, hB.output.trans hi.gr.output, Nat.le_trans hi.gr.size hB.size, fun j hj hne => (hB.block j (by omega)).trans (hi.gr.block j hj hne)⟩ hlo ((hB.block _ (by omega)).trans hi.box) (ex_set7 hn _ _ _ _ _ _ _) ⟨h0.past hi.gr hf.1 (hB.mono (by omega)), ?_⟩ ht2
  · rcases hf.2 with ⟨rfl, a, h1, h2⟩ | h
    · exact .inl ⟨rfl, a, h1, (h2.keeps (Keeps.of_grown hg7 fun b hb => by simp; omega)).mono fun b hb _ => by omega⟩
    · exact .inr h
end Go.Proofs.YtcdeicfegfedfaaGreatDoor

namespace Go.Proofs.YtcdeicfegfedfaaGreatDoor
open Go.RowKit
open Par (Tok Tr Po Res nx atP isT seesB ba)

def Okd {α : Type} (R : Res α) : Prop := ∃ a r, R = .ok a r
theorem Okd.no {α : Type} {R : Res α} {c : Int} {q : Nat} (h : Okd R) (hr : R = .no c q) : False := by
  obtain ⟨a, r, h⟩ := h
  rw [hr] at h
  cases h
def nilT : Tr := .mk 0 0 0 0 (ba []) [] []
/- What expr (and one) come to from where the reader stands. -/
def ExS {α : Type} (w : World) (tb e : Nat) (ts : List Tok) (v : Value) (bl al : Int) (R : Res α) (F : Tr → List Tok → Res α) (x : Ending) (w' : World) : Prop :=
  ∃ (z0 z1 z2 z3 : Int) (z4 : ByteArray) (z5 : Option Addr) (m5 d5 : Nat) (z6 : Option Addr) (m6 d6 : Nat), x = .returned (.agg #[.int .i64 z0, .int .i64 z1, .int .i64 z2, .int .i64 z3, .string z4, .slice z5 m5 d5, .slice z6 m6 d6]) ∧ w.grownBy w' (some tb) ∧ ∃ a k c p, St w' tb e ts v bl al R (F a) k c p ∧ (Okd R → TrIs w' (fun b => w.heap.size ≤ b) a [.int .i64 z0, .int .i64 z1, .int .i64 z2, .int .i64 z3, .string z4, .slice z5 m5 d5, .slice z6 m6 d6])
theorem exs_on {α : Type} {w w' : World} {tb e : Nat} {ts : List Tok} {v : Value} {bl al : Int} {res : Res Tr} {R : Res α} {F : Tr → List Tok → Res α} {x : Ending} (hr : R = res.bind F) (h : DPost w tb e ts v bl al res (VE w.heap.size) JE x w') : ExS w tb e ts v bl al R F x w' := by
  obtain ⟨hg, z0, z1, z2, z3, z4, z5, m5, d5, z6, m6, d6, hx, hcs⟩ := exd_cases h
  refine ⟨z0, z1, z2, z3, z4, z5, m5, d5, z6, m6, d6, hx, hg, ?_⟩
  rcases hcs with ⟨a, k, p, h1, h2, h3⟩ | ⟨c, q, h1, h2, h3⟩
  · exact ⟨a, k, 0, p, ⟨h3, .inl ⟨rfl, by rw [hr, h1]; rfl⟩⟩, fun _ => h2⟩
  · have hR : R = .no c q := by rw [hr, h1]; rfl
    exact ⟨nilT, ts.length, c, q, ⟨h3, .inr ⟨h2, rfl, q, rfl, hR⟩⟩, fun h => (h.no hR).elim⟩
theorem exs_off {α : Type} {w w' : World} {tb e : Nat} {ts : List Tok} {v : Value} {bl al c : Int} {q : Nat} {R : Res α} {F : Tr → List Tok → Res α} (hc : c ≠ 0) (hr : R = .no c q) (h : Tx w tb e ts v ts.length c (q : Int) bl al) (hb : Below w.heap.size w w') : ExS w tb e ts v bl al R F (.returned nilE) w' :=
  ⟨0, 0, 0, 0, ⟨#[]⟩, none, 0, 0, none, 0, 0, rfl, grown_below (grown_refl _ _) hb, nilT, ts.length, c, q, ⟨h.later hb, .inr ⟨hc, rfl, q, rfl, hr⟩⟩, fun h => (h.no hr).elim⟩
theorem exprSt {α : Type} {w : World} {tb e : Nat} {ts : List Tok} {v : Value} {bl al : Int} {E : List Tok → Res Tr} (hE : ExD tb e ts v bl al E) {R : Res α} {F : Tr → List Tok → Res α} {k : Nat} {c p : Int} (h : St w tb e ts v bl al R (fun r => (E r).bind F) k c p) :
    Calls Tryz.prog 18 #[.pointer (some ⟨tb, 0, none⟩)] w (ExS w tb e ts v bl al R F) := by
  obtain ⟨ht, ⟨rfl, hr⟩ | ⟨hc, rfl, q, rfl, hr⟩⟩ := h
  · refine (hE w k p ht).mono ?_
    exact fun x w' h => exs_on hr h
  · refine (exprS hc ht).mono ?_
    rintro x w' ⟨rfl, hb⟩
    exact exs_off hc hr ht hb
theorem oneSt {α : Type} {w : World} {tb e : Nat} {ts : List Tok} {v : Value} {bl al : Int} {P : List Tok → Res Tr} (hP : OnD tb e ts v bl al P) {R : Res α} {F : Tr → List Tok → Res α} {k : Nat} {c p : Int} (h : St w tb e ts v bl al R (fun r => (P r).bind F) k c p) :
    Calls Tryz.prog 38 #[.pointer (some ⟨tb, 0, none⟩)] w (ExS w tb e ts v bl al R F) := by
  obtain ⟨ht, ⟨rfl, hr⟩ | ⟨hc, rfl, q, rfl, hr⟩⟩ := h
  · refine (hP w k p ht).mono ?_
    exact fun x w' h => exs_on hr h
  · refine (oneS hc ht).mono ?_
    rintro x w' ⟨rfl, hb⟩
    exact exs_off hc hr ht hb
def LbS {α : Type} (w : World) (tb e : Nat) (ts : List Tok) (v : Value) (bl al : Int) (R : Res α) (F : List Po → List Tok → Res α) (x : Ending) (w' : World) : Prop :=
  ∃ (lo : Option Addr) (ln lc : Nat), x = .returned (.slice lo ln lc) ∧ w.grownBy w' (some tb) ∧ ∃ l k c p, St w' tb e ts v bl al R (F l) k c p ∧ (Okd R → LabV w' (fun b => w.heap.size ≤ b) (.slice lo ln lc) l)
theorem labelSt {α : Type} {w : World} {tb e : Nat} {ts : List Tok} {v : Value} {bl al : Int} (hgd : Par.Good ts) (hsh : Short ts) {R : Res α} {F : List Po → List Tok → Res α} {k : Nat} {c p : Int} (h : St w tb e ts v bl al R (fun r => (Par.labelR e r).bind F) k c p) :
    Calls Tryz.prog 21 #[.pointer (some ⟨tb, 0, none⟩)] w (LbS w tb e ts v bl al R F) := by
  obtain ⟨ht, ⟨rfl, hr⟩ | ⟨hc, rfl, q, rfl, hr⟩⟩ := h
  · refine (labelD hgd hsh ht).mono ?_
    rintro x w' ⟨hg, ⟨l, k, p, u, h1, h2, h3, h4⟩ | ⟨c, q, u, h1, h2, ⟨lo, ln, lc, rfl⟩, h3, h4⟩⟩
    · obtain ⟨ao, cp, rfl⟩ := h3.slice
      exact ⟨_, _, _, h2, hg, l, k, 0, p, ⟨h4, .inl ⟨rfl, by rw [hr]; show (Par.labelR e _).bind F = _; rw [h1]; rfl⟩⟩, fun _ => h3.label⟩
    · have hR : R = .no c q := by rw [hr]; show (Par.labelR e _).bind F = _; rw [h1]; rfl
      exact ⟨lo, ln, lc, h2, hg, [], ts.length, c, q, ⟨h4, .inr ⟨h3, rfl, q, rfl, hR⟩⟩, fun h => (h.no hR).elim⟩
  · refine (labelS hc ht).mono ?_
    rintro x w' ⟨rfl, h1, h2⟩
    exact ⟨_, _, _, rfl, h1, [], ts.length, c, q, ⟨h2, .inr ⟨hc, rfl, q, rfl, hr⟩⟩, fun h => (h.no hr).elim⟩
/- The end. -/
theorem onf_of {w : World} {B tb e : Nat} {ts : List Tok} {v : Value} {bl al : Int} {R : Res Tr} {a : Tr} {k : Nat} {c p : Int} {zs : List Value} (h : St w tb e ts v bl al R (fun r => .ok a r) k c p) (ht : Okd R → TrIs w (fun b => B ≤ b) a zs) : OnF w B tb e ts v k c p bl al R zs := by
  obtain ⟨h1, ⟨rfl, hr⟩ | ⟨hc, rfl, q, rfl, hr⟩⟩ := h
  · exact ⟨h1, .inl ⟨rfl, a, hr, ht ⟨_, _, hr⟩⟩⟩
  · exact ⟨h1, .inr ⟨hc, rfl, q, rfl, hr⟩⟩
/- The result holds one expression of its own. -/
theorem door8D {w wz : World} {tb e d K : Nat} {ts : List Tok} {v : Value} {k k0 : Nat} {c p bl c0 p0 bl0 al0 : Int} {t : Tok} {tm : Array Value} {R : Res Tr} {a : Tr} {l : List Po} {z0 z1 z2 z3 : Int} {z4 : ByteArray} {z5 : Option Addr} {m5 d5 : Nat} {y0 y1 y2 y3 : Int} {y4 : ByteArray} {y5 : Option Addr} {n5 f5 : Nat} {y6 : Option Addr} {n6 f6 : Nat} (hd : d ≤ 12) (h0 : Tx w tb e ts v k0 c0 p0 bl0 al0) (hi : InD w wz tb K t)
    (hst : St wz tb e ts v bl ((d + 1 : Nat) : Int) R (fun r => .ok (.mk z0 z1 z2 z3 z4 l [a]) r) k c p) (hz : z4.size ≤ maxLen) (hl : Okd R → LabV wz (fun b => w.heap.size + 1 + 1 ≤ b) (.slice z5 m5 d5) l) (ha : Okd R → TrIs wz (fun b => w.heap.size + 1 + 1 ≤ b) a [.int .i64 y0, .int .i64 y1, .int .i64 y2, .int .i64 y3, .string y4, .slice y5 n5 f5, .slice y6 n6 f6])
    (ht2 : tm[2]? = some (.pointer (some ⟨w.heap.size + 1, 0, none⟩))) :
    Leaves Tryz.prog Tryz.f38 tm (DPost w tb e ts v bl d R (VE w.heap.size) JE) [oneD1 w.heap.size] .returning ((set7 wz (w.heap.size + 1) (.int .i64 z0) (.int .i64 z1) (.int .i64 z2) (.int .i64 z3) (.string z4) (.slice z5 m5 d5) (.slice (some ⟨wz.heap.size, 0, none⟩) 1 1)).alloc (.cells #[.int .i64 y0, .int .i64 y1, .int .i64 y2, .int .i64 y3, .string y4, .slice y5 n5 f5, .slice y6 n6 f6] 26)) := by
  have hlo := hi.lo
  have hn := hi.res
  unfold ZE at hn
  have hlt := lt_of_block hn
  obtain ⟨ws, hws⟩ : ∃ ws, ws = set7 wz (w.heap.size + 1) (.int .i64 z0) (.int .i64 z1) (.int .i64 z2) (.int .i64 z3) (.string z4) (.slice z5 m5 d5) (.slice (some ⟨wz.heap.size, 0, none⟩) 1 1) := ⟨_, rfl⟩
  have hg7 : wz.grownBy ws (some (w.heap.size + 1)) := by rw [hws]; exact keptE
  have hB : Below (w.heap.size + 1) wz ws := by rw [hws]; exact below_set7 (Below.refl _ _) (Nat.le_refl _) _ _ _ _ _ _ _
  have hsz : ws.heap.size = wz.heap.size := by rw [hws]; simp [set7, World.setCell]
  have hn1 : ws.heap[w.heap.size + 1]? = some (.cells #[.int .i64 z0, .int .i64 z1, .int .i64 z2, .int .i64 z3, .string z4, .slice z5 m5 d5, .slice (some ⟨wz.heap.size, 0, none⟩) 1 1] 26 (0, 0)) := by rw [hws]; exact ex_set7 hn _ _ _ _ _ _ _
  rw [← hws]
  have hba : Below ws.heap.size ws (ws.alloc (.cells #[.int .i64 y0, .int .i64 y1, .int .i64 y2, .int .i64 y3, .string y4, .slice y5 n5 f5, .slice y6 n6 f6] 26)) := (Below.refl _ _).alloc (Nat.le_refl _) _
  have hbw : Below (w.heap.size + 1) wz (ws.alloc (.cells #[.int .i64 y0, .int .i64 y1, .int .i64 y2, .int .i64 y3, .string y4, .slice y5 n5 f5, .slice y6 n6 f6] 26)) := hB.trans (hba.mono (by omega))
  refine doorD hd (grown_under hi.gr (hbw.mono (by omega))) hlo ((hbw.block _ (by omega)).trans hi.box) (heap_past_alloc hn1) ⟨h0.past hi.gr hst.1 (hbw.mono (by omega)), ?_⟩ ht2
  obtain ⟨h1, ⟨rfl, hr⟩ | ⟨hc, rfl, q, rfl, hr⟩⟩ := hst
  · have hok : Okd R := ⟨_, _, hr⟩
    refine .inl ⟨rfl, _, hr, ?_⟩
    have kS : Keeps (fun b => w.heap.size + 1 + 1 ≤ b) wz ws := Keeps.of_grown hg7 fun b hb => by simp; omega
    have kA : Keeps (fun b => w.heap.size ≤ b) ws (ws.alloc (.cells #[.int .i64 y0, .int .i64 y1, .int .i64 y2, .int .i64 y3, .string y4, .slice y5 n5 f5, .slice y6 n6 f6] 26)) := Keeps.of_below hba
    have ta : TrIs ws (fun b => w.heap.size ≤ b) a (#[.int .i64 y0, .int .i64 y1, .int .i64 y2, .int .i64 y3, .string y4, .slice y5 n5 f5, .slice y6 n6 f6] : Array Value).toList := ((ha hok).keeps kS).mono fun b hb _ => by omega
    have tl : LabV ws (fun b => w.heap.size ≤ b) (.slice z5 m5 d5) l := ((hl hok).keeps kS).mono fun b hb _ => by omega
    have tr := rowOne ta (by omega) 26
    rw [hsz] at tr
    refine .mk hz (tl.keeps kA) tr rfl (fun i hi hi' => ?_)
    match i, hi with
    | 0, _ => exact ta.keeps kA
  · exact .inr ⟨hc, rfl, q, rfl, hr⟩
/- What args comes to. -/
def ArS (wO : World) (tb e : Nat) (ts : List Tok) (v : Value) (bl al : Int) (R : Res Tr) (q : Int) (o : ByteArray) (B : Nat) (x : Ending) (w' : World) : Prop :=
  ∃ (lo : Option Addr) (ln lc : Nat), x = .returned (.slice lo ln lc) ∧ wO.grownBy w' (some tb) ∧ ∃ k c p, OnF w' B tb e ts v k c p bl al R [.int .i64 4, .int .i64 q, .int .i64 0, .int .i64 0, .string o, .slice none 0 0, .slice lo ln lc]
theorem ars_of {wO w' w'' : World} {tb e : Nat} {ts : List Tok} {v : Value} {bl al : Int} {R : Res Tr} {res : Res (List Tr)} {q : Int} {o : ByteArray} {B : Nat} {x : Ending} (hr : R = res.bind fun a r2 => .ok (.mk 4 q 0 0 o [] a) r2) (ho : o.size ≤ maxLen) (hB : B ≤ wO.heap.size) (hb : Below wO.heap.size wO w') (h : DPost w' tb e ts v bl al res (fun w'' l u => OwnL ElT w'' w'.heap.size 26 7 u l) JL x w'') : ArS wO tb e ts v bl al R q o B x w'' := by
  obtain ⟨hg, ⟨l, k, p, u, h1, h2, h3, h4⟩ | ⟨c, q', u, h1, h2, ⟨lo, ln, lc, rfl⟩, h3, h4⟩⟩ := h
  · obtain ⟨ao, cp, rfl⟩ := h3.slice
    obtain ⟨css, k1, k2, k3⟩ := h3.trees.ex
    have hs := hb.size
    refine ⟨_, _, _, h2, World.grownBy.trans ⟨hb.os, hb.tape, hb.output, hb.size, fun j hj _ => hb.block j hj⟩ hg, k, 0, p, h4, .inl ⟨rfl, _, by rw [hr, h1]; rfl, ?_⟩⟩
    exact .mk ho (labNone _ _) (k1.mono fun b hb _ => by omega) k2 (fun i hi hi' => TrIs.mono (k3 i hi hi') fun b hb _ => by omega)
  · exact ⟨lo, ln, lc, h2, World.grownBy.trans ⟨hb.os, hb.tape, hb.output, hb.size, fun j hj _ => hb.block j hj⟩ hg, ts.length, c, q', h4, .inr ⟨h3, rfl, q', rfl, by rw [hr, h1]; rfl⟩⟩
def OnS (wO : World) (tb e : Nat) (ts : List Tok) (v : Value) (bl al : Int) (R : Res Tr) (F : Tr → List Tok → Res Tr) (B : Nat) (x : Ending) (w' : World) : Prop :=
  ∃ (z0 z1 z2 z3 : Int) (z4 : ByteArray) (z5 : Option Addr) (m5 d5 : Nat) (z6 : Option Addr) (m6 d6 : Nat), x = .returned (.agg #[.int .i64 z0, .int .i64 z1, .int .i64 z2, .int .i64 z3, .string z4, .slice z5 m5 d5, .slice z6 m6 d6]) ∧ wO.grownBy w' (some tb) ∧ ∃ a k c p, St w' tb e ts v bl al R (F a) k c p ∧ (Okd R → TrIs w' (fun b => B ≤ b) a [.int .i64 z0, .int .i64 z1, .int .i64 z2, .int .i64 z3, .string z4, .slice z5 m5 d5, .slice z6 m6 d6])
theorem ons_of {wO w' w'' : World} {tb e : Nat} {ts : List Tok} {v : Value} {bl al : Int} {R : Res Tr} {F : Tr → List Tok → Res Tr} {B : Nat} {x : Ending} (hB : B ≤ wO.heap.size) (hb : Below wO.heap.size wO w') (h : ExS w' tb e ts v bl al R F x w'') : OnS wO tb e ts v bl al R F B x w'' := by
  obtain ⟨z0, z1, z2, z3, z4, z5, m5, d5, z6, m6, d6, hx, hg, a, k, c, p, hst, htr⟩ := h
  have hs := hb.size
  exact ⟨z0, z1, z2, z3, z4, z5, m5, d5, z6, m6, d6, hx, World.grownBy.trans ⟨hb.os, hb.tape, hb.output, hb.size, fun j hj _ => hb.block j hj⟩ hg, a, k, c, p, hst, fun h => (htr h).mono fun b hb _ => by omega⟩
/- No panic, ahead of a region that draws its order in a function that defers. -/
def noP (Q : Exit → Act → World → Prop) : Exit → Act → World → Prop
  | .panic _, _, _ => False
  | x, a, w => Q x a w
theorem noP_out {Q : Exit → Act → World → Prop} : ∀ x a w, noP Q x a w → Q x a w := by
  intro x a w h
  cases x <;> first | exact h | exact h.elim
theorem noP_in {Q : Exit → Act → World → Prop} {a : Act} {w : World} (h : Q .normal a w) : noP Q .normal a w := h
end Go.Proofs.YtcdeicfegfedfaaGreatDoor
