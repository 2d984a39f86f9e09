/- A region that draws its order: what is known of the world may hang on which operation came last (a store at the end may end it). The document's own reader: expr's two stacks, and what puts two of them together. -/
import Derived.Test.YtcdeicfegfedfaaGreatDoorChecked
import Derived.OrdersHeld
import Derived.Deep.RegionHeld3
import Derived.WalkKit
import Derived.Test.YtcdeicfegfedfaaGreatDoorGaDcD
import Derived.Test.YtcdeicfegfedfaaGreatDoorGaBnd
import Derived.Deep.RegionLawGrows
namespace Go.Proofs.YtcdeicfegfedfaaGreatDoor
open Go.RowKit

section
variable {P : Program} {ops : Array Oper} {Q : Exit → Act → World → Prop} {md : Region.Mode} {S : Nat → World → Prop}

/- Whatever comes up: behind operation j the world is one of S j. -/
def anyK (P : Program) (md : Region.Mode) (ops : Array Oper) (Q : Exit → Act → World → Prop) (S : Nat → World → Prop) : Nat → Array Bool → Act → World → Prop
  | 0, ls, a, w => Region.ready md ops ls = [] ∧ Q .normal a w
  | n + 1, ls, a, w => (Region.ready md ops ls = [] → Q .normal a w) ∧ ∀ j ∈ Region.ready md ops ls, wpOp P ops Q j (fun a' w' => S j w' ∧ anyK P md ops Q S n (ls.setIfInBounds j true) a' w') a w
theorem any_of_anyK : ∀ (n : Nat) (ls : Array Bool) (a : Act) (w : World), anyK P md ops Q S n ls a w → wpAny P md ops Q n ls a w := by
  intro n
  induction n with
  | zero => exact fun _ _ _ h => h
  | succ n ih => exact fun ls a w h => ⟨h.1, fun j hj => wpOp_mono (fun a' w' h' => ih _ a' w' h'.2) (h.2 j hj)⟩
theorem region_anyK {id : Nat} {a : Act} {w : World} (hm : P.follows .mixedOrders = true) (h : anyK P .any ops Q S ops.size (Array.replicate ops.size false) a { w with drawn := w.drawn + 1 }) : (Code.region id ops true).wp P Q a w :=
  wp_region_any hm (any_of_anyK _ _ _ _ h)
/- Who doesn't wait for number i. -/
def Frank (md : Region.Mode) (i : Nat) (o : Oper) : Prop := ∀ e ∈ o.after, Region.binds md e = true → e.on ≠ i
theorem anyK_first {T : World → Prop} {i : Nat} {oi : Oper} {v : Value} (hi : ops[i]? = some oi) (hsel : ∀ (j : Nat) (o : Oper) cs b, ops[j]? = some o → o.op ≠ .select cs b)
    (hQ : ∀ c a w, Q (.panic c) (a.put oi.dst v) w → Q (.panic c) a w) (hT : ∀ j oj, ops[j]? = some oj → j ≠ i → Frank md i oj → ∀ w, S j w → T w) (hSi : ∀ w, T w → S i w) :
    ∀ (n : Nat) (ls : Array Bool) (a : Act) (w : World), (∀ j oj, ops[j]? = some oj → j ≠ i → ls.getD j true = false → Frank md i oj → oi.apart ops oj = true) →
      i ∈ Region.ready md ops ls → YieldsIf P ops T oi v a → T w → anyK P md ops Q S n (ls.setIfInBounds i true) (a.put oi.dst v) w → anyK P md ops Q S (n + 1) ls a w := by
  intro n
  induction n with
  | zero =>
    intro ls a w _ hr hy ht H
    refine ⟨fun h => ?_, fun j hj => ?_⟩
    · rw [h] at hr
      cases hr
    · by_cases hji : j = i
      · rw [hji]
        exact hy.wpOp hi ht ⟨hSi w ht, H⟩
      · have h0 := ready_mono hj hji
        rw [H.1] at h0
        cases h0
  | succ n ih =>
    intro ls a w hfr hr hy ht H
    refine ⟨fun h => ?_, fun j hj => ?_⟩
    · rw [h] at hr
      cases hr
    · by_cases hji : j = i
      · rw [hji]
        exact hy.wpOp hi ht ⟨hSi w ht, H⟩
      · obtain ⟨hun, oj, hoj, hall⟩ := mem_ready.1 hj
        have hfj : Frank md i oj := by
          intro e he hb hq
          have g1 := hall e he hb
          have g0 := (mem_ready.1 hr).1
          rw [hq] at g1
          by_cases hlt : i < ls.size
          · simp [hlt] at g0 g1
            rw [g0] at g1
            cases g1
          · simp [Array.getElem?_eq_none (Nat.le_of_not_lt hlt)] at g1
        have step := wpOp_putIf hoj (hfr j oj hoj hji hun hfj) (fun cs b => hsel i oi cs b hi) (fun cs b => hsel j oj cs b hoj) hQ hy (H.2 j (ready_mono hj hji))
        refine wpOp_mono (fun a' w' g => ⟨g.2.1, ih (ls.setIfInBounds j true) a' w' (fun k ok hk hki hunk hfk => ?_) (ready_mono hr (Ne.symm hji)) g.1 (hT j oj hoj hji hfj w' g.2.1) ?_⟩) step
        · refine hfr k ok hk hki ?_ hfk
          by_cases hjk : j = k
          · rw [← hjk]
            exact hun
          · rw [getD_set_ne true hjk] at hunk
            exact hunk
        · rw [Array.setIfInBounds_comm _ _ hji]
          exact g.2.2
theorem anyK_all {rs : List Nat} {n : Nat} {ls : Array Bool} {a : Act} {w : World} (hr : Region.ready md ops ls = rs) (hne : rs ≠ []) (h : ∀ j ∈ rs, wpOp P ops Q j (fun a' w' => S j w' ∧ anyK P md ops Q S n (ls.setIfInBounds j true) a' w') a w) : anyK P md ops Q S (n + 1) ls a w :=
  ⟨fun h0 => absurd (hr ▸ h0) hne, hr ▸ h⟩
theorem anyK_done {ls : Array Bool} {a : Act} {w : World} (hr : Region.ready md ops ls = []) (h : Q .normal a w) : ∀ n, anyK P md ops Q S n ls a w
  | 0 => ⟨hr, h⟩
  | _ + 1 => ⟨fun _ => h, by rw [hr]; intro j hj; cases hj⟩
/- The common case: T holds behind all but the last operation z, which waits for i. -/
def SZ (z : Nat) (T : World → Prop) : Nat → World → Prop := fun j w => j ≠ z → T w
def waitsB (md : Region.Mode) (ops : Array Oper) (z i : Nat) : Bool := match ops[z]? with
  | some o => o.after.any fun e => Region.binds md e && e.on == i
  | none => false
theorem anyZ_take {T : World → Prop} {z i : Nat} {oi : Oper} {v : Value} {n : Nat} {ls : Array Bool} {a : Act} {w : World} (hi : ops[i]? = some oi) (hs : Region.noSelect ops = true) (hf : Region.free md ops ls i = true) (hr : (Region.ready md ops ls).contains i = true) (hz : waitsB md ops z i = true)
    (hQ : ∀ c a w, Q (.panic c) (a.put oi.dst v) w → Q (.panic c) a w) (hy : YieldsIf P ops T oi v a) (ht : T w) (h : anyK P md ops Q (SZ z T) n (ls.setIfInBounds i true) (a.put oi.dst v) w) : anyK P md ops Q (SZ z T) (n + 1) ls a w := by
  refine anyK_first hi (Region.noSelect_spec hs) hQ (fun j oj hj _ hfj w hw => hw ?_) (fun w hw _ => hw) n ls a w (Region.free_spec hi hf) (by simpa using hr) hy ht h
  rintro rfl
  unfold waitsB at hz
  rw [hj] at hz
  simp only [Array.any_eq_true, Bool.and_eq_true, beq_iff_eq] at hz
  obtain ⟨k, hk, h1, h2⟩ := hz
  exact hfj _ (Array.getElem_mem hk) h1 h2
theorem anyZ_one {T : World → Prop} {z i : Nat} {o : Oper} {n : Nat} {ls : Array Bool} {a : Act} {w : World} (hr : Region.ready md ops ls = [i]) (ho : ops[i]? = some o) (h : ∀ K' : Act → World → Prop, Shut (∀ a w, (i ≠ z → T w) → anyK P md ops Q (SZ z T) n (ls.setIfInBounds i true) a w → K' a w) → if Region.wanted o (yielded ops a.tmps) = true then Oper.wp P o a w K' Q else K' (a.put o.dst undef) w) : anyK P md ops Q (SZ z T) (n + 1) ls a w := by
  refine anyK_all hr (by simp) (fun j hj => ?_)
  cases List.mem_singleton.1 hj
  exact wpOp_step ho (fun K' hK => h K' (fun a w hS hW => hK a w ⟨hS, hW⟩))
theorem region_anyZ {T : World → Prop} (z : Nat) {id : Nat} {a : Act} {w : World} (hm : P.follows .mixedOrders = true) (h : anyK P .any ops Q (SZ z T) ops.size (Array.replicate ops.size false) a w.drew) : (Code.region id ops true).wp P Q a w := region_anyK hm h
/- The library's take, the slot that is written told outright. -/
theorem heldD {T : World → Prop} {i : Nat} (d : Tmp) {oi : Oper} {v : Value} {n : Nat} {ls : Array Bool} {a : Act} {w : World} (hi : ops[i]? = some oi) (hd : oi.dst = some d) (hs : Region.noSelect ops = true) (hf : Region.free md ops ls i = true) (hr : (Region.ready md ops ls).contains i = true) (hQ : ∀ c a w, Q (.panic c) (a.put oi.dst v) w → Q (.panic c) a w) (hy : YieldsIf P ops T oi v a) (ht : T w)
    (h : wpAnyH P md ops Q T n (ls.setIfInBounds i true) (a.put (some d) v) w) : wpAnyH P md ops Q T (n + 1) ls a w := wpAnyH_take hi hs hf hr hQ hy ht (by rw [hd]; exact h)
end
end Go.Proofs.YtcdeicfegfedfaaGreatDoor

namespace Go.Proofs.YtcdeicfegfedfaaGreatDoor
open Go.RowKit
open Par (Tok Tr Po Res nx atP isT seesB ba)

/- An expression on the stack: seven cells; where all goes well, a tree that lies in neither of the two boxes. -/
def Sh7 (cs : List Value) : Prop := ∃ (z0 z1 z2 z3 : Int) (z4 : ByteArray) (z5 : Option Addr) (m5 d5 : Nat) (z6 : Option Addr) (m6 d6 : Nat), cs = [.int .i64 z0, .int .i64 z1, .int .i64 z2, .int .i64 z3, .string z4, .slice z5 m5 d5, .slice z6 m6 d6]
def ElX (ok : Prop) (L G : Nat) (sv : Value) (w : World) (S : Nat → Prop) (a : Tr) (cs : List Value) : Prop := Sh7 cs ∧ (ok → TrIs w (fun b => S b ∧ b ≠ L ∧ b ≠ G ∧ some b ≠ sv.ownBlock) a cs)
theorem isElX (ok : Prop) (L G : Nat) (sv : Value) : IsEl (ElX ok L G sv) 7 :=
  ⟨fun h k => ⟨h.1, fun o => (h.2 o).keeps ⟨k.size, fun b hb hl => k.block b hb.1 hl⟩⟩, fun h k => ⟨h.1, fun o => (h.2 o).mono fun b hb hl => ⟨k b hb.1 hl, hb.2⟩⟩,
    fun h => by obtain ⟨⟨z0, z1, z2, z3, z4, z5, m5, d5, z6, m6, d6, rfl⟩, _⟩ := h; rfl,
    fun h u hu => by
      obtain ⟨⟨z0, z1, z2, z3, z4, z5, m5, d5, z6, m6, d6, rfl⟩, _⟩ := h
      simp only [List.mem_cons, List.not_mem_nil, or_false] at hu
      rcases hu with rfl | rfl | rfl | rfl | rfl | rfl | rfl <;> rfl⟩
def ElK (_ : World) (_ : Nat → Prop) (t : Tok) (cs : List Value) : Prop := cs = [.int .i64 t.1, .int .i64 (t.2.1 : Int), .string (ba t.2.2)] ∧ (ba t.2.2).size ≤ maxLen
theorem isElK : IsEl ElK 3 := ⟨fun h _ => h, fun h _ => h, fun h => by rw [h.1]; rfl, fun h u hu => by
  rw [h.1] at hu
  simp only [List.mem_cons, List.not_mem_nil, or_false] at hu
  rcases hu with rfl | rfl | rfl <;> rfl⟩
structure Stk (ok : Prop) (w : World) (B L G : Nat) (lv sv : Value) (xs : List Tr) (ss : List Tok) : Prop where
  lb : w.heap[L]? = some (.cells #[lv] 24 (0, 0))
  gb : w.heap[G]? = some (.cells #[sv] 59 (0, 0))
  lo : OwnL (ElX ok L G sv) w B 26 7 lv xs
  go : OwnL ElK w B 80 3 sv ss
/- Everything but the two boxes is as it was. -/
theorem bel_alloc {B : Nat} {a w : World} (h : Below B a w) (o : Obj) (hB : B ≤ w.heap.size) : Below B a (w.alloc o) := h.alloc hB o
theorem bel_drew {B : Nat} {a w : World} (h : Below B a w) : Below B a w.drew := ⟨h.os, h.tape, h.output, h.size, h.block⟩
structure Oth (L G : Nat) (w w' : World) : Prop where
  os : w'.os = w.os
  tape : w'.tape = w.tape
  output : w'.output = w.output
  size : w.heap.size ≤ w'.heap.size
  block : ∀ j, j < w.heap.size → j ≠ L → j ≠ G → w'.heap[j]? = w.heap[j]?
theorem own_some {w : World} {B e sz n : Nat} {v : Value} {xs : List Value} (h : w.ownsRow B e sz v n xs) (hn : 0 < n) : ∃ g cap cur, v = .slice (some ⟨g, 0, none⟩) n cap ∧ B ≤ g ∧ w.heap[g]? = some (.cells cur e (0, 0)) ∧ n ≤ cap ∧ cap ≤ maxLen ∧ cur.size = cap * sz ∧ cur.toList.take (n * sz) = xs := by
  rcases h.2 with ⟨_, h0⟩ | h
  · omega
  · exact h
theorem own_cell {w : World} {e sz n : Nat} {g : Nat} {cur : Array Value} {css : List (List Value)} (hg : w.heap[g]? = some (.cells cur e (0, 0))) (ht : cur.toList.take (n * sz) = css.flatten) (hl : css.length = n) (hs : ∀ i (h : i < css.length), css[i].length = sz) {i j : Nat} {u : Value} (hi : i < css.length) (hu : css[i][j]? = some u) : w.cell? ⟨g, i * sz + j, none⟩ = some u := by
  have hj : j < sz := by
    have := (List.getElem?_eq_some_iff.1 hu).1
    rwa [hs i hi] at this
  have hu2 := (flat_at hs i hi j hj).trans hu
  have hlt : i * sz + j < n * sz := by
    have : (i + 1) * sz ≤ n * sz := Nat.mul_le_mul_right _ (by omega)
    rw [Nat.succ_mul] at this; omega
  rw [← ht, List.getElem?_take, if_pos hlt] at hu2
  simp [World.cell?, hg]
  simpa using hu2
theorem own_old {w : World} {e sz n m : Nat} {g : Nat} {cur : Array Value} {css : List (List Value)} (hg : w.heap[g]? = some (.cells cur e (0, 0))) (ht : cur.toList.take (n * sz) = css.flatten) : ∀ b, some (⟨g, 0, none⟩ : Addr) = some b → ∀ j u, (css.take m).flatten[j]? = some u → w.cell? (b.add j) = some u := by
  intro b hb j u hu
  cases hb
  have e1 : (⟨g, 0, none⟩ : Addr).add j = ⟨g, j, none⟩ := by simp [Addr.add]; intro h; exact h.symm
  rw [e1]
  have hlt := (List.getElem?_eq_some_iff.1 hu).1
  have hu2 : css.flatten[j]? = some u := by
    rw [← List.take_append_drop m css, List.flatten_append, List.getElem?_append_left hlt]
    exact hu
  rw [← ht] at hu2
  have hl2 := (List.getElem?_eq_some_iff.1 hu2).1
  have hl3 : j < n * sz := by
    rw [List.length_take] at hl2
    omega
  rw [List.getElem?_take, if_pos hl3] at hu2
  simp [World.cell?, hg]
  simpa using hu2
theorem opTwoM {w : World} {S : Nat → Prop} {t : Tok} {x y : Tr} {cx cy : List Value} (ht : (ba t.2.2).size ≤ maxLen) (hx : TrIs w S x cx) (hy : TrIs w S y cy) (hS : S w.heap.size) (e : TypeId) :
    TrIs (w.alloc (.cells (cx ++ cy).toArray e)) S (Par.opT t [x, y]) [.int .i64 3, .int .i64 (t.2.1 : Int), .int .i64 0, .int .i64 0, .string (ba t.2.2), .slice none 0 0, .slice (some ⟨w.heap.size, 0, none⟩) 2 2] := by
  have hk : Keeps S w (w.alloc (.cells (cx ++ cy).toArray e)) := Keeps.of_below ((Below.refl _ _).alloc (Nat.le_refl _) _)
  refine .mk ht (labNone _ _) (rowTwo hx hy hS e) rfl (fun i hi hi' => ?_)
  match i, hi with
  | 0, _ => exact hx.keeps hk
  | 1, _ => exact hy.keeps hk
theorem put_fin {ok : Prop} {w W W1 W2 w8 : World} {B L G g cap gk capk g8 cap8 : Nat} {xs : List Tr} {x y : Tr} {ss : List Tok} {s : Tok} {css : List (List Value)} {cx cy new : List Value} (hB : B ≤ w.heap.size)
    (hSt : Stk ok w B L G (.slice (some ⟨g, 0, none⟩) (xs.length + 2) cap) (.slice (some ⟨gk, 0, none⟩) (ss.length + 1) capk) (xs ++ [x, y]) (ss ++ [s])) (nLG : L ≠ G) (nkL : gk ≠ L) (nkG : gk ≠ G)
    (o2 : css.length = xs.length + 2) (o3 : ∀ i (h : i < (xs ++ [x, y]).length) (h' : i < css.length), ElX ok L G (.slice (some ⟨gk, 0, none⟩) (ss.length + 1) capk) w (SB B (.slice (some ⟨g, 0, none⟩) (xs ++ [x, y]).length cap)) (xs ++ [x, y])[i] css[i]) (hcx : css[xs.length]'(by omega) = cx) (hcy : css[xs.length + 1]'(by omega) = cy)
    (hW : W = ((w.setCell ⟨G, 0, none⟩ (.slice (some ⟨gk, 0, none⟩) ss.length capk)).alloc (.cells #[.int .i64 s.1, .int .i64 (s.2.1 : Int), .string (ba s.2.2)] 80)))
    (hnew : new = [.int .i64 3, .int .i64 (s.2.1 : Int), .int .i64 0, .int .i64 0, .string (ba s.2.2), .slice none 0 0, .slice (some ⟨w.heap.size + 1, 0, none⟩) 2 2])
    (hW1 : W1 = (W.alloc (.cells (cx ++ cy).toArray 26)).drew) (hW2 : W2 = W1.alloc (.cells new.toArray 26)) (hg8 : W2.grownBy w8 none) (hB8 : W2.heap.size ≤ g8)
    (h8 : w8.ownsRow W2.heap.size 26 7 (.slice (some ⟨g8, 0, none⟩) (xs.length + 1) cap8) (xs.length + 1) ((css.take xs.length).flatten ++ new)) :
    Oth L G w (w8.setCell ⟨L, 0, none⟩ (.slice (some ⟨g8, 0, none⟩) (xs.length + 1) cap8)) ∧ ∃ lv' sv', Stk ok (w8.setCell ⟨L, 0, none⟩ (.slice (some ⟨g8, 0, none⟩) (xs.length + 1) cap8)) B L G lv' sv' (xs ++ [Par.opT s [x, y]]) ss := by
  have lL := lt_of_block hSt.lb
  have lG := lt_of_block hSt.gb
  have eW : (w.setCell ⟨G, 0, none⟩ (.slice (some ⟨gk, 0, none⟩) ss.length capk)).heap.size = w.heap.size := by simp [World.setCell]
  have zW : W.heap.size = w.heap.size + 1 := by rw [hW, ← eW]; exact Array.size_push _
  have zW1 : W1.heap.size = w.heap.size + 2 := by rw [hW1]; show (W.heap.push _).size = _; rw [Array.size_push, zW]
  have zW2 : W2.heap.size = w.heap.size + 3 := by rw [hW2]; show (W1.heap.push _).size = _; rw [Array.size_push, zW1]
  have bW : Below w.heap.size (w.setCell ⟨G, 0, none⟩ (.slice (some ⟨gk, 0, none⟩) ss.length capk)) W := by rw [hW, ← eW]; exact (Below.refl _ _).alloc (Nat.le_refl _) _
  have b1 : Below W.heap.size W W1 := by rw [hW1]; exact bel_drew (bel_alloc (Below.refl _ _) _ (Nat.le_refl _))
  have b2 : Below W1.heap.size W1 W2 := by rw [hW2]; exact bel_alloc (Below.refl _ _) _ (Nat.le_refl _)
  have b8 : Below W2.heap.size W2 w8 := ⟨hg8.os, hg8.tape, hg8.output, hg8.size, fun j hj => hg8.block j hj (by simp)⟩
  have bW8 : Below W.heap.size W w8 := (b1.trans (b2.mono (by omega))).trans (b8.mono (by omega))
  have fr8 : ∀ j, j < w.heap.size → j ≠ G → w8.heap[j]? = w.heap[j]? := fun j hj hG => by
    rw [bW8.block j (by omega), bW.block j hj, Below.heap_setCell _ _ _ _ hG]
  have fr : ∀ j, j < w.heap.size → j ≠ L → j ≠ G → (w8.setCell ⟨L, 0, none⟩ (.slice (some ⟨g8, 0, none⟩) (xs.length + 1) cap8)).heap[j]? = w.heap[j]? := fun j hj hL hG => by
    rw [Below.heap_setCell _ _ _ _ hL]
    exact fr8 j hj hG
  have sz9 : (w8.setCell ⟨L, 0, none⟩ (.slice (some ⟨g8, 0, none⟩) (xs.length + 1) cap8)).heap.size = w8.heap.size := by simp [World.setCell]
  have sz8 : w.heap.size + 3 ≤ w8.heap.size := by have := b8.size; omega
  obtain ⟨_, _, cur8, hv8, _, hgb8, hn8, hm8, hs8, ht8⟩ := own_some h8 (by omega)
  cases hv8
  have n8L : g8 ≠ L := by omega
  have lgk : gk < w.heap.size := by
    obtain ⟨csk, k1, k2, k3⟩ := hSt.go.ex
    exact (k1.lt gk rfl).2
  have hsm : (ba s.2.2).size ≤ maxLen := by
    obtain ⟨csk, k1, k2, k3⟩ := hSt.go.ex
    have h9 := (k3 ss.length (by simp) (by rw [k2]; simp)).2
    simpa using h9
  refine ⟨⟨?_, ?_, ?_, ?_, fr⟩, .slice (some ⟨g8, 0, none⟩) (xs.length + 1) cap8, .slice (some ⟨gk, 0, none⟩) ss.length capk, ?_, ?_, ?_, ?_⟩
  · show w8.os = _
    rw [bW8.os, bW.os]; rfl
  · show w8.tape = _
    rw [bW8.tape, bW.tape]; rfl
  · show w8.output = _
    rw [bW8.output, bW.output]; rfl
  · rw [sz9]; omega
  · have h9 : w8.heap[L]? = _ := (fr8 L lL nLG).trans hSt.lb
    simp [World.setCell, Array.getElem?_modify, h9]
  · rw [Below.heap_setCell _ _ _ _ (Ne.symm nLG), bW8.block G (by omega), bW.block G lG]
    simp [World.setCell, Array.getElem?_modify, hSt.gb]
  · have l9 : (css.take xs.length).length = xs.length := by rw [List.length_take, o2]; omega
    have kp : Keeps (fun b => (B ≤ b ∧ b ≠ L ∧ b ≠ G ∧ some b ≠ some gk) ∧ b < w.heap.size) w (w8.setCell ⟨L, 0, none⟩ (.slice (some ⟨g8, 0, none⟩) (xs.length + 1) cap8)) := ⟨by rw [sz9]; omega, fun b hb _ => fr b hb.2 hb.1.2.1 hb.1.2.2.1⟩
    have old : ∀ {a : Tr} {cs : List Value}, ElX ok L G (.slice (some ⟨gk, 0, none⟩) (ss.length + 1) capk) w (SB B (.slice (some ⟨g, 0, none⟩) (xs ++ [x, y]).length cap)) a cs → Sh7 cs ∧ (ok → TrIs (w8.setCell ⟨L, 0, none⟩ (.slice (some ⟨g8, 0, none⟩) (xs.length + 1) cap8)) (fun b => (B ≤ b ∧ b ≠ L ∧ b ≠ G ∧ some b ≠ some gk) ∧ b < w.heap.size) a cs) := fun {a cs} h => ⟨h.1, fun o => (TrIs.mono (S' := fun b => (B ≤ b ∧ b ≠ L ∧ b ≠ G ∧ some b ≠ some gk) ∧ b < w.heap.size) (h.2 o) fun b hb hl => ⟨⟨hb.1.1, hb.2⟩, hl⟩).keeps kp⟩
    have up : ∀ b, (B ≤ b ∧ b ≠ L ∧ b ≠ G ∧ some b ≠ some gk) ∧ b < w.heap.size → SB B (.slice (some ⟨g8, 0, none⟩) (xs.length + 1) cap8) b ∧ b ≠ L ∧ b ≠ G ∧ some b ≠ some gk := fun b hb => ⟨⟨hb.1.1, by show some b ≠ some g8; simp; omega⟩, hb.1.2⟩
    have lt7 : ∀ i (h : i < css.length), css[i].length = 7 := fun i hi => (isElX ok L G _).len (o3 i (by simp; omega) hi)
    refine ⟨css.take xs.length ++ [new], ⟨?_, .inr ⟨g8, cap8, cur8, by simp, by omega, ?_, by simpa using hn8, hm8, hs8, by simpa using ht8⟩⟩, by simp [l9], fun i hi hi' => ?_⟩
    · have := h8.1
      simpa using this
    · rw [Below.heap_setCell _ _ _ _ n8L]
      exact hgb8
    · by_cases hix : i < xs.length
      · obtain ⟨e1, e2⟩ := old (o3 i (by simp; omega) (by omega))
        have q1 : (css.take xs.length ++ [new])[i] = css[i]'(by omega) := by rw [List.getElem_append_left (by omega), List.getElem_take]
        have q2 : (xs ++ [Par.opT s [x, y]])[i] = (xs ++ [x, y])[i]'(by simp; omega) := by rw [List.getElem_append_left hix, List.getElem_append_left hix]
        rw [q1, q2]
        exact ⟨e1, fun o => (e2 o).mono fun b hb _ => up b hb⟩
      · have hie : i = xs.length := by simp at hi; omega
        subst hie
        have q1 : (css.take xs.length ++ [new])[xs.length] = new := by rw [List.getElem_append_right (by omega)]; simp [l9]
        have q2 : (xs ++ [Par.opT s [x, y]])[xs.length] = Par.opT s [x, y] := by simp
        rw [q1, q2, hnew]
        refine ⟨⟨_, _, _, _, _, _, _, _, _, _, _, rfl⟩, fun o => ?_⟩
        obtain ⟨_, tx⟩ := o3 xs.length (by simp) (by omega)
        obtain ⟨_, ty⟩ := o3 (xs.length + 1) (by simp) (by omega)
        have tx := tx o
        have ty := ty o
        rw [hcx, show (xs ++ [x, y])[xs.length]'(by simp) = x by simp] at tx
        rw [hcy, show (xs ++ [x, y])[xs.length + 1]'(by simp) = y by simp] at ty
        have kW : Keeps (fun b => (B ≤ b ∧ b ≠ L ∧ b ≠ G ∧ some b ≠ some gk) ∧ b < w.heap.size) w W := ⟨by omega, fun b hb _ => by rw [bW.block b hb.2, Below.heap_setCell _ _ _ _ hb.1.2.2.1]⟩
        have wx : TrIs W (fun b => (B ≤ b ∧ b ≠ L ∧ b ≠ G ∧ some b ≠ some gk) ∧ b < w.heap.size + 2) x cx := ((TrIs.mono (S' := fun b => (B ≤ b ∧ b ≠ L ∧ b ≠ G ∧ some b ≠ some gk) ∧ b < w.heap.size) tx fun b hb hl => ⟨⟨hb.1.1, hb.2⟩, hl⟩).keeps kW).mono fun b hb _ => ⟨hb.1, by omega⟩
        have wy : TrIs W (fun b => (B ≤ b ∧ b ≠ L ∧ b ≠ G ∧ some b ≠ some gk) ∧ b < w.heap.size + 2) y cy := ((TrIs.mono (S' := fun b => (B ≤ b ∧ b ≠ L ∧ b ≠ G ∧ some b ≠ some gk) ∧ b < w.heap.size) ty fun b hb hl => ⟨⟨hb.1.1, hb.2⟩, hl⟩).keeps kW).mono fun b hb _ => ⟨hb.1, by omega⟩
        have t2 := opTwoM hsm wx wy ⟨⟨by omega, by omega, by omega, by simp; omega⟩, by omega⟩ 26
        rw [zW] at t2
        refine (t2.keeps ⟨?_, fun b hb _ => ?_⟩).mono fun b hb _ => ⟨⟨hb.1.1, by show some b ≠ some g8; simp; omega⟩, hb.1.2⟩
        · rw [sz9]
          show (W.heap.push _).size ≤ _
          rw [Array.size_push, zW]
          omega
        · have hb1 := hb.1.2.1
          have hb2 := hb.2
          rw [Below.heap_setCell _ _ _ _ hb1, b8.block b (by omega), b2.block b (by omega), hW1]
          rfl
  · obtain ⟨csk, k1, k2, k3⟩ := hSt.go.ex
    obtain ⟨gq, capq, curk, hvk, hgBk, hgbk, hnck, hcmk, hcsk, htkk⟩ := own_some k1 (by simp)
    have hq : gk = gq ∧ capk = capq := by
      simp only [Value.slice.injEq, Option.some.injEq, Addr.mk.injEq] at hvk
      exact ⟨hvk.1.1, hvk.2.2⟩
    obtain ⟨rfl, rfl⟩ := hq
    have hl3 : ∀ i (h : i < csk.length), csk[i].length = 3 := fun i hi => isElK.len (k3 i (by omega) hi)
    have k2' : csk.length = ss.length + 1 := by rw [k2]; simp
    have l9 : (csk.take ss.length).length = ss.length := by rw [List.length_take, k2']; omega
    have f9 : (csk.take ss.length).flatten.length = ss.length * 3 := by rw [flat_len (sz := 3) (fun i hi => by rw [List.getElem_take]; exact hl3 i (by rw [l9] at hi; omega)), l9]
    refine ⟨csk.take ss.length, ⟨f9, .inr ⟨gk, capk, curk, rfl, hgBk, (fr gk (lt_of_block hgbk) nkL nkG).trans hgbk, by simp at hnck; omega, hcmk, hcsk, ?_⟩⟩, l9, fun i hi hi' => ?_⟩
    · have e1 : curk.toList.take (ss.length * 3) = (curk.toList.take ((ss ++ [s]).length * 3)).take (ss.length * 3) := by
        rw [List.take_take, Nat.min_eq_left (by simp; omega)]
      rw [e1, htkk]
      conv => lhs; rw [← List.take_append_drop ss.length csk, List.flatten_append]
      exact List.take_left' f9
    · have h9 := k3 i (by simp; omega) (by omega)
      rw [List.getElem_append_left hi] at h9
      rw [List.getElem_take]
      exact h9
/- An expression is read whole. -/
theorem exec_load7 {r : Operand → Value} {o : Oper} {x : Operand} {W : World} {g off : Nat} {x0 x1 x2 x3 x4 x5 x6 : Value} (ho : o.op = Op.load 26 x) (hx : r x = .pointer (some ⟨g, off, none⟩)) (h0 : W.cell? ⟨g, off, none⟩ = some x0) (h1 : W.cell? ⟨g, off + 1, none⟩ = some x1) (h2 : W.cell? ⟨g, off + 2, none⟩ = some x2) (h3 : W.cell? ⟨g, off + 3, none⟩ = some x3) (h4 : W.cell? ⟨g, off + 4, none⟩ = some x4) (h5 : W.cell? ⟨g, off + 5, none⟩ = some x5) (h6 : W.cell? ⟨g, off + 6, none⟩ = some x6) :
    (execOp r o).run Tryz.prog W = .ok (.value (.agg #[x0, x1, x2, x3, x4, x5, x6])) W := by
  unfold execOp
  rw [ho]
  simp only [hx]
  simp [Instr.loadAt, go_sem, h0, h1, h2, h3, h4, h5, h6]
set_option maxRecDepth 100000 in
set_option maxHeartbeats 8000000 in
theorem putD {ok : Prop} {w : World} {B L G : Nat} {lv sv : Value} {xs : List Tr} {x y : Tr} {ss : List Tok} {s : Tok} (hB : B ≤ w.heap.size) (h : Stk ok w B L G lv sv (xs ++ [x, y]) (ss ++ [s])) (hx : xs.length ≤ 100000) (hss : ss.length ≤ 100000) :
    Calls Tryz.prog 39 #[.pointer (some ⟨L, 0, none⟩), .pointer (some ⟨G, 0, none⟩)] w fun r w' => r = .returned (.tuple #[]) ∧ Oth L G w w' ∧ ∃ lv' sv', Stk ok w' B L G lv' sv' (xs ++ [Par.opT s [x, y]]) ss := by
  obtain ⟨css, o1, o2, o3⟩ := h.lo.ex
  obtain ⟨g, cap, cur, hv, hgB, hgb, hnc, hcm, hcs, htk⟩ := own_some o1 (by simp)
  obtain ⟨csk, k1, k2, k3⟩ := h.go.ex
  obtain ⟨gk, capk, curk, hvk, hgBk, hgbk, hnck, hcmk, hcsk, htkk⟩ := own_some k1 (by simp)
  subst hv hvk
  have hlen : (xs ++ [x, y]).length = xs.length + 2 := by simp
  have hlenk : (ss ++ [s]).length = ss.length + 1 := by simp
  have hL : w.cell? ⟨L, 0, none⟩ = some (.slice (some ⟨g, 0, none⟩) (xs.length + 2) cap) := by simp [World.cell?, h.lb]
  have hG : w.cell? ⟨G, 0, none⟩ = some (.slice (some ⟨gk, 0, none⟩) (ss.length + 1) capk) := by simp [World.cell?, h.gb]
  have zL : w.frozen? ⟨L, 0, none⟩ = false := by simp [World.frozen?, h.lb]
  have zG : w.frozen? ⟨G, 0, none⟩ = false := by simp [World.frozen?, h.gb]
  have lL := lt_of_block h.lb
  have lG := lt_of_block h.gb
  have lg := lt_of_block hgb
  have lk := lt_of_block hgbk
  have nLG : L ≠ G := by
    rintro rfl
    have := h.lb.symm.trans h.gb
    simp at this
  have ngL : g ≠ L := by
    rintro rfl
    have := hgb.symm.trans h.lb
    simp at this
  have ngG : g ≠ G := by
    rintro rfl
    have := hgb.symm.trans h.gb
    simp at this
  have nkG : gk ≠ G := by
    rintro rfl
    have := hgbk.symm.trans h.gb
    simp at this
  have nkL : gk ≠ L := by
    rintro rfl
    have := hgbk.symm.trans h.lb
    simp at this
  have hl3 : ∀ i (h : i < csk.length), csk[i].length = 3 := fun i hi => isElK.len (k3 i (by omega) hi)
  have hck : csk[ss.length]'(by omega) = [.int .i64 s.1, .int .i64 (s.2.1 : Int), .string (ba s.2.2)] := by
    have h9 := (k3 ss.length (by omega) (by omega)).1
    simpa using h9
  have s0 : w.cell? ⟨gk, ss.length * 3, none⟩ = some (.int .i64 s.1) := own_cell (n := (ss ++ [s]).length) hgbk htkk k2 hl3 (i := ss.length) (j := 0) (by omega) (by rw [hck]; rfl)
  have s1 : w.cell? ⟨gk, ss.length * 3 + 1, none⟩ = some (.int .i64 (s.2.1 : Int)) := own_cell (n := (ss ++ [s]).length) hgbk htkk k2 hl3 (i := ss.length) (j := 1) (by omega) (by rw [hck]; rfl)
  have s2 : w.cell? ⟨gk, ss.length * 3 + 2, none⟩ = some (.string (ba s.2.2)) := own_cell (n := (ss ++ [s]).length) hgbk htkk k2 hl3 (i := ss.length) (j := 2) (by omega) (by rw [hck]; rfl)
  have HSt : Hid (Stk ok w B L G (.slice (some ⟨g, 0, none⟩) (xs.length + 2) cap) (.slice (some ⟨gk, 0, none⟩) (ss.length + 1) capk) (xs ++ [x, y]) (ss ++ [s])) := by rw [hlen, hlenk] at h; exact h
  have hl7 : ∀ i (h : i < css.length), css[i].length = 7 := fun i hi => (isElX ok L G _).len (o3 i (by omega) hi)
  have o2' : css.length = xs.length + 2 := by rw [o2, hlen]
  obtain ⟨x0, x1, x2, x3, x4, x5, mx5, dx5, x6, mx6, dx6, hcx⟩ := (o3 xs.length (by omega) (by omega)).1
  obtain ⟨y0, y1, y2, y3, y4, y5, my5, dy5, y6, my6, dy6, hcy⟩ := (o3 (xs.length + 1) (by omega) (by omega)).1
  obtain ⟨W, hW⟩ : ∃ W, W = ((w.setCell ⟨G, 0, none⟩ (.slice (some ⟨gk, 0, none⟩) ss.length capk)).alloc (.cells #[.int .i64 s.1, .int .i64 (s.2.1 : Int), .string (ba s.2.2)] 80)) := ⟨_, rfl⟩
  have hWs : W.heap.size = w.heap.size + 1 := by rw [hW]; simp [World.setCell]
  have hgW : W.heap[g]? = some (.cells cur 26 (0, 0)) := by
    rw [hW]
    refine heap_past_alloc ?_
    rw [Below.heap_setCell _ _ _ _ ngG]
    exact hgb
  have hLW : W.heap[L]? = some (.cells #[.slice (some ⟨g, 0, none⟩) (xs.length + 2) cap] 24 (0, 0)) := by
    rw [hW]
    refine heap_past_alloc ?_
    rw [Below.heap_setCell _ _ _ _ nLG]
    rw [HSt.out.lb]
  have HKW : Hid (W.heap[w.heap.size]? = some (.cells #[.int .i64 s.1, .int .i64 (s.2.1 : Int), .string (ba s.2.2)] 80 (0, 0))) := by
    show _ = _
    rw [hW]
    have e : (w.setCell ⟨G, 0, none⟩ (.slice (some ⟨gk, 0, none⟩) ss.length capk)).heap.size = w.heap.size := by simp [World.setCell]
    rw [← e]
    exact heap_at_alloc _ _ _ rfl
  have HAT : ∀ w' : World, w'.heap[g]? = some (.cells cur 26 (0, 0)) → w'.heap[w.heap.size]? = some (.cells #[.int .i64 s.1, .int .i64 (s.2.1 : Int), .string (ba s.2.2)] 80 (0, 0)) → w'.cell? ⟨w.heap.size, 1, none⟩ = some (.int .i64 (s.2.1 : Int)) ∧ w'.cell? ⟨w.heap.size, 2, none⟩ = some (.string (ba s.2.2)) ∧ w'.cell? ⟨g, xs.length * 7, none⟩ = some (.int .i64 x0) ∧ w'.cell? ⟨g, xs.length * 7 + 1, none⟩ = some (.int .i64 x1) ∧ w'.cell? ⟨g, xs.length * 7 + 2, none⟩ = some (.int .i64 x2) ∧ w'.cell? ⟨g, xs.length * 7 + 3, none⟩ = some (.int .i64 x3) ∧ w'.cell? ⟨g, xs.length * 7 + 4, none⟩ = some (.string x4) ∧ w'.cell? ⟨g, xs.length * 7 + 5, none⟩ = some (.slice x5 mx5 dx5) ∧ w'.cell? ⟨g, xs.length * 7 + 6, none⟩ = some (.slice x6 mx6 dx6) ∧ w'.cell? ⟨g, (xs.length + 1) * 7, none⟩ = some (.int .i64 y0) ∧ w'.cell? ⟨g, (xs.length + 1) * 7 + 1, none⟩ = some (.int .i64 y1) ∧ w'.cell? ⟨g, (xs.length + 1) * 7 + 2, none⟩ = some (.int .i64 y2) ∧ w'.cell? ⟨g, (xs.length + 1) * 7 + 3, none⟩ = some (.int .i64 y3) ∧ w'.cell? ⟨g, (xs.length + 1) * 7 + 4, none⟩ = some (.string y4) ∧ w'.cell? ⟨g, (xs.length + 1) * 7 + 5, none⟩ = some (.slice y5 my5 dy5) ∧ w'.cell? ⟨g, (xs.length + 1) * 7 + 6, none⟩ = some (.slice y6 my6 dy6) := by
    intro w' h1 h2
    have ax : ∀ j u, (css[xs.length]'(by omega))[j]? = some u → w'.cell? ⟨g, xs.length * 7 + j, none⟩ = some u := fun j u hu => own_cell (n := (xs ++ [x, y]).length) h1 htk o2 hl7 (by omega) hu
    have ay : ∀ j u, (css[xs.length + 1]'(by omega))[j]? = some u → w'.cell? ⟨g, (xs.length + 1) * 7 + j, none⟩ = some u := fun j u hu => own_cell (n := (xs ++ [x, y]).length) h1 htk o2 hl7 (by omega) hu
    rw [hcx] at ax
    rw [hcy] at ay
    obtain ⟨⟨_, e1, e2⟩, _⟩ := blk3 h2
    exact ⟨e1, e2, ax 0 _ rfl, ax 1 _ rfl, ax 2 _ rfl, ax 3 _ rfl, ax 4 _ rfl, ax 5 _ rfl, ax 6 _ rfl, ay 0 _ rfl, ay 1 _ rfl, ay 2 _ rfl, ay 3 _ rfl, ay 4 _ rfl, ay 5 _ rfl, ay 6 _ rfl⟩
  have HALL : Hid (∀ w', Below W.heap.size W w' → w'.cell? ⟨w.heap.size, 1, none⟩ = some (.int .i64 (s.2.1 : Int)) ∧ w'.cell? ⟨w.heap.size, 2, none⟩ = some (.string (ba s.2.2)) ∧ w'.cell? ⟨g, xs.length * 7, none⟩ = some (.int .i64 x0) ∧ w'.cell? ⟨g, xs.length * 7 + 1, none⟩ = some (.int .i64 x1) ∧ w'.cell? ⟨g, xs.length * 7 + 2, none⟩ = some (.int .i64 x2) ∧ w'.cell? ⟨g, xs.length * 7 + 3, none⟩ = some (.int .i64 x3) ∧ w'.cell? ⟨g, xs.length * 7 + 4, none⟩ = some (.string x4) ∧ w'.cell? ⟨g, xs.length * 7 + 5, none⟩ = some (.slice x5 mx5 dx5) ∧ w'.cell? ⟨g, xs.length * 7 + 6, none⟩ = some (.slice x6 mx6 dx6) ∧ w'.cell? ⟨g, (xs.length + 1) * 7, none⟩ = some (.int .i64 y0) ∧ w'.cell? ⟨g, (xs.length + 1) * 7 + 1, none⟩ = some (.int .i64 y1) ∧ w'.cell? ⟨g, (xs.length + 1) * 7 + 2, none⟩ = some (.int .i64 y2) ∧ w'.cell? ⟨g, (xs.length + 1) * 7 + 3, none⟩ = some (.int .i64 y3) ∧ w'.cell? ⟨g, (xs.length + 1) * 7 + 4, none⟩ = some (.string y4) ∧ w'.cell? ⟨g, (xs.length + 1) * 7 + 5, none⟩ = some (.slice y5 my5 dy5) ∧ w'.cell? ⟨g, (xs.length + 1) * 7 + 6, none⟩ = some (.slice y6 my6 dy6)) := fun w' hb => HAT w' ((hb.block _ (by omega)).trans hgW) ((hb.block _ (by omega)).trans HKW.out)
  have HST : Hid (∀ w' u, Below W.heap.size W w' → (w'.setCell ⟨L, 0, none⟩ u).cell? ⟨w.heap.size, 1, none⟩ = some (.int .i64 (s.2.1 : Int)) ∧ (w'.setCell ⟨L, 0, none⟩ u).cell? ⟨w.heap.size, 2, none⟩ = some (.string (ba s.2.2)) ∧ (w'.setCell ⟨L, 0, none⟩ u).cell? ⟨g, xs.length * 7, none⟩ = some (.int .i64 x0) ∧ (w'.setCell ⟨L, 0, none⟩ u).cell? ⟨g, xs.length * 7 + 1, none⟩ = some (.int .i64 x1) ∧ (w'.setCell ⟨L, 0, none⟩ u).cell? ⟨g, xs.length * 7 + 2, none⟩ = some (.int .i64 x2) ∧ (w'.setCell ⟨L, 0, none⟩ u).cell? ⟨g, xs.length * 7 + 3, none⟩ = some (.int .i64 x3) ∧ (w'.setCell ⟨L, 0, none⟩ u).cell? ⟨g, xs.length * 7 + 4, none⟩ = some (.string x4) ∧ (w'.setCell ⟨L, 0, none⟩ u).cell? ⟨g, xs.length * 7 + 5, none⟩ = some (.slice x5 mx5 dx5) ∧ (w'.setCell ⟨L, 0, none⟩ u).cell? ⟨g, xs.length * 7 + 6, none⟩ = some (.slice x6 mx6 dx6) ∧ (w'.setCell ⟨L, 0, none⟩ u).cell? ⟨g, (xs.length + 1) * 7, none⟩ = some (.int .i64 y0) ∧ (w'.setCell ⟨L, 0, none⟩ u).cell? ⟨g, (xs.length + 1) * 7 + 1, none⟩ = some (.int .i64 y1) ∧ (w'.setCell ⟨L, 0, none⟩ u).cell? ⟨g, (xs.length + 1) * 7 + 2, none⟩ = some (.int .i64 y2) ∧ (w'.setCell ⟨L, 0, none⟩ u).cell? ⟨g, (xs.length + 1) * 7 + 3, none⟩ = some (.int .i64 y3) ∧ (w'.setCell ⟨L, 0, none⟩ u).cell? ⟨g, (xs.length + 1) * 7 + 4, none⟩ = some (.string y4) ∧ (w'.setCell ⟨L, 0, none⟩ u).cell? ⟨g, (xs.length + 1) * 7 + 5, none⟩ = some (.slice y5 my5 dy5) ∧ (w'.setCell ⟨L, 0, none⟩ u).cell? ⟨g, (xs.length + 1) * 7 + 6, none⟩ = some (.slice y6 my6 dy6)) := fun w' u hb => HAT _ ((Below.heap_setCell _ _ _ _ ngL).trans ((hb.block _ (by omega)).trans hgW)) ((Below.heap_setCell _ _ _ _ (by show w.heap.size ≠ L; omega)).trans ((hb.block _ (by omega)).trans HKW.out))
  have hLc : W.cell? ⟨L, 0, none⟩ = some (.slice (some ⟨g, 0, none⟩) (xs.length + 2) cap) := by simp [World.cell?, hLW]
  have zLc : W.frozen? ⟨L, 0, none⟩ = false := by simp [World.frozen?, hLW]
  have HOLD : Hid (∀ w' : World, w'.heap[g]? = some (.cells cur 26 (0, 0)) → ∀ b, some (⟨g, 0, none⟩ : Addr) = some b → ∀ j u, (css.take xs.length).flatten[j]? = some u → w'.cell? (b.add j) = some u) := fun w' h1 => own_old (n := (xs ++ [x, y]).length) h1 htk
  have HLO : Hid ((css.take xs.length).flatten.length = xs.length * 7) := by
    show _ = _
    have h9 : (css.take xs.length).length = xs.length := by rw [List.length_take, o2']; omega
    rw [flat_len (sz := 7) (fun i hi => by rw [List.getElem_take]; exact hl7 i (by rw [h9] at hi; omega)), h9]
  have HLW : Hid (W.heap[L]? = some (.cells #[.slice (some ⟨g, 0, none⟩) (xs.length + 2) cap] 24 (0, 0))) := hLW
  have HLL : Hid (∀ w', Below W.heap.size W w' → w'.cell? ⟨L, 0, none⟩ = some (.slice (some ⟨g, 0, none⟩) (xs.length + 2) cap)) := fun w' hb => by
    have := (hb.block L (by omega)).trans hLW
    simp [World.cell?, this]
  have HGW : Hid (W.heap[g]? = some (.cells cur 26 (0, 0))) := hgW
  have HO2 : Hid (css.length = xs.length + 2) := o2'
  have HCU : Hid ((∀ i (h : i < css.length), css[i].length = 7) ∧ css.length = xs.length + 2) := ⟨hl7, o2'⟩
  have lLW : L < W.heap.size := by omega
  have lgW : g < W.heap.size := by omega
  have lKW : w.heap.size < W.heap.size := by omega
  have hnc2 : xs.length + 2 ≤ cap := by omega
  have HO1 : Hid (w.ownsRow B 26 7 (.slice (some ⟨g, 0, none⟩) (xs ++ [x, y]).length cap) (xs ++ [x, y]).length css.flatten) := o1
  have HO3 : Hid (∀ i (h : i < (xs ++ [x, y]).length) (h' : i < css.length), ElX ok L G (.slice (some ⟨gk, 0, none⟩) (ss.length + 1) capk) w (SB B (.slice (some ⟨g, 0, none⟩) (xs ++ [x, y]).length cap)) (xs ++ [x, y])[i] css[i]) := o3
  have HCX : Hid (css[xs.length]'(by omega) = _) := hcx
  have HCY : Hid (css[xs.length + 1]'(by omega) = _) := hcy
  have HWW : Hid (W = _) := hW
  clear h HAT o1 o3 hck hl3 k1 k2 k3 htk htkk hl7 o2' hcx hcy hgW hLW hcs hcsk hgb hgbk
  unfold maxLen at hcm hcmk
  obtain ⟨i0, hi0, hz0, hz1, hz2⟩ := info_parts Tryz.infoLE
  go_enter Tryz.func39, Tryz.ntmps39
  go_wp2
  rw [← hW]
  clear hW hL hG zL zG s0 s1 s2
  have hi1 : (xs.length : Int) ≤ (cap : Int) := by omega
  have hbd0 : ¬ ((xs.length : Int) + 2 ≤ (xs.length : Int)) := by omega
  have hbd1 : ¬ ((xs.length : Int) + 2 ≤ (xs.length : Int) + 1) := by omega
  have hbd2 : ¬ ((xs.length : Int) + 1 < 0) := by omega
  have hwr2 : IntKind.i64.wrap ((xs.length : Int) + 2 - 1) = (xs.length : Int) + 1 := by rw [IntKind.wrap_i64]; omega
  have hwr0 : IntKind.i64.wrap (xs.length : Int) = (xs.length : Int) := by rw [IntKind.wrap_i64]; omega
  have hwr1 : IntKind.i64.wrap ((xs.length : Int) + 1) = (xs.length : Int) + 1 := by rw [IntKind.wrap_i64]; omega
  have hi2 : (0 : Int) ≤ (xs.length : Int) := by omega
  refine region_anyZ (T := fun w' => Below W.heap.size W w') 24 (by kernel_rfl) ?_
  have hT : Below W.heap.size W W.drew := bel_drew (Below.refl _ _)
  refine anyZ_take (i := 0) (v := .slice (some ⟨g, 0, none⟩) (xs.length + 2) cap) rfl (by kernel_rfl) (by kernel_rfl) (by kernel_rfl) (by kernel_rfl) (fun _ _ _ h => h) (Or.inl ⟨by rfl, fun W' hw => by have hl := HLL.out W' hw; clear hw; go_simp⟩) hT ?_
  simp only [Act.put]
  refine anyZ_take (i := 1) (v := .int .i64 ((xs.length : Int) + 2)) rfl (by kernel_rfl) (by kernel_rfl) (by kernel_rfl) (by kernel_rfl) (fun _ _ _ h => h) (Or.inl ⟨by rfl, fun W' hw => by clear hw; go_simp⟩) hT ?_
  simp only [Act.put]
  refine anyZ_take (i := 2) (v := .int .i64 (xs.length : Int)) rfl (by kernel_rfl) (by kernel_rfl) (by kernel_rfl) (by kernel_rfl) (fun _ _ _ h => h) (Or.inl ⟨by rfl, fun W' hw => by clear hw; go_simp⟩) hT ?_
  simp only [Act.put]
  refine anyZ_take (i := 3) (v := .int .i64 ((xs.length : Int) + 2)) rfl (by kernel_rfl) (by kernel_rfl) (by kernel_rfl) (by kernel_rfl) (fun _ _ _ h => h) (Or.inl ⟨by rfl, fun W' hw => by clear hw; go_simp⟩) hT ?_
  simp only [Act.put]
  refine anyZ_take (i := 4) (v := .int .i64 (xs.length : Int)) rfl (by kernel_rfl) (by kernel_rfl) (by kernel_rfl) (by kernel_rfl) (fun _ _ _ h => h) (Or.inl ⟨by rfl, fun W' hw => by clear hw; go_simp⟩) hT ?_
  simp only [Act.put]
  refine anyZ_take (i := 5) (v := .slice (some ⟨g, 0, none⟩) xs.length xs.length) rfl (by kernel_rfl) (by kernel_rfl) (by kernel_rfl) (by kernel_rfl) (fun _ _ _ h => h) (Or.inl ⟨by rfl, fun W' hw => by clear hw; go_simp⟩) hT ?_
  simp only [Act.put]
  refine anyZ_take (i := 6) (v := .pointer (some ⟨w.heap.size, 1, none⟩)) rfl (by kernel_rfl) (by kernel_rfl) (by kernel_rfl) (by kernel_rfl) (fun _ _ _ h => h) (Or.inl ⟨by rfl, fun W' hw => by clear hw; go_simp⟩) hT ?_
  simp only [Act.put]
  refine anyZ_take (i := 7) (v := .int .i64 (s.2.1 : Int)) rfl (by kernel_rfl) (by kernel_rfl) (by kernel_rfl) (by kernel_rfl) (fun _ _ _ h => h) (Or.inl ⟨by rfl, fun W' hw => by obtain ⟨c1, _⟩ := HALL.out W' hw; clear hw; go_simp⟩) hT ?_
  simp only [Act.put]
  refine anyZ_take (i := 8) (v := .pointer (some ⟨w.heap.size, 2, none⟩)) rfl (by kernel_rfl) (by kernel_rfl) (by kernel_rfl) (by kernel_rfl) (fun _ _ _ h => h) (Or.inl ⟨by rfl, fun W' hw => by clear hw; go_simp⟩) hT ?_
  simp only [Act.put]
  refine anyZ_take (i := 9) (v := .string (ba s.2.2)) rfl (by kernel_rfl) (by kernel_rfl) (by kernel_rfl) (by kernel_rfl) (fun _ _ _ h => h) (Or.inl ⟨by rfl, fun W' hw => by obtain ⟨_, c2, _⟩ := HALL.out W' hw; clear hw; go_simp⟩) hT ?_
  simp only [Act.put]
  refine anyZ_take (i := 10) (v := .slice (some ⟨g, 0, none⟩) (xs.length + 2) cap) rfl (by kernel_rfl) (by kernel_rfl) (by kernel_rfl) (by kernel_rfl) (fun _ _ _ h => h) (Or.inl ⟨by rfl, fun W' hw => by have hl := HLL.out W' hw; clear hw; go_simp⟩) hT ?_
  simp only [Act.put]
  refine anyZ_take (i := 11) (v := .int .i64 ((xs.length : Int) + 2)) rfl (by kernel_rfl) (by kernel_rfl) (by kernel_rfl) (by kernel_rfl) (fun _ _ _ h => h) (Or.inl ⟨by rfl, fun W' hw => by clear hw; go_simp⟩) hT ?_
  simp only [Act.put]
  refine anyZ_take (i := 12) (v := .int .i64 (xs.length : Int)) rfl (by kernel_rfl) (by kernel_rfl) (by kernel_rfl) (by kernel_rfl) (fun _ _ _ h => h) (Or.inl ⟨by rfl, fun W' hw => by clear hw; go_simp⟩) hT ?_
  simp only [Act.put]
  refine anyZ_take (i := 13) (v := .pointer (some ⟨g, xs.length * 7, none⟩)) rfl (by kernel_rfl) (by kernel_rfl) (by kernel_rfl) (by kernel_rfl) (fun _ _ _ h => h) (Or.inl ⟨by rfl, fun W' hw => by clear hw; go_simp⟩) hT ?_
  simp only [Act.put]
  refine anyZ_take (i := 14) (v := .agg #[.int .i64 x0, .int .i64 x1, .int .i64 x2, .int .i64 x3, .string x4, .slice x5 mx5 dx5, .slice x6 mx6 dx6]) rfl (by kernel_rfl) (by kernel_rfl) (by kernel_rfl) (by kernel_rfl) (fun _ _ _ h => h) (Or.inl ⟨by rfl, fun W' hw => by have h := HALL.out W' hw; exact exec_load7 (x := .tmp 30) rfl (by simp [Act.eval]) h.2.2.1 h.2.2.2.1 h.2.2.2.2.1 h.2.2.2.2.2.1 h.2.2.2.2.2.2.1 h.2.2.2.2.2.2.2.1 h.2.2.2.2.2.2.2.2.1⟩) hT ?_
  simp only [Act.put]
  refine anyZ_take (i := 15) (v := .slice (some ⟨g, 0, none⟩) (xs.length + 2) cap) rfl (by kernel_rfl) (by kernel_rfl) (by kernel_rfl) (by kernel_rfl) (fun _ _ _ h => h) (Or.inl ⟨by rfl, fun W' hw => by have hl := HLL.out W' hw; clear hw; go_simp⟩) hT ?_
  simp only [Act.put]
  refine anyZ_take (i := 16) (v := .int .i64 ((xs.length : Int) + 2)) rfl (by kernel_rfl) (by kernel_rfl) (by kernel_rfl) (by kernel_rfl) (fun _ _ _ h => h) (Or.inl ⟨by rfl, fun W' hw => by clear hw; go_simp⟩) hT ?_
  simp only [Act.put]
  refine anyZ_take (i := 17) (v := .int .i64 ((xs.length : Int) + 1)) rfl (by kernel_rfl) (by kernel_rfl) (by kernel_rfl) (by kernel_rfl) (fun _ _ _ h => h) (Or.inl ⟨by rfl, fun W' hw => by clear hw; go_simp⟩) hT ?_
  simp only [Act.put]
  refine anyZ_take (i := 18) (v := .pointer (some ⟨g, (xs.length + 1) * 7, none⟩)) rfl (by kernel_rfl) (by kernel_rfl) (by kernel_rfl) (by kernel_rfl) (fun _ _ _ h => h) (Or.inl ⟨by rfl, fun W' hw => by clear hw; go_simp⟩) hT ?_
  simp only [Act.put]
  refine anyZ_take (i := 19) (v := .agg #[.int .i64 y0, .int .i64 y1, .int .i64 y2, .int .i64 y3, .string y4, .slice y5 my5 dy5, .slice y6 my6 dy6]) rfl (by kernel_rfl) (by kernel_rfl) (by kernel_rfl) (by kernel_rfl) (fun _ _ _ h => h) (Or.inl ⟨by rfl, fun W' hw => by have h := HALL.out W' hw; exact exec_load7 (x := .tmp 35) rfl (by simp [Act.eval]) h.2.2.2.2.2.2.2.2.2.1 h.2.2.2.2.2.2.2.2.2.2.1 h.2.2.2.2.2.2.2.2.2.2.2.1 h.2.2.2.2.2.2.2.2.2.2.2.2.1 h.2.2.2.2.2.2.2.2.2.2.2.2.2.1 h.2.2.2.2.2.2.2.2.2.2.2.2.2.2.1 h.2.2.2.2.2.2.2.2.2.2.2.2.2.2.2⟩) hT ?_
  simp only [Act.put]
  refine anyZ_one (i := 20) (by kernel_rfl) rfl (fun K hK => ?_)
  go_simp
  refine hK.out _ _ (fun _ => bel_drew (bel_alloc (Below.refl _ _) _ (Nat.le_refl _))) ?_
  clear hK K
  obtain ⟨W1, hW1⟩ : ∃ W1, W1 = (W.alloc (.cells #[.int .i64 x0, .int .i64 x1, .int .i64 x2, .int .i64 x3, .string x4, .slice x5 mx5 dx5, .slice x6 mx6 dx6, .int .i64 y0, .int .i64 y1, .int .i64 y2, .int .i64 y3, .string y4, .slice y5 my5 dy5, .slice y6 my6 dy6] 26)).drew := ⟨_, rfl⟩
  have hT1 : Below W.heap.size W W1 := by rw [hW1]; exact bel_drew (bel_alloc (Below.refl _ _) _ (Nat.le_refl _))
  have hz1' : W1.heap.size = w.heap.size + 2 := by rw [hW1]; show (W.heap.push _).size = _; rw [Array.size_push, hWs]
  try simp only [Act.put]
  rw [← hW1]
  have HW1 : Hid (W1 = _) := hW1
  clear hW1
  refine anyZ_take (i := 21) (v := .agg #[.int .i64 3, .int .i64 (s.2.1 : Int), .int .i64 0, .int .i64 0, .string (ba s.2.2), .slice none 0 0, .slice (some ⟨w.heap.size + 1, 0, none⟩) 2 2]) rfl (by kernel_rfl) (by kernel_rfl) (by kernel_rfl) (by kernel_rfl) (fun _ _ _ h => h) (Or.inl ⟨by rfl, fun W' hw => by clear hw; go_simp⟩) hT1 ?_
  try simp only [Act.put]
  refine anyZ_one (i := 22) (by kernel_rfl) rfl (fun K hK => ?_)
  go_simp
  refine hK.out _ _ (fun _ => bel_alloc hT1 _ hT1.size) ?_
  clear hK K
  obtain ⟨W2, hW2⟩ : ∃ W2, W2 = W1.alloc (.cells #[.int .i64 3, .int .i64 (s.2.1 : Int), .int .i64 0, .int .i64 0, .string (ba s.2.2), .slice none 0 0, .slice (some ⟨w.heap.size + 1, 0, none⟩) 2 2] 26) := ⟨_, rfl⟩
  have hT2 : Below W.heap.size W W2 := by rw [hW2]; exact bel_alloc hT1 _ hT1.size
  have hz2' : W2.heap.size = w.heap.size + 3 := by rw [hW2]; show (W1.heap.push _).size = _; rw [Array.size_push, hz1']
  have hnew : ∀ j u, ([.int .i64 3, .int .i64 (s.2.1 : Int), .int .i64 0, .int .i64 0, .string (ba s.2.2), .slice none 0 0, .slice (some ⟨w.heap.size + 1, 0, none⟩) 2 2] : List Value)[j]? = some u → W2.cell? ((⟨w.heap.size + 2, 0, none⟩ : Addr).add j) = some u := by rw [hW2, ← hz1']; exact newE _ _
  try simp only [Act.put]
  rw [← hW2]
  have HW2 : Hid (W2 = _) := hW2
  clear hW2
  refine anyZ_one (i := 23) (by kernel_rfl) rfl (fun K hK => ?_)
  refine step_append_grows rfl (.tmp 22) (.tmp 39) 24 rfl 26 i0 (.agg #[.int .i64 0, .int .i64 0, .int .i64 0, .int .i64 0, .string ⟨#[]⟩, .slice none 0 0, .slice none 0 0]) 7 96 Tryz.underlying24 hi0 hz0 hz1 hz2 rfl (by decide) (some ⟨g, 0, none⟩) xs.length xs.length (css.take xs.length).flatten (by simp [Act.eval]) (by simp) HLO.out (HOLD.out _ ((hT2.block _ (by omega)).trans HGW.out)) ⟨w.heap.size + 2, 0, none⟩ 1 1 [.int .i64 3, .int .i64 (s.2.1 : Int), .int .i64 0, .int .i64 0, .string (ba s.2.2), .slice none 0 0, .slice (some ⟨w.heap.size + 1, 0, none⟩) 2 2] (by simp [Act.eval]) rfl hnew (by intro u hu; simp only [List.mem_cons, List.not_mem_nil, or_false] at hu; rcases hu with rfl | rfl | rfl | rfl | rfl | rfl | rfl <;> rfl) (by omega) (by unfold maxLen; omega) (by omega) ?_
  intro v' w8 hown8 hgrow8
  obtain ⟨g8, cap8, cur8, hv8, hB8, hb8, hn8, hm8, hs8, ht8⟩ := own_some hown8 (by omega)
  subst hv8
  have HW8 : Hid (w8.ownsRow W2.heap.size 26 7 (.slice (some ⟨g8, 0, none⟩) (xs.length + 1) cap8) (xs.length + 1) ((css.take xs.length).flatten ++ [.int .i64 3, .int .i64 (s.2.1 : Int), .int .i64 0, .int .i64 0, .string (ba s.2.2), .slice none 0 0, .slice (some ⟨w.heap.size + 1, 0, none⟩) 2 2])) := hown8
  have hT8 : Below W.heap.size W w8 := ⟨hgrow8.os.trans hT2.os, hgrow8.tape.trans hT2.tape, hgrow8.output.trans hT2.output, Nat.le_trans hT2.size hgrow8.size, fun j hj => (hgrow8.block j (Nat.lt_of_lt_of_le hj hT2.size) (by simp)).trans (hT2.block j hj)⟩
  refine hK.out _ _ (fun _ => hT8) ?_
  clear hK K
  try simp only [Act.put]
  have hl8 := HLL.out w8 hT8
  have zl8 : w8.frozen? ⟨L, 0, none⟩ = false := by
    have := (hT8.block L (by omega)).trans HLW.out
    simp [World.frozen?, this]
  have HG8 : Hid (W2.grownBy w8 none) := hgrow8
  have HT8 : Hid (Below W.heap.size W w8) := hT8
  have HB8 : Hid (W2.heap.size ≤ g8) := hB8
  clear hown8 hgrow8 hB8 hb8 hn8 hm8 hs8 ht8 hT8 hT hT1 hT2 hnew
  refine anyZ_one (i := 24) (by kernel_rfl) rfl (fun K hK => ?_)
  go_simp
  refine hK.out _ _ (fun h => absurd rfl h) ?_
  clear hK K
  refine anyK_done (by kernel_rfl) ?_ _
  try simp only [Act.put]
  go_wp2
  go_end0
  refine ⟨rfl, ?_⟩
  exact put_fin hB HSt.out nLG nkL nkG HO2.out HO3.out HCX.out HCY.out HWW.out rfl HW1.out HW2.out HG8.out HB8.out HW8.out
end Go.Proofs.YtcdeicfegfedfaaGreatDoor
