/- Small laws on worlds that have grown, one block of which may have been written. Rows, labels and expressions in memory. Lists that a call gathers: a row of its own, and what its things lead to, apart from it. -/
import Derived.WalkKit
import Derived.Below
import Derived.Deep.QuietTactic
import Derived.Test.YtcdeicfegfedfaaGreatDoorGaPar
import Derived.OwnWalk
import Derived.Maps.AppendAt
namespace Go.Proofs.YtcdeicfegfedfaaGreatDoor
open Go.RowKit

theorem grown_refl (w : World) (row : Option Nat) : w.grownBy w row := ⟨rfl, rfl, rfl, Nat.le_refl _, fun _ _ _ => rfl⟩
theorem grown_trans {a b c : World} {row : Option Nat} (h : a.grownBy b row) (k : b.grownBy c row) : a.grownBy c row :=
  ⟨k.os.trans h.os, k.tape.trans h.tape, k.output.trans h.output, Nat.le_trans h.size k.size, fun i hi hn => (k.block i (Nat.lt_of_lt_of_le hi h.size) hn).trans (h.block i hi hn)⟩
theorem grown_alloc {a w : World} {row : Option Nat} (h : a.grownBy w row) (o : Obj) : a.grownBy (w.alloc o) row :=
  grown_trans h ⟨rfl, rfl, rfl, by simp, fun k hk _ => Below.heap_alloc _ _ _ hk⟩
theorem grown_drew {a w : World} {row : Option Nat} (h : a.grownBy w row) : a.grownBy w.drew row := ⟨h.os, h.tape, h.output, h.size, h.block⟩
theorem grown_drewN {a w : World} {row : Option Nat} {n : Nat} (h : a.grownBy w row) : a.grownBy (w.drewN n) row := ⟨h.os, h.tape, h.output, h.size, h.block⟩
theorem grown_set {a w : World} {b : Nat} {p : Addr} (h : a.grownBy w (some b)) (hp : p.block = b) (u : Value) : a.grownBy (w.setCell p u) (some b) :=
  grown_trans h ⟨rfl, rfl, rfl, by simp [World.setCell], fun k hk hn => Below.heap_setCell _ _ _ _ (by rintro rfl; exact hn (by rw [hp]))⟩
theorem grown_setNew {a w : World} {row : Option Nat} {p : Addr} (h : a.grownBy w row) (hp : a.heap.size ≤ p.block) (u : Value) : a.grownBy (w.setCell p u) row :=
  ⟨h.os, h.tape, h.output, by simpa [World.setCell] using h.size, fun k hk hn => (Below.heap_setCell _ _ _ _ (by omega)).trans (h.block k hk hn)⟩
theorem grown_below {a w w' : World} {row : Option Nat} (h : a.grownBy w row) (hb : Below w.heap.size w w') : a.grownBy w' row :=
  grown_trans h ⟨hb.os, hb.tape, hb.output, hb.size, fun k hk _ => hb.block k hk⟩
theorem below_of_grown {a w : World} {B : Nat} (h : a.grownBy w (some B)) : Below B a w ∨ ¬ (B ≤ a.heap.size) := by
  by_cases hB : B ≤ a.heap.size
  · exact .inl ⟨h.os, h.tape, h.output, h.size, fun k hk => h.block k (by omega) (by simp; omega)⟩
  · exact .inr hB
theorem heap_drew (w : World) : w.drew.heap = w.heap := rfl
theorem heap_at_alloc (w : World) (o : Obj) (b : Nat) (h : b = w.heap.size) : (w.alloc o).heap[b]? = some o := by
  subst h; exact heap_alloc_new w o
theorem heap_past_alloc {w : World} {o x : Obj} {b : Nat} (h : w.heap[b]? = some x) : (w.alloc o).heap[b]? = some x := by
  rw [Below.heap_alloc w o b (lt_of_block h)]; exact h
theorem heap_past_set {w : World} {a : Addr} {u : Value} {x : Obj} {b : Nat} (h : w.heap[b]? = some x) (hb : b ≠ a.block) : (w.setCell a u).heap[b]? = some x := by
  rw [Below.heap_setCell w a u b hb]; exact h
end Go.Proofs.YtcdeicfegfedfaaGreatDoor

namespace Go.Proofs.YtcdeicfegfedfaaGreatDoor
open Go.RowKit
open Par (Tok Po Tr)

/- What the blocks of S hold stays. -/
structure Keeps (S : Nat → Prop) (w w' : World) : Prop where
  size : w.heap.size ≤ w'.heap.size
  block : ∀ b, S b → b < w.heap.size → w'.heap[b]? = w.heap[b]?
theorem Keeps.refl (S : Nat → Prop) (w : World) : Keeps S w w := ⟨Nat.le_refl _, fun _ _ _ => rfl⟩
theorem Keeps.trans {S : Nat → Prop} {a b c : World} (h : Keeps S a b) (k : Keeps S b c) : Keeps S a c :=
  ⟨Nat.le_trans h.size k.size, fun i hi hl => (k.block i hi (Nat.lt_of_lt_of_le hl h.size)).trans (h.block i hi hl)⟩
theorem Keeps.of_below {S : Nat → Prop} {w w' : World} (h : Below w.heap.size w w') : Keeps S w w' := ⟨h.size, fun b _ hl => h.block b hl⟩
theorem Keeps.of_grown {S : Nat → Prop} {w w' : World} {row : Option Nat} (h : w.grownBy w' row) (hr : ∀ b, S b → some b ≠ row) : Keeps S w w' := ⟨h.size, fun b hs hl => h.block b hl (hr b hs)⟩
theorem Keeps.cell {S : Nat → Prop} {w w' : World} (h : Keeps S w w') {p : Addr} (hs : S p.block) (hl : p.block < w.heap.size) : w'.cell? p = w.cell? p := World.cell?_of_block (h.block _ hs hl)

/- A row of things of sz cells each, at a slice; its block is one of S. -/
structure RowAt (w : World) (S : Nat → Prop) (sz : Nat) (ao : Option Addr) (b off n c : Nat) (css : List (List Value)) : Prop where
  ln : n = css.length
  cap : n ≤ c
  mx : c ≤ maxLen
  adr : 0 < css.length → ao = some ⟨b, off, none⟩
  ok : 0 < css.length → S b
  pl : 0 < css.length → ∃ cs e, w.heap[b]? = some (.cells cs e (0, 0))
  szs : ∀ i (h : i < css.length), css[i].length = sz
  cell : ∀ i (h : i < css.length) j u, css[i][j]? = some u → w.cell? ⟨b, off + i * sz + j, none⟩ = some u
def RowV (w : World) (S : Nat → Prop) (sz : Nat) (v : Value) (css : List (List Value)) : Prop := ∃ ao b off c, v = .slice ao css.length c ∧ RowAt w S sz ao b off css.length c css
theorem RowAt.lt {w : World} {S : Nat → Prop} {sz : Nat} {ao : Option Addr} {b off n c : Nat} {css : List (List Value)} (h : RowAt w S sz ao b off n c css) (hp : 0 < css.length) : b < w.heap.size := by
  obtain ⟨cs, e, hb⟩ := h.pl hp
  exact lt_of_block hb
theorem RowAt.keeps {w w' : World} {S : Nat → Prop} {sz : Nat} {ao : Option Addr} {b off n c : Nat} {css : List (List Value)} (h : RowAt w S sz ao b off n c css) (k : Keeps S w w') : RowAt w' S sz ao b off n c css :=
  ⟨h.ln, h.cap, h.mx, h.adr, h.ok, fun hp => by obtain ⟨cs, e, hb⟩ := h.pl hp; exact ⟨cs, e, (k.block _ (h.ok hp) (lt_of_block hb)).trans hb⟩, h.szs, fun i hi j u hu => (k.cell (p := ⟨b, _, none⟩) (h.ok (by omega)) (h.lt (by omega))).trans (h.cell i hi j u hu)⟩
theorem RowV.keeps {w w' : World} {S : Nat → Prop} {sz : Nat} {v : Value} {css : List (List Value)} (h : RowV w S sz v css) (k : Keeps S w w') : RowV w' S sz v css := by
  obtain ⟨ao, b, off, c, hv, hr⟩ := h
  exact ⟨ao, b, off, c, hv, hr.keeps k⟩
theorem RowV.mono {w : World} {S S' : Nat → Prop} {sz : Nat} {v : Value} {css : List (List Value)} (h : RowV w S sz v css) (k : ∀ b, S b → b < w.heap.size → S' b) : RowV w S' sz v css := by
  obtain ⟨ao, b, off, c, hv, hr⟩ := h
  exact ⟨ao, b, off, c, hv, ⟨hr.ln, hr.cap, hr.mx, hr.adr, fun hp => k _ (hr.ok hp) (hr.lt hp), hr.pl, hr.szs, hr.cell⟩⟩
theorem RowV.det {w : World} {S S' : Nat → Prop} {sz : Nat} {v : Value} {xs ys : List (List Value)} (h : RowV w S sz v xs) (k : RowV w S' sz v ys) : xs = ys := by
  obtain ⟨ao, b, off, c, hv, hr⟩ := h
  obtain ⟨ao', b', off', c', hv', hr'⟩ := k
  rw [hv] at hv'
  simp only [Value.slice.injEq] at hv'
  obtain ⟨h1, h2, h3⟩ := hv'
  refine List.ext_getElem h2 fun i hi hi' => ?_
  have e1 := hr.adr (by omega)
  have e2 := hr'.adr (by omega)
  rw [← h1, e1] at e2
  simp only [Option.some.injEq, Addr.mk.injEq, and_true] at e2
  obtain ⟨e3, e4⟩ := e2
  refine List.ext_getElem ((hr.szs i hi).trans (hr'.szs i hi').symm) fun j hj hj' => ?_
  have c1 := hr.cell i hi j _ (List.getElem?_eq_getElem hj)
  have c2 := hr'.cell i hi' j _ (List.getElem?_eq_getElem hj')
  rw [e3, e4] at c1
  exact Option.some.inj (c1.symm.trans c2)
theorem flat_len {css : List (List Value)} {sz : Nat} (h : ∀ i (h : i < css.length), css[i].length = sz) : css.flatten.length = css.length * sz := by
  induction css with
  | nil => simp
  | cons a r ih =>
    have h0 : a.length = sz := h 0 (by simp)
    have := ih (fun i hi => h (i + 1) (by simpa using hi))
    simp only [List.flatten_cons, List.length_append, List.length_cons, this, h0]
    rw [Nat.succ_mul]; omega
theorem flat_at {css : List (List Value)} {sz : Nat} (h : ∀ i (h : i < css.length), css[i].length = sz) : ∀ i (hi : i < css.length) j, j < sz → css.flatten[i * sz + j]? = css[i][j]? := by
  induction css with
  | nil => intro i hi; simp at hi
  | cons a r ih =>
    intro i hi j hj
    have h0 : a.length = sz := h 0 (by simp)
    match i with
    | 0 =>
      simp only [List.flatten_cons, Nat.zero_mul, Nat.zero_add]
      rw [List.getElem?_append_left (by omega)]; rfl
    | i + 1 =>
      have := ih (fun i hi => h (i + 1) (by simpa using hi)) i (by simpa using hi) j hj
      simp only [List.flatten_cons]
      rw [List.getElem?_append_right (by rw [Nat.succ_mul]; omega)]
      rw [← show (i + 1) * sz + j - a.length = i * sz + j by rw [Nat.succ_mul]; omega] at this
      simpa using this
theorem RowV.of_own {w : World} {B e sz n : Nat} {v : Value} {css : List (List Value)} {S : Nat → Prop} (h : w.ownsRow B e sz v n css.flatten) (hn : n = css.length) (hs : ∀ i (h : i < css.length), css[i].length = sz) (hS : ∀ b, B ≤ b → S b) : RowV w S sz v css := by
  subst hn
  rcases h.2 with ⟨hv, h0⟩ | ⟨g, cap, cur, hv, hg, hh, hc1, hc2, hsz, htk⟩
  · refine ⟨none, 0, 0, 0, by rw [hv, h0], ⟨rfl, by omega, by simp [maxLen], fun hp => by omega, fun hp => by omega, fun hp => by omega, hs, fun i hi => by omega⟩⟩
  · refine ⟨some ⟨g, 0, none⟩, g, 0, cap, hv, ⟨rfl, hc1, hc2, fun _ => rfl, fun _ => hS _ hg, fun _ => ⟨_, _, hh⟩, hs, fun i hi j u hu => ?_⟩⟩
    have hj : j < sz := by
      have := (List.getElem?_eq_some_iff.1 hu).1
      rwa [hs i hi] at this
    have hu2 := (flat_at hs i hi j hj).trans hu
    have hlt : i * sz + j < css.length * sz := by
      have : (i + 1) * sz ≤ css.length * sz := Nat.mul_le_mul_right _ hi
      rw [Nat.succ_mul] at this; omega
    rw [← htk, List.getElem?_take, if_pos hlt] at hu2
    rw [Nat.zero_add]
    simp [World.cell?, hh]
    simpa using hu2
theorem RowV.new {w : World} {sz e n : Nat} {css : List (List Value)} {cs : Array Value} {S : Nat → Prop} (hn : n = css.length) (hm : n ≤ maxLen) (hc : cs = css.flatten.toArray) (hs : ∀ i (h : i < css.length), css[i].length = sz) (hS : S w.heap.size) :
    RowV (w.alloc (.cells cs e)) S sz (.slice (some ⟨w.heap.size, 0, none⟩) n n) css := by
  subst hn hc
  refine ⟨some ⟨w.heap.size, 0, none⟩, w.heap.size, 0, css.length, rfl, ⟨rfl, Nat.le_refl _, hm, fun _ => rfl, fun _ => hS, fun _ => ⟨_, _, heap_alloc_new w _⟩, hs, fun i hi j u hu => ?_⟩⟩
  have hj : j < sz := by
    have := (List.getElem?_eq_some_iff.1 hu).1
    rwa [hs i hi] at this
  have hu2 := (flat_at hs i hi j hj).trans hu
  rw [Nat.zero_add, World.cell?_alloc_at _ _ _ _ rfl]
  simpa using hu2
theorem RowV.none (w : World) (S : Nat → Prop) (sz : Nat) (ao : Option Addr) : RowV w S sz (.slice ao 0 0) [] :=
  ⟨ao, 0, 0, 0, rfl, ⟨rfl, Nat.le_refl _, by simp [maxLen], fun h => by simp at h, fun h => by simp at h, fun h => by simp at h, fun i hi => by simp at hi, fun i hi => by simp at hi⟩⟩

/- Texts; a label. -/
def strCs (l : List ByteArray) : List (List Value) := l.map fun s => [.string s]
structure StrsV (w : World) (S : Nat → Prop) (v : Value) (l : List ByteArray) : Prop where
  row : RowV w S 1 v (strCs l)
  sz : ∀ s ∈ l, s.size ≤ maxLen
def polCs (l : List Po) (vs : List Value) : List (List Value) := List.zipWith (fun p u => [.string p.1, u]) l vs
structure LabV (w : World) (S : Nat → Prop) (v : Value) (l : List Po) : Prop where
  ex : ∃ vs : List Value, vs.length = l.length ∧ RowV w S 2 v (polCs l vs) ∧ ∀ i (h : i < l.length) (h' : i < vs.length), StrsV w S vs[i] l[i].2
  sz : ∀ p ∈ l, p.1.size ≤ maxLen
theorem StrsV.keeps {w w' : World} {S : Nat → Prop} {v : Value} {l : List ByteArray} (h : StrsV w S v l) (k : Keeps S w w') : StrsV w' S v l := ⟨h.row.keeps k, h.sz⟩
theorem LabV.keeps {w w' : World} {S : Nat → Prop} {v : Value} {l : List Po} (h : LabV w S v l) (k : Keeps S w w') : LabV w' S v l := by
  obtain ⟨⟨vs, h1, h2, h3⟩, h4⟩ := h
  exact ⟨⟨vs, h1, h2.keeps k, fun i hi hi' => (h3 i hi hi').keeps k⟩, h4⟩
theorem StrsV.mono {w : World} {S S' : Nat → Prop} {v : Value} {l : List ByteArray} (h : StrsV w S v l) (k : ∀ b, S b → b < w.heap.size → S' b) : StrsV w S' v l := ⟨h.row.mono k, h.sz⟩
theorem LabV.mono {w : World} {S S' : Nat → Prop} {v : Value} {l : List Po} (h : LabV w S v l) (k : ∀ b, S b → b < w.heap.size → S' b) : LabV w S' v l := by
  obtain ⟨⟨vs, h1, h2, h3⟩, h4⟩ := h
  exact ⟨⟨vs, h1, h2.mono k, fun i hi hi' => (h3 i hi hi').mono k⟩, h4⟩
theorem StrsV.det {w : World} {S S' : Nat → Prop} {v : Value} {l m : List ByteArray} (h : StrsV w S v l) (k : StrsV w S' v m) : l = m := by
  have := h.row.det k.row
  unfold strCs at this
  have hi : Function.Injective (fun s : ByteArray => [Value.string s]) := by intro a b h; simpa using h
  exact (List.map_inj_right (fun a b h => hi h)).1 this
theorem polCs_at {l : List Po} {vs : List Value} (h : vs.length = l.length) : (polCs l vs).length = l.length ∧ ∀ i (hi : i < l.length) (h' : i < vs.length) (h'' : i < (polCs l vs).length), (polCs l vs)[i] = [.string l[i].1, vs[i]] := by
  refine ⟨by simp [polCs, h], fun i hi h' h'' => by simp [polCs]⟩
theorem LabV.det {w : World} {S S' : Nat → Prop} {v : Value} {l m : List Po} (h : LabV w S v l) (k : LabV w S' v m) : l = m := by
  obtain ⟨⟨vs, h1, h2, h3⟩, h4⟩ := h
  obtain ⟨⟨us, k1, k2, k3⟩, k4⟩ := k
  have e := h2.det k2
  obtain ⟨a1, a2⟩ := polCs_at h1
  obtain ⟨b1, b2⟩ := polCs_at k1
  have hl : l.length = m.length := by rw [← a1, ← b1, e]
  refine List.ext_getElem hl fun i hi hi' => ?_
  have c1 := a2 i hi (by omega) (by omega)
  have c2 := b2 i hi' (by omega) (by omega)
  have c3 : (polCs l vs)[i]'(by omega) = (polCs m us)[i]'(by omega) := by simp only [e]
  rw [c1, c2] at c3
  simp only [List.cons.injEq, Value.string.injEq, and_true] at c3
  have c4 := h3 i hi (by omega)
  rw [c3.2] at c4
  exact Prod.ext c3.1 (c4.det (k3 i hi' (by omega)))

/- An expression. -/
inductive TrIs (w : World) (S : Nat → Prop) : Tr → List Value → Prop
  | mk {k p n t : Int} {s : ByteArray} {l : List Po} {a : List Tr} {lv av : Value} {css : List (List Value)} (hs : s.size ≤ maxLen) (hl : LabV w S lv l) (hr : RowV w S 7 av css) (hc : css.length = a.length)
      (hk : ∀ i (h : i < a.length) (h' : i < css.length), TrIs w S a[i] css[i]) : TrIs w S (.mk k p n t s l a) [.int .i64 k, .int .i64 p, .int .i64 n, .int .i64 t, .string s, lv, av]
theorem TrIs.len {w : World} {S : Nat → Prop} {t : Tr} {cs : List Value} (h : TrIs w S t cs) : cs.length = 7 := by cases h; rfl
theorem TrIs.keeps {w w' : World} {S : Nat → Prop} {t : Tr} {cs : List Value} (h : TrIs w S t cs) (k : Keeps S w w') : TrIs w' S t cs := by
  induction h with
  | mk hs hl hr hc _ ih => exact .mk hs (hl.keeps k) (hr.keeps k) hc ih
theorem TrIs.mono {w : World} {S S' : Nat → Prop} {t : Tr} {cs : List Value} (h : TrIs w S t cs) (k : ∀ b, S b → b < w.heap.size → S' b) : TrIs w S' t cs := by
  induction h with
  | mk hs hl hr hc _ ih => exact .mk hs (hl.mono k) (hr.mono k) hc ih
theorem TrIs.det {w : World} {S S' : Nat → Prop} {t u : Tr} {cs : List Value} (h : TrIs w S t cs) (g : TrIs w S' u cs) : t = u := by
  induction h generalizing u with
  | mk hs hl hr hc _ ih =>
    cases g with
    | mk gs gl gr gc gk =>
      have e := hl.det gl
      have f := hr.det gr
      subst e f
      have : ∀ (a b : List Tr), a = b → ∀ {k p n t s l}, Tr.mk k p n t s l a = Tr.mk k p n t s l b := fun a b h => by subst h; intros; rfl
      refine this _ _ (List.ext_getElem (hc.symm.trans gc) fun i hi hi' => ?_)
      exact ih i hi (by omega) (gk i hi' (by omega))
/- A list of expressions. -/
structure TrsV (w : World) (S : Nat → Prop) (v : Value) (a : List Tr) : Prop where
  ex : ∃ css : List (List Value), RowV w S 7 v css ∧ css.length = a.length ∧ ∀ i (h : i < a.length) (h' : i < css.length), TrIs w S a[i] css[i]
end Go.Proofs.YtcdeicfegfedfaaGreatDoor

namespace Go.Proofs.YtcdeicfegfedfaaGreatDoor
open Go.RowKit

/- What is asked of a relation between a thing and its cells. -/
structure IsEl {α : Type} (El : World → (Nat → Prop) → α → List Value → Prop) (sz : Nat) : Prop where
  keeps : ∀ {w w' : World} {S : Nat → Prop} {a : α} {cs : List Value}, El w S a cs → Keeps S w w' → El w' S a cs
  mono : ∀ {w : World} {S S' : Nat → Prop} {a : α} {cs : List Value}, El w S a cs → (∀ b, S b → b < w.heap.size → S' b) → El w S' a cs
  len : ∀ {w : World} {S : Nat → Prop} {a : α} {cs : List Value}, El w S a cs → cs.length = sz
  one : ∀ {w : World} {S : Nat → Prop} {a : α} {cs : List Value}, El w S a cs → ∀ u ∈ cs, u.oneCell' = true
def SB (B : Nat) (v : Value) : Nat → Prop := fun b => B ≤ b ∧ some b ≠ v.ownBlock
structure OwnL {α : Type} (El : World → (Nat → Prop) → α → List Value → Prop) (w : World) (B e sz : Nat) (v : Value) (acc : List α) : Prop where
  ex : ∃ css : List (List Value), w.ownsRow B e sz v acc.length css.flatten ∧ css.length = acc.length ∧ ∀ i (h : i < acc.length) (h' : i < css.length), El w (SB B v) acc[i] css[i]
theorem OwnL.nil {α : Type} (El : World → (Nat → Prop) → α → List Value → Prop) (w : World) (B e sz : Nat) : OwnL El w B e sz (.slice none 0 0) [] :=
  ⟨[], World.ownsRow_nil _ _ _ _, rfl, fun i hi => by simp at hi⟩
theorem OwnL.slice {α : Type} {El : World → (Nat → Prop) → α → List Value → Prop} {w : World} {B e sz : Nat} {v : Value} {acc : List α} (h : OwnL El w B e sz v acc) : ∃ ao c, v = .slice ao acc.length c := by
  obtain ⟨css, h1, _⟩ := h.ex
  rcases h1.2 with ⟨hv, h0⟩ | ⟨g, cap, cur, rfl, _⟩
  · exact ⟨none, 0, by rw [hv, h0]⟩
  · exact ⟨_, cap, rfl⟩
theorem OwnL.grown {α : Type} {El : World → (Nat → Prop) → α → List Value → Prop} {w w' : World} {B e sz rb : Nat} {v : Value} {acc : List α} (K : IsEl El sz) (h : OwnL El w B e sz v acc) (hg : w.grownBy w' (some rb)) (hr : rb < B) : OwnL El w' B e sz v acc := by
  obtain ⟨css, h1, h2, h3⟩ := h.ex
  refine ⟨css, h1.kept hg ?_, h2, fun i hi hi' => K.keeps (h3 i hi hi') (Keeps.of_grown hg fun b hb => ?_)⟩
  · cases hv : v.ownBlock with
    | none => exact .inl rfl
    | some k =>
      right
      have := (h1.lt k hv).1
      simp; omega
  · have := hb.1
    simp; omega
theorem OwnL.below {α : Type} {El : World → (Nat → Prop) → α → List Value → Prop} {w w' : World} {B e sz : Nat} {v : Value} {acc : List α} (K : IsEl El sz) (h : OwnL El w B e sz v acc) (hb : Below w.heap.size w w') : OwnL El w' B e sz v acc := by
  obtain ⟨css, h1, h2, h3⟩ := h.ex
  refine ⟨css, h1.kept (row := none) ⟨hb.os, hb.tape, hb.output, hb.size, fun k hk _ => hb.block k hk⟩ ?_, h2, fun i hi hi' => K.keeps (h3 i hi hi') (Keeps.of_below hb)⟩
  cases hv : v.ownBlock
  · exact .inl rfl
  · exact .inr (by simp)
/- The first one. -/
theorem OwnL.one {α : Type} {El : World → (Nat → Prop) → α → List Value → Prop} {w : World} {B e sz : Nat} {a : α} {xs : Array Value} (K : IsEl El sz) (h : El w (fun b => B ≤ b) a xs.toList) (hB : B ≤ w.heap.size) : OwnL El (w.alloc (.cells xs e)) B e sz (.slice (some ⟨w.heap.size, 0, none⟩) 1 1) [a] := by
  have hl := K.len h
  refine ⟨[xs.toList], ⟨by simpa using hl, .inr ⟨w.heap.size, 1, xs, rfl, hB, heap_alloc_new w _, by simp, by simp [maxLen], by simpa using hl, by simp only [Nat.one_mul, List.flatten_cons, List.flatten_nil, List.append_nil, List.length_singleton]; rw [List.take_of_length_le (by omega)]⟩⟩, rfl, fun i hi hi' => ?_⟩
  have hi0 : i = 0 := by simp at hi; omega
  subst hi0
  refine K.keeps (w := w) (K.mono h fun b hb hl => ⟨hb, ?_⟩) (Keeps.of_below ((Below.refl _ _).alloc (Nat.le_refl _) _))
  simp only [Value.ownBlock, ne_eq, Option.some.injEq]
  omega
/- One more. -/
theorem OwnL.add {α : Type} {El : World → (Nat → Prop) → α → List Value → Prop} {w w1 w2 : World} {B e sz : Nat} {v v' : Value} {acc : List α} {a : α} {xs : List Value} {css : List (List Value)} (K : IsEl El sz)
    (hown : ∀ k, v.ownBlock = some k → k < w.heap.size) (hcl : css.length = acc.length) (h3 : ∀ i (h : i < acc.length) (h' : i < css.length), El w1 (SB B v) acc[i] css[i])
    (hx : El w1 (fun b => w.heap.size ≤ b) a xs) (hB : B ≤ w.heap.size)
    (h2 : w2.ownsRow B e sz v' (acc.length + 1) (css.flatten ++ xs)) (hg : w1.grownBy w2 v.ownBlock) (hv : v'.ownBlock = v.ownBlock ∨ v'.ownBlock = some w1.heap.size) : OwnL El w2 B e sz v' (acc ++ [a]) := by
  have key : ∀ {b : α} {cs : List Value}, El w1 (SB B v) b cs → El w2 (SB B v') b cs := fun {b cs} hb => by
    have e1 : El w1 (fun b => SB B v b ∧ some b ≠ v'.ownBlock) b cs := K.mono hb fun k hk hl => ⟨hk, by
      rcases hv with hv | hv
      · rw [hv]; exact hk.2
      · rw [hv]; simp; omega⟩
    exact K.mono (K.keeps e1 (Keeps.of_grown hg fun k hk => hk.1.2)) fun k hk _ => ⟨hk.1.1, hk.2⟩
  refine ⟨css ++ [xs], by simpa using h2, by simp [hcl], fun i hi hi' => ?_⟩
  by_cases hlt : i < acc.length
  · have := key (h3 i hlt (by omega))
    rw [List.getElem_append_left hlt, List.getElem_append_left (by omega)]
    exact this
  · have hi2 : i = acc.length := by simp at hi; omega
    subst hi2
    have e2 : El w1 (SB B v) a xs := K.mono hx fun k hk _ => ⟨by omega, fun hh => by have := hown k hh.symm; omega⟩
    have := key e2
    rw [List.getElem_append_right (Nat.le_refl _), List.getElem_append_right (by omega)]
    simpa [hcl] using this
/- What it is then. -/
theorem OwnL.row {α : Type} {El : World → (Nat → Prop) → α → List Value → Prop} {w : World} {B e sz : Nat} {v : Value} {acc : List α} (K : IsEl El sz) (h : OwnL El w B e sz v acc) :
    ∃ css, RowV w (fun b => B ≤ b) sz v css ∧ css.length = acc.length ∧ ∀ i (h : i < acc.length) (h' : i < css.length), El w (fun b => B ≤ b) acc[i] css[i] := by
  obtain ⟨css, h1, h2, h3⟩ := h.ex
  refine ⟨css, RowV.of_own h1 h2.symm (fun i hi => K.len (h3 i (by omega) hi)) (fun b hb => hb), h2, fun i hi hi' => K.mono (h3 i hi hi') fun b hb _ => hb.1⟩

def lenOf : Value → Nat
  | .slice _ n _ => n
  | _ => 0
theorem OwnL.len {α : Type} {El : World → (Nat → Prop) → α → List Value → Prop} {w : World} {B e sz : Nat} {v : Value} {acc : List α} (h : OwnL El w B e sz v acc) : lenOf v = acc.length := by
  obtain ⟨ao, c, rfl⟩ := h.slice
  rfl
/- Texts, policies, expressions. -/
def ElS (_ : World) (_ : Nat → Prop) (a : ByteArray) (cs : List Value) : Prop := cs = [.string a] ∧ a.size ≤ maxLen
def ElP (w : World) (S : Nat → Prop) (a : Par.Po) (cs : List Value) : Prop := ∃ u, cs = [.string a.1, u] ∧ a.1.size ≤ maxLen ∧ StrsV w S u a.2
def ElT (w : World) (S : Nat → Prop) (a : Par.Tr) (cs : List Value) : Prop := TrIs w S a cs
theorem isElS : IsEl ElS 1 := ⟨fun h _ => h, fun h _ => h, fun h => by rw [h.1]; rfl, fun h u hu => by rw [h.1, List.mem_singleton] at hu; subst hu; rfl⟩
theorem RowV.val {w : World} {S : Nat → Prop} {sz : Nat} {v : Value} {css : List (List Value)} (h : RowV w S sz v css) : ∃ ao c, v = .slice ao css.length c := by
  obtain ⟨ao, b, off, c, hv, _⟩ := h
  exact ⟨ao, c, hv⟩
theorem isElP : IsEl ElP 2 := by
  refine ⟨fun h k => ?_, fun h k => ?_, fun h => ?_, fun h u hu => ?_⟩
  · obtain ⟨u, h1, h2, h3⟩ := h; exact ⟨u, h1, h2, h3.keeps k⟩
  · obtain ⟨u, h1, h2, h3⟩ := h; exact ⟨u, h1, h2, h3.mono k⟩
  · obtain ⟨u, h1, h2, h3⟩ := h; rw [h1]; rfl
  · obtain ⟨v, h1, h2, h3⟩ := h
    obtain ⟨ao, c, hv⟩ := h3.row.val
    rw [h1] at hu
    simp only [List.mem_cons, List.not_mem_nil, or_false] at hu
    rcases hu with rfl | rfl
    · rfl
    · rw [hv]; rfl
theorem LabV.val {w : World} {S : Nat → Prop} {v : Value} {l : List Par.Po} (h : LabV w S v l) : ∃ ao c, v = .slice ao l.length c := by
  obtain ⟨vs, h1, h2, h3⟩ := h.ex
  obtain ⟨ao, c, hv⟩ := h2.val
  refine ⟨ao, c, ?_⟩
  rw [hv, (polCs_at h1).1]
theorem isElT : IsEl ElT 7 := by
  refine ⟨fun h k => TrIs.keeps h k, fun h k => TrIs.mono h k, fun h => TrIs.len h, fun h u hu => ?_⟩
  cases h with
  | mk hs hl hr hc hk =>
    obtain ⟨ao, c, hv⟩ := hl.val
    obtain ⟨ao', c', hv'⟩ := hr.val
    subst hv hv'
    simp only [List.mem_cons, List.not_mem_nil, or_false] at hu
    rcases hu with rfl | rfl | rfl | rfl | rfl | rfl | rfl <;> rfl
/- A list of texts, a label, the parts of an expression. -/
theorem OwnL.strs {w : World} {B e : Nat} {v : Value} {l : List ByteArray} (h : OwnL ElS w B e 1 v l) : StrsV w (fun b => B ≤ b) v l := by
  obtain ⟨css, h1, h2, h3⟩ := h.row isElS
  have e0 : css = strCs l := by
    refine List.ext_getElem (by simp [strCs, h2]) fun i hi hi' => ?_
    rw [(h3 i (by omega) hi).1]; simp [strCs]
  refine ⟨by rw [← e0]; exact h1, fun s hs => ?_⟩
  obtain ⟨i, hi, rfl⟩ := List.mem_iff_getElem.1 hs
  exact (h3 i hi (by omega)).2
theorem OwnL.label {w : World} {B e : Nat} {v : Value} {l : List Par.Po} (h : OwnL ElP w B e 2 v l) : LabV w (fun b => B ≤ b) v l := by
  obtain ⟨css, h1, h2, h3⟩ := h.row isElP
  have hv : ∀ i (hi : i < l.length), ∃ u, css[i]'(by omega) = [.string l[i].1, u] ∧ l[i].1.size ≤ maxLen ∧ StrsV w (fun b => B ≤ b) u l[i].2 := fun i hi => h3 i hi (by omega)
  let f : Nat → Value := fun i => if hi : i < l.length then (hv i hi).choose else .bool false
  have hf : ∀ i (hi : i < l.length), css[i]'(by omega) = [.string l[i].1, f i] ∧ l[i].1.size ≤ maxLen ∧ StrsV w (fun b => B ≤ b) (f i) l[i].2 := fun i hi => by
    have := (hv i hi).choose_spec
    simp only [f, hi, dif_pos]
    exact this
  refine ⟨⟨(List.range l.length).map f, by simp, ?_, fun i hi hi' => ?_⟩, fun p hp => ?_⟩
  · have e0 : css = polCs l ((List.range l.length).map f) := by
      refine List.ext_getElem (by simp [polCs, h2]) fun i hi hi' => ?_
      rw [(hf i (by omega)).1]; simp [polCs]
    rw [← e0]; exact h1
  · simpa using (hf i hi).2.2
  · obtain ⟨i, hi, rfl⟩ := List.mem_iff_getElem.1 hp
    exact (hf i hi).2.1
theorem OwnL.trees {w : World} {B e : Nat} {v : Value} {l : List Par.Tr} (h : OwnL ElT w B e 7 v l) : TrsV w (fun b => B ≤ b) v l := by
  obtain ⟨css, h1, h2, h3⟩ := h.row isElT
  exact ⟨⟨css, h1, h2, h3⟩⟩
end Go.Proofs.YtcdeicfegfedfaaGreatDoor
