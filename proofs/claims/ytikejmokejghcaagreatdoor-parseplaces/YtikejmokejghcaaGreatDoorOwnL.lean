/- Lists that a call gathers: a row of its own, and what its things lead to, apart from it. -/
import Derived.Test.YtikejmokejghcaaGreatDoorMem
import Derived.Test.YtikejmokejghcaaGreatDoorGrow
namespace Go.Proofs.YtikejmokejghcaaGreatDoor
open Go.RowKit

/- What is asked of a relation between a thing and its cells. -/
structure IsEl {α : Type} (El : World → (Nat → Prop) → α → List Value → Prop) (sz : Nat) : Prop where
  keeps : ∀ {w w' : World} {S : Nat → Prop} {a : α} {cs : List Value}, El w S a cs → Keeps S w w' → El w' S a cs
  mono : ∀ {w : World} {S S' : Nat → Prop} {a : α} {cs : List Value}, El w S a cs → (∀ b, S b → b < w.heap.size → S' b) → El w S' a cs
  len : ∀ {w : World} {S : Nat → Prop} {a : α} {cs : List Value}, El w S a cs → cs.length = sz
  one : ∀ {w : World} {S : Nat → Prop} {a : α} {cs : List Value}, El w S a cs → ∀ u ∈ cs, u.oneCell' = true
def SB (B : Nat) (v : Value) : Nat → Prop := fun b => B ≤ b ∧ some b ≠ v.ownBlock
structure OwnL {α : Type} (El : World → (Nat → Prop) → α → List Value → Prop) (w : World) (B e sz : Nat) (v : Value) (acc : List α) : Prop where
  ex : ∃ css : List (List Value), w.ownsRow B e sz v acc.length css.flatten ∧ css.length = acc.length ∧ ∀ i (h : i < acc.length) (h' : i < css.length), El w (SB B v) acc[i] css[i]
theorem OwnL.nil {α : Type} (El : World → (Nat → Prop) → α → List Value → Prop) (w : World) (B e sz : Nat) : OwnL El w B e sz (.slice none 0 0) [] :=
  ⟨[], World.ownsRow_nil _ _ _ _, rfl, fun i hi => by simp at hi⟩
theorem OwnL.slice {α : Type} {El : World → (Nat → Prop) → α → List Value → Prop} {w : World} {B e sz : Nat} {v : Value} {acc : List α} (h : OwnL El w B e sz v acc) : ∃ ao c, v = .slice ao acc.length c := by
  obtain ⟨css, h1, _⟩ := h.ex
  rcases h1.2 with ⟨hv, h0⟩ | ⟨g, cap, cur, rfl, _⟩
  · exact ⟨none, 0, by rw [hv, h0]⟩
  · exact ⟨_, cap, rfl⟩
theorem OwnL.grown {α : Type} {El : World → (Nat → Prop) → α → List Value → Prop} {w w' : World} {B e sz rb : Nat} {v : Value} {acc : List α} (K : IsEl El sz) (h : OwnL El w B e sz v acc) (hg : w.grownBy w' (some rb)) (hr : rb < B) : OwnL El w' B e sz v acc := by
  obtain ⟨css, h1, h2, h3⟩ := h.ex
  refine ⟨css, h1.kept hg ?_, h2, fun i hi hi' => K.keeps (h3 i hi hi') (Keeps.of_grown hg fun b hb => ?_)⟩
  · cases hv : v.ownBlock with
    | none => exact .inl rfl
    | some k =>
      right
      have := (h1.lt k hv).1
      simp; omega
  · have := hb.1
    simp; omega
theorem OwnL.below {α : Type} {El : World → (Nat → Prop) → α → List Value → Prop} {w w' : World} {B e sz : Nat} {v : Value} {acc : List α} (K : IsEl El sz) (h : OwnL El w B e sz v acc) (hb : Below w.heap.size w w') : OwnL El w' B e sz v acc := by
  obtain ⟨css, h1, h2, h3⟩ := h.ex
  refine ⟨css, h1.kept (row := none) ⟨hb.os, hb.tape, hb.output, hb.size, fun k hk _ => hb.block k hk⟩ ?_, h2, fun i hi hi' => K.keeps (h3 i hi hi') (Keeps.of_below hb)⟩
  cases hv : v.ownBlock
  · exact .inl rfl
  · exact .inr (by simp)
/- The first one. -/
theorem OwnL.one {α : Type} {El : World → (Nat → Prop) → α → List Value → Prop} {w : World} {B e sz : Nat} {a : α} {xs : Array Value} (K : IsEl El sz) (h : El w (fun b => B ≤ b) a xs.toList) (hB : B ≤ w.heap.size) : OwnL El (w.alloc (.cells xs e)) B e sz (.slice (some ⟨w.heap.size, 0, none⟩) 1 1) [a] := by
  have hl := K.len h
  refine ⟨[xs.toList], ⟨by simpa using hl, .inr ⟨w.heap.size, 1, xs, rfl, hB, heap_alloc_new w _, by simp, by simp [maxLen], by simpa using hl, by simp only [Nat.one_mul, List.flatten_cons, List.flatten_nil, List.append_nil, List.length_singleton]; rw [List.take_of_length_le (by omega)]⟩⟩, rfl, fun i hi hi' => ?_⟩
  have hi0 : i = 0 := by simp at hi; omega
  subst hi0
  refine K.keeps (w := w) (K.mono h fun b hb hl => ⟨hb, ?_⟩) (Keeps.of_below ((Below.refl _ _).alloc (Nat.le_refl _) _))
  simp only [Value.ownBlock, ne_eq, Option.some.injEq]
  omega
/- One more. -/
theorem OwnL.add {α : Type} {El : World → (Nat → Prop) → α → List Value → Prop} {w w1 w2 : World} {B e sz : Nat} {v v' : Value} {acc : List α} {a : α} {xs : List Value} {css : List (List Value)} (K : IsEl El sz)
    (hown : ∀ k, v.ownBlock = some k → k < w.heap.size) (hcl : css.length = acc.length) (h3 : ∀ i (h : i < acc.length) (h' : i < css.length), El w1 (SB B v) acc[i] css[i])
    (hx : El w1 (fun b => w.heap.size ≤ b) a xs) (hB : B ≤ w.heap.size)
    (h2 : w2.ownsRow B e sz v' (acc.length + 1) (css.flatten ++ xs)) (hg : w1.grownBy w2 v.ownBlock) (hv : v'.ownBlock = v.ownBlock ∨ v'.ownBlock = some w1.heap.size) : OwnL El w2 B e sz v' (acc ++ [a]) := by
  have key : ∀ {b : α} {cs : List Value}, El w1 (SB B v) b cs → El w2 (SB B v') b cs := fun {b cs} hb => by
    have e1 : El w1 (fun b => SB B v b ∧ some b ≠ v'.ownBlock) b cs := K.mono hb fun k hk hl => ⟨hk, by
      rcases hv with hv | hv
      · rw [hv]; exact hk.2
      · rw [hv]; simp; omega⟩
    exact K.mono (K.keeps e1 (Keeps.of_grown hg fun k hk => hk.1.2)) fun k hk _ => ⟨hk.1.1, hk.2⟩
  refine ⟨css ++ [xs], by simpa using h2, by simp [hcl], fun i hi hi' => ?_⟩
  by_cases hlt : i < acc.length
  · have := key (h3 i hlt (by omega))
    rw [List.getElem_append_left hlt, List.getElem_append_left (by omega)]
    exact this
  · have hi2 : i = acc.length := by simp at hi; omega
    subst hi2
    have e2 : El w1 (SB B v) a xs := K.mono hx fun k hk _ => ⟨by omega, fun hh => by have := hown k hh.symm; omega⟩
    have := key e2
    rw [List.getElem_append_right (Nat.le_refl _), List.getElem_append_right (by omega)]
    simpa [hcl] using this
/- What it is then. -/
theorem OwnL.row {α : Type} {El : World → (Nat → Prop) → α → List Value → Prop} {w : World} {B e sz : Nat} {v : Value} {acc : List α} (K : IsEl El sz) (h : OwnL El w B e sz v acc) :
    ∃ css, RowV w (fun b => B ≤ b) sz v css ∧ css.length = acc.length ∧ ∀ i (h : i < acc.length) (h' : i < css.length), El w (fun b => B ≤ b) acc[i] css[i] := by
  obtain ⟨css, h1, h2, h3⟩ := h.ex
  refine ⟨css, RowV.of_own h1 h2.symm (fun i hi => K.len (h3 i (by omega) hi)) (fun b hb => hb), h2, fun i hi hi' => K.mono (h3 i hi hi') fun b hb _ => hb.1⟩

def lenOf : Value → Nat
  | .slice _ n _ => n
  | _ => 0
theorem OwnL.len {α : Type} {El : World → (Nat → Prop) → α → List Value → Prop} {w : World} {B e sz : Nat} {v : Value} {acc : List α} (h : OwnL El w B e sz v acc) : lenOf v = acc.length := by
  obtain ⟨ao, c, rfl⟩ := h.slice
  rfl
/- Texts, policies, expressions. -/
def ElS (_ : World) (_ : Nat → Prop) (a : ByteArray) (cs : List Value) : Prop := cs = [.string a] ∧ a.size ≤ maxLen
def ElP (w : World) (S : Nat → Prop) (a : Par.Po) (cs : List Value) : Prop := ∃ u, cs = [.string a.1, u] ∧ a.1.size ≤ maxLen ∧ StrsV w S u a.2
def ElT (w : World) (S : Nat → Prop) (a : Par.Tr) (cs : List Value) : Prop := TrIs w S a cs
theorem isElS : IsEl ElS 1 := ⟨fun h _ => h, fun h _ => h, fun h => by rw [h.1]; rfl, fun h u hu => by rw [h.1, List.mem_singleton] at hu; subst hu; rfl⟩
theorem RowV.val {w : World} {S : Nat → Prop} {sz : Nat} {v : Value} {css : List (List Value)} (h : RowV w S sz v css) : ∃ ao c, v = .slice ao css.length c := by
  obtain ⟨ao, b, off, c, hv, _⟩ := h
  exact ⟨ao, c, hv⟩
theorem isElP : IsEl ElP 2 := by
  refine ⟨fun h k => ?_, fun h k => ?_, fun h => ?_, fun h u hu => ?_⟩
  · obtain ⟨u, h1, h2, h3⟩ := h; exact ⟨u, h1, h2, h3.keeps k⟩
  · obtain ⟨u, h1, h2, h3⟩ := h; exact ⟨u, h1, h2, h3.mono k⟩
  · obtain ⟨u, h1, h2, h3⟩ := h; rw [h1]; rfl
  · obtain ⟨v, h1, h2, h3⟩ := h
    obtain ⟨ao, c, hv⟩ := h3.row.val
    rw [h1] at hu
    simp only [List.mem_cons, List.not_mem_nil, or_false] at hu
    rcases hu with rfl | rfl
    · rfl
    · rw [hv]; rfl
theorem LabV.val {w : World} {S : Nat → Prop} {v : Value} {l : List Par.Po} (h : LabV w S v l) : ∃ ao c, v = .slice ao l.length c := by
  obtain ⟨vs, h1, h2, h3⟩ := h.ex
  obtain ⟨ao, c, hv⟩ := h2.val
  refine ⟨ao, c, ?_⟩
  rw [hv, (polCs_at h1).1]
theorem isElT : IsEl ElT 7 := by
  refine ⟨fun h k => TrIs.keeps h k, fun h k => TrIs.mono h k, fun h => TrIs.len h, fun h u hu => ?_⟩
  cases h with
  | mk hs hl hr hc hk =>
    obtain ⟨ao, c, hv⟩ := hl.val
    obtain ⟨ao', c', hv'⟩ := hr.val
    subst hv hv'
    simp only [List.mem_cons, List.not_mem_nil, or_false] at hu
    rcases hu with rfl | rfl | rfl | rfl | rfl | rfl | rfl <;> rfl
/- A list of texts, a label, the parts of an expression. -/
theorem OwnL.strs {w : World} {B e : Nat} {v : Value} {l : List ByteArray} (h : OwnL ElS w B e 1 v l) : StrsV w (fun b => B ≤ b) v l := by
  obtain ⟨css, h1, h2, h3⟩ := h.row isElS
  have e0 : css = strCs l := by
    refine List.ext_getElem (by simp [strCs, h2]) fun i hi hi' => ?_
    rw [(h3 i (by omega) hi).1]; simp [strCs]
  refine ⟨by rw [← e0]; exact h1, fun s hs => ?_⟩
  obtain ⟨i, hi, rfl⟩ := List.mem_iff_getElem.1 hs
  exact (h3 i hi (by omega)).2
theorem OwnL.label {w : World} {B e : Nat} {v : Value} {l : List Par.Po} (h : OwnL ElP w B e 2 v l) : LabV w (fun b => B ≤ b) v l := by
  obtain ⟨css, h1, h2, h3⟩ := h.row isElP
  have hv : ∀ i (hi : i < l.length), ∃ u, css[i]'(by omega) = [.string l[i].1, u] ∧ l[i].1.size ≤ maxLen ∧ StrsV w (fun b => B ≤ b) u l[i].2 := fun i hi => h3 i hi (by omega)
  let f : Nat → Value := fun i => if hi : i < l.length then (hv i hi).choose else .bool false
  have hf : ∀ i (hi : i < l.length), css[i]'(by omega) = [.string l[i].1, f i] ∧ l[i].1.size ≤ maxLen ∧ StrsV w (fun b => B ≤ b) (f i) l[i].2 := fun i hi => by
    have := (hv i hi).choose_spec
    simp only [f, hi, dif_pos]
    exact this
  refine ⟨⟨(List.range l.length).map f, by simp, ?_, fun i hi hi' => ?_⟩, fun p hp => ?_⟩
  · have e0 : css = polCs l ((List.range l.length).map f) := by
      refine List.ext_getElem (by simp [polCs, h2]) fun i hi hi' => ?_
      rw [(hf i (by omega)).1]; simp [polCs]
    rw [← e0]; exact h1
  · simpa using (hf i hi).2.2
  · obtain ⟨i, hi, rfl⟩ := List.mem_iff_getElem.1 hp
    exact (hf i hi).2.1
theorem OwnL.trees {w : World} {B e : Nat} {v : Value} {l : List Par.Tr} (h : OwnL ElT w B e 7 v l) : TrsV w (fun b => B ≤ b) v l := by
  obtain ⟨css, h1, h2, h3⟩ := h.row isElT
  exact ⟨⟨css, h1, h2, h3⟩⟩
end Go.Proofs.YtikejmokejghcaaGreatDoor
