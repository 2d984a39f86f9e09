/- The document's key of a policy: which policy it is of. sort.Strings at a row of a call's own. Maps from strings to whatever values: what they hold, as a function. What the document's NormalOf holds while it goes over a label, and over one policy's readers. -/
import Derived.Test.YtpbknhhjfhpkmaaGreatDoorGaNorm
import Derived.Lib.Join
import Derived.Test.YtpbknhhjfhpkmaaGreatDoorChecked
import Derived.Test.YtpbknhhjfhpkmaaGreatDoorGrow
import Derived.Maps.Own
import Derived.Maps.OwnOps
import Derived.Maps.OwnSet
import Derived.Maps.Views
import Derived.StringKeys
import Derived.WalkKit
import Derived.ProofKit
import Derived.Test.YtpbknhhjfhpkmaaGreatDoorGaShelf
import Derived.Test.YtpbknhhjfhpkmaaGreatDoorGaFn
import Derived.Lib.OthersKept
namespace Go.Proofs.YtpbknhhjfhpkmaaGreatDoor
open Go.RowKit

def Zf (l : List UInt8) : Prop := ∀ b ∈ l, b ≠ 0
def Ends (t : List UInt8) : Prop := t = [] ∨ ∃ s, t = 0 :: s
theorem Zf.cons {a : UInt8} {l : List UInt8} (h : Zf (a :: l)) : a ≠ 0 ∧ Zf l := ⟨h a (by simp), fun b hb => h b (by simp [hb])⟩
theorem split_at : ∀ {x x' t t' : List UInt8}, Zf x → Zf x' → Ends t → Ends t' → x ++ t = x' ++ t' → x = x' ∧ t = t'
  | [], [], t, t', _, _, _, _, h => ⟨rfl, h⟩
  | [], b :: x', t, t', _, h2, h3, _, h => by
    rcases h3 with e | ⟨s, e⟩
    · subst e; cases h
    · subst e
      injection h with h1 _
      exact absurd h1.symm h2.cons.1
  | a :: x, [], t, t', h1, _, _, h4, h => by
    rcases h4 with e | ⟨s, e⟩
    · subst e; cases h
    · subst e
      injection h with h2 _
      exact absurd h2 h1.cons.1
  | a :: x, b :: x', t, t', h1, h2, h3, h4, h => by
    injection h with e1 e2
    obtain ⟨k1, k2⟩ := split_at h1.cons.2 h2.cons.2 h3 h4 e2
    exact ⟨by rw [e1, k1], k2⟩
theorem tail_ends (r : List (List UInt8)) : Ends (Lib.joinTail [0] r) := by
  cases r with
  | nil => exact .inl rfl
  | cons a r => exact .inr ⟨a ++ Lib.joinTail [0] r, by simp [Lib.joinTail]⟩
theorem tail_inj : ∀ {r r' : List (List UInt8)}, (∀ x ∈ r, Zf x) → (∀ x ∈ r', Zf x) → Lib.joinTail [0] r = Lib.joinTail [0] r' → r = r'
  | [], [], _, _, _ => rfl
  | [], b :: r', _, _, h => by simp [Lib.joinTail] at h
  | a :: r, [], _, _, h => by simp [Lib.joinTail] at h
  | a :: r, b :: r', h1, h2, h => by
    have e : a ++ Lib.joinTail [0] r = b ++ Lib.joinTail [0] r' := by simpa [Lib.joinTail] using h
    obtain ⟨k1, k2⟩ := split_at (h1 a (by simp)) (h2 b (by simp)) (tail_ends r) (tail_ends r') e
    rw [k1, tail_inj (fun x hx => h1 x (by simp [hx])) (fun x hx => h2 x (by simp [hx])) k2]
theorem join_inj {r r' : List (List UInt8)} (h1 : ∀ x ∈ r, Zf x ∧ x ≠ []) (h2 : ∀ x ∈ r', Zf x ∧ x ≠ []) (h : Lib.join r [0] = Lib.join r' [0]) : r = r' := by
  cases r with
  | nil =>
    cases r' with
    | nil => rfl
    | cons b r' =>
      rw [Lib.join_nil, Lib.join_cons] at h
      have := (List.append_eq_nil_iff.1 h.symm).1
      exact absurd this (h2 b (by simp)).2
  | cons a r =>
    cases r' with
    | nil =>
      rw [Lib.join_nil, Lib.join_cons] at h
      have := (List.append_eq_nil_iff.1 h).1
      exact absurd this (h1 a (by simp)).2
    | cons b r' =>
      rw [Lib.join_cons, Lib.join_cons] at h
      obtain ⟨k1, k2⟩ := split_at (h1 a (by simp)).1 (h2 b (by simp)).1 (tail_ends r) (tail_ends r') h
      rw [k1, tail_inj (fun x hx => (h1 x (by simp [hx])).1) (fun x hx => (h2 x (by simp [hx])).1) k2]
theorem name_zf {s : ByteArray} (h : Lex.nameF s.data.toList = true) : Zf s.data.toList ∧ s.data.toList ≠ [] := by
  unfold Lex.nameF at h
  simp only [Bool.and_eq_true, Bool.not_eq_true', decide_eq_true_eq] at h
  obtain ⟨⟨⟨⟨h1, _⟩, _⟩, h4⟩, _⟩ := h
  refine ⟨?_, fun e => by rw [e] at h1; cases h1⟩
  have key : ∀ l : List UInt8, Lex.runLen Lex.nameB l = l.length → Zf l := by
    intro l
    induction l with
    | nil => intro _ b hb; cases hb
    | cons a l ih =>
      intro hl b hb
      unfold Lex.runLen at hl
      by_cases ha : Lex.nameB (a.toNat : Int) = true
      · rw [if_pos ha] at hl
        rcases List.mem_cons.1 hb with e | e
        · intro e0
          rw [← e, e0] at ha
          cases ha
        · exact ih (by simp at hl; omega) b e
      · rw [if_neg ha] at hl
        simp at hl
  exact key _ h4
def keyF (p : Pol) : ByteArray := p.1 ++ ⟨#[0]⟩ ++ ⟨(Lib.join (p.2.map (·.data.toList)) [0]).toArray⟩
theorem keyF_data (p : Pol) : (keyF p).data.toList = p.1.data.toList ++ (0 :: Lib.join (p.2.map (·.data.toList)) [0]) := by
  unfold keyF
  rw [ByteArray.data_append, ByteArray.data_append, Array.toList_append, Array.toList_append]
  simp
/- A policy of names. -/
def NamedP (p : Pol) : Prop := Lex.nameF p.1.data.toList = true ∧ ∀ r ∈ p.2, Lex.nameF r.data.toList = true
theorem keyF_inj {p q : Pol} (hp : NamedP p) (hq : NamedP q) (h : keyF p = keyF q) : p = q := by
  have e : (keyF p).data.toList = (keyF q).data.toList := by rw [h]
  rw [keyF_data, keyF_data] at e
  obtain ⟨k1, k2⟩ := split_at (name_zf hp.1).1 (name_zf hq.1).1 (.inr ⟨_, rfl⟩) (.inr ⟨_, rfl⟩) e
  injection k2 with _ k2
  have k3 := join_inj (r := p.2.map (·.data.toList)) (r' := q.2.map (·.data.toList)) (fun x hx => by obtain ⟨s, hs, rfl⟩ := List.mem_map.1 hx; exact name_zf (hp.2 s hs)) (fun x hx => by obtain ⟨s, hs, rfl⟩ := List.mem_map.1 hx; exact name_zf (hq.2 s hs)) k2
  exact Prod.ext (data_inj k1) (map_inj k3)
theorem joinTail_len : ∀ (r : List (List UInt8)) (m : Nat), (∀ x ∈ r, x.length ≤ m) → (Lib.joinTail [0] r).length ≤ r.length * (m + 1)
  | [], _, _ => by simp [Lib.joinTail]
  | a :: r, m, h => by
    have e : Lib.joinTail [0] (a :: r) = 0 :: (a ++ Lib.joinTail [0] r) := by simp [Lib.joinTail]
    rw [e]
    have h1 := h a (by simp)
    have h2 := joinTail_len r m fun x hx => h x (by simp [hx])
    simp only [List.length_cons, List.length_append, Nat.succ_mul]
    omega
theorem join_len0 (r : List (List UInt8)) (m : Nat) (h : ∀ x ∈ r, x.length ≤ m) : (Lib.join r [0]).length ≤ r.length * (m + 1) := by
  cases r with
  | nil => simp [Lib.join_nil]
  | cons a r =>
    rw [Lib.join_cons, List.length_append, List.length_cons, Nat.succ_mul]
    have h1 := h a (by simp)
    have h2 := joinTail_len r m fun x hx => h x (by simp [hx])
    omega
theorem named_len {p : Pol} (hp : NamedP p) (h6 : p.2.length ≤ 6) : (Lib.join (p.2.map (·.data.toList)) [0]).length ≤ 100 := by
  have h := join_len0 (p.2.map (·.data.toList)) 12 (fun x hx => by
    obtain ⟨s, hs, rfl⟩ := List.mem_map.1 hx
    have := name_short (hp.2 s hs)
    rw [← Lex.len_of] at this
    exact this)
  rw [List.length_map] at h
  omega
theorem keyF_size {p : Pol} (hp : NamedP p) (h6 : p.2.length ≤ 6) : (keyF p).size ≤ 1000 := by
  rw [← Lex.len_of, keyF_data, List.length_append, List.length_cons]
  have h1 := named_len hp h6
  have h2 := name_short hp.1
  rw [← Lex.len_of] at h2
  omega
theorem named_of {ls : List ByteArray} (hn : ∀ s ∈ ls, Lex.nameF s.data.toList = true) {p : Pol} (h : Lab.Of ls p) : NamedP p := ⟨hn _ h.1, fun r hr => hn _ (h.2 r hr)⟩
theorem of_plain {ls : List ByteArray} {p : Pol} (h : Lab.Of ls p) : Lab.Of ls (plainF p) := ⟨h.1, fun r hr => h.2 r (((plainF_clean p).mem r).1 hr).1⟩
end Go.Proofs.YtpbknhhjfhpkmaaGreatDoor

namespace Go.Proofs.YtpbknhhjfhpkmaaGreatDoor
open Go.RowKit Go.Sort

/- The row holds what it held, rising. -/
def SortPost (base : Nat) (ao : Option Addr) (n cap : Nat) (l : List ByteArray) (w w' : World) : Prop := ∃ l' : List ByteArray, l'.Perm l ∧ l'.Pairwise (fun a b => a.data.toList ≤ b.data.toList) ∧ w'.ownsRow base 9 1 (.slice ao n cap) n (strC l') ∧ w.grownBy w' (Value.slice ao n cap).ownBlock
set_option maxRecDepth 100000 in
theorem sortStr (base : Nat) (ao : Option Addr) (n cap : Nat) (l : List ByteArray) (w : World) (hn : n = l.length) (h6 : n ≤ 1000) (hown : w.ownsRow base 9 1 (.slice ao n cap) n (strC l)) :
    Calls Tryz.prog 33 #[.slice ao n cap] w fun e w' => e = .returned (.tuple #[]) ∧ SortPost base ao n cap l w w' := by
  have key : Calls Tryz.prog 66 #[.slice ao n cap] w fun e w' => e = .returned (.tuple #[]) ∧ SortPost base ao n cap l w w' := by
    by_cases hl0 : l = []
    · subst hl0
      have e0 : n = 0 := by simpa using hn
      subst e0
      refine (Tryz.slices_Sort_string_none _ _ _).mono ?_
      rintro e w1 ⟨rfl, rfl⟩
      exact ⟨rfl, [], List.Perm.refl _, List.Pairwise.nil, hown, grown_refl _ _⟩
    · rcases hown.2 with ⟨_, h2⟩ | ⟨g, c, cur, hv, hg, hh, hc1, hc2, hsz, htk⟩
      · exact absurd (List.length_eq_zero_iff.1 (by omega)) hl0
      · injection hv with hv1 hv2 hv3
        subst hv1 hv3
        subst hn
        obtain ⟨zs, hzs⟩ : ∃ zs, zs = l.map (·.data.toList) := ⟨_, rfl⟩
        have hzl : zs.length = l.length := by rw [hzs, List.length_map]
        obtain ⟨ts, hts⟩ : ∃ ts, ts = zs.mergeSort fun x y => decide (x ≤ y) := ⟨_, rfl⟩
        have htl : ts.length = l.length := by rw [hts, List.length_mergeSort, hzl]
        have hsrt := Tryz.slices_Sort_string g 0 cap zs w (holds_of_block hh (by rw [hzl, hzs, ← strC_enc, ← htk, Nat.mul_one])) (lt_of_block hh) (by omega)
        rw [← hts, hzl] at hsrt
        refine hsrt.mono ?_
        rintro e w2 ⟨rfl, nq, os, hw2⟩
        have hgr : w.grownBy w2 (some g) := by rw [hw2]; exact grownBy_sorted _
        have hg2 : w2.heap[g]? = some (.cells (putCells encStr 0 ts.toArray cur) 9 (0, 0)) := by rw [hw2]; exact heap_sorted _ hh
        have htp : (putCells encStr 0 ts.toArray cur).toList.take ts.length = ts.map encStr := take_putCells cur ts (by omega)
        have hpz : ts.Perm zs := by rw [hts]; exact List.mergeSort_perm _ _
        have hps : ts.Pairwise (· ≤ ·) := by
          have := List.pairwise_mergeSort (le := fun x y : List UInt8 => decide (x ≤ y)) (fun a b c h g => by simp only [decide_eq_true_eq] at h g ⊢; exact List.le_trans h g) (fun a b => by simp only [Bool.or_eq_true, decide_eq_true_eq]; exact List.le_total a b) zs
          rw [hts]
          exact this.imp fun h => by simpa using h
        have hlen : (strC (ts.map bytesOf)).length = l.length * 1 := by simp [strC, htl]
        have hps1 : (putCells encStr 0 ts.toArray cur).size = cap * 1 := by simp [putCells, hsz]
        have hown2 : w2.ownsRow base 9 1 (.slice (some ⟨g, 0, none⟩) l.length cap) l.length (strC (ts.map bytesOf)) := by
          refine ⟨hlen, .inr ⟨g, cap, putCells encStr 0 ts.toArray cur, rfl, hg, hg2, hc1, hc2, hps1, ?_⟩⟩
          have e1 : l.length * 1 = ts.length := by omega
          rw [e1, htp, enc_strC]
        refine ⟨rfl, ts.map bytesOf, ?_, ?_, hown2, hgr⟩
        · have e : l = zs.map bytesOf := by
            rw [hzs, List.map_map]
            conv => lhs; rw [← List.map_id l]
            exact List.map_congr_left fun s _ => (data_bytesOf s).symm
          rw [e]
          exact hpz.map _
        · refine List.Pairwise.map _ (fun a b hab => ?_) hps
          rw [bytesOf_data, bytesOf_data]; exact hab
  clear hown hn h6
  go_enter Tryz.func33, Tryz.ntmps33
  go_wp2_with fail
  refine key.mono ?_
  rintro e w1 ⟨rfl, h⟩
  have HF : Hid (SortPost base ao n cap l w w1) := h
  clear h key
  go_wp2
  go_end0
  exact ⟨rfl, HF.out⟩
end Go.Proofs.YtpbknhhjfhpkmaaGreatDoor

namespace Go.Proofs.YtpbknhhjfhpkmaaGreatDoor
open Go.RowKit Go.Maps

def valE (v : Value) : Option (DataW Value × List MemPlace) := some (.held v, [])
theorem lawS : Keyed Tryz.prog 9 := string_keyed Tryz.underlying9
theorem valE_inj {u v : Value} {ps : List MemPlace} (h : valE u = some (.held v, ps)) : u = v := by
  simp only [valE, Option.some.injEq, Prod.mk.injEq, DataW.held.injEq] at h
  exact h.1
def klS (s : ByteArray) : Lit := .string s.data.toList
theorem klS_of {s : ByteArray} (h : s.size ≤ maxLen) : keyOf Tryz.prog 9 (.string s) = some (klS s) := Go.WideMaps.keyOf_string_mk Tryz.underlying9 h
theorem klS_lit (s : ByteArray) : WideAt.IsKeyLit (klS s) := trivial
theorem klS_ne {s t : ByteArray} (h : s ≠ t) : klS s ≠ klS t := by
  intro e
  injection e with e
  exact h (ByteArray.ext (Array.ext' e))
/- Block B is a map that holds f. -/
def MapV (w : World) (B N : Nat) (f : ByteArray → Option Value) : Prop := ∃ D : DataW Value, w.ownsMap Tryz.prog 9 valE B N D ∧ ∀ s : ByteArray, s.size ≤ maxLen → has D (klS s) = (f s).isSome ∧ ∀ v, f s = some v → ∀ z, D.atKey (klS s) z = .held v
theorem MapV.made (w : World) : MapV (w.alloc (.map #[] 0)) w.heap.size 0 (fun _ => none) :=
  ⟨_, World.ownsMap_made w _ _ _, fun s _ => ⟨rfl, fun v h => by cases h⟩⟩
theorem MapV.kept {w w' : World} {B N : Nat} {f : ByteArray → Option Value} {row : Option Nat} (h : MapV w B N f) (hg : w.grownBy w' row) (hne : some B ≠ row) : MapV w' B N f := by
  obtain ⟨D, h1, h2⟩ := h
  exact ⟨D, h1.kept hg hne, h2⟩
theorem MapV.lt {w : World} {B N : Nat} {f : ByteArray → Option Value} (h : MapV w B N f) : B < w.heap.size := by
  obtain ⟨D, h1, _⟩ := h
  exact h1.lt
theorem MapV.hit {w : World} {B N : Nat} {f : ByteArray → Option Value} (h : MapV w B N f) {t e : TypeId} (ht : Tryz.prog.underlying t = some (.map 9 e)) {z : Value} (hz : (zeroValue e).run Tryz.prog w = .ok z w) {s : ByteArray} (hs : s.size ≤ maxLen) {v : Value} (hv : f s = some v) : (Instr.lookup t (.map (some B)) (.string s) false).run Tryz.prog w = .ok v w := by
  obtain ⟨D, h1, h2⟩ := h
  obtain ⟨u, ps, hr, hu⟩ := h1.lookup lawS ht hz (zd := .held z) (zp := []) rfl (klS_of hs)
  rw [(h2 s hs).2 v hv] at hu
  have e : u = v := valE_inj hu
  rw [← e]; exact hr
theorem MapV.miss {w : World} {B N : Nat} {f : ByteArray → Option Value} (h : MapV w B N f) {t e : TypeId} (ht : Tryz.prog.underlying t = some (.map 9 e)) {z : Value} (hz : (zeroValue e).run Tryz.prog w = .ok z w) {s : ByteArray} (hs : s.size ≤ maxLen) (hv : f s = none) : (Instr.lookup t (.map (some B)) (.string s) false).run Tryz.prog w = .ok z w := by
  obtain ⟨D, h1, h2⟩ := h
  obtain ⟨u, ps, hr, hu⟩ := h1.lookup lawS ht hz (zd := .held z) (zp := []) rfl (klS_of hs)
  have hh := (h2 s hs).1
  rw [hv] at hh
  rw [atKey_of_not_has hh] at hu
  have e : u = z := valE_inj hu
  rw [← e]; exact hr
theorem MapV.asks {w : World} {B N : Nat} {f : ByteArray → Option Value} (h : MapV w B N f) {t e : TypeId} (ht : Tryz.prog.underlying t = some (.map 9 e)) {z : Value} (hz : (zeroValue e).run Tryz.prog w = .ok z w) {s : ByteArray} (hs : s.size ≤ maxLen) : (Instr.lookup t (.map (some B)) (.string s) true).run Tryz.prog w = .ok (.tuple #[(f s).getD z, .bool (f s).isSome]) w := by
  obtain ⟨D, h1, h2⟩ := h
  obtain ⟨u, ps, hr, hu⟩ := h1.look_ok lawS ht hz (zd := .held z) (zp := []) rfl (klS_of hs)
  have hh := (h2 s hs).1
  rw [hr, hh]
  have e : u = (f s).getD z := by
    cases hv : f s with
    | none =>
      rw [hv] at hh
      rw [atKey_of_not_has hh] at hu
      exact valE_inj hu
    | some v =>
      rw [(h2 s hs).2 v hv] at hu
      exact valE_inj hu
  rw [e]
def putV (f : ByteArray → Option Value) (s : ByteArray) (v : Value) : ByteArray → Option Value := fun t => if t = s then some v else f t
theorem putV_same (f : ByteArray → Option Value) (s : ByteArray) (v : Value) : putV f s v s = some v := by simp [putV]
theorem putV_other {f : ByteArray → Option Value} {s t : ByteArray} {v : Value} (h : t ≠ s) : putV f s v t = f t := by simp [putV, h]
theorem MapV.put {w : World} {B N : Nat} {f : ByteArray → Option Value} (h : MapV w B N f) {t e : TypeId} (ht : Tryz.prog.underlying t = some (.map 9 e)) {s : ByteArray} (hs : s.size ≤ maxLen) (hN : N < maxLen) (v : Value) : ∃ w', (Instr.mapUpdate t (.map (some B)) (.string s) v).run Tryz.prog w = .ok () w' ∧ MapV w' B (N + 1) (putV f s v) ∧ w.grownBy w' (some B) := by
  obtain ⟨D, h1, h2⟩ := h
  have hm := h1.isMap
  obtain ⟨w', hr, h3, h4⟩ := h1.update lawS ht hN (klS_of hs) (d := .held v) (ps := []) rfl
  refine ⟨w', hr, ⟨_, h3, fun t ht => ?_⟩, h4⟩
  by_cases e : t = s
  · subst e
    refine ⟨by rw [has_put_same hm (klS_lit _), putV_same]; rfl, fun u hu z => ?_⟩
    rw [putV_same] at hu
    rw [atKey_put_same hm (klS_lit _), Option.some.inj hu]
  · have hk := klS_ne e
    refine ⟨by rw [has_put_other hk, putV_other e]; exact (h2 t ht).1, fun u hu z => ?_⟩
    rw [putV_other e] at hu
    rw [atKey_put_other hk]
    exact (h2 t ht).2 u hu z
end Go.Proofs.YtpbknhhjfhpkmaaGreatDoor

namespace Go.Proofs.YtpbknhhjfhpkmaaGreatDoor
open Go.RowKit

/- c's readers lie in w, in memory laid since base, off block g. -/
def OffB (w : World) (g : Option Nat) (base : Nat) (c : Pol) (v : Value) : Prop := ∃ ro rb roff rc, v = .slice ro c.2.length rc ∧ c.2.length ≤ rc ∧ rc ≤ maxLen ∧ Strs w ro rb roff c.2 ∧ (0 < c.2.length → base ≤ rb ∧ some rb ≠ g)
theorem OffB.at' {w : World} {g : Option Nat} {base : Nat} {c : Pol} {v : Value} (h : OffB w g base c v) : ReadersAt w v c.2 := by
  obtain ⟨ro, rb, roff, rc, h1, h2, h3, h4, _⟩ := h
  exact ⟨ro, rb, roff, rc, h1, h2, h3, h4⟩
theorem OffB.later {w w' : World} {g : Option Nat} {base : Nat} {c : Pol} {v : Value} (h : OffB w g base c v) (hb : Below w.heap.size w w') : OffB w' g base c v := by
  obtain ⟨ro, rb, roff, rc, h1, h2, h3, h4, h5⟩ := h
  exact ⟨ro, rb, roff, rc, h1, h2, h3, h4.later hb, h5⟩
theorem OffB.kept {w w' : World} {g : Option Nat} {base b : Nat} {c : Pol} {v : Value} (h : OffB w g base c v) (hg : w.grownBy w' (some b)) (hb : b < base) : OffB w' g base c v := by
  obtain ⟨ro, rb, roff, rc, h1, h2, h3, h4, h5⟩ := h
  exact ⟨ro, rb, roff, rc, h1, h2, h3, strs_kept h4 hg (fun hp e => by injection e with e; have := (h5 hp).1; omega), h5⟩
theorem OffB.moved {w w' : World} {u u' : Value} {base : Nat} {c : Pol} {v : Value} (h : OffB w u.ownBlock base c v) (hg : w.grownBy w' u.ownBlock) (hl : u'.ownBlock = u.ownBlock ∨ u'.ownBlock = some w.heap.size) : OffB w' u'.ownBlock base c v := by
  obtain ⟨ro, rb, roff, rc, h1, h2, h3, h4, h5⟩ := h
  refine ⟨ro, rb, roff, rc, h1, h2, h3, strs_kept h4 hg (fun hp => (h5 hp).2), fun hp => ⟨(h5 hp).1, ?_⟩⟩
  rcases hl with e | e
  · rw [e]; exact (h5 hp).2
  · rw [e]
    have := h4.lt hp
    intro e2
    injection e2 with e2
    omega

theorem own_other {w w' : World} {base b n size : Nat} {e : TypeId} {v : Value} {xs : List Value} (h : w.ownsRow base e size v n xs) (hg : w.grownBy w' (some b)) (hb : b < base) : w'.ownsRow base e size v n xs := by
  rcases h.2 with h2 | ⟨g, cap, cur, h1, h2, h3, h4, h5, h6, h7⟩
  · exact ⟨h.1, .inl h2⟩
  · exact ⟨h.1, .inr ⟨g, cap, cur, h1, h2, (hg.block g (lt_of_block h3) (by intro e; injection e with e; omega)).trans h3, h4, h5, h6, h7⟩⟩

structure NSt (w wr : World) (x : List Pol) (k : Nat) (L : List Pol) (val : Pol → Value) (f : ByteArray → Option Value) (kv : Value) : Prop where
  bel : Below w.heap.size w wr
  bx0 : wr.heap[w.heap.size + 1]? = some (.cells #[.map (some w.heap.size)] 71 (0, 0))
  bx1 : wr.heap[w.heap.size + 2]? = some (.cells #[kv] 22 (0, 0))
  map : MapV wr w.heap.size k f
  own : wr.ownsRow (w.heap.size + 3) 9 1 kv L.length (strC (L.map keyF))
  off : ∀ c ∈ L, OffB wr kv.ownBlock (w.heap.size + 3) c (val c)
  nodup : L.Nodup
  mem : ∀ c, c ∈ L ↔ ∃ p ∈ x.take k, plainF p = c
  hit : ∀ c ∈ L, f (keyF c) = some (.agg #[.string c.1, val c])
  dom : ∀ s, (f s).isSome = true → ∃ c ∈ L, s = keyF c
theorem NSt.later {w wr w1 : World} {x L : List Pol} {k : Nat} {val : Pol → Value} {f : ByteArray → Option Value} {kv : Value} (h : NSt w wr x k L val f kv) (hb : Below wr.heap.size wr w1) : NSt w w1 x k L val f kv :=
  ⟨h.bel.trans (hb.mono h.bel.size), (hb.block _ (lt_of_block h.bx0)).trans h.bx0, (hb.block _ (lt_of_block h.bx1)).trans h.bx1, h.map.kept (row := none) ⟨hb.os, hb.tape, hb.output, hb.size, fun j hj _ => hb.block j hj⟩ (by simp), own_below h.own hb, fun c hc => (h.off c hc).later hb, h.nodup, h.mem, h.hit, h.dom⟩
theorem take_mem {x : List Pol} {k : Nat} (hk : k < x.length) {P : Pol → Prop} : (∃ p ∈ x.take (k + 1), P p) ↔ (∃ p ∈ x.take k, P p) ∨ P x[k] := by
  rw [List.take_succ_eq_append_getElem hk]
  constructor
  · rintro ⟨p, hp, h⟩
    rcases List.mem_append.1 hp with hp | hp
    · exact .inl ⟨p, hp, h⟩
    · have e : p = x[k] := by simpa using hp
      rw [← e]; exact .inr h
  · rintro (⟨p, hp, h⟩ | h)
    · exact ⟨p, List.mem_append_left _ hp, h⟩
    · exact ⟨x[k], List.mem_append_right _ (by simp), h⟩
def setP (val : Pol → Value) (c : Pol) (v : Value) : Pol → Value := fun d => if d = c then v else val d
theorem setP_same (val : Pol → Value) (c : Pol) (v : Value) : setP val c v c = v := by simp [setP]
theorem setP_other {val : Pol → Value} {c d : Pol} {v : Value} (h : d ≠ c) : setP val c v d = val d := by simp [setP, h]

theorem NSt.again {w w7 w10 : World} {x L : List Pol} {k : Nat} {val : Pol → Value} {f : ByteArray → Option Value} {kv qv : Value} {c : Pol} (h : NSt w w7 x k L val f kv) (hk : k < x.length) (hc : plainF x[k] = c) (hm : c ∈ L) (hn : ∀ d ∈ L, NamedP d)
    (hq : OffB w7 kv.ownBlock (w.heap.size + 3) c qv) (hmap : MapV w10 w.heap.size (k + 1) (putV f (keyF c) (.agg #[.string c.1, qv]))) (hg : w7.grownBy w10 (some w.heap.size)) : NSt w w10 x (k + 1) L (setP val c qv) (putV f (keyF c) (.agg #[.string c.1, qv])) kv := by
  refine ⟨h.bel.grown hg h.bel.size (fun j hj => by injection hj with hj; omega), (hg.block _ (lt_of_block h.bx0) (by simp)).trans h.bx0, (hg.block _ (lt_of_block h.bx1) (by simp)).trans h.bx1, hmap, ?_, fun d hd => ?_, h.nodup, fun d => ?_, fun d hd => ?_, fun s hs => ?_⟩
  · exact own_other h.own hg (by omega)
  · by_cases e : d = c
    · subst e; rw [setP_same]; exact hq.kept hg (by omega)
    · rw [setP_other e]; exact (h.off d hd).kept hg (by omega)
  · rw [h.mem d, take_mem hk]
    constructor
    · exact fun g => .inl g
    · rintro (g | g)
      · exact g
      · rw [← g, hc]; exact (h.mem c).1 hm
  · by_cases e : d = c
    · subst e; rw [putV_same, setP_same]
    · rw [putV_other (fun e2 => e (keyF_inj (hn d hd) (hn c hm) e2)), setP_other e]; exact h.hit d hd
  · by_cases e : s = keyF c
    · exact ⟨c, hm, e⟩
    · rw [putV_other e] at hs; exact h.dom s hs

theorem NSt.fresh {w w7 w8 w10 : World} {x L : List Pol} {k : Nat} {val : Pol → Value} {f : ByteArray → Option Value} {kv kv' qv : Value} {c : Pol} {ob : Obj} (h : NSt w w7 x k L val f kv) (hk : k < x.length) (hc : plainF x[k] = c) (hm : c ∉ L) (hn : ∀ d ∈ L, NamedP d) (hnc : NamedP c)
    (hq : OffB w7 kv.ownBlock (w.heap.size + 3) c qv) (hown : w8.ownsRow (w.heap.size + 3) 9 1 kv' (L.length + 1) (strC (L.map keyF) ++ [.string (keyF c)])) (hgr : (w7.alloc ob).grownBy w8 kv.ownBlock) (hloc : kv'.ownBlock = kv.ownBlock ∨ kv'.ownBlock = some (w7.alloc ob).heap.size)
    (hmap : MapV w10 w.heap.size (k + 1) (putV f (keyF c) (.agg #[.string c.1, qv]))) (hg : (w8.setCell ⟨w.heap.size + 2, 0, none⟩ kv').grownBy w10 (some w.heap.size)) : NSt w w10 x (k + 1) (L ++ [c]) (setP val c qv) (putV f (keyF c) (.agg #[.string c.1, qv])) kv' := by
  have hba : Below w7.heap.size w7 (w7.alloc ob) := (Below.refl _ _).alloc (Nat.le_refl _) _
  have h7 := h.later hba
  have hq7 := hq.later hba
  have hne : ∀ j, some j = kv.ownBlock → w.heap.size + 3 ≤ j := fun j he => (h.own.lt _ he.symm).1
  have b8 : Below w.heap.size w w8 := h7.bel.grown hgr h7.bel.size (fun j he => by have := hne j he.symm; omega)
  have k0 : w8.heap[w.heap.size + 1]? = some (.cells #[.map (some w.heap.size)] 71 (0, 0)) := (hgr.block _ (lt_of_block h7.bx0) (fun he => by have := hne _ he; omega)).trans h7.bx0
  have k1 : w8.heap[w.heap.size + 2]? = some (.cells #[kv] 22 (0, 0)) := (hgr.block _ (lt_of_block h7.bx1) (fun he => by have := hne _ he; omega)).trans h7.bx1
  have b9 : Below w.heap.size w (w8.setCell ⟨w.heap.size + 2, 0, none⟩ kv') := b8.setCell (by simp) _
  have k2 : (w8.setCell ⟨w.heap.size + 2, 0, none⟩ kv').heap[w.heap.size + 2]? = some (.cells #[kv'] 22 (0, 0)) := by
    simp [World.setCell, Array.getElem?_modify, k1]
  have g9 : w8.grownBy (w8.setCell ⟨w.heap.size + 2, 0, none⟩ kv') (some (w.heap.size + 2)) := grown_set (grown_refl _ _) rfl _
  have own9 : (w8.setCell ⟨w.heap.size + 2, 0, none⟩ kv').ownsRow (w.heap.size + 3) 9 1 kv' (L.length + 1) (strC (L.map keyF) ++ [.string (keyF c)]) := own_other hown g9 (by omega)
  refine ⟨b9.grown hg b9.size (fun j hj => by injection hj with hj; omega), ?_, ?_, hmap, ?_, fun d hd => ?_, ?_, fun d => ?_, fun d hd => ?_, fun s hs => ?_⟩
  · rw [hg.block _ (by have := lt_of_block k0; simpa using this) (by simp)]
    exact heap_past_set k0 (by simp)
  · rw [hg.block _ (by have := lt_of_block k1; simpa using this) (by simp)]
    exact k2
  · have o10 := own_other own9 hg (by omega)
    simpa [strC] using o10
  · have key : ∀ d v, OffB (w7.alloc ob) kv.ownBlock (w.heap.size + 3) d v → OffB w10 kv'.ownBlock (w.heap.size + 3) d v := fun d v ho => ((ho.moved hgr hloc).kept g9 (by omega)).kept hg (by omega)
    rcases List.mem_append.1 hd with hd | hd
    · have e : d ≠ c := fun e => hm (e ▸ hd)
      rw [setP_other e]; exact key _ _ (h7.off d hd)
    · have e : d = c := by simpa using hd
      subst e; rw [setP_same]; exact key _ _ hq7
  · rw [List.nodup_append]
    refine ⟨h.nodup, by simp, fun a ha b hb e => ?_⟩
    have e2 : b = c := by simpa using hb
    exact hm (e2 ▸ e ▸ ha)
  · rw [take_mem hk, ← h.mem d, List.mem_append]
    constructor
    · rintro (g | g)
      · exact .inl g
      · have e : d = c := by simpa using g
        exact .inr (hc.trans e.symm)
    · rintro (g | g)
      · exact .inl g
      · exact .inr (by rw [← g, hc]; simp)
  · rcases List.mem_append.1 hd with hd | hd
    · have e : d ≠ c := fun e => hm (e ▸ hd)
      rw [putV_other (fun e2 => e (keyF_inj (hn d hd) hnc e2)), setP_other e]; exact h.hit d hd
    · have e : d = c := by simpa using hd
      subst e; rw [putV_same, setP_same]
  · by_cases e : s = keyF c
    · exact ⟨c, by simp, e⟩
    · rw [putV_other e] at hs
      obtain ⟨d, hd, e2⟩ := h.dom s hs
      exact ⟨d, List.mem_append_left _ hd, e2⟩

/- Over one policy's readers. -/
structure ISt (wr wx : World) (o : ByteArray) (pv : Value) (rs : List ByteArray) (j : Nat) (l : List ByteArray) (f : ByteArray → Option Value) (qv : Value) : Prop where
  bel : Below wr.heap.size wr wx
  bp : wx.heap[wr.heap.size]? = some (.cells #[.string o, pv] 63 (0, 0))
  bq : wx.heap[wr.heap.size + 2]? = some (.cells #[.string o, qv] 63 (0, 0))
  map : MapV wx (wr.heap.size + 1) j f
  own : wx.ownsRow (wr.heap.size + 3) 9 1 qv l.length (strC l)
  nodup : l.Nodup
  mem : ∀ r, r ∈ l ↔ r ∈ rs.take j ∧ r ≠ o
  miss : ∀ r, r ∉ rs.take j → f r = none
  cnt : ∀ r, r ∈ rs.take j → ∃ c : Nat, 1 ≤ c ∧ c ≤ j ∧ f r = some (.int .i64 (c : Int))
  len : l.length ≤ j
theorem take_memS {rs : List ByteArray} {j : Nat} (hj : j < rs.length) (r : ByteArray) : r ∈ rs.take (j + 1) ↔ r ∈ rs.take j ∨ r = rs[j] := by
  rw [List.take_succ_eq_append_getElem hj, List.mem_append, List.mem_singleton]
/- A round that puts nothing. -/
theorem ISt.skip {wr wx w2 : World} {o : ByteArray} {pv qv : Value} {rs l : List ByteArray} {j c : Nat} {z : Int} {f : ByteArray → Option Value} (h : ISt wr wx o pv rs j l f qv) (hj : j < rs.length) (hc : c ≤ j) (hz : z = ((c + 1 : Nat) : Int)) (hmap : MapV w2 (wr.heap.size + 1) (j + 1) (putV f rs[j] (.int .i64 z))) (hg : wx.grownBy w2 (some (wr.heap.size + 1))) (hr : rs[j] ∈ rs.take j ∨ rs[j] = o) : ISt wr w2 o pv rs (j + 1) l (putV f rs[j] (.int .i64 z)) qv := by
  refine ⟨h.bel.grown hg h.bel.size (fun k hk => by injection hk with hk; omega), (hg.block _ (lt_of_block h.bp) (by simp)).trans h.bp, (hg.block _ (lt_of_block h.bq) (by simp)).trans h.bq, hmap, own_other h.own hg (by omega), h.nodup, fun r => ?_, fun r hn => ?_, fun r hm => ?_, by have := h.len; omega⟩
  · rw [h.mem, take_memS hj]
    constructor
    · exact fun g => ⟨.inl g.1, g.2⟩
    · rintro ⟨g | g, g2⟩
      · exact ⟨g, g2⟩
      · subst g
        rcases hr with e | e
        · exact ⟨e, g2⟩
        · exact absurd e g2
  · have e : r ≠ rs[j] := fun e => hn ((take_memS hj r).2 (.inr e))
    rw [putV_other e]; exact h.miss r fun g => hn ((take_memS hj r).2 (.inl g))
  · by_cases e : r = rs[j]
    · subst e; exact ⟨c + 1, by omega, by omega, by rw [putV_same, hz]⟩
    · rw [putV_other e]
      obtain ⟨c', h1, h2, h3⟩ := h.cnt r (((take_memS hj r).1 hm).resolve_right e)
      exact ⟨c', h1, by omega, h3⟩
/- A round that puts a reader. -/
theorem ISt.put {wr wx w2 w3 : World} {o : ByteArray} {pv qv qv' : Value} {rs l : List ByteArray} {j : Nat} {f : ByteArray → Option Value} {ob : Obj} (h : ISt wr wx o pv rs j l f qv) (hj : j < rs.length) (hn : rs[j] ∉ rs.take j) (ho : rs[j] ≠ o) (hmap : MapV w2 (wr.heap.size + 1) (j + 1) (putV f rs[j] (.int .i64 1))) (hg : wx.grownBy w2 (some (wr.heap.size + 1)))
    (hown : w3.ownsRow (wr.heap.size + 3) 9 1 qv' (l.length + 1) (strC l ++ [.string rs[j]])) (hgr : (w2.alloc ob).grownBy w3 qv.ownBlock) : ISt wr (w3.setCell ⟨wr.heap.size + 2, 1, none⟩ qv') o pv rs (j + 1) (l ++ [rs[j]]) (putV f rs[j] (.int .i64 1)) qv' := by
  have hne : ∀ k, some k = qv.ownBlock → wr.heap.size + 3 ≤ k := fun k he => (h.own.lt _ he.symm).1
  have b2 : Below wr.heap.size wr w2 := h.bel.grown hg h.bel.size (fun k hk => by injection hk with hk; omega)
  have b3 : Below wr.heap.size wr w3 := (b2.alloc b2.size _).grown hgr (by have := b2.size; simp; omega) (fun k he => by have := hne k he.symm; omega)
  have p2 := (hg.block _ (lt_of_block h.bp) (by simp)).trans h.bp
  have q2 := (hg.block _ (lt_of_block h.bq) (by simp)).trans h.bq
  have p3 : w3.heap[wr.heap.size]? = some (.cells #[.string o, pv] 63 (0, 0)) := (hgr.block _ (lt_of_block (heap_past_alloc p2)) (fun he => by have := hne _ he; omega)).trans (heap_past_alloc p2)
  have q3 : w3.heap[wr.heap.size + 2]? = some (.cells #[.string o, qv] 63 (0, 0)) := (hgr.block _ (lt_of_block (heap_past_alloc q2)) (fun he => by have := hne _ he; omega)).trans (heap_past_alloc q2)
  have m3 : MapV w3 (wr.heap.size + 1) (j + 1) (putV f rs[j] (.int .i64 1)) := (hmap.kept (row := none) ((World.grownBy_alloc w2 ob none)) (by simp)).kept hgr (fun he => by have := hne _ he; omega)
  have g9 : w3.grownBy (w3.setCell ⟨wr.heap.size + 2, 1, none⟩ qv') (some (wr.heap.size + 2)) := grown_set (grown_refl _ _) rfl _
  have q9 : (w3.setCell ⟨wr.heap.size + 2, 1, none⟩ qv').heap[wr.heap.size + 2]? = some (.cells #[.string o, qv'] 63 (0, 0)) := by
    simp [World.setCell, Array.getElem?_modify, q3]
  refine ⟨b3.setCell (by simp) _, heap_past_set p3 (by simp), q9, m3.kept g9 (by simp), ?_, ?_, fun r => ?_, fun r hn' => ?_, fun r hm => ?_, by have := h.len; simp; omega⟩
  · have o9 := own_other hown g9 (by omega)
    simpa [strC] using o9
  · rw [List.nodup_append]
    refine ⟨h.nodup, by simp, fun a ha b hb e => ?_⟩
    have e2 : b = rs[j] := by simpa using hb
    exact hn (((h.mem _).1 (e2 ▸ e ▸ ha)).1)
  · rw [List.mem_append, h.mem, take_memS hj, List.mem_singleton]
    constructor
    · rintro (g | g)
      · exact ⟨.inl g.1, g.2⟩
      · exact ⟨.inr g, g ▸ ho⟩
    · rintro ⟨g | g, g2⟩
      · exact .inl ⟨g, g2⟩
      · exact .inr g
  · have e : r ≠ rs[j] := fun e => hn' ((take_memS hj r).2 (.inr e))
    rw [putV_other e]; exact h.miss r fun g => hn' ((take_memS hj r).2 (.inl g))
  · by_cases e : r = rs[j]
    · subst e; exact ⟨1, by omega, by omega, by rw [putV_same]; rfl⟩
    · rw [putV_other e]
      obtain ⟨c', h1, h2, h3⟩ := h.cnt r (((take_memS hj r).1 hm).resolve_right e)
      exact ⟨c', h1, by omega, h3⟩
/- What is sorted is clean. -/
theorem clean_sorted {o : ByteArray} {rs l l' : List ByteArray} (hm : ∀ r, r ∈ l ↔ r ∈ rs ∧ r ≠ o) (hn : l.Nodup) (hp : l'.Perm l) (hs : l'.Pairwise (fun a b => a.data.toList ≤ b.data.toList)) : plainF (o, rs) = (o, l') := by
  refine Lab.clean_unique blt_order (plainF_clean (o, rs)) ⟨rfl, ?_, fun r => (hp.mem_iff.trans (hm r))⟩
  have hn' : l'.Nodup := hp.nodup_iff.2 hn
  refine (hs.and hn').imp ?_
  rintro a b ⟨h1, h2⟩
  exact le_trichL h1 fun e => h2 (data_inj e)
/- A row of a call's own as a policy's readers. -/
theorem offB_new {w : World} {base b0 N cap : Nat} {ao : Option Addr} {o : ByteArray} {l : List ByteArray} {g : Option Nat} (h : w.ownsRow base 9 1 (.slice ao N cap) N (strC l)) (hN : N = l.length) (hg : ∀ k, g = some k → k < base) (hb : b0 ≤ base) : OffB w g b0 (o, l) (.slice ao N cap) := by
  subst hN
  have hcap := own_cap h
  rcases h.2 with ⟨hv, h0⟩ | ⟨k, c, cur, hv, h1, h2, h3, h4, h5, h6⟩
  · have e := List.length_eq_zero_iff.1 h0
    subst e
    exact ⟨ao, 0, 0, cap, rfl, hcap.1, hcap.2, Strs.nil _ _, fun hp => by simp at hp⟩
  · injection hv with hv1 hv2 hv3
    subst hv1 hv3
    refine ⟨_, k, 0, cap, rfl, hcap.1, hcap.2, ⟨fun _ => rfl, fun j hj => ?_, fun _ => lt_of_block h2⟩, fun _ => ⟨by omega, fun e => by have := hg k e.symm; omega⟩⟩
    have e1 : (strC l)[j]? = some (.string l[j]) := by simp [strC, hj]
    rw [← h6, Nat.mul_one, List.getElem?_take_of_lt hj, Array.getElem?_toList] at e1
    simp [World.cell?, h2, e1]
theorem joinZ (ro : Option Addr) (rb roff rc : Nat) (rs : List ByteArray) (w : World) (h : Strs w ro rb roff rs) (hcap : rs.length ≤ rc) (h6 : rs.length ≤ 1000) (hl : (Lib.join (rs.map (·.data.toList)) [0]).length ≤ 100000) :
    Calls Tryz.prog 34 #[.slice ro rs.length rc, .string ⟨#[0]⟩] w fun e w' => e = .returned (.string ⟨(Lib.join (rs.map (·.data.toList)) [0]).toArray⟩) ∧ Below w.heap.size w w' := by
  by_cases h0 : rs.length = 0
  · have e : rs = [] := List.length_eq_zero_iff.1 h0
    subst e
    exact (Tryz.strings_Join_none ro rc _ w).mono fun e w' ⟨he, hw⟩ => ⟨he, hw ▸ Below.refl _ _⟩
  · have ha := h.adr (by omega)
    subst ha
    refine Tryz.strings_Join rb roff rc rs ⟨#[0]⟩ w (fun j x hj => ?_) (h.lt (by omega)) (by omega) hcap ?_
    · obtain ⟨hl, e⟩ := List.getElem?_eq_some_iff.1 hj
      rw [← e]; exact h.cell j hl
    · show (Lib.join _ [0]).length ≤ _
      omega
end Go.Proofs.YtpbknhhjfhpkmaaGreatDoor
