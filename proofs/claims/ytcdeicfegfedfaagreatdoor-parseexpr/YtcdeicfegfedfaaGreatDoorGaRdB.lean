/- The reader's steps: giving up, a word or sign, a name. The step into what lies within, and the step out. -/
import Derived.Test.YtcdeicfegfedfaaGreatDoorGaRd
import Derived.Defers
import Derived.Recover
namespace Go.Proofs.YtcdeicfegfedfaaGreatDoor
open Go.RowKit
open Par (Tok Po Tr nx atP isT ba Res)

theorem ba_list (l : List UInt8) : (ba l).toList = l := by rw [Lex.list_of]; simp [ba]
theorem ba_data (l : List UInt8) : (ba l).data.toList = l := by simp [ba]
theorem is_of (s : ByteArray) (ts : List Tok) : ((ba (nx ts).2.2).toList == s.toList) = isT s.data.toList ts := by
  rw [ba_list, Lex.list_of]; rfl

theorem fTok0 (x y z : Value) (w : World) : (Instr.field 80 (.agg #[x, y, z]) 0).run Tryz.prog w = .ok x w := by kernel_rfl
theorem fTok1 (x y z : Value) (w : World) : (Instr.field 80 (.agg #[x, y, z]) 1).run Tryz.prog w = .ok y w := by kernel_rfl
theorem fTok2 (x y z : Value) (w : World) : (Instr.field 80 (.agg #[x, y, z]) 2).run Tryz.prog w = .ok z w := by kernel_rfl
/- What a call of a reading function comes to. -/
structure Fr (B rb : Nat) (w w' : World) : Prop where
  os : w'.os = w.os
  tape : w'.tape = w.tape
  output : w'.output = w.output
  size : w.heap.size ≤ w'.heap.size
  block : ∀ k, k < B → k ≠ rb → w'.heap[k]? = w.heap[k]?
theorem Fr.of_grown {B rb : Nat} {w w' : World} (h : w.grownBy w' (some rb)) (hB : B ≤ w.heap.size) : Fr B rb w w' := ⟨h.os, h.tape, h.output, h.size, fun k hk hn => h.block k (by omega) (by simp; exact hn)⟩
theorem Fr.of_below {B rb : Nat} {w w' : World} (h : Below B w w') : Fr B rb w w' := ⟨h.os, h.tape, h.output, h.size, fun k hk _ => h.block k hk⟩
theorem Fr.trans {B rb : Nat} {a b c : World} (h : Fr B rb a b) (k : Fr B rb b c) : Fr B rb a c := ⟨k.os.trans h.os, k.tape.trans h.tape, k.output.trans h.output, Nat.le_trans h.size k.size, fun i hi hn => (k.block i hi hn).trans (h.block i hi hn)⟩
theorem Fr.grown {rb : Nat} {w w' : World} (h : Fr w.heap.size rb w w') : w.grownBy w' (some rb) := ⟨h.os, h.tape, h.output, h.size, fun k hk hn => h.block k hk (fun hh => hn (by rw [hh]))⟩
theorem Fr.mono {B B' rb : Nat} {w w' : World} (h : Fr B rb w w') (hB : B' ≤ B) : Fr B' rb w w' := ⟨h.os, h.tape, h.output, h.size, fun k hk hn => h.block k (by omega) hn⟩
def PostB {α : Type} (B : Nat) (w : World) (rb e : Nat) (bl pr : Int) (res : Res α) (V : World → α → Value → Prop) (x : Ending) (w' : World) : Prop :=
  Fr B rb w w' ∧ ((∃ a r, res = .ok a r ∧ ∃ u v', x = .returned u ∧ V w' a u ∧ Rd w' rb e bl pr r v') ∨ (∃ c q, res = .no c q ∧ x = goneE c q ∧ ∃ r v', Rd w' rb e bl pr r v'))
def Post {α : Type} (w : World) (rb e : Nat) (bl pr : Int) (res : Res α) (V : World → α → Value → Prop) (x : Ending) (w' : World) : Prop :=
  w.grownBy w' (some rb) ∧ ((∃ a r, res = .ok a r ∧ ∃ u v', x = .returned u ∧ V w' a u ∧ Rd w' rb e bl pr r v') ∨ (∃ c q, res = .no c q ∧ x = goneE c q ∧ ∃ r v', Rd w' rb e bl pr r v'))
theorem grown_of_below {w w' : World} (o : Option Nat) (h : Below w.heap.size w w') : w.grownBy w' o := ⟨h.os, h.tape, h.output, h.size, fun k hk _ => h.block k hk⟩

set_option maxRecDepth 100000 in
set_option maxHeartbeats 1000000 in
theorem rGive_any {w : World} {rb e : Nat} {bl pr : Int} {ts : List Tok} {v : Value} (c : Int) (h : Rd w rb e bl pr ts v) :
    Calls Tryz.prog 29 #[.pointer (some ⟨rb, 0, none⟩), .int .i64 c] w fun x w' => x = goneE c (atP e ts) ∧ w' = w := by
  have H : Hid (Rd w rb e bl pr ts v) := h
  clear h
  go_enter Tryz.func29, Tryz.ntmps29
  go_wp2_with (go_at_call 51; refine (rAt_any H.out).mono ?_; rintro x w' ⟨rfl, rfl⟩)
  exact ⟨rfl, rfl, rfl⟩
set_option maxRecDepth 100000 in
set_option maxHeartbeats 1000000 in
theorem rIs_any {w : World} {rb e : Nat} {bl pr : Int} {ts : List Tok} {v : Value} (s : ByteArray) (h : Rd w rb e bl pr ts v) :
    Calls Tryz.prog 59 #[.pointer (some ⟨rb, 0, none⟩), .string s] w fun x w' => x = .returned (.bool (isT s.data.toList ts)) ∧ Below w.heap.size w w' := by
  have H : Hid (Rd w rb e bl pr ts v) := h
  have E : Hid (((ba (nx ts).2.2).toList == s.toList) = isT s.data.toList ts) := is_of s ts
  have f2 := fTok2
  clear h
  go_enter Tryz.func59, Tryz.ntmps59
  go_wp2_with (go_at_call 54; refine (rNext_any H.out).mono ?_; rintro x w1 ⟨rfl, hb1⟩)
  go_ret
  exact ⟨by rw [← E.out]; rfl, hb1⟩
theorem take_below {w : World} {n : Nat} (hn : n ≤ w.heap.size) {x y z : Value} {k : Nat} {v : Value} {rb : Nat} {o : Obj} : Below n (w.setCell ⟨rb, k, none⟩ v) (((((w.setCell ⟨rb, k, none⟩ v).setCell ⟨n, 0, none⟩ x).setCell ⟨n, 1, none⟩ y).setCell ⟨n, 2, none⟩ z).alloc o) :=
  ((((Below.refl _ _).setCell (Nat.le_refl n) _).setCell (Nat.le_refl n) _).setCell (Nat.le_refl n) _).alloc (by simpa [World.setCell] using hn) _
theorem take_grown {w w1 : World} {x y z : Value} {k : Nat} {v : Value} {rb : Nat} {o : Obj} (hb : Below w.heap.size w w1) : w.grownBy (((((w1.setCell ⟨rb, k, none⟩ v).setCell ⟨w.heap.size, 0, none⟩ x).setCell ⟨w.heap.size, 1, none⟩ y).setCell ⟨w.heap.size, 2, none⟩ z).alloc o) (some rb) :=
  grown_alloc (grown_setNew (grown_setNew (grown_setNew (grown_set (grown_of_below _ hb) rfl v) (Nat.le_refl _) _) (Nat.le_refl _) _) (Nat.le_refl _) _) _
set_option maxRecDepth 100000 in
set_option maxHeartbeats 1000000 in
theorem rTake_any {w : World} {rb e : Nat} {bl pr : Int} {t : Tok} {r : List Tok} {v : Value} (h : Rd w rb e bl pr (t :: r) v) :
    Calls Tryz.prog 55 #[.pointer (some ⟨rb, 0, none⟩)] w fun x w' => x = .returned (.agg #[.int .i64 t.1, .int .i64 (t.2.1 : Int), .string (ba t.2.2)]) ∧ w.grownBy w' (some rb) ∧ ∃ v', Rd w' rb e bl pr r v' := by
  have hlt := h.lt
  obtain ⟨w0, hw0⟩ : ∃ w0, w0 = w.alloc (.cells #[.int .i64 0, .int .i64 0, .string ⟨#[]⟩] 80) := ⟨_, rfl⟩
  have HB0 : Hid (Below w.heap.size w w0) := by rw [hw0]; exact (Below.refl _ _).alloc (Nat.le_refl _) _
  have H0 : Hid (Rd w0 rb e bl pr (t :: r) v) := h.keeps HB0.out h.lt
  clear h
  go_enter Tryz.func55, Tryz.ntmps55
  go_wp2_with fail
  rw [← hw0]
  refine (rNext_any H0.out).mono ?_
  rintro x w1 ⟨rfl, hb1⟩
  rw [show nx (t :: r) = t from rfl]
  have h1 := H0.out.keeps hb1 H0.out.lt
  have hres : w1.heap[w.heap.size]? = some (.cells #[.int .i64 0, .int .i64 0, .string ⟨#[]⟩] 80 (0, 0)) := by
    rw [hb1.block _ (by rw [hw0]; simp), hw0]; exact heap_at_alloc _ _ _ rfl
  have hrl := lt_of_block hres
  obtain ⟨⟨q0, q1, q2⟩, y0, y1, y2⟩ := blk3 hres
  obtain ⟨b, off, c, rfl, hb, hc, hm, k0, k1, k2, hr⟩ := h1.some
  obtain ⟨c0, c1, c2, c3⟩ := h1.cells
  have z0 := h1.frozen 0
  have hl := h1.len
  have hl1 := h1.lt
  have HB1 : Hid (Below w.heap.size w w1) := HB0.out.trans (hb1.mono HB0.out.size)
  unfold maxLen at hm
  simp only [List.length_cons] at hl
  by_cases hc1 : c = 1
  · subst hc1
    obtain rfl : r = [] := List.length_eq_zero_iff.1 (by omega)
    have HR : Hid (Rd (w1.setCell ⟨rb, 0, none⟩ (.slice (some ⟨b, off, none⟩) 0 0)) rb e bl pr [] (.slice (some ⟨b, off, none⟩) 0 0)) := h1.step (RowV.none _ _ _ _)
    simp only [List.length_nil, Nat.zero_add] at c0
    clear h1 k0 k1 k2 hr hb1 hres H0
    go_wp2
    exact bodyPost_ret (v := .agg #[.int .i64 t.1, .int .i64 (t.2.1 : Int), .string (ba t.2.2)]) (by simp [results, Tryz.results55, go_sem, q0, q1, q2, hrl]) rfl ⟨rfl, take_grown HB1.out, _, HR.out.keeps (take_below (Nat.le_of_lt hrl)) hlt⟩
  · have HR : Hid (Rd (w1.setCell ⟨rb, 0, none⟩ (.slice (some ⟨b, off + 3, none⟩) r.length (c - 1))) rb e bl pr r (.slice (some ⟨b, off + 3, none⟩) r.length (c - 1))) := h1.step hr
    clear h1 k0 k1 k2 hr hb1 hres H0
    go_wp2
    exact bodyPost_ret (v := .agg #[.int .i64 t.1, .int .i64 (t.2.1 : Int), .string (ba t.2.2)]) (by simp [results, Tryz.results55, go_sem, q0, q1, q2, hrl]) rfl ⟨rfl, take_grown HB1.out, _, HR.out.keeps (take_below (Nat.le_of_lt hrl)) hlt⟩
theorem is_some {s : List UInt8} {ts : List Tok} (hs : s ≠ []) (h : isT s ts = true) : ∃ t r, ts = t :: r := by
  cases ts with
  | nil =>
    simp only [isT, nx, beq_iff_eq] at h
    exact absurd h.symm hs
  | cons t r => exact ⟨t, r, rfl⟩
set_option maxRecDepth 100000 in
set_option maxHeartbeats 1000000 in
theorem rMay_any {w : World} {rb e : Nat} {bl pr : Int} {ts : List Tok} {v : Value} (s : ByteArray) (hs : s.data.toList ≠ []) (h : Rd w rb e bl pr ts v) :
    Calls Tryz.prog 85 #[.pointer (some ⟨rb, 0, none⟩), .string s] w fun x w' => x = .returned (.bool (isT s.data.toList ts)) ∧ w.grownBy w' (some rb) ∧ ∃ v', Rd w' rb e bl pr (if isT s.data.toList ts = true then ts.tail else ts) v' := by
  have H : Hid (Rd w rb e bl pr ts v) := h
  clear h
  cases hi : isT s.data.toList ts with
  | false =>
    go_enter Tryz.func85, Tryz.ntmps85
    go_wp2_with fail
    refine (rIs_any _ H.out).mono ?_
    rintro x w1 ⟨rfl, hb1⟩
    rw [hi]
    have H1 : Hid (Rd w1 rb e bl pr ts v) := H.out.keeps hb1 H.out.lt
    have HB1 : Hid (Below w.heap.size w w1) := hb1
    clear hb1
    go_wp2
    go_ret
    exact ⟨rfl, grown_of_below _ HB1.out, _, H1.out⟩
  | true =>
    obtain ⟨t, r, rfl⟩ := is_some hs hi
    go_enter Tryz.func85, Tryz.ntmps85
    go_wp2_with fail
    refine (rIs_any _ H.out).mono ?_
    rintro x w1 ⟨rfl, hb1⟩
    rw [hi]
    have H1 : Hid (Rd w1 rb e bl pr (t :: r) v) := H.out.keeps hb1 H.out.lt
    have HB1 : Hid (w.grownBy w1 (some rb)) := grown_of_below _ hb1
    clear hb1
    go_wp2_with fail
    refine (rTake_any H1.out).mono ?_
    rintro x w2 ⟨rfl, hg, v2, h2⟩
    have H2 : Hid (Rd w2 rb e bl pr r v2) := h2
    have HG : Hid (w1.grownBy w2 (some rb)) := hg
    clear h2 hg
    go_wp2
    go_ret
    exact ⟨rfl, grown_trans HB1.out HG.out, _, H2.out⟩
set_option maxRecDepth 100000 in
set_option maxHeartbeats 1000000 in
theorem rMust_any {w : World} {rb e : Nat} {bl pr : Int} {ts : List Tok} {v : Value} (s : ByteArray) (hs : s.data.toList ≠ []) (h : Rd w rb e bl pr ts v) :
    Calls Tryz.prog 58 #[.pointer (some ⟨rb, 0, none⟩), .string s] w (Post w rb e bl pr (Par.must e s.data.toList ts) fun _ a u => u = .int .i64 (a : Int)) := by
  have H : Hid (Rd w rb e bl pr ts v) := h
  have f1 := fTok1
  clear h
  cases hi : isT s.data.toList ts with
  | false =>
    have HM : Hid (Par.must e s.data.toList ts = .no 1 (atP e ts)) := by show _ = _; unfold Par.must; rw [if_neg (by simp [hi])]
    go_enter Tryz.func58, Tryz.ntmps58
    go_wp2_with fail
    refine (rIs_any _ H.out).mono ?_
    rintro x w1 ⟨rfl, hb1⟩
    rw [hi]
    have H1 : Hid (Rd w1 rb e bl pr ts v) := H.out.keeps hb1 H.out.lt
    have HB1 : Hid (Below w.heap.size w w1) := hb1
    clear hb1
    go_wp2_with fail
    refine (rGive_any _ H1.out).mono ?_
    rintro x w2 ⟨rfl, hw2⟩
    subst hw2
    exact ⟨rfl, grown_of_below _ HB1.out, .inr ⟨_, _, HM.out, rfl, _, _, H1.out⟩⟩
  | true =>
    obtain ⟨t, r, rfl⟩ := is_some hs hi
    have HM : Hid (Par.must e s.data.toList (t :: r) = .ok t.2.1 r) := by show _ = _; unfold Par.must; rw [if_pos hi]; rfl
    go_enter Tryz.func58, Tryz.ntmps58
    go_wp2_with fail
    refine (rIs_any _ H.out).mono ?_
    rintro x w1 ⟨rfl, hb1⟩
    rw [hi]
    have H1 : Hid (Rd w1 rb e bl pr (t :: r) v) := H.out.keeps hb1 H.out.lt
    have HB1 : Hid (w.grownBy w1 (some rb)) := grown_of_below _ hb1
    clear hb1
    go_wp2_with fail
    refine (rTake_any H1.out).mono ?_
    rintro x w2 ⟨rfl, hg, v2, h2⟩
    have H2 : Hid (Rd w2 rb e bl pr r v2) := h2
    have HG : Hid (w1.grownBy w2 (some rb)) := hg
    clear h2 hg
    go_wp2
    go_ret
    exact ⟨grown_trans HB1.out HG.out, .inl ⟨_, _, HM.out, _, _, rfl, rfl, H2.out⟩⟩
theorem ba_size (l : List UInt8) : (ba l).size = l.length := by simp [ba, ByteArray.size]
set_option maxRecDepth 100000 in
set_option maxHeartbeats 1000000 in
theorem rName_any {w : World} {rb e : Nat} {bl pr : Int} {ts : List Tok} {v : Value} (h : Rd w rb e bl pr ts v) :
    Calls Tryz.prog 61 #[.pointer (some ⟨rb, 0, none⟩)] w (Post w rb e bl pr (Par.nameR e ts) fun _ a u => u = .string a ∧ a.size ≤ maxLen) := by
  have H : Hid (Rd w rb e bl pr ts v) := h
  have f0 := fTok0
  have f2 := fTok2
  clear h
  by_cases hk : (nx ts).1 = 1
  · obtain ⟨t, r, rfl⟩ : ∃ t r, ts = t :: r := by
      cases ts with
      | nil => cases hk
      | cons t r => exact ⟨t, r, rfl⟩
    have hk' : t.1 = 1 := hk
    have hb : (t.1 != 1) = false := by simp [hk']
    have HM : Hid (Par.nameR e (t :: r) = .ok (ba t.2.2) r) := by show _ = _; unfold Par.nameR; rw [if_pos hk]; rfl
    have HZ : Hid ((ba t.2.2).size ≤ maxLen) := by
      show _ ≤ _
      have := H.out.goods.1
      rw [ba_size]; unfold maxLen; omega
    clear hk hk'
    go_enter Tryz.func61, Tryz.ntmps61
    go_wp2_with fail
    refine (rNext_any H.out).mono ?_
    rintro x w1 ⟨rfl, hb1⟩
    rw [show nx (t :: r) = t from rfl]
    have H1 : Hid (Rd w1 rb e bl pr (t :: r) v) := H.out.keeps hb1 H.out.lt
    have HB1 : Hid (w.grownBy w1 (some rb)) := grown_of_below _ hb1
    clear hb1
    go_wp2_with fail
    refine (rTake_any H1.out).mono ?_
    rintro x w2 ⟨rfl, hg, v2, h2⟩
    have H2 : Hid (Rd w2 rb e bl pr r v2) := h2
    have HG : Hid (w1.grownBy w2 (some rb)) := hg
    clear h2 hg
    go_wp2
    go_ret
    exact ⟨grown_trans HB1.out HG.out, .inl ⟨_, _, HM.out, _, _, rfl, ⟨rfl, HZ.out⟩, H2.out⟩⟩
  · have hb : ((nx ts).1 != 1) = true := by simp [hk]
    have HM : Hid (Par.nameR e ts = .no 1 (atP e ts)) := by show _ = _; unfold Par.nameR; rw [if_neg hk]
    clear hk
    go_enter Tryz.func61, Tryz.ntmps61
    go_wp2_with fail
    refine (rNext_any H.out).mono ?_
    rintro x w1 ⟨rfl, hb1⟩
    have H1 : Hid (Rd w1 rb e bl pr ts v) := H.out.keeps hb1 H.out.lt
    have HB1 : Hid (w.grownBy w1 (some rb)) := grown_of_below _ hb1
    clear hb1
    go_wp2_with fail
    refine (rGive_any _ H1.out).mono ?_
    rintro x w2 ⟨rfl, hw2⟩
    subst hw2
    exact ⟨rfl, HB1.out, .inr ⟨_, _, HM.out, rfl, _, _, H1.out⟩⟩
end Go.Proofs.YtcdeicfegfedfaaGreatDoor

namespace Go.Proofs.YtcdeicfegfedfaaGreatDoor
open Go.RowKit
open Par (Tok Po Tr nx atP isT ba Res)

theorem Rd.setPr {w : World} {rb e : Nat} {bl pr : Int} {ts : List Tok} {v : Value} (h : Rd w rb e bl pr ts v) (n : Int) : Rd (w.setCell ⟨rb, 3, .none⟩ (.int .i64 n)) rb e bl n ts v := by
  refine ⟨?_, h.row.keeps ⟨by simp [World.setCell], fun b hb _ => Below.heap_setCell _ _ _ _ (by show b ≠ rb; omega)⟩, h.len, h.good, h.lv.keeps (by simp [World.setCell]) fun b hb => Below.heap_setCell _ _ _ _ (by show b ≠ rb; omega)⟩
  simp [World.setCell, Array.getElem?_modify, h.blk]
theorem Rd.setBl {w : World} {rb e : Nat} {bl pr : Int} {ts : List Tok} {v : Value} (h : Rd w rb e bl pr ts v) (n : Int) : Rd (w.setCell ⟨rb, 2, .none⟩ (.int .i64 n)) rb e n pr ts v := by
  refine ⟨?_, h.row.keeps ⟨by simp [World.setCell], fun b hb _ => Below.heap_setCell _ _ _ _ (by show b ≠ rb; omega)⟩, h.len, h.good, h.lv.keeps (by simp [World.setCell]) fun b hb => Below.heap_setCell _ _ _ _ (by show b ≠ rb; omega)⟩
  simp [World.setCell, Array.getElem?_modify, h.blk]

set_option maxRecDepth 100000 in
set_option maxHeartbeats 1000000 in
theorem rIn_many {w : World} {rb e : Nat} {bl : Int} {ts : List Tok} {v : Value} (h : Rd w rb e bl 12 ts v) :
    Calls Tryz.prog 81 #[.pointer (some ⟨rb, 0, none⟩), .pointer (some ⟨rb, 3, none⟩)] w fun x w' => x = goneE 2 (atP e ts) ∧ Below w.heap.size w w' := by
  have hmf : ∀ (fn : Fn) (first cap : Array Value) (w : World), (Instr.makeFunc fn first cap).run Tryz.prog w = .ok (.func fn first cap) w := fun _ _ _ _ => rfl
  obtain ⟨c0, c1, c2, c3⟩ := h.cells
  have hlt := h.lt
  have H : Hid (∀ o, Rd (w.alloc o) rb e bl 12 ts v) := fun o => h.keeps ((Below.refl _ _).alloc (Nat.le_refl _) o) h.lt
  clear h
  go_enter Tryz.func81, Tryz.ntmps81
  go_wp2_with fail
  refine (rGive_any _ (H.out _)).mono ?_
  rintro x w2 ⟨rfl, hw2⟩
  subst hw2
  exact ⟨rfl, rfl, (Below.refl _ _).alloc (Nat.le_refl _) _⟩
set_option maxRecDepth 100000 in
set_option maxHeartbeats 1000000 in
theorem rIn_some {w : World} {rb e d : Nat} {bl : Int} {ts : List Tok} {v : Value} (h : Rd w rb e bl d ts v) (hd : d < 12) :
    Calls Tryz.prog 81 #[.pointer (some ⟨rb, 0, none⟩), .pointer (some ⟨rb, 3, none⟩)] w fun x w' => x = .returned (.func (.func 125) #[] #[.pointer (some ⟨w.heap.size, 0, none⟩)]) ∧ w.grownBy w' (some rb) ∧ w.heap.size < w'.heap.size ∧ Rd w' rb e bl ((d + 1 : Nat) : Int) ts v ∧ w'.heap[w.heap.size]? = some (.cells #[.pointer (some ⟨rb, 3, none⟩)] 120 (0, 0)) := by
  have hmf : ∀ (fn : Fn) (first cap : Array Value) (w : World), (Instr.makeFunc fn first cap).run Tryz.prog w = .ok (.func fn first cap) w := fun _ _ _ _ => rfl
  obtain ⟨c0, c1, c2, c3⟩ := h.cells
  have z3 := h.frozen 3
  have hlt := h.lt
  have hn : (((d : Nat) : Int) == 12) = false := by simp; omega
  have H : Hid (∀ o, Rd ((w.setCell ⟨rb, 3, none⟩ (.int .i64 ((d + 1 : Nat) : Int))).alloc o) rb e bl ((d + 1 : Nat) : Int) ts v) := fun o => (h.setPr _).keeps ((Below.refl _ _).alloc (Nat.le_refl _) o) (by simpa [World.setCell] using h.lt)
  clear h
  go_enter Tryz.func81, Tryz.ntmps81
  go_wp2
  go_ret
  refine ⟨rfl, grown_alloc (grown_set (grown_refl _ _) rfl _) _, by simp [World.setCell], H.out _, heap_at_alloc _ _ _ (by simp [World.setCell])⟩
set_option maxRecDepth 100000 in
set_option maxHeartbeats 1000000 in
/- The step out, called where the step in's caller leaves. -/
theorem rOut {w : World} {rb e d bx : Nat} {bl : Int} {ts : List Tok} {v : Value} (u : FrameMode) (h : Rd w rb e bl ((d + 1 : Nat) : Int) ts v) (hb : w.heap[bx]? = some (.cells #[.pointer (some ⟨rb, 3, none⟩)] 120 (0, 0))) (hd : d ≤ 12) :
    CallsD Tryz.prog 125 #[.pointer (some ⟨bx, 0, none⟩)] u w fun x u' w' => u' = u ∧ (x = .returned (.tuple #[]) ∧ w' = w.setCell ⟨rb, 3, none⟩ (.int .i64 d) ∧ Rd w' rb e bl d ts v) := by
  obtain ⟨c0, c1, c2, c3⟩ := h.cells
  have z3 := h.frozen 3
  have hlt := h.lt
  have k0 : w.cell? ⟨bx, 0, none⟩ = some (.pointer (some ⟨rb, 3, none⟩)) := by simp [World.cell?, hb]
  have H : Hid (Rd (w.setCell ⟨rb, 3, none⟩ (.int .i64 (d : Int))) rb e bl d ts v) := h.setPr _
  clear h
  go_enter_d Tryz.func125, Tryz.ntmps125
  go_wp2
  go_end0
  exact ⟨rfl, rfl, H.out⟩
end Go.Proofs.YtcdeicfegfedfaaGreatDoor
