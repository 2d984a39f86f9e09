/- Contracts of (*reader).expr, call and named, where bound has one. -/
import Derived.Test.YtikejmokejghcaaGreatDoorBnd
namespace Go.Proofs.YtikejmokejghcaaGreatDoor
open Go.RowKit
open Par (Tok Po Tr nx atP isT ba Res)

def ExpC (rb e : Nat) (bl pr : Int) (E : List Tok → Res Tr) : Prop := ∀ (w : World) (ts : List Tok) (v : Value), Rd w rb e bl pr ts v → Calls Tryz.prog 11 #[.pointer (some ⟨rb, 0, none⟩)] w (Post w rb e bl pr (E ts) (VE w.heap.size))
set_option maxRecDepth 100000 in
set_option maxHeartbeats 4000000 in
theorem exprC {rb e : Nat} {bl pr : Int} {P : List Tok → Res Tr} (hB : BndC rb e bl pr P 5) : ExpC rb e bl pr (Par.bd P 5) := by
  intro w ts v h
  have hrl := h.lt
  obtain ⟨w0, hw0⟩ : ∃ w0, w0 = w.alloc (.cells ZE 26) := ⟨_, rfl⟩
  have hbel : Below w.heap.size w w0 := by rw [hw0]; exact (Below.refl _ _).alloc (Nat.le_refl _) _
  have hs0 : w0.heap.size = w.heap.size + 1 := by rw [hw0]; simp
  have hres : w0.heap[w.heap.size]? = some (.cells ZE 26 (0, 0)) := by rw [hw0]; exact heap_at_alloc _ _ _ rfl
  have HP := hB w0 ts v (h.keeps hbel h.lt)
  unfold ZE at hw0
  clear h hB
  go_enter Tryz.func11, Tryz.ntmps11
  go_wp2_with fail
  rw [← hw0]
  refine HP.mono ?_
  rintro x w1 ⟨hg1, ⟨a, r, hr, u, v1, rfl, ⟨z0, z1, z2, z3, z4, z5, m5, d5, z6, m6, d6, rfl, hx⟩, h1⟩ | ⟨cc, q, hr, rfl, r, v1, h1⟩⟩
  · have hres1 : w1.heap[w.heap.size]? = some (.cells ZE 26 (0, 0)) := (hg1.block _ (by omega) (by simp; omega)).trans hres
    have hn1 := lt_of_block hres1
    unfold ZE at hres1
    obtain ⟨⟨q0, q1, q2, q3, q4, q5, q6⟩, p0, p1, p2, p3, p4, p5, p6⟩ := blkE hres1
    have HF := fin7 (grown_trans (grown_of_below _ hbel) hg1) h1 hrl (by rw [hs0] at hx; exact hx)
    have HFF : Hid _ := HF
    have HR : Hid (Par.bd P 5 ts = .ok a r) := hr
    clear hg1 hx h1 hres1 HF hr HP hres hbel
    go_wp2
    refine bodyPost_ret (v := .agg #[.int .i64 z0, .int .i64 z1, .int .i64 z2, .int .i64 z3, .string z4, .slice z5 m5 d5, .slice z6 m6 d6]) (by simp [results, Tryz.results11, go_sem, q0, q1, q2, q3, q4, q5, q6]) rfl ?_
    obtain ⟨f1, f2, f3⟩ := HFF.out
    exact ⟨f1, .inl ⟨_, _, HR.out, _, _, rfl, ⟨_, _, _, _, _, _, _, _, _, _, _, rfl, f3⟩, f2⟩⟩
  · exact ⟨rfl, grown_trans (grown_of_below _ hbel) hg1, .inr ⟨_, _, hr, rfl, _, _, h1⟩⟩
/- A call's parts, behind its name. -/
set_option maxRecDepth 100000 in
set_option maxHeartbeats 4000000 in
theorem callC {rb e : Nat} {bl pr : Int} {E : List Tok → Res Tr} (hE : ExpC rb e bl pr E) {w : World} {ts : List Tok} {v : Value} (h : Rd w rb e bl pr ts v) (q : Nat) (s : ByteArray) (hs : s.size ≤ maxLen) :
    Calls Tryz.prog 68 #[.pointer (some ⟨rb, 0, none⟩), .int .i64 (q : Int), .string s] w (Post w rb e bl pr ((Par.encl e [40] [44] [41] 4 E ts).bind fun a r => .ok (Tr.mk 4 q 0 0 s [] a) r) (VE w.heap.size)) := by
  have hmf : ∀ (fn : Fn) (first cap : Array Value) (w : World), (Instr.makeFunc fn first cap).run Tryz.prog w = .ok (.func fn first cap) w := fun _ _ _ _ => rfl
  have hrl := h.lt
  obtain ⟨w0, hw0⟩ : ∃ w0, w0 = w.alloc (.cells ZE 26) := ⟨_, rfl⟩
  have hbel : Below w.heap.size w w0 := by rw [hw0]; exact (Below.refl _ _).alloc (Nat.le_refl _) _
  have hs0 : w0.heap.size = w.heap.size + 1 := by rw [hw0]; simp
  have hres : w0.heap[w.heap.size]? = some (.cells ZE 26 (0, 0)) := by rw [hw0]; exact heap_at_alloc _ _ _ rfl
  have HP := enclE (h.keeps hbel h.lt) ⟨#[40]⟩ ⟨#[44]⟩ ⟨#[41]⟩ (by decide) (by decide) (by decide) 4 (by omega) (by omega) 11 #[.pointer (some ⟨rb, 0, none⟩)] #[] (enters_of Tryz.func11 (by kernel_rfl) rfl) E (fun w' ts' v' _ hr => hE w' ts' v' hr)
  unfold ZE at hw0
  clear h hE
  go_enter Tryz.func68, Tryz.ntmps68
  go_wp2_with fail
  rw [← hw0]
  refine HP.mono ?_
  rintro x w1 ⟨hg1, ⟨a, r, hr, u, v1, rfl, ⟨B, hB, ho⟩, h1⟩ | ⟨cc, q1, hr, rfl, r, v1, h1⟩⟩
  · obtain ⟨ao, c, rfl⟩ := ho.slice
    have hres1 : w1.heap[w.heap.size]? = some (.cells ZE 26 (0, 0)) := (hg1.block _ (by omega) (by simp; omega)).trans hres
    have hn1 := lt_of_block hres1
    unfold ZE at hres1
    obtain ⟨⟨q0, q1, q2, q3, q4, q5, q6⟩, p0, p1, p2, p3, p4, p5, p6⟩ := blkE hres1
    have ht : TrIs w1 (fun b => w.heap.size + 1 ≤ b) (.mk 4 q 0 0 s [] a) [.int .i64 4, .int .i64 (q : Int), .int .i64 0, .int .i64 0, .string s, .slice none 0 0, .slice ao a.length c] := by
      obtain ⟨css, k1, k2, k3⟩ := (ho.row isElT)
      exact .mk hs (labNone _ _) (k1.mono fun b hb _ => by omega) k2 (fun i hi hi' => TrIs.mono (k3 i hi hi') fun b hb _ => by omega)
    have HF := fin7 (grown_trans (grown_of_below _ hbel) hg1) h1 hrl ht
    have HFF : Hid _ := HF
    have HR : Hid (((Par.encl e [40] [44] [41] 4 E ts).bind fun a r => .ok (Tr.mk 4 q 0 0 s [] a) r) = .ok (Tr.mk 4 q 0 0 s [] a) r) := by show _ = _; rw [show Par.encl e [40] [44] [41] 4 E ts = .ok a r from hr]; rfl
    clear hg1 h1 hres1 HF hr HP hres hbel ho ht
    go_wp2
    refine bodyPost_ret (v := .agg #[.int .i64 4, .int .i64 (q : Int), .int .i64 0, .int .i64 0, .string s, .slice none 0 0, .slice ao a.length c]) (by simp [results, Tryz.results68, go_sem, q0, q1, q2, q3, q4, q5, q6]) rfl ?_
    obtain ⟨f1, f2, f3⟩ := HFF.out
    exact ⟨f1, .inl ⟨_, _, HR.out, _, _, rfl, ⟨_, _, _, _, _, _, _, _, _, _, _, rfl, f3⟩, f2⟩⟩
  · refine ⟨rfl, grown_trans (grown_of_below _ hbel) hg1, .inr ⟨cc, q1, ?_, rfl, _, _, h1⟩⟩
    rw [show Par.encl e [40] [44] [41] 4 E ts = .no cc q1 from hr]; rfl
theorem leafT {w : World} {S : Nat → Prop} (k p n t : Int) {s : ByteArray} (hs : s.size ≤ maxLen) : TrIs w S (.mk k p n t s [] []) [.int .i64 k, .int .i64 p, .int .i64 n, .int .i64 t, .string s, .slice none 0 0, .slice none 0 0] :=
  .mk hs (labNone _ _) (RowV.none _ _ _ _) rfl (fun i hi => by simp at hi)
set_option maxRecDepth 100000 in
set_option maxHeartbeats 4000000 in
theorem namedC {rb e : Nat} {bl pr : Int} {E : List Tok → Res Tr} (hE : ExpC rb e bl pr E) {w : World} {t : Tok} {r : List Tok} {v : Value} (h : Rd w rb e bl pr (t :: r) v) (hk : t.1 = 1) :
    Calls Tryz.prog 39 #[.pointer (some ⟨rb, 0, none⟩)] w (Post w rb e bl pr (Par.namedR e E (t :: r)) (VE w.heap.size)) := by
  have hrl := h.lt
  obtain ⟨w0, hw0⟩ : ∃ w0, w0 = w.alloc (.cells ZE 26) := ⟨_, rfl⟩
  have hbel : Below w.heap.size w w0 := by rw [hw0]; exact (Below.refl _ _).alloc (Nat.le_refl _) _
  have hs0 : w0.heap.size = w.heap.size + 1 := by rw [hw0]; simp
  have hres : w0.heap[w.heap.size]? = some (.cells ZE 26 (0, 0)) := by rw [hw0]; exact heap_at_alloc _ _ _ rfl
  have H0 : Hid (Rd w0 rb e bl pr (t :: r) v) := h.keeps hbel h.lt
  have HNM : Hid (Par.nameR e (t :: r) = .ok (ba t.2.2) r) := by show _ = _; unfold Par.nameR; rw [if_pos (show (nx (t :: r)).1 = 1 from hk)]; rfl
  have HEQ : Hid (Par.namedR e E (t :: r) = if isT [40] r = true then (Par.encl e [40] [44] [41] 4 E r).bind fun a r2 => .ok (Tr.mk 4 t.2.1 0 0 (ba t.2.2) [] a) r2 else .ok (Tr.mk 2 t.2.1 0 0 (ba t.2.2) [] []) r) := rfl
  unfold ZE at hw0
  clear h hk
  go_enter Tryz.func39, Tryz.ntmps39
  go_wp2_with fail
  rw [← hw0]
  clear hw0
  refine (rAt_any H0.out).mono ?_
  rintro x w0' ⟨rfl, hw0'⟩
  have hw0s := hw0'.symm; subst hw0s
  rw [show atP e (t :: r) = t.2.1 from rfl]
  go_wp2_with fail
  refine (rName_any H0.out).mono ?_
  rintro x w1 ⟨hg1, ⟨a, r1, hr, u, v1, rfl, ⟨rfl, hz⟩, h1⟩ | ⟨cc, q, hr, rfl, r1, v1, h1⟩⟩
  · rw [HNM.out] at hr
    cases hr
    have HG1 : Hid (w.grownBy w1 (some rb)) := grown_trans (grown_of_below _ hbel) hg1
    have hz1 := hg1.size
    have hres1 : w1.heap[w.heap.size]? = some (.cells ZE 26 (0, 0)) := (hg1.block _ (by omega) (by simp; omega)).trans hres
    have H1 : Hid (Rd w1 rb e bl pr r v1) := h1
    have HR1 : Hid (w1.heap[w.heap.size]? = some (.cells ZE 26 (0, 0))) := hres1
    clear hg1 h1 hres1 hres
    go_wp2_with fail
    refine (rIs_any _ H1.out).mono ?_
    rintro x w2 ⟨rfl, hb2⟩
    have HG2 : Hid (w.grownBy w2 (some rb)) := grown_below HG1.out hb2
    have hz2 := hb2.size
    have H2 : Hid (Rd w2 rb e bl pr r v1) := H1.out.keeps hb2 H1.out.lt
    have hres2 : w2.heap[w.heap.size]? = some (.cells ZE 26 (0, 0)) := (hb2.block _ (by omega)).trans HR1.out
    clear hb2
    cases hi : isT (⟨#[40]⟩ : ByteArray).data.toList r with
    | true =>
      have HC := callC hE H2.out t.2.1 (ba t.2.2) hz
      have HF1 : Hid (Par.namedR e E (t :: r) = (Par.encl e [40] [44] [41] 4 E r).bind fun a r2 => .ok (Tr.mk 4 t.2.1 0 0 (ba t.2.2) [] a) r2) := by show _ = _; rw [HEQ.out, if_pos hi]
      have HR2 : Hid (w2.heap[w.heap.size]? = some (.cells ZE 26 (0, 0))) := hres2
      clear hres2 hi
      go_wp2_with fail
      refine HC.mono ?_
      rintro x w3 ⟨hg3, ⟨a, r3, hr, u, v3, rfl, ⟨z0, z1, z2, z3, z4, z5, m5, d5, z6, m6, d6, rfl, hx⟩, h3⟩ | ⟨cc, q, hr, rfl, r3, v3, h3⟩⟩
      · have hres3 : w3.heap[w.heap.size]? = some (.cells ZE 26 (0, 0)) := (hg3.block _ (by omega) (by simp; omega)).trans HR2.out
        have hn3 := lt_of_block hres3
        unfold ZE at hres3
        obtain ⟨⟨q0, q1, q2, q3, q4, q5, q6⟩, p0, p1, p2, p3, p4, p5, p6⟩ := blkE hres3
        have HF := fin7 (grown_trans HG2.out hg3) h3 hrl (TrIs.mono hx fun b hb _ => by omega)
        have HFF : Hid _ := HF
        have HR : Hid (Par.namedR e E (t :: r) = .ok a r3) := by show _ = _; rw [HF1.out, hr]
        clear hg3 hx h3 hres3 HF hr HC
        go_wp2
        refine bodyPost_ret (v := .agg #[.int .i64 z0, .int .i64 z1, .int .i64 z2, .int .i64 z3, .string z4, .slice z5 m5 d5, .slice z6 m6 d6]) (by simp [results, Tryz.results39, go_sem, q0, q1, q2, q3, q4, q5, q6]) rfl ?_
        obtain ⟨f1, f2, f3⟩ := HFF.out
        exact ⟨f1, .inl ⟨_, _, HR.out, _, _, rfl, ⟨_, _, _, _, _, _, _, _, _, _, _, rfl, f3⟩, f2⟩⟩
      · exact ⟨rfl, grown_trans HG2.out hg3, .inr ⟨cc, q, by rw [HF1.out, hr], rfl, _, _, h3⟩⟩
    | false =>
      have HR : Hid (Par.namedR e E (t :: r) = .ok (Tr.mk 2 t.2.1 0 0 (ba t.2.2) [] []) r) := by show _ = _; rw [HEQ.out, if_neg (by rw [show isT [40] r = false from hi]; simp)]
      have hn2 := lt_of_block hres2
      unfold ZE at hres2
      obtain ⟨⟨q0, q1, q2, q3, q4, q5, q6⟩, p0, p1, p2, p3, p4, p5, p6⟩ := blkE hres2
      have HF := fin7 HG2.out H2.out hrl (leafT 2 (t.2.1 : Int) 0 0 hz)
      have HFF : Hid _ := HF
      clear hres2 HF hi
      go_wp2
      refine bodyPost_ret (v := .agg #[.int .i64 2, .int .i64 (t.2.1 : Int), .int .i64 0, .int .i64 0, .string (ba t.2.2), .slice none 0 0, .slice none 0 0]) (by simp [results, Tryz.results39, go_sem, q0, q1, q2, q3, q4, q5, q6]) rfl ?_
      obtain ⟨f1, f2, f3⟩ := HFF.out
      exact ⟨f1, .inl ⟨_, _, HR.out, _, _, rfl, ⟨_, _, _, _, _, _, _, _, _, _, _, rfl, f3⟩, f2⟩⟩
  · rw [HNM.out] at hr; cases hr
end Go.Proofs.YtikejmokejghcaaGreatDoor
