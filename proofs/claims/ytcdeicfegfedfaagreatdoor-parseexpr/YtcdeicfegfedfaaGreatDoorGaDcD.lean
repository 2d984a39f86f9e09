/- The document's own reader: args, where it goes on. The document's own reader: a step from where it stands, on or stopped: need, name. -/
import Derived.Test.YtcdeicfegfedfaaGreatDoorGaDcA
import Derived.Test.YtcdeicfegfedfaaGreatDoorRlE
namespace Go.Proofs.YtcdeicfegfedfaaGreatDoor
open Go.RowKit
open Par (Tok Tr Po Res nx atP isT seesB ba)

theorem grown_under {w w1 w2 : World} {tb : Nat} (h : w.grownBy w1 (some tb)) (hb : Below w.heap.size w1 w2) : w.grownBy w2 (some tb) :=
  ⟨hb.os.trans h.os, hb.tape.trans h.tape, hb.output.trans h.output, Nat.le_trans h.size hb.size, fun j hj hne => (hb.block j hj).trans (h.block j hj hne)⟩
/- What a step of the reader comes to: on (nothing is wrong), or stopped (and some value of that form is handed back). -/
def DPost {α : Type} (w : World) (tb e : Nat) (ts : List Tok) (v : Value) (bl al : Int) (res : Res α) (V : World → α → Value → Prop) (J : Value → Prop) (x : Ending) (w' : World) : Prop :=
  w.grownBy w' (some tb) ∧ ((∃ a k p u, res = .ok a (ts.drop k) ∧ x = .returned u ∧ V w' a u ∧ Tx w' tb e ts v k 0 p bl al) ∨ (∃ c q u, res = .no c q ∧ x = .returned u ∧ J u ∧ c ≠ 0 ∧ Tx w' tb e ts v ts.length c (q : Int) bl al))
def JL (u : Value) : Prop := ∃ (ao : Option Addr) (n c : Nat), u = .slice ao n c
def JE (u : Value) : Prop := ∃ (z0 z1 z2 z3 : Int) (z4 : ByteArray) (z5 : Option Addr) (m5 d5 : Nat) (z6 : Option Addr) (m6 d6 : Nat), u = .agg #[.int .i64 z0, .int .i64 z1, .int .i64 z2, .int .i64 z3, .string z4, .slice z5 m5 d5, .slice z6 m6 d6]
def ExD (tb e : Nat) (ts : List Tok) (v : Value) (bl al : Int) (E : List Tok → Res Tr) : Prop := ∀ (w : World) (k : Nat) (p : Int), Tx w tb e ts v k 0 p bl al → Calls Tryz.prog 18 #[.pointer (some ⟨tb, 0, none⟩)] w (DPost w tb e ts v bl al (E (ts.drop k)) (VE w.heap.size) JE)
theorem Tx.past {w w1 w2 : World} {tb e : Nat} {ts : List Tok} {v : Value} {k0 k : Nat} {c0 p0 c p bl0 al0 bl al : Int} (h0 : Tx w tb e ts v k0 c0 p0 bl0 al0) (h1 : w.grownBy w1 (some tb)) (t1 : Tx w1 tb e ts v k c p bl al) (hb : Below w.heap.size w1 w2) : Tx w2 tb e ts v k c p bl al :=
  h0.kept (grown_under h1 hb) ((hb.block tb h0.lt).trans t1.blk) t1.le t1.big

theorem fix_sign {s : List UInt8} (h : Lex.nameB (Lex.c0 s) = false) : Par.Fix s := .inr h
theorem sees_at {ts : List Tok} (hg : Par.Good ts) {s : List UInt8} (hs : Par.Fix s) (h0 : s ≠ []) (k : Nat) : seesB s (ts.drop k) = isT s (ts.drop k) := Par.sees_eq (hg.sfx (List.drop_suffix _ _)) hs h0
/- Where args's loop stands: with some arguments read, or stopped. -/
def ArOn (w wr : World) (tb e : Nat) (ts : List Tok) (v : Value) (bl al : Int) (E : List Tok → Res Tr) (k : Nat) (lv : Value) (acc : List Tr) (kk : Nat) (pp : Int) : Prop :=
  w.grownBy wr (some tb) ∧ Tx wr tb e ts v kk 0 pp bl al ∧ OwnL ElT wr w.heap.size 26 7 lv acc ∧ Par.listR e [44] 4 E (ts.drop k) = Par.listF e [44] E (4 - acc.length) acc (ts.drop kk)
def ArNo (w wr : World) (tb e : Nat) (ts : List Tok) (v : Value) (bl al : Int) (E : List Tok → Res Tr) (k : Nat) (c : Int) (q : Nat) : Prop :=
  w.grownBy wr (some tb) ∧ c ≠ 0 ∧ Tx wr tb e ts v ts.length c (q : Int) bl al ∧ Par.listR e [44] 4 E (ts.drop k) = .no c q

theorem exd_cases {w w' : World} {tb e : Nat} {ts : List Tok} {v : Value} {bl al : Int} {res : Res Tr} {B : Nat} {x : Ending} (h : DPost w tb e ts v bl al res (VE B) JE x w') : w.grownBy w' (some tb) ∧ ∃ (z0 z1 z2 z3 : Int) (z4 : ByteArray) (z5 : Option Addr) (m5 d5 : Nat) (z6 : Option Addr) (m6 d6 : Nat), x = .returned (.agg #[.int .i64 z0, .int .i64 z1, .int .i64 z2, .int .i64 z3, .string z4, .slice z5 m5 d5, .slice z6 m6 d6]) ∧ ((∃ a k p, res = .ok a (ts.drop k) ∧ ElT w' (fun b => B ≤ b) a [.int .i64 z0, .int .i64 z1, .int .i64 z2, .int .i64 z3, .string z4, .slice z5 m5 d5, .slice z6 m6 d6] ∧ Tx w' tb e ts v k 0 p bl al) ∨ (∃ c q, res = .no c q ∧ c ≠ 0 ∧ Tx w' tb e ts v ts.length c (q : Int) bl al)) := by
  obtain ⟨h1, ⟨a, k, p, u, h2, h3, ⟨z0, z1, z2, z3, z4, z5, m5, d5, z6, m6, d6, h4, h5⟩, h6⟩ | ⟨c, q, u, h2, h3, ⟨z0, z1, z2, z3, z4, z5, m5, d5, z6, m6, d6, h4⟩, h5, h6⟩⟩ := h
  · subst h4
    exact ⟨h1, _, _, _, _, _, _, _, _, _, _, _, h3, .inl ⟨a, k, p, h2, h5, h6⟩⟩
  · subst h4
    exact ⟨h1, _, _, _, _, _, _, _, _, _, _, _, h3, .inr ⟨c, q, h2, h5, h6⟩⟩
theorem Tx.next {w : World} {tb e : Nat} {ts : List Tok} {v : Value} {k : Nat} {c p bl al : Int} (h : Tx w tb e ts v k c p bl al) (hk : k < ts.length) : w.grownBy (w.setCell ⟨tb, 1, none⟩ (.int .i64 ((k : Int) + 1))) (some tb) ∧ Tx (w.setCell ⟨tb, 1, none⟩ (.int .i64 ((k : Int) + 1))) tb e ts v (k + 1) c p bl al := by
  have e1 : (k : Int) + 1 = ((k + 1 : Nat) : Int) := by omega
  rw [e1]
  have hg : w.grownBy (w.setCell ⟨tb, 1, none⟩ (.int .i64 ((k + 1 : Nat) : Int))) (some tb) := grown_set (grown_refl _ _) rfl _
  exact ⟨hg, h.kept hg (tx_set1 (k' := k + 1) h.blk) (by omega) h.big⟩
theorem isT_lt {ts : List Tok} {s : List UInt8} {k : Nat} (h0 : s ≠ []) (h : isT s (ts.drop k) = true) : k < ts.length := by
  apply Classical.byContradiction
  intro hne
  rw [List.drop_of_length_le (by omega)] at h
  simp [isT, nx] at h
  exact h0 h

theorem listF_end {α : Type} {e : Nat} {s : List UInt8} {P : List Tok → Res α} {m : Nat} {acc : List α} {ts : List Tok} (h : isT s ts = false) : Par.listF e s P m acc ts = .ok acc ts := by
  cases m <;> simp [Par.listF, h]
theorem listF_full {α : Type} {e : Nat} {s : List UInt8} {P : List Tok → Res α} {acc : List α} {ts : List Tok} (h : isT s ts = true) : Par.listF e s P 0 acc ts = .no 2 (atP e ts) := by simp [Par.listF, h]
theorem listF_more {α : Type} {e : Nat} {s : List UInt8} {P : List Tok → Res α} {m : Nat} {acc : List α} {ts : List Tok} {k : Nat} (h : isT s (ts.drop k) = true) : Par.listF e s P (m + 1) acc (ts.drop k) = (P (ts.drop (k + 1))).bind fun a r => Par.listF e s P m (acc ++ [a]) r := by
  simp [Par.listF, h]
theorem must_at {e : Nat} {s : List UInt8} {ts : List Tok} {k : Nat} {b : Bool} (h : isT s (ts.drop k) = b) : Par.must e s (ts.drop k) = if b = true then .ok (nx (ts.drop k)).2.1 (ts.drop (k + 1)) else .no 1 (atP e (ts.drop k)) := by
  unfold Par.must
  rw [h, drop_tail]

set_option maxRecDepth 100000 in
set_option maxHeartbeats 8000000 in
theorem argsD {w : World} {tb e : Nat} {ts : List Tok} {v : Value} {bl al : Int} {E : List Tok → Res Tr} (hgd : Par.Good ts) (hE : ExD tb e ts v bl al E) {k : Nat} {p : Int} (h : Tx w tb e ts v k 0 p bl al) :
    Calls Tryz.prog 72 #[.pointer (some ⟨tb, 0, none⟩)] w (DPost w tb e ts v bl al (Par.encl e [40] [44] [41] 4 E (ts.drop k)) (fun w' l u => OwnL ElT w' w.heap.size 26 7 u l) JL) := by
  have hn := needD [40] h
  have H : Hid (Tx w tb e ts v k 0 p bl al) := h
  have HE : Hid (ExD tb e ts v bl al E) := hE
  have HGd : Hid (Par.Good ts) := hgd
  have hlt0 := h.lt
  rw [sees_at hgd (fix_sign (by decide)) (by decide)] at hn
  have HI : Hid (∀ b, isT [40] (ts.drop k) = b → Par.encl e [40] [44] [41] 4 E (ts.drop k) = if b = true then ((if isT [41] (ts.drop (k + 1)) = true then Res.ok [] (ts.drop (k + 1)) else Par.listR e [44] 4 E (ts.drop (k + 1))).bind fun l r2 => (Par.must e [41] r2).bind fun _ r3 => .ok l r3) else .no 1 (atP e (ts.drop k))) := by
    show ∀ b, _
    intro b hb
    unfold Par.encl Par.must
    rw [hb]
    cases b
    · rfl
    · simp only [if_true, drop_tail]
      rfl
  obtain ⟨r, hr⟩ : ∃ r, isT [40] (ts.drop k) = r := ⟨_, rfl⟩
  obtain ⟨R, hR⟩ : ∃ R, R = Par.encl e [40] [44] [41] 4 E (ts.drop k) := ⟨_, rfl⟩
  have HR := hR.trans (HI.out r hr)
  have HR : Hid (R = _) := HR
  rw [← hR]
  rw [hr] at hn
  clear h hE hgd hr HI hR
  go_enter Tryz.func72, Tryz.ntmps72
  go_wp2_with fail
  refine hn.mono ?_
  rintro x w1 ⟨rfl, hnd⟩
  have HG1 : Hid (w.grownBy w1 (some tb)) := hnd.1
  cases r with
  | false =>
    have H1 : Hid (Tx w1 tb e ts v ts.length 1 (atP e (ts.drop k) : Int) bl al) := hnd.2.2 rfl
    have hs := skipD [41] H1.out
    rw [sees_end] at hs
    clear hnd hn
    go_wp2_with fail
    refine hs.mono ?_
    rintro x w2 ⟨rfl, hsk⟩
    have H2 : Hid (Tx w2 tb e ts v ts.length 1 (atP e (ts.drop k) : Int) bl al) := hsk.2.2
    obtain ⟨q0, q1, q2, q3, q4, q5, q6⟩ := H2.out.cells
    have hlt := H2.out.lt
    have HG2 : Hid (w.grownBy w2 (some tb)) := HG1.out.trans hsk.1
    clear hsk hs
    go_wp2
    go_ret
    exact ⟨HG2.out, .inr ⟨1, _, _, HR.out, rfl, ⟨_, _, _, rfl⟩, by decide, H2.out⟩⟩
  | true =>
    have HK : Hid (k < ts.length) := (hnd.2.1 rfl).1
    have H1 : Hid (Tx w1 tb e ts v (k + 1) 0 p bl al) := (hnd.2.1 rfl).2
    have hs := skipD [41] H1.out
    rw [sees_at HGd.out (fix_sign (by decide)) (by decide)] at hs
    obtain ⟨r2, hr2⟩ : ∃ r2, isT [41] (ts.drop (k + 1)) = r2 := ⟨_, rfl⟩
    have HR2 : Hid (isT [41] (ts.drop (k + 1)) = r2) := hr2
    rw [hr2] at hs
    clear hnd hn hr2
    go_wp2_with fail
    refine hs.mono ?_
    rintro x w2 ⟨rfl, hsk⟩
    have HG2 : Hid (w.grownBy w2 (some tb)) := HG1.out.trans hsk.1
    cases r2 with
    | true =>
      have H2 : Hid (Tx w2 tb e ts v (k + 1 + 1) 0 p bl al) := hsk.2.2
      clear hsk hs
      go_wp2
      go_ret
      refine ⟨HG2.out, .inl ⟨[], k + 1 + 1, p, _, ?_, rfl, OwnL.nil _ _ _ _ _, H2.out⟩⟩
      rw [HR.out]
      simp [Res.bind, Par.must, HR2.out]
    | false =>
      have H2 : Hid (Tx w2 tb e ts v (k + 1) 0 p bl al) := hsk.2.2
      have HRL : Hid (R = (Par.listR e [44] 4 E (ts.drop (k + 1))).bind fun l r2 => (Par.must e [41] r2).bind fun _ r3 => .ok l r3) := by
        show _ = _
        rw [HR.out, HR2.out]
        rfl
      obtain ⟨q0, q1, q2, q3, q4, q5, q6⟩ := H2.out.cells
      have hlt := H2.out.lt
      have hx := HE.out w2 (k + 1) p H2.out
      clear hsk hs
      go_wp2_with fail
      refine hx.mono ?_
      intro x w3 hp3
      obtain ⟨hg3, z0, z1, z2, z3, z4, z5, m5, d5, z6, m6, d6, rfl, hcs⟩ := exd_cases hp3
      have HS : Hid ((∃ acc kk pp, 1 = acc.length ∧ ArOn w (w3.alloc (.cells #[.int .i64 z0, .int .i64 z1, .int .i64 z2, .int .i64 z3, .string z4, .slice z5 m5 d5, .slice z6 m6 d6] 26)) tb e ts v bl al E (k + 1) (.slice (some ⟨w3.heap.size, 0, none⟩) 1 1) acc kk pp) ∨ (∃ c q, ArNo w (w3.alloc (.cells #[.int .i64 z0, .int .i64 z1, .int .i64 z2, .int .i64 z3, .string z4, .slice z5 m5 d5, .slice z6 m6 d6] 26)) tb e ts v bl al E (k + 1) c q)) := by
        have hb4 : Below w3.heap.size w3 (w3.alloc (.cells #[.int .i64 z0, .int .i64 z1, .int .i64 z2, .int .i64 z3, .string z4, .slice z5 m5 d5, .slice z6 m6 d6] 26)) := (Below.refl _ _).alloc (Nat.le_refl _) _
        have hgw : w.grownBy w3 (some tb) := HG2.out.trans hg3
        have hle := HG2.out.size
        have hle3 := hgw.size
        have hg4 := grown_under hgw (hb4.mono hle3)
        rcases hcs with ⟨a, k2, p2, h1, h2, h3⟩ | ⟨c, q, h1, h2, h3⟩
        · refine .inl ⟨[a], k2, p2, rfl, hg4, h3.later hb4, ?_, by unfold Par.listR; rw [h1]; rfl⟩
          exact OwnL.one isElT (isElT.mono h2 fun b hb _ => by omega) hle3
        · exact .inr ⟨c, q, hg4, h2, h3.later hb4, by unfold Par.listR; rw [h1]; rfl⟩
      clear hp3 hg3 hcs hx q0 q1 q2 q3 q4 q5 q6 hlt
      go_wp2
      go_loopw [3] (fun lv wr => ∃ ao n cc, lv = .slice ao n cc ∧ 1 ≤ n ∧ n ≤ 4 ∧ Hid ((∃ acc kk pp, n = acc.length ∧ ArOn w wr tb e ts v bl al E (k + 1) lv acc kk pp) ∨ (∃ c q, ArNo w wr tb e ts v bl al E (k + 1) c q))) (fun lv _ => 4 - lenOf lv)
      case atStart => exact ⟨_, _, _, rfl, Nat.le_refl _, by omega, HS.out⟩
      case round =>
        clear HS
        obtain ⟨ao, n, cc, rfl, hn1, hn4, HD⟩ := hrel
        rcases HD.out with ⟨acc, kk, pp, hn, hon⟩ | ⟨c, q, hno⟩
        · clear HD
          subst hn
          have HO : Hid (ArOn w wr tb e ts v bl al E (k + 1) (.slice ao acc.length cc) acc kk pp) := hon
          have hs := seesD [44] hon.2.1
          rw [sees_at HGd.out (fix_sign (by decide)) (by decide)] at hs
          obtain ⟨r3, hr3⟩ : ∃ r3, isT [44] (ts.drop kk) = r3 := ⟨_, rfl⟩
          have HR3 : Hid (isT [44] (ts.drop kk) = r3) := hr3
          rw [hr3] at hs
          clear hon hr3
          go_wp2_with fail
          refine hs.mono ?_
          rintro x w5 ⟨rfl, hb5⟩
          have H5 : Hid (Tx w5 tb e ts v kk 0 pp bl al) := HO.out.2.1.later hb5
          have HG5 : Hid (w.grownBy w5 (some tb)) := grown_under HO.out.1 (hb5.mono HO.out.1.size)
          have HO5 : Hid (OwnL ElT w5 w.heap.size 26 7 (.slice ao acc.length cc) acc) := HO.out.2.2.1.below isElT hb5
          clear hb5 hs
          cases r3 with
          | false =>
            have hnd := needD [41] H5.out
            rw [sees_at HGd.out (fix_sign (by decide)) (by decide)] at hnd
            obtain ⟨r4, hr4⟩ : ∃ r4, isT [41] (ts.drop kk) = r4 := ⟨_, rfl⟩
            have HR4 : Hid (isT [41] (ts.drop kk) = r4) := hr4
            rw [hr4] at hnd
            clear hr4
            go_wp2_with fail
            refine hnd.mono ?_
            rintro x w6 ⟨rfl, hn6⟩
            have HN6 : Hid (NdP w5 tb e ts v kk 0 pp bl al r4 w6) := hn6
            clear hn6 hnd
            go_wp2
            go_ret
            have hl := HO.out.2.2.2
            rw [listF_end HR3.out] at hl
            have hRR := HRL.out
            rw [hl] at hRR
            simp only [Res.bind] at hRR
            rw [must_at HR4.out] at hRR
            obtain ⟨hn1', hn2, hn3⟩ := HN6.out
            have HG6 : w.grownBy w6 (some tb) := HG5.out.trans hn1'
            cases r4 with
            | true =>
              refine ⟨HG6, .inl ⟨acc, kk + 1, pp, _, hRR, rfl, HO5.out.grown isElT hn1' H.out.lt, (hn2 rfl).2⟩⟩
            | false =>
              refine ⟨HG6, .inr ⟨1, _, _, hRR, rfl, ⟨_, _, _, rfl⟩, by decide, ?_⟩⟩
              exact hn3 rfl
          | true =>
            have HKK : Hid (kk < ts.length) := isT_lt (by decide) HR3.out
            by_cases hf : acc.length = 4
            · have hwr := wrongD 2 H5.out
              have HF : Hid (acc.length = 4) := hf
              have hd : decide ((4 : Int) ≤ (acc.length : Int)) = true := by simp; omega
              clear hf
              go_wp2_with fail
              refine hwr.mono ?_
              rintro x w6 ⟨rfl, hw6⟩
              have HW6 : Hid (WrP w5 tb e ts v kk 0 pp bl al 2 w6) := hw6
              clear hw6 hwr
              go_wp2
              go_ret
              have hl := HO.out.2.2.2
              rw [HF.out, listF_full HR3.out] at hl
              have hRR := HRL.out
              rw [hl] at hRR
              obtain ⟨h8, h9⟩ := HW6.out
              rw [if_pos rfl, if_pos rfl] at h9
              exact ⟨HG5.out.trans h8, .inr ⟨2, _, _, hRR, rfl, ⟨_, _, _, rfl⟩, by decide, h9⟩⟩
            · have hd : decide ((4 : Int) ≤ (acc.length : Int)) = false := by simp; omega
              have HF : Hid (acc.length < 4) := by show _ < _; omega
              obtain ⟨q0, q1, _⟩ := H5.out.cells
              have z1 := H5.out.free 1
              have hlt := H5.out.lt
              have hkb : kk ≤ 100000 := Nat.le_trans H5.out.le H5.out.few
              obtain ⟨hg6, h6⟩ := H5.out.next HKK.out
              have HG6 : Hid (w.grownBy (w5.setCell ⟨tb, 1, none⟩ (.int .i64 ((kk : Int) + 1))) (some tb)) := HG5.out.trans hg6
              have HO6 : Hid (OwnL ElT (w5.setCell ⟨tb, 1, none⟩ (.int .i64 ((kk : Int) + 1))) w.heap.size 26 7 (.slice ao acc.length cc) acc) := HO5.out.grown isElT hg6 H.out.lt
              have hx := HE.out _ _ _ h6
              clear hf hg6 h6
              go_wp2_with fail
              obtain ⟨w6, hw6⟩ : ∃ w6, w6 = w5.setCell ⟨tb, 1, none⟩ (.int .i64 ((kk : Int) + 1)) := ⟨_, rfl⟩
              rw [← hw6] at HG6 HO6 hx ⊢
              clear hw6 q0 q1 z1 hlt
              refine hx.mono ?_
              intro x w7 hp7
              obtain ⟨hg7, y0, y1, y2, y3, y4, y5, n5, f5, y6, n6, f6, rfl, hcs⟩ := exd_cases hp7
              have HG7 : Hid (w.grownBy w7 (some tb)) := HG6.out.trans hg7
              have HCS : Hid ((∃ a k p, E (ts.drop (kk + 1)) = .ok a (ts.drop k) ∧ ElT w7 (fun b => w6.heap.size ≤ b) a [.int .i64 y0, .int .i64 y1, .int .i64 y2, .int .i64 y3, .string y4, .slice y5 n5 f5, .slice y6 n6 f6] ∧ Tx w7 tb e ts v k 0 p bl al) ∨ (∃ c q, E (ts.drop (kk + 1)) = .no c q ∧ c ≠ 0 ∧ Tx w7 tb e ts v ts.length c (q : Int) bl al)) := hcs
              obtain ⟨css, o1, o2, o3⟩ := HO6.out.ex
              obtain ⟨css1, p1, p2, p3⟩ := (HO6.out.grown isElT hg7 H.out.lt).ex
              have HP : Hid (w7.ownsRow w.heap.size 26 7 (.slice ao acc.length cc) acc.length css1.flatten) := p1
              have HP2 : Hid (css1.length = acc.length) := p2
              have HP3 : Hid (∀ i (h : i < acc.length) (h' : i < css1.length), ElT w7 (SB w.heap.size (.slice ao acc.length cc)) acc[i] css1[i]) := p3
              have hsz7 : w6.heap.size ≤ w7.heap.size := hg7.size
              have hsw6 : w.heap.size ≤ w6.heap.size := HG6.out.size
              have HL : Hid (∀ k, (Value.slice ao acc.length cc).ownBlock = some k → w.heap.size ≤ k ∧ k < w6.heap.size) := o1.lt
              obtain ⟨i0, hi0, hz0, hz1, hz2⟩ := info_parts Tryz.infoLE
              clear hx hp7 hg7 hcs o1 o2 o3 p1 p2 p3
              go_wp2_with (at_builtin; refine wpList_append_own_at _ rfl _ _ 24 rfl w.heap.size 26 i0 (.agg #[.int .i64 0, .int .i64 0, .int .i64 0, .int .i64 0, .string ⟨#[]⟩, .slice none 0 0, .slice none 0 0]) 7 96 Tryz.underlying24 hi0 hz0 hz1 hz2 rfl (by decide) _ _ _ rfl (World.ownsRow.alloc HP.out _) ⟨w7.heap.size, 0, none⟩ 1 1 [.int .i64 y0, .int .i64 y1, .int .i64 y2, .int .i64 y3, .string y4, .slice y5 n5 f5, .slice y6 n6 f6] rfl rfl ?c1 ?c2 ?c3 ?c4 ?c5 ?_)
              case c1 => exact newE _ _
              case c2 => intro u hu; simp only [List.mem_cons, List.not_mem_nil, or_false] at hu; rcases hu with rfl | rfl | rfl | rfl | rfl | rfl | rfl <;> rfl
              case c3 => unfold maxLen; omega
              case c4 => omega
              case c5 => simp; omega
              · intro u' w8 hown8 hgrow8 _ hat8
                have hb7 : Below w7.heap.size w7 (w7.alloc (.cells #[.int .i64 y0, .int .i64 y1, .int .i64 y2, .int .i64 y3, .string y4, .slice y5 n5 f5, .slice y6 n6 f6] 26)) := (Below.refl _ _).alloc (Nat.le_refl _) _
                have HB8 : Below w.heap.size w7 w8 := (hb7.mono (by omega)).grown hgrow8 (by have := hb7.size; omega) (fun k hk => (HL.out k hk).1)
                obtain ⟨ao8, c8, hu8⟩ : ∃ ao8 c8, u' = .slice ao8 (acc.length + 1) c8 := by
                  rcases hown8.2 with ⟨hv, h0⟩ | ⟨g, cap, cur, rfl, _⟩
                  · exact ⟨none, 0, by rw [hv, h0]⟩
                  · exact ⟨_, cap, rfl⟩
                subst hu8
                have HS8 : Hid ((∃ acc' kk pp, acc.length + 1 = acc'.length ∧ ArOn w w8 tb e ts v bl al E (k + 1) (.slice ao8 (acc.length + 1) c8) acc' kk pp) ∨ (∃ c q, ArNo w w8 tb e ts v bl al E (k + 1) c q)) := by
                  have hg8 := grown_under HG7.out HB8
                  have hl := HO.out.2.2.2
                  rw [show 4 - acc.length = (4 - (acc.length + 1)) + 1 by have := HF.out; omega, listF_more HR3.out] at hl
                  rcases HCS.out with ⟨a, k2, p2, h1, h2, h3⟩ | ⟨c, q, h1, h2, h3⟩
                  · rw [h1] at hl
                    refine .inl ⟨acc ++ [a], k2, p2, by simp, hg8, H.out.past HG7.out h3 HB8, ?_, by rw [hl, List.length_append]; rfl⟩
                    refine OwnL.add isElT (w := w6) (w1 := w7.alloc (.cells #[.int .i64 y0, .int .i64 y1, .int .i64 y2, .int .i64 y3, .string y4, .slice y5 n5 f5, .slice y6 n6 f6] 26)) (css := css1) ?_ HP2.out (fun i hi hi' => isElT.keeps (HP3.out i hi hi') (Keeps.of_below hb7)) (isElT.keeps h2 (Keeps.of_below hb7)) hsw6 hown8 hgrow8 (by simpa using hat8)
                    exact fun k hk => (HL.out k hk).2
                  · rw [h1] at hl
                    exact .inr ⟨c, q, hg8, h2, H.out.past HG7.out h3 HB8, hl⟩
                have hln : acc.length < 4 := HF.out
                clear hown8 hgrow8 hat8 hb7 HB8
                go_wp2
                refine ⟨⟨ao8, acc.length + 1, c8, rfl, by omega, by omega, HS8.out⟩, ?_⟩
                simp only [lenOf]
                omega
        · have HN : Hid (ArNo w wr tb e ts v bl al E (k + 1) c q) := hno
          have hs := seesD [44] hno.2.2.1
          rw [sees_end] at hs
          clear hno HD
          go_wp2_with fail
          refine hs.mono ?_
          rintro x w5 ⟨rfl, hb5⟩
          have H5 : Hid (Tx w5 tb e ts v ts.length c (q : Int) bl al) := HN.out.2.2.1.later hb5
          have HG5 : Hid (w.grownBy w5 (some tb)) := grown_under HN.out.1 (hb5.mono HN.out.1.size)
          have hnd := needD [41] H5.out
          rw [sees_end] at hnd
          clear hb5 hs
          go_wp2_with fail
          refine hnd.mono ?_
          rintro x w6 ⟨rfl, hn6⟩
          have HN6 : Hid (NdP w5 tb e ts v ts.length c (q : Int) bl al false w6) := hn6
          clear hn6 hnd
          go_wp2
          go_ret
          have hRR := HRL.out
          rw [HN.out.2.2.2] at hRR
          have h9 := HN6.out.2.2 rfl
          rw [if_neg HN.out.2.1, if_neg HN.out.2.1] at h9
          exact ⟨HG5.out.trans HN6.out.1, .inr ⟨c, q, _, hRR, rfl, ⟨_, _, _, rfl⟩, HN.out.2.1, h9⟩⟩
end Go.Proofs.YtcdeicfegfedfaaGreatDoor

namespace Go.Proofs.YtcdeicfegfedfaaGreatDoor
open Go.RowKit
open Par (Tok Tr Po Res nx atP isT seesB ba)

theorem bind_bind {α β γ : Type} (x : Res α) (f : α → List Tok → Res β) (g : β → List Tok → Res γ) : (x.bind f).bind g = x.bind fun a r => (f a r).bind g := by
  cases x <;> rfl
/- Where the reader stands: on, and the rest comes to what is sought; or stopped, with that fault. -/
def St {α : Type} (w : World) (tb e : Nat) (ts : List Tok) (v : Value) (bl al : Int) (res : Res α) (K : List Tok → Res α) (k : Nat) (c p : Int) : Prop :=
  Tx w tb e ts v k c p bl al ∧ ((c = 0 ∧ res = K (ts.drop k)) ∨ (c ≠ 0 ∧ k = ts.length ∧ ∃ q : Nat, p = (q : Int) ∧ res = .no c q))
theorem St.later {α : Type} {w w' : World} {tb e : Nat} {ts : List Tok} {v : Value} {bl al : Int} {res : Res α} {K : List Tok → Res α} {k : Nat} {c p : Int} (h : St w tb e ts v bl al res K k c p) (hb : Below w.heap.size w w') : St w' tb e ts v bl al res K k c p := ⟨h.1.later hb, h.2⟩
/- Behind a step. -/
def Stp {α : Type} (w : World) (tb e : Nat) (ts : List Tok) (v : Value) (bl al : Int) (res : Res α) (K : List Tok → Res α) (w' : World) : Prop :=
  w.grownBy w' (some tb) ∧ ∃ k c p, St w' tb e ts v bl al res K k c p
theorem needSt {α : Type} {w : World} {tb e : Nat} {ts : List Tok} {v : Value} {bl al : Int} {res : Res α} {K : List Tok → Res α} {k : Nat} {c p : Int} (hg : Par.Good ts) {s : List UInt8} (hs : Par.Fix s) (h0 : s ≠ []) (h : St w tb e ts v bl al res (fun r => (Par.must e s r).bind fun _ r2 => K r2) k c p) :
    Calls Tryz.prog 44 #[.pointer (some ⟨tb, 0, none⟩), .string (ba s)] w fun x w' => x = .returned (.tuple #[]) ∧ Stp w tb e ts v bl al res K w' := by
  have hn := needD s h.1
  rw [sees_at hg hs h0] at hn
  refine hn.mono ?_
  rintro x w' ⟨rfl, h1, h2, h3⟩
  refine ⟨rfl, h1, ?_⟩
  rcases h.2 with ⟨rfl, hr⟩ | ⟨hc, rfl, q, rfl, hr⟩
  · simp only at hr
    cases hi : isT s (ts.drop k) with
    | true =>
      rw [must_at hi] at hr
      exact ⟨_, _, _, (h2 hi).2, .inl ⟨rfl, hr⟩⟩
    | false =>
      rw [must_at hi] at hr
      exact ⟨_, _, _, h3 hi, .inr ⟨by decide, rfl, _, rfl, hr⟩⟩
  · have hi : isT s (ts.drop ts.length) = false := by rw [← sees_at hg hs h0]; exact sees_end _ _
    have h9 := h3 hi
    rw [if_neg hc, if_neg hc] at h9
    exact ⟨_, _, _, h9, .inr ⟨hc, rfl, q, rfl, hr⟩⟩
def Short (ts : List Tok) : Prop := ∀ t ∈ ts, (ba t.2.2).size ≤ maxLen
theorem Short.nx {ts : List Tok} (h : Short ts) (k : Nat) : (ba (nx (ts.drop k)).2.2).size ≤ maxLen := by
  by_cases hk : k < ts.length
  · rw [nx_drop hk]
    exact h _ (List.getElem_mem hk)
  · rw [nx_end (by omega)]
    exact Nat.zero_le _
theorem nameSt {α : Type} {w : World} {tb e : Nat} {ts : List Tok} {v : Value} {bl al : Int} {res : Res α} {K : ByteArray → List Tok → Res α} {k : Nat} {c p : Int} (hs : Short ts) (h : St w tb e ts v bl al res (fun r => (Par.nameR e r).bind K) k c p) :
    Calls Tryz.prog 46 #[.pointer (some ⟨tb, 0, none⟩)] w fun x w' => ∃ o : ByteArray, x = .returned (.string o) ∧ o.size ≤ maxLen ∧ Stp w tb e ts v bl al res (K o) w' := by
  have hn := nameD h.1
  refine hn.mono ?_
  rintro x w' ⟨rfl, h1, h2, h3⟩
  refine ⟨_, rfl, ?_, h1, ?_⟩
  · split
    · exact hs.nx k
    · exact Nat.zero_le _
  · rcases h.2 with ⟨rfl, hr⟩ | ⟨hc, rfl, q, rfl, hr⟩
    · simp only at hr
      by_cases hi : (nx (ts.drop k)).1 = 1
      · have h9 : Par.nameR e (ts.drop k) = .ok (ba (nx (ts.drop k)).2.2) (ts.drop (k + 1)) := by unfold Par.nameR; rw [if_pos hi, drop_tail]
        rw [h9] at hr
        rw [if_pos hi]
        exact ⟨_, _, _, (h2 hi).2, .inl ⟨rfl, hr⟩⟩
      · have h9 : Par.nameR e (ts.drop k) = .no 1 (atP e (ts.drop k)) := by unfold Par.nameR; rw [if_neg hi]
        rw [h9] at hr
        exact ⟨_, _, _, h3 hi, .inr ⟨by decide, rfl, _, rfl, hr⟩⟩
    · have hi : ¬ (nx (ts.drop ts.length)).1 = 1 := by rw [nx_end (Nat.le_refl _)]; decide
      have h9 := h3 hi
      rw [if_neg hc, if_neg hc] at h9
      exact ⟨_, _, _, h9, .inr ⟨hc, rfl, q, rfl, hr⟩⟩
end Go.Proofs.YtcdeicfegfedfaaGreatDoor
