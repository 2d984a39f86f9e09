/- Contracts of tree.placeOf, tree.met at expressions, tree.newLooker. What tree.Formed answers: formed, in plain words. Contract of tree.Formed. -/
import Derived.Test.YtikejmokejghcaaGreatDoorMapP
import Derived.Test.YtikejmokejghcaaGreatDoorFmB
import Derived.Carry
import Derived.Deep.RegionHeld3
namespace Go.Proofs.YtikejmokejghcaaGreatDoor
open Go.RowKit
open Par (Tok Po Tr nx atP isT ba Res)

set_option maxRecDepth 100000 in
set_option maxHeartbeats 1000000 in
theorem placeC (b off n c d : Nat) (w : World) (hn : 0 < n) :
    Calls Tryz.prog 47 #[.slice (some ⟨b, off, none⟩) n c, .int .i64 (d : Int)] w fun x w' => x = .returned (.agg #[.pointer (some ⟨b, off, none⟩), .int .i64 (n : Int), .int .i64 (d : Int)]) ∧ Below w.heap.size w w' := by
  go_enter Tryz.func47, Tryz.ntmps47
  go_wp2
  exact bodyPost_ret (v := .agg #[.pointer (some ⟨b, off, none⟩), .int .i64 (n : Int), .int .i64 (d : Int)]) (by simp [results, Tryz.results47, go_sem]) rfl ⟨rfl, (Below.refl _ _).alloc (Nat.le_refl _) _⟩
set_option maxRecDepth 100000 in
set_option maxHeartbeats 2000000 in
theorem metC {w : World} {B : Nat} {K : List PK} (h : SetP w B K) (b off n c d : Nat) (hn : 0 < n) (hp : Pln w b) :
    Calls Tryz.prog 30 #[.map (some B), .slice (some ⟨b, off, none⟩) n c, .int .i64 (d : Int)] w fun x w' => x = .returned (.bool (decide ((b, off, n, d) ∈ K))) ∧ SetP w' B (addP K (b, off, n, d)) ∧ w.grownBy w' (some B) := by
  have hpl := placeC b off n c d w hn
  have HS : Hid (SetP w B K) := h
  have HP : Hid (Pln w b) := hp
  clear h hp hn
  go_enter Tryz.func30, Tryz.ntmps30
  go_wp2_with fail
  refine hpl.mono ?_
  rintro x w1 ⟨rfl, hb1⟩
  obtain ⟨w2, hw2⟩ : ∃ w2, w2 = w1.alloc (.cells #[.pointer (some ⟨b, off, none⟩), .int .i64 (n : Int), .int .i64 (d : Int)] 94) := ⟨_, rfl⟩
  have hb2 : Below w.heap.size w w2 := by rw [hw2]; exact hb1.alloc hb1.size _
  have hz2 : w2.heap.size = w1.heap.size + 1 := by rw [hw2]; simp
  have kp : ∀ W : World, Below w.heap.size w W → SetP W B K ∧ Pln W b := fun W hW => ⟨HS.out.keeps (hW.block _ HS.out.lt) fun p hp => hW.block _ (by obtain ⟨cs, e, hh⟩ := HS.out.pl hp; exact lt_of_block hh), HP.out.keeps (hW.block _ (by obtain ⟨cs, e, hh⟩ := HP.out; exact lt_of_block hh))⟩
  have hlk := (kp w2 hb2).1.asks (b, off, n, d) (kp w2 hb2).2
  have hb3 : Below w.heap.size w (w2.alloc (.cells #[] 96)) := hb2.alloc hb2.size _
  obtain ⟨w4, hup, hs4, hg4⟩ := (kp _ hb3).1.put (b, off, n, d) (kp _ hb3).2
  have HE : Hid (SetP w4 B (addP K (b, off, n, d)) ∧ w.grownBy w4 (some B)) := ⟨hs4, ⟨hg4.os.trans hb3.os, hg4.tape.trans hb3.tape, hg4.output.trans hb3.output, Nat.le_trans hb3.size hg4.size, fun k hk hn => (hg4.block k (Nat.lt_of_lt_of_le hk hb3.size) hn).trans (hb3.block k hk)⟩⟩
  rw [hw2] at hlk hup
  unfold pkV at hlk hup
  clear hb1 hb2 hb3 kp hs4 hg4 hw2 hz2
  go_wp2
  go_ret
  exact ⟨rfl, HE.out⟩
set_option maxRecDepth 100000 in
set_option maxHeartbeats 2000000 in
theorem newLC (w : World) : Calls Tryz.prog 20 #[] w fun x w' => x = .returned (.agg #[.map (some (w.heap.size + 1)), .map (some (w.heap.size + 2))]) ∧ SetP w' (w.heap.size + 1) [] ∧ Below w.heap.size w w' := by
  have hmm := @run_makeMap Tryz.prog
  go_enter Tryz.func20, Tryz.ntmps20
  go_wp2
  refine bodyPost_ret (v := .agg #[.map (some (w.heap.size + 1)), .map (some (w.heap.size + 2))]) (by simp [results, Tryz.results20, go_sem]) rfl ⟨rfl, ?_, (((Below.refl _ _).alloc (Nat.le_refl _) _).alloc (by simp) _).alloc (by simp; omega) _⟩
  exact ⟨⟨#[], 0, heap_past_alloc (heap_at_alloc _ _ _ (by simp)), rfl⟩, fun p hp => by simp at hp⟩
end Go.Proofs.YtikejmokejghcaaGreatDoor

namespace Go.Proofs.YtikejmokejghcaaGreatDoor
open Go.RowKit
open Par (Tok Po Tr nx atP isT ba Res)

/- Expressions stand in a row here. -/
def TrsAt (w : World) (b off n : Nat) (a : List Tr) : Prop := n = a.length ∧ ∃ (c : Nat) (css : List (List Value)), RowAt w (fun b => b < w.heap.size) 7 (some ⟨b, off, none⟩) b off n c css ∧ css.length = a.length ∧ ∀ i (h : i < a.length) (h' : i < css.length), TrIs w (fun b => b < w.heap.size) a[i] css[i]
theorem TrsAt.det {w : World} {b off n : Nat} {a a' : List Tr} (h : TrsAt w b off n a) (g : TrsAt w b off n a') : a = a' := by
  obtain ⟨h0, c, css, hr, hl, hk⟩ := h
  obtain ⟨g0, c', css', gr, gl, gk⟩ := g
  have e : css = css' := by
    refine List.ext_getElem (by omega) fun i hi hi' => ?_
    refine List.ext_getElem ((hr.szs i hi).trans (gr.szs i hi').symm) fun j hj hj' => ?_
    have c1 := hr.cell i hi j _ (List.getElem?_eq_getElem hj)
    have c2 := gr.cell i hi' j _ (List.getElem?_eq_getElem hj')
    exact Option.some.inj (c1.symm.trans c2)
  subst e
  exact List.ext_getElem (by omega) fun i hi hi' => (hk i hi (by omega)).det (gk i hi' (by omega))
/- What is noted deeper than d is formed. -/
def InvP (w : World) (K : List PK) (d : Nat) : Prop := ∀ p ∈ K, d < p.2.2.2 → ∀ a, TrsAt w p.1 p.2.1 p.2.2.1 a → a.all (Par.formD (12 - p.2.2.2)) = true
theorem InvP.none (w : World) (d : Nat) : InvP w [] d := fun p hp => by simp at hp
/- The looker, at what lies within d others. -/
def LkC (w0 : World) (B B2 d : Nat) (t : Tr) : Prop := ∀ (W : World) (b off : Nat) (cs : List Value) (K : List PK), Below w0.heap.size w0 W → SetP W B K → InvP w0 K d → ExAt w0 b off cs → TrIs w0 (fun b => b < w0.heap.size) t cs →
  Calls Tryz.prog 21 #[.agg #[.map (some B), .map (some B2)], .pointer (some ⟨b, off, none⟩), .int .i64 (d : Int)] W fun x W' => ∃ K', x = .returned (.bool (Par.formD (12 - d) t)) ∧ SetP W' B K' ∧ W.grownBy W' (some B) ∧ (∀ p ∈ K', p ∈ K ∨ d < p.2.2.2) ∧ (Par.formD (12 - d) t = true → InvP w0 K' d)
theorem form_alone {m : Nat} {t : Tr} (h : Par.aloneF t = false) : Par.formD m t = false := by
  cases m with
  | zero => rfl
  | succ m => simp [Par.formD, h]
theorem form_kids {d : Nat} (hd : d ≤ 11) {t : Tr} (h : Par.aloneF t = true) : Par.formD (12 - d) t = ((Par.kidsOf t).isEmpty || (decide (d ≠ 11) && (Par.kidsOf t).all (Par.formD (12 - (d + 1))))) := by
  have e : 12 - d = (11 - d) + 1 := by omega
  have e2 : 12 - (d + 1) = 11 - d := by omega
  rw [e, e2]
  simp only [Par.formD, h, Bool.true_and]
  have : decide (11 - d ≠ 0) = decide (d ≠ 11) := by simp; omega
  rw [this]
theorem below_dn {B : Nat} {w w' : World} (h : Below B w w') (n : Nat) : Below B w (w'.drewN n) := ⟨h.os, h.tape, h.output, h.size, h.block⟩
theorem form_met {d : Nat} {a : List Tr} (hd : d ≤ 11) (h0 : a.isEmpty = false) (h : a.all (Par.formD (12 - (d + 1))) = true) : (decide (d ≠ 11) && a.all (Par.formD (12 - (d + 1)))) = true := by
  by_cases e : d = 11
  · subst e
    cases a with
    | nil => cases h0
    | cons x r => simp [Par.formD] at h
  · rw [h]; simp [e]
theorem gr_drew {W W1 W2 : World} {B : Nat} (hb : Below W.heap.size W W1) (hg : W1.drew.grownBy W2 (some B)) : W.grownBy W2 (some B) := ⟨hg.os.trans hb.os, hg.tape.trans hb.tape, hg.output.trans hb.output, Nat.le_trans hb.size hg.size, fun k hk hn => (hg.block k (Nat.lt_of_lt_of_le hk hb.size) hn).trans (hb.block k hk)⟩
theorem gr_two {W wr w3 : World} {B : Nat} (h : W.grownBy wr (some B)) (g : wr.drew.grownBy w3 (some B)) : W.grownBy w3 (some B) := ⟨g.os.trans h.os, g.tape.trans h.tape, g.output.trans h.output, Nat.le_trans h.size g.size, fun k hk hn => (g.block k (Nat.lt_of_lt_of_le hk h.size) hn).trans (h.block k hk hn)⟩
/- What the loop over the kids holds. -/
structure LkS (w0 W wr : World) (B B2 d : Nat) (K1 Ki : List PK) (a : List Tr) (k : Nat) : Prop where
  bel : Below w0.heap.size w0 wr
  gr : W.grownBy wr (some B)
  set : SetP wr B Ki
  inv : InvP w0 Ki (d + 1)
  new : ∀ p ∈ Ki, p ∈ K1 ∨ d + 1 < p.2.2.2
  all : (a.take k).all (Par.formD (12 - (d + 1))) = true
  box : wr.heap[W.heap.size]? = some (.cells #[.map (some B), .map (some B2)] 56 (0, 0))
theorem below_of_gr {w0 W wr : World} {B : Nat} (hW : Below w0.heap.size w0 W) (h : W.grownBy wr (some B)) (hB : w0.heap.size ≤ B) : Below w0.heap.size w0 wr :=
  ⟨h.os.trans hW.os, h.tape.trans hW.tape, h.output.trans hW.output, Nat.le_trans hW.size h.size, fun k hk => (h.block k (Nat.lt_of_lt_of_le hk hW.size) (by simp; omega)).trans (hW.block k hk)⟩
theorem blkL {w : World} {b : Nat} {x y : Value} {e : TypeId} (h : w.heap[b]? = some (.cells #[x, y] e (0, 0))) : w.cell? ⟨b, 0, none⟩ = some x ∧ w.cell? ⟨b, 1, none⟩ = some y := by
  constructor <;> simp [World.cell?, h]
theorem kid_at {w0 : World} {ab aoff n ac : Nat} {css : List (List Value)} (h : RowAt w0 (fun b => b < w0.heap.size) 7 (some ⟨ab, aoff, none⟩) ab aoff n ac css) {i : Nat} (hi : i < css.length) : ExAt w0 ab (aoff + i * 7) css[i] :=
  ⟨h.lt (by omega), fun j u hu => h.cell i hi j u hu⟩
theorem inv_up {w0 : World} {d : Nat} {K Ki : List PK} {key : PK} {a : List Tr} (hI : InvP w0 K d) (hi : InvP w0 Ki (d + 1)) (hn : ∀ p ∈ Ki, p ∈ addP K key ∨ d + 1 < p.2.2.2) (hk : TrsAt w0 key.1 key.2.1 key.2.2.1 a) (hkd : key.2.2.2 = d + 1) (ha : a.all (Par.formD (12 - (d + 1))) = true) : InvP w0 Ki d := by
  intro p hp hd b hb
  by_cases h : d + 1 < p.2.2.2
  · exact hi p hp h b hb
  · have e : p.2.2.2 = d + 1 := by omega
    rcases hn p hp with h1 | h1
    · rcases mem_addP.1 h1 with h2 | rfl
      · exact hI p h2 hd b hb
      · have := hk.det hb
        subst this
        rw [e]; exact ha
    · omega
theorem inv_add {w0 : World} {d : Nat} {K : List PK} {key : PK} (hI : InvP w0 K d) (hkd : key.2.2.2 = d + 1) : InvP w0 (addP K key) (d + 1) := by
  intro p hp hd
  rcases mem_addP.1 hp with h | rfl
  · exact hI p h (by omega)
  · omega
set_option maxRecDepth 100000 in
set_option maxHeartbeats 8000000 in
theorem look_step {w0 : World} {B B2 d : Nat} (hB : w0.heap.size ≤ B) (hlv : LevAt w0 w0.heap.size) (hd : d ≤ 11) (hnext : d < 11 → ∀ t, LkC w0 B B2 (d + 1) t) (t : Tr) : LkC w0 B B2 d t := by
  intro W b off cs K hW hS hI hx ht
  obtain ⟨W0, hW0⟩ : ∃ W0, W0 = W.alloc (.cells #[.map (some B), .map (some B2)] 56) := ⟨_, rfl⟩
  have hbW0 : Below W.heap.size W W0 := by rw [hW0]; exact (Below.refl _ _).alloc (Nat.le_refl _) _
  have hb0 : Below w0.heap.size w0 W0 := hW.trans (hbW0.mono hW.size)
  have hx0 : ∀ V, Below w0.heap.size w0 V → ExAt V b off cs ∧ TrIs V (fun b => b < w0.heap.size) t cs := fun V hV => ⟨hx.keeps hV.size (hV.block _ hx.lt), ht.keeps ⟨hV.size, fun b hb _ => hV.block b hb⟩⟩
  have hal := aloneC (hx0 W0 hb0).1 (hx0 W0 hb0).2 (hlv.keeps hb0.size fun b hb => hb0.block b hb)
  have hk0 : W0.heap[W.heap.size]? = some (.cells #[.map (some B), .map (some B2)] 56 (0, 0)) := by rw [hW0]; exact heap_at_alloc _ _ _ rfl
  have hS0 : ∀ V, Below W.heap.size W V → SetP V B K := fun V hV => hS.keeps (hV.block _ hS.lt) fun p hp => hV.block _ (by obtain ⟨cs, e, hh⟩ := hS.pl hp; exact lt_of_block hh)
  cases haf : Par.aloneF t with
  | false =>
    have HF : Hid (Par.formD (12 - d) t = false) := form_alone haf
    have HS : Hid (∀ V, Below W.heap.size W V → SetP V B K) := hS0
    have HB : Hid (Below W.heap.size W W0) := hbW0
    rw [HF.out]
    rw [haf] at hal
    clear haf hx0 hS0 hx ht hI hS hW hb0 hk0 hbW0
    go_enter Tryz.func21, Tryz.ntmps21
    go_wp2_with fail
    rw [← hW0]
    clear hW0
    refine hal.mono ?_
    rintro x W1 ⟨rfl, hb1⟩
    go_wp2
    go_ret
    have hb : Below W.heap.size W W1 := HB.out.trans (hb1.mono HB.out.size)
    exact ⟨K, rfl, HS.out _ hb, ⟨hb.os, hb.tape, hb.output, hb.size, fun k hk _ => hb.block k hk⟩, fun p hp => .inl hp, fun h => by cases h⟩
  | true =>
    cases ht with
    | @mk k p n ty s l a lv av css hs hl hr hcl hk =>
    have hfk := form_kids hd haf
    have hka : Par.kidsOf (.mk k p n ty s l a) = a := rfl
    rw [hka] at hfk
    obtain ⟨ao, ab, aoff, ac, rfl, har⟩ := hr
    have ham := har.mx
    have hac := har.cap
    rw [haf] at hal
    have HX0 : Hid (∀ V, Below w0.heap.size w0 V → ExAt V b off [.int .i64 k, .int .i64 p, .int .i64 n, .int .i64 ty, .string s, lv, .slice ao css.length ac]) := fun V hV => (hx0 V hV).1
    have HS : Hid (∀ V, Below W.heap.size W V → SetP V B K) := hS0
    have HB : Hid (Below W.heap.size W W0) := hbW0
    have HW : Hid (Below w0.heap.size w0 W) := hW
    have HK0 : Hid (W0.heap[W.heap.size]? = some (.cells #[.map (some B), .map (some B2)] 56 (0, 0))) := hk0
    have HFK : Hid (Par.formD (12 - d) (.mk k p n ty s l a) = (a.isEmpty || (decide (d ≠ 11) && a.all (Par.formD (12 - (d + 1)))))) := hfk
    have hxl := hx.lt
    have hWz := hW.size
    have HI : Hid (InvP w0 K d) := hI
    unfold maxLen at ham
    clear haf hx0 hS0 hx hI hS hW hb0 hk0 hbW0 hfk hka
    rcases Nat.eq_zero_or_pos css.length with hn0 | hn0
    · have HF : Hid (Par.formD (12 - d) (.mk k p n ty s l a) = true) := by
        show _ = _
        rw [HFK.out, List.length_eq_zero_iff.1 (by omega : a.length = 0)]; rfl
      rw [HF.out]
      rw [hn0] at HX0
      clear har hcl hk hac HFK hn0
      go_enter Tryz.func21, Tryz.ntmps21
      go_wp2_with fail
      rw [← hW0]
      clear hW0
      refine hal.mono ?_
      rintro x W1 ⟨rfl, hb1⟩
      have hb : Below W.heap.size W W1 := HB.out.trans (hb1.mono HB.out.size)
      obtain ⟨c0, c1, c2, c3, c4, c5, c6⟩ := (HX0.out W1 (HW.out.trans (hb.mono hWz))).all
      have hlt := (HX0.out W1 (HW.out.trans (hb.mono hWz))).lt
      have HB1 : Hid (Below W.heap.size W W1) := hb
      clear hb1 hb
      go_wp2
      go_quiet (fail)
      go_wp2
      go_ret
      have hb := below_dn HB1.out nq
      exact ⟨K, rfl, HS.out _ hb, ⟨hb.os, hb.tape, hb.output, hb.size, fun k hk _ => hb.block k hk⟩, fun p hp => .inl hp, fun _ => HI.out⟩
    · have hao := har.adr hn0
      subst hao
      have hpl := har.pl hn0
      have HTA : Hid (TrsAt w0 ab aoff css.length a) := ⟨hcl, ac, css, har, hcl, hk⟩
      have HKID : Hid (∀ i (h : i < css.length), ExAt w0 ab (aoff + i * 7) css[i]) := fun i hi => kid_at har hi
      have HTI : Hid (∀ i (h : i < a.length) (h' : i < css.length), TrIs w0 (fun b => b < w0.heap.size) a[i] css[i]) := hk
      have habl := har.lt hn0
      have HLN : Hid (css.length = a.length) := hcl
      have HPL : Hid (Pln w0 ab) := hpl
      have HNX : Hid (d < 11 → ∀ t, LkC w0 B B2 (d + 1) t) := hnext
      have hane : a.isEmpty = false := by
        cases a with
        | nil => have h0 : css.length = 0 := hcl; omega
        | cons _ _ => rfl
      have HNE : Hid (a.isEmpty = false) := hane
      rw [hane, Bool.false_or] at HFK
      obtain ⟨m, hm⟩ : ∃ m, m = css.length := ⟨_, rfl⟩
      have HM : Hid (m = css.length) := hm
      rw [← hm] at HX0 HTA hn0 hac
      clear har hcl hk hpl hnext hane hm
      have wd : IntKind.i64.wrap ((d : Int) + 1) = ((d + 1 : Nat) : Int) := by rw [IntKind.wrap_i64]; omega
      by_cases hmem : (ab, aoff, m, d + 1) ∈ K
      · have HF : Hid (Par.formD (12 - d) (.mk k p n ty s l a) = true) := by
          show _ = _
          rw [HFK.out]
          exact form_met hd HNE.out (HI.out _ hmem (Nat.lt_succ_self d) a HTA.out)
        have HAD : Hid (addP K (ab, aoff, m, d + 1) = K) := by show _ = _; unfold addP; rw [if_pos hmem]
        have HME : Hid ((ab, aoff, m, d + 1) ∈ K) := hmem
        rw [HF.out]
        clear HF HFK hmem
        go_enter Tryz.func21, Tryz.ntmps21
        go_wp2_with fail
        rw [← hW0]
        clear hW0
        refine hal.mono ?_
        rintro x W1 ⟨rfl, hb1⟩
        have hb : Below W.heap.size W W1 := HB.out.trans (hb1.mono HB.out.size)
        have hbw : Below w0.heap.size w0 W1 := HW.out.trans (hb.mono hWz)
        obtain ⟨c0, c1, c2, c3, c4, c5, c6⟩ := (HX0.out W1 hbw).all
        have hlt := (HX0.out W1 hbw).lt
        have hk1 : W1.heap[W.heap.size]? = some (.cells #[.map (some B), .map (some B2)] 56 (0, 0)) := (hb1.block _ (lt_of_block HK0.out)).trans HK0.out
        obtain ⟨l0, l1⟩ := blkL hk1
        have hlk := lt_of_block hk1
        have hmt := metC (w := W1.drew) (HS.out _ (below_dn hb 1)) ab aoff m ac (d + 1) hn0 (HPL.out.keeps (hbw.block _ habl))
        rw [decide_eq_true HME.out, HAD.out] at hmt
        have HMT : Hid (Calls Tryz.prog 30 #[.map (some B), .slice (some ⟨ab, aoff, none⟩) m ac, .int .i64 ((d + 1 : Nat) : Int)] W1.drew fun x w' => x = .returned (.bool true) ∧ SetP w' B K ∧ W1.drew.grownBy w' (some B)) := hmt
        have hbB : b ≠ B := by omega
        have hLB : W.heap.size ≠ B := by have := (HS.out _ (Below.refl _ _)).lt; omega
        have HB1 : Hid (Below W.heap.size W W1) := hb
        have m0 : ((m : Int) == 0) = false := by simp; omega
        clear hmt hb1 hb hbw hk1
        go_wp2
        go_region_held3 (fun w' => w'.cell? ⟨W.heap.size, 0, none⟩ = some (.map (some B)) ∧ w'.cell? ⟨b, off + 6, none⟩ = some (.slice (some ⟨ab, aoff, none⟩) m ac)) (go_keep)
          (first
            | (go_at_call 30; refine (HMT.out).mono ?_; rintro x W2 ⟨rfl, hs2, hg2⟩; have HS2 : Hid (SetP W2 B K) := hs2; have HG2 : Hid (W1.drew.grownBy W2 (some B)) := hg2; have q0 : W2.cell? ⟨W.heap.size, 0, none⟩ = some (.map (some B)) := (World.cell?_of_block (a := ⟨W.heap.size, 0, none⟩) (hg2.block W.heap.size hlk (by simp [hLB]))).trans l0; have q1 : W2.cell? ⟨b, off + 6, none⟩ = some (.slice (some ⟨ab, aoff, none⟩) m ac) := (World.cell?_of_block (a := ⟨b, off + 6, none⟩) (hg2.block b hlt (by simp [hbB]))).trans c6; clear hs2 hg2))
        all_goals go_wp2
        all_goals go_ret
        exact ⟨K, rfl, HS2.out, gr_drew HB1.out HG2.out, fun p hp => .inl hp, fun _ => HI.out⟩
      · have HME : Hid ((ab, aoff, m, d + 1) ∉ K) := hmem
        have HADD : Hid (InvP w0 (addP K (ab, aoff, m, d + 1)) (d + 1)) := inv_add HI.out rfl
        clear hmem
        go_enter Tryz.func21, Tryz.ntmps21
        go_wp2_with fail
        rw [← hW0]
        clear hW0
        refine hal.mono ?_
        rintro x W1 ⟨rfl, hb1⟩
        have hb : Below W.heap.size W W1 := HB.out.trans (hb1.mono HB.out.size)
        have hbw : Below w0.heap.size w0 W1 := HW.out.trans (hb.mono hWz)
        obtain ⟨c0, c1, c2, c3, c4, c5, c6⟩ := (HX0.out W1 hbw).all
        have hlt := (HX0.out W1 hbw).lt
        have hk1 : W1.heap[W.heap.size]? = some (.cells #[.map (some B), .map (some B2)] 56 (0, 0)) := (hb1.block _ (lt_of_block HK0.out)).trans HK0.out
        obtain ⟨l0, l1⟩ := blkL hk1
        have hlk := lt_of_block hk1
        have hmt := metC (w := W1.drew) (HS.out _ (below_dn hb 1)) ab aoff m ac (d + 1) hn0 (HPL.out.keeps (hbw.block _ habl))
        rw [decide_eq_false HME.out] at hmt
        have HMT : Hid (Calls Tryz.prog 30 #[.map (some B), .slice (some ⟨ab, aoff, none⟩) m ac, .int .i64 ((d + 1 : Nat) : Int)] W1.drew fun x w' => x = .returned (.bool false) ∧ SetP w' B (addP K (ab, aoff, m, d + 1)) ∧ W1.drew.grownBy w' (some B)) := hmt
        have hbB : b ≠ B := by omega
        have hLB : W.heap.size ≠ B := by have := (HS.out _ (Below.refl _ _)).lt; omega
        have HB1 : Hid (Below W.heap.size W W1) := hb
        have HK1 : Hid (W1.heap[W.heap.size]? = some (.cells #[.map (some B), .map (some B2)] 56 (0, 0))) := hk1
        have m0 : ((m : Int) == 0) = false := by simp; omega
        clear hmt hb1 hb hbw hk1
        go_wp2
        go_region_held3 (fun w' => w'.cell? ⟨W.heap.size, 0, none⟩ = some (.map (some B)) ∧ w'.cell? ⟨b, off + 6, none⟩ = some (.slice (some ⟨ab, aoff, none⟩) m ac)) (go_keep)
          (first
            | (go_at_call 30; refine (HMT.out).mono ?_; rintro x W2 ⟨rfl, hs2, hg2⟩; have HS2 : Hid (SetP W2 B (addP K (ab, aoff, m, d + 1))) := hs2; have HG2 : Hid (W1.drew.grownBy W2 (some B)) := hg2; have q0 : W2.cell? ⟨W.heap.size, 0, none⟩ = some (.map (some B)) := (World.cell?_of_block (a := ⟨W.heap.size, 0, none⟩) (hg2.block W.heap.size hlk (by simp [hLB]))).trans l0; have q1 : W2.cell? ⟨b, off + 6, none⟩ = some (.slice (some ⟨ab, aoff, none⟩) m ac) := (World.cell?_of_block (a := ⟨b, off + 6, none⟩) (hg2.block b hlt (by simp [hbB]))).trans c6; clear hs2 hg2))
        have HGR : Hid (W.grownBy W2 (some B)) := gr_drew HB1.out HG2.out
        have hlt2 : b < W2.heap.size := by have := HG2.out.size; have : W1.heap.size ≤ W2.heap.size := this; omega
        by_cases hd11 : d = 11
        · have HF : Hid (Par.formD (12 - d) (.mk k p n ty s l a) = false) := by show _ = _; rw [HFK.out]; simp [hd11]
          have HNEW : Hid (∀ p ∈ addP K (ab, aoff, m, d + 1), p ∈ K ∨ d < p.2.2.2) := fun p hp => by
            rcases mem_addP.1 hp with h | rfl
            · exact .inl h
            · exact .inr (Nat.lt_succ_self d)
          have d1 : ((d : Int) + 1 == 12) = true := by simp [hd11]
          clear HFK HNX
          go_wp2
          go_ret
          exact ⟨_, by rw [HF.out]; rfl, HS2.out, HGR.out, HNEW.out, fun h => by rw [HF.out] at h; cases h⟩
        · have d1 : ((d : Int) + 1 == 12) = false := by simp; omega
          have HSL : Hid (LkS w0 W W2 B B2 d (addP K (ab, aoff, m, d + 1)) (addP K (ab, aoff, m, d + 1)) a 0) :=
            ⟨below_of_gr HW.out HGR.out hB, HGR.out, HS2.out, HADD.out, fun p hp => .inl hp, by simp, (HG2.out.block _ hlk (by simp [hLB])).trans HK1.out⟩
          have HN : Hid (∀ t, LkC w0 B B2 (d + 1) t) := HNX.out (by omega)
          have HFK2 : Hid (Par.formD (12 - d) (.mk k p n ty s l a) = a.all (Par.formD (12 - (d + 1)))) := by show _ = _; rw [HFK.out]; simp [hd11]
          clear HFK HNX HS2 HG2 HGR HMT HME c0 c1 c2 c3 c4 c5 c6 l0 l1 q0 HK1 HADD
          go_wp2
          go_loopw [36] (fun i wr => ∃ (j : Nat) (Ki : List PK), j ≤ m ∧ i = .int .i64 j ∧ Hid (LkS w0 W wr B B2 d (addP K (ab, aoff, m, d + 1)) Ki a j)) (fun i _ => m - (intOf i).toNat)
          case atStart => exact ⟨0, _, Nat.zero_le _, rfl, HSL⟩
          case round =>
            obtain ⟨j, Ki, hj, rfl, HL⟩ := hrel
            have ml := HM.out
            by_cases hlt' : j < m
            · have hjc : j < css.length := by omega
              have hja : j < a.length := by have := HLN.out; omega
              have hxr := (HX0.out wr HL.out.bel)
              obtain ⟨_, _, _, _, _, _, c6⟩ := hxr.all
              have hxlt := hxr.lt
              obtain ⟨l0, l1⟩ := blkL HL.out.box
              have hbl := lt_of_block HL.out.box
              have hcall := HN.out a[j] wr.drew ab (aoff + j * 7) css[j] Ki (below_dn HL.out.bel 1) (HL.out.set.keeps rfl fun _ _ => rfl) HL.out.inv (HKID.out j hjc) (HTI.out j hja hjc)
              cases hq : Par.formD (12 - (d + 1)) a[j] with
              | true =>
                rw [hq] at hcall
                have HQ : Hid (Par.formD (12 - (d + 1)) a[j] = true) := hq
                have HC : Hid (Calls Tryz.prog 21 #[.agg #[.map (some B), .map (some B2)], .pointer (some ⟨ab, aoff + j * 7, none⟩), .int .i64 ((d + 1 : Nat) : Int)] wr.drew fun x W' => ∃ K', x = .returned (.bool true) ∧ SetP W' B K' ∧ wr.drew.grownBy W' (some B) ∧ (∀ p ∈ K', p ∈ Ki ∨ d + 1 < p.2.2.2) ∧ InvP w0 K' (d + 1)) := hcall.mono fun x W' ⟨K', e1, e2, e3, e4, e5⟩ => ⟨K', e1, e2, e3, e4, e5 rfl⟩
                clear hcall hq hxr ml
                go_wp2
                go_region_held3 (fun w' => w'.cell? ⟨W.heap.size, 0, none⟩ = some (.map (some B)) ∧ w'.cell? ⟨W.heap.size, 1, none⟩ = some (.map (some B2)) ∧ w'.cell? ⟨b, off + 6, none⟩ = some (.slice (some ⟨ab, aoff, none⟩) m ac)) (go_keep)
                  (first
                    | (go_at_call 21; refine (HC.out).mono ?_; rintro x w3 ⟨K', rfl, hs3, hg3, hn3, hi3⟩; have H3 : Hid (SetP w3 B K' ∧ wr.drew.grownBy w3 (some B) ∧ (∀ p ∈ K', p ∈ Ki ∨ d + 1 < p.2.2.2) ∧ InvP w0 K' (d + 1)) := ⟨hs3, hg3, hn3, hi3⟩; have q0 : w3.cell? ⟨W.heap.size, 0, none⟩ = some (.map (some B)) := (World.cell?_of_block (a := ⟨W.heap.size, 0, none⟩) (hg3.block W.heap.size hbl (by simp [hLB]))).trans l0; have q1 : w3.cell? ⟨W.heap.size, 1, none⟩ = some (.map (some B2)) := (World.cell?_of_block (a := ⟨W.heap.size, 1, none⟩) (hg3.block W.heap.size hbl (by simp [hLB]))).trans l1; have q2 : w3.cell? ⟨b, off + 6, none⟩ = some (.slice (some ⟨ab, aoff, none⟩) m ac) := (World.cell?_of_block (a := ⟨b, off + 6, none⟩) (hg3.block b hxlt (by simp [hbB]))).trans c6; clear hs3 hg3 hn3 hi3))
                all_goals go_wp2
                go_roundw
                case rel =>
                  refine ⟨j + 1, K', by omega, by go_num, ?_⟩
                  obtain ⟨h1, h2, h3, h4⟩ := H3.out
                  have hg := gr_two HL.out.gr h2
                  refine ⟨below_of_gr HW.out hg hB, hg, h1, h4, fun p hp => ?_, ?_, (h2.block _ hbl (by simp [hLB])).trans HL.out.box⟩
                  · rcases h3 p hp with h | h
                    · exact HL.out.new p h
                    · exact .inr h
                  · rw [List.take_succ_eq_append_getElem hja, List.all_append, HL.out.all, Bool.true_and, List.all_cons, HQ.out]
                    rfl
                case measure => simp [intOf]; omega
              | false =>
                rw [hq] at hcall
                have HQ : Hid (a.all (Par.formD (12 - (d + 1))) = false) := by
                  show _ = _
                  rw [List.all_eq_false]
                  exact ⟨a[j], List.getElem_mem hja, by rw [hq]; simp⟩
                have HC : Hid (Calls Tryz.prog 21 #[.agg #[.map (some B), .map (some B2)], .pointer (some ⟨ab, aoff + j * 7, none⟩), .int .i64 ((d + 1 : Nat) : Int)] wr.drew fun x W' => ∃ K', x = .returned (.bool false) ∧ SetP W' B K' ∧ wr.drew.grownBy W' (some B) ∧ (∀ p ∈ K', p ∈ Ki ∨ d + 1 < p.2.2.2) ∧ True) := hcall.mono fun x W' ⟨K', e1, e2, e3, e4, _⟩ => ⟨K', e1, e2, e3, e4, trivial⟩
                clear hcall hq hxr ml
                go_wp2
                go_region_held3 (fun w' => w'.cell? ⟨W.heap.size, 0, none⟩ = some (.map (some B)) ∧ w'.cell? ⟨W.heap.size, 1, none⟩ = some (.map (some B2)) ∧ w'.cell? ⟨b, off + 6, none⟩ = some (.slice (some ⟨ab, aoff, none⟩) m ac)) (go_keep)
                  (first
                    | (go_at_call 21; refine (HC.out).mono ?_; rintro x w3 ⟨K', rfl, hs3, hg3, hn3, hi3⟩; have H3 : Hid (SetP w3 B K' ∧ wr.drew.grownBy w3 (some B) ∧ (∀ p ∈ K', p ∈ Ki ∨ d + 1 < p.2.2.2) ∧ True) := ⟨hs3, hg3, hn3, trivial⟩; have q0 : w3.cell? ⟨W.heap.size, 0, none⟩ = some (.map (some B)) := (World.cell?_of_block (a := ⟨W.heap.size, 0, none⟩) (hg3.block W.heap.size hbl (by simp [hLB]))).trans l0; have q1 : w3.cell? ⟨W.heap.size, 1, none⟩ = some (.map (some B2)) := (World.cell?_of_block (a := ⟨W.heap.size, 1, none⟩) (hg3.block W.heap.size hbl (by simp [hLB]))).trans l1; have q2 : w3.cell? ⟨b, off + 6, none⟩ = some (.slice (some ⟨ab, aoff, none⟩) m ac) := (World.cell?_of_block (a := ⟨b, off + 6, none⟩) (hg3.block b hxlt (by simp [hbB]))).trans c6; clear hs3 hg3 hn3 hi3))
                all_goals go_wp2
                go_ret
                obtain ⟨h1, h2, h3, h4⟩ := H3.out
                refine ⟨K', by rw [HFK2.out, HQ.out]; rfl, h1, gr_two HL.out.gr h2, fun p hp => ?_, fun h => by rw [HFK2.out, HQ.out] at h; cases h⟩
                rcases h3 p hp with h | h
                · rcases HL.out.new p h with h' | h'
                  · rcases mem_addP.1 h' with h' | rfl
                    · exact .inl h'
                    · exact .inr (Nat.lt_succ_self d)
                  · exact .inr (by omega)
                · exact .inr (by omega)
            · have HQ : Hid (a.all (Par.formD (12 - (d + 1))) = true) := by
                have h := HL.out.all
                rwa [List.take_of_length_le (by have := HLN.out; omega)] at h
              clear ml
              go_wp2
              go_ret
              refine ⟨Ki, by rw [HFK2.out, HQ.out]; rfl, HL.out.set, HL.out.gr, fun p hp => ?_, fun _ => inv_up HI.out HL.out.inv HL.out.new HTA.out rfl HQ.out⟩
              rcases HL.out.new p hp with h' | h'
              · rcases mem_addP.1 h' with h' | rfl
                · exact .inl h'
                · exact .inr (Nat.lt_succ_self d)
              · exact .inr (by omega)
/- tree.Formed's looker at whatever depth. -/
theorem look_all {w0 : World} {B B2 : Nat} (hB : w0.heap.size ≤ B) (hlv : LevAt w0 w0.heap.size) : ∀ m d, d + m = 11 → ∀ t, LkC w0 B B2 d t := by
  intro m
  induction m with
  | zero => intro d h t; exact look_step hB hlv (by omega) (fun h' => by omega) t
  | succ m ih => intro d h t; exact look_step hB hlv (by omega) (fun _ => ih (d + 1) (by omega)) t
end Go.Proofs.YtikejmokejghcaaGreatDoor

namespace Go.Proofs.YtikejmokejghcaaGreatDoor
open Go.RowKit
open Par (Tok Po Tr nx atP isT ba Res)

set_option maxRecDepth 100000 in
set_option maxHeartbeats 2000000 in
theorem formedC {w : World} {S : Nat → Prop} {t : Tr} {z0 z1 z2 z3 : Int} {z4 : ByteArray} {z5 : Option Addr} {m5 d5 : Nat} {z6 : Option Addr} {m6 d6 : Nat} (ht : TrIs w S t [.int .i64 z0, .int .i64 z1, .int .i64 z2, .int .i64 z3, .string z4, .slice z5 m5 d5, .slice z6 m6 d6]) (hlv : LevAt w w.heap.size) :
    Calls Tryz.prog 12 #[.agg #[.int .i64 z0, .int .i64 z1, .int .i64 z2, .int .i64 z3, .string z4, .slice z5 m5 d5, .slice z6 m6 d6]] w fun x w' => x = .returned (.bool (Par.formD 12 t)) ∧ Below w.heap.size w w' := by
  obtain ⟨w0, hw0⟩ : ∃ w0, w0 = w.alloc (.cells #[.int .i64 z0, .int .i64 z1, .int .i64 z2, .int .i64 z3, .string z4, .slice z5 m5 d5, .slice z6 m6 d6] 26) := ⟨_, rfl⟩
  have hb0 : Below w.heap.size w w0 := by rw [hw0]; exact (Below.refl _ _).alloc (Nat.le_refl _) _
  have hz0 : w0.heap.size = w.heap.size + 1 := by rw [hw0]; simp
  have hbx : w0.heap[w.heap.size]? = some (.cells #[.int .i64 z0, .int .i64 z1, .int .i64 z2, .int .i64 z3, .string z4, .slice z5 m5 d5, .slice z6 m6 d6] 26 (0, 0)) := by rw [hw0]; exact heap_at_alloc _ _ _ rfl
  have hx : ExAt w0 w.heap.size 0 [.int .i64 z0, .int .i64 z1, .int .i64 z2, .int .i64 z3, .string z4, .slice z5 m5 d5, .slice z6 m6 d6] := ⟨by omega, fun j u hu => by
    simp only [World.cell?, hbx]
    simpa using hu⟩
  have ht0 : TrIs w0 (fun b => b < w0.heap.size) t [.int .i64 z0, .int .i64 z1, .int .i64 z2, .int .i64 z3, .string z4, .slice z5 m5 d5, .slice z6 m6 d6] := (ht.keeps (Keeps.of_below hb0)).mono fun b _ h => h
  have hlv0 : LevAt w0 w0.heap.size := (hlv.keeps hb0.size fun b hb => hb0.block b hb).mono (by omega)
  have hnl := newLC w0
  obtain ⟨r, hr⟩ : ∃ r, r = Par.formD (12 - 0) t := ⟨_, rfl⟩
  have e12 : Par.formD 12 t = r := hr.symm
  rw [e12]
  have HX : Hid (∀ (W : World), Below w0.heap.size w0 W → SetP W (w0.heap.size + 1) [] → Calls Tryz.prog 21 #[.agg #[.map (some (w0.heap.size + 1)), .map (some (w0.heap.size + 2))], .pointer (some ⟨w.heap.size, 0, none⟩), .int .i64 0] W fun x W' => x = .returned (.bool r) ∧ W.grownBy W' (some (w0.heap.size + 1))) := by
    intro W hW hS
    rw [hr]
    refine (look_all (B := w0.heap.size + 1) (B2 := w0.heap.size + 2) (by omega) hlv0 11 0 rfl t W w.heap.size 0 _ [] hW hS (InvP.none _ _) hx ht0).mono ?_
    rintro x W' ⟨K', h1, _, h2, _, _⟩
    exact ⟨h1, h2⟩
  have HB : Hid (Below w.heap.size w w0) := hb0
  have HZ : Hid (w0.heap.size = w.heap.size + 1) := hz0
  clear hx ht0 hlv0 hb0 ht hlv hbx hr e12 hz0
  go_enter Tryz.func12, Tryz.ntmps12
  go_wp2_with fail
  rw [← hw0]
  clear hw0
  refine hnl.mono ?_
  rintro x w1 ⟨rfl, hs1, hb1⟩
  have hc := HX.out w1 hb1 hs1
  have HB1 : Hid (Below w0.heap.size w0 w1) := hb1
  clear hs1 hb1
  go_wp2_with fail
  refine hc.mono ?_
  rintro x w2 ⟨rfl, hg⟩
  have HG : Hid (w1.grownBy w2 (some (w0.heap.size + 1))) := hg
  clear hg
  go_wp2
  go_ret
  have hz := HZ.out
  exact ⟨rfl, HB.out.trans ((below_of_gr HB1.out HG.out (by omega)).mono (by omega))⟩
end Go.Proofs.YtikejmokejghcaaGreatDoor
