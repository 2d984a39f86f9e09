/- The closed fact on expressions: treed() is true. The law ParseExpr. -/
import Derived.Test.YtcdeicfegfedfaaGreatDoorExp
import Derived.Test.YtcdeicfegfedfaaGreatDoorGaTxE
import Derived.Test.YtcdeicfegfedfaaGreatDoorGaShC
import Derived.Test.YtcdeicfegfedfaaGreatDoorGaRdL
import Derived.Test.YtcdeicfegfedfaaGreatDoorRdE
import Derived.Test.YtcdeicfegfedfaaGreatDoorGaSx
import Derived.Lib.AtoiTie
namespace Go.Proofs.YtcdeicfegfedfaaGreatDoor
open Go.RowKit
open Par (Tok Po Tr nx atP isT ba Res)

def L0 : List UInt8 := [49, 43, 50, 42, 45, 40, 97, 43, 98, 41]
def M0 : Tr := .mk 3 3 0 0 (ba [42]) [] [.mk 1 2 2 1 (ba []) [] [], .mk 3 4 0 0 (ba [45]) [] [.mk 3 7 0 0 (ba [43]) [] [.mk 2 6 0 0 (ba [97]) [] [], .mk 2 8 0 0 (ba [98]) [] []]]]
def T0 : Tr := .mk 3 1 0 0 (ba [43]) [] [.mk 1 0 1 1 (ba []) [] [], M0]
set_option maxRecDepth 100000 in
theorem readT : Par.readE L0 = .ok T0 [] := by kernel_rfl
set_option maxRecDepth 100000 in
theorem formT : Par.formD 12 T0 = true := by kernel_rfl
theorem parseT : Par.parseE L0 = .ok T0 [] := by
  unfold Par.parseE
  rw [readT]
  show (if Par.formD 12 T0 = true then Res.ok T0 [] else .no 2 0) = _
  rw [if_pos formT]
theorem itoa1 : Lib.itoa 1 = [49] := by
  unfold Lib.itoa
  rw [if_neg (by decide)]
  show Lib.decDigits 1 = _
  rw [Lib.decDigits, dif_pos (by decide)]
  rfl
theorem itoa2 : Lib.itoa 2 = [50] := by
  unfold Lib.itoa
  rw [if_neg (by decide)]
  show Lib.decDigits 2 = _
  rw [Lib.decDigits, dif_pos (by decide)]
  rfl
theorem txtT : Par.txt 12 T0 = [49, 32, 43, 32, 50, 32, 42, 32, 45, 40, 97, 32, 43, 32, 98, 41] := by
  have e : Par.txt 12 T0 = Lib.itoa 1 ++ (32 :: ([43] ++ (32 :: (Lib.itoa 2 ++ (32 :: ([42] ++ (32 :: ([45] ++ (40 :: (([97] ++ (32 :: ([43] ++ (32 :: [98])))) ++ [41])))))))))) := by kernel_rfl
  rw [e, itoa1, itoa2]
  rfl
set_option maxRecDepth 100000 in
set_option maxHeartbeats 4000000 in
theorem treedC {w : World} (hI : ∀ V, Below w.heap.size w V → ItoaC V) (hl : LevAt w w.heap.size) : Calls Tryz.prog 8 #[] w fun x w' => x = .returned (.bool true) ∧ Below w.heap.size w w' := by
  have hpa := parseC ⟨#[49, 43, 50, 42, 45, 40, 97, 43, 98, 41]⟩ w (by decide) hl
  rw [show Par.parseE (⟨#[49, 43, 50, 42, 45, 40, 97, 43, 98, 41]⟩ : ByteArray).data.toList = .ok T0 [] from parseT] at hpa
  have HI : Hid (∀ V, Below w.heap.size w V → ItoaC V) := hI
  have HL : Hid (∀ V, Below w.heap.size w V → LevAt V w.heap.size) := fun V hV => hl.keeps hV.size fun b hb => hV.block b hb
  clear hI hl
  go_enter Tryz.func8, Tryz.ntmps8
  go_wp2_with fail
  refine hpa.mono ?_
  rintro x W1 ⟨hb1, ⟨t, hr, z0, z1, z2, z3, z4, z5, m5, d5, z6, m6, d6, rfl, ht⟩ | ⟨c, q, hr, _⟩⟩
  · injection hr with hr _
    subst hr
    obtain ⟨W2, hW2⟩ : ∃ W2, W2 = (W1.alloc (.cells #[.int .i64 z0, .int .i64 z1, .int .i64 z2, .int .i64 z3, .string z4, .slice z5 m5 d5, .slice z6 m6 d6] 26)).alloc (.cells #[.int .i64 0, .int .i64 0] 29) := ⟨_, rfl⟩
    have hb2 : Below W1.heap.size W1 W2 := by rw [hW2]; exact ((Below.refl _ _).alloc (Nat.le_refl _) _).alloc (by simp) _
    have hbw : Below w.heap.size w W2 := hb1.trans (hb2.mono hb1.size)
    have ht2 := ht.keeps (Keeps.of_below hb2)
    have hx2 : W2.heap[W1.heap.size]? = some (.cells #[.int .i64 z0, .int .i64 z1, .int .i64 z2, .int .i64 z3, .string z4, .slice z5 m5 d5, .slice z6 m6 d6] 26 (0, 0)) := by rw [hW2]; exact heap_past_alloc (heap_at_alloc _ _ _ rfl)
    have hy2 : W2.heap[W1.heap.size + 1]? = some (.cells #[.int .i64 0, .int .i64 0] 29 (0, 0)) := by rw [hW2]; exact heap_at_alloc _ _ _ (by simp)
    have htx := treeTextC (fun V hV => HI.out V (hbw.trans (hV.mono hbw.size))) ht2 ((HL.out W2 hbw).mono hbw.size)
    rw [if_pos formT, if_pos formT, txtT] at htx
    have HT : Hid (TrIs W2 (fun b => w.heap.size ≤ b) T0 [.int .i64 z0, .int .i64 z1, .int .i64 z2, .int .i64 z3, .string z4, .slice z5 m5 d5, .slice z6 m6 d6]) := ht2
    have HBW : Hid (Below w.heap.size w W2) := hbw
    have HXY : Hid (W2.heap[W1.heap.size]? = some (.cells #[.int .i64 z0, .int .i64 z1, .int .i64 z2, .int .i64 z3, .string z4, .slice z5 m5 d5, .slice z6 m6 d6] 26 (0, 0)) ∧ W2.heap[W1.heap.size + 1]? = some (.cells #[.int .i64 0, .int .i64 0] 29 (0, 0))) := ⟨hx2, hy2⟩
    clear hx2 hy2 ht2 ht hb2 hb1 hbw hpa
    go_wp2_with fail
    rw [← hW2]
    clear hW2
    refine htx.mono ?_
    rintro x W3 ⟨rfl, hb3⟩
    have ht3 := HT.out.keeps (Keeps.of_below hb3)
    have hx3 := (hb3.block _ (lt_of_block HXY.out.1)).trans HXY.out.1
    have hy3 := (hb3.block _ (lt_of_block HXY.out.2)).trans HXY.out.2
    have HB3 : Hid (Below w.heap.size w W3) := HBW.out.trans (hb3.mono HBW.out.size)
    have n1 := lt_of_block hx3
    have n2 := lt_of_block hy3
    obtain ⟨_, x6⟩ : True ∧ W3.cell? ⟨W1.heap.size, 6, none⟩ = some (.slice z6 m6 d6) := ⟨trivial, by simp [World.cell?, hx3]⟩
    have y0 : W3.cell? ⟨W1.heap.size + 1, 0, none⟩ = some (.int .i64 0) := by simp [World.cell?, hy3]
    obtain ⟨ab, aoff, hz6, hm6, hd6, k4, hal⟩ : ∃ ab aoff, z6 = some ⟨ab, aoff, none⟩ ∧ m6 = 2 ∧ 2 ≤ d6 ∧ W3.cell? ⟨ab, aoff + 7 + 4, none⟩ = some (.string (ba [42])) ∧ ab < W3.heap.size := by
      cases ht3 with
      | mk hs hlb hrr hcl hk =>
        obtain ⟨ao, ab, aoff, ac, hv, har⟩ := hrr
        injection hv with e1 e2 e3
        rename_i css
        have h2 : css.length = 2 := hcl
        have hk1 := hk 1 (by simp) (by omega)
        have hc1 := har.cell 1 (by omega) 4 (.string (ba [42])) (by
          generalize css[1] = cs1 at hk1
          cases hk1; rfl)
        refine ⟨ab, aoff, by rw [e1]; exact har.adr (by omega), by omega, by have := har.cap; omega, hc1, har.lt (by omega)⟩
    subst hz6 hm6
    have hb42 : (ba [42]).toList = [42] := ba_list _
    clear ht3 hx3 hy3 hb3 htx
    go_wp2
    go_ret
    exact ⟨rfl, HB3.out⟩
  · cases hr
end Go.Proofs.YtcdeicfegfedfaaGreatDoor

namespace Go.Proofs.YtcdeicfegfedfaaGreatDoor
open Go.RowKit
open Par (Tok Tr Po Res nx atP isT seesB ba)

theorem pintC : PintC := fun s n w hs h => Tryz.strconv_ParseInt s n w (by omega) (by rw [Lib.parseIntB_64, Lib.atoiAll_short _ (by simpa using hs), h]; rfl)
theorem tr_nil (w : World) (S : Nat → Prop) : TrIs w S nilT [.int .i64 0, .int .i64 0, .int .i64 0, .int .i64 0, .string ⟨#[]⟩, .slice none 0 0, .slice none 0 0] :=
  TrIs.mk (s := ⟨#[]⟩) (css := []) (by decide) (labNone _ _) ⟨none, 0, 0, 0, rfl, ⟨rfl, Nat.le_refl _, by simp [maxLen], fun h => by simp at h, fun h => by simp at h, fun h => by simp at h, fun i h => by simp at h, fun i h => by simp at h⟩⟩ rfl (fun i h => by simp at h)
def outE : Res Tr → Int × Int × Tr
  | .ok t _ => (0, 0, t)
  | .no c q => (c, (q : Int), nilT)
def outL : Res (List Po) → Int × Int × List Po
  | .ok l _ => (0, 0, l)
  | .no c q => (c, (q : Int), [])
theorem wp_open {w w' : World} {res : Res Tr} {x : Ending} (h : WPost w res x w') : Below w.heap.size w w' ∧ ∃ (z0 z1 z2 z3 : Int) (z4 : ByteArray) (z5 : Option Addr) (m5 d5 : Nat) (z6 : Option Addr) (m6 d6 : Nat), x = .returned (.tuple #[.agg #[.int .i64 z0, .int .i64 z1, .int .i64 z2, .int .i64 z3, .string z4, .slice z5 m5 d5, .slice z6 m6 d6], .agg #[.int .i64 (outE res).1, .int .i64 (outE res).2.1]]) ∧ TrIs w' (fun b => w.heap.size ≤ b) (outE res).2.2 [.int .i64 z0, .int .i64 z1, .int .i64 z2, .int .i64 z3, .string z4, .slice z5 m5 d5, .slice z6 m6 d6] := by
  obtain ⟨hb, ⟨t, hr, z0, z1, z2, z3, z4, z5, m5, d5, z6, m6, d6, hx, ht⟩ | ⟨c, q, hr, hx⟩⟩ := h
  · subst hr
    exact ⟨hb, z0, z1, z2, z3, z4, z5, m5, d5, z6, m6, d6, hx, ht⟩
  · subst hr
    exact ⟨hb, 0, 0, 0, 0, ⟨#[]⟩, none, 0, 0, none, 0, 0, hx, tr_nil _ _⟩
theorem lp_open {w w' : World} {res : Res (List Po)} {x : Ending} (h : LPost w res x w') : Below w.heap.size w w' ∧ ∃ (lo : Option Addr) (ln lc : Nat), x = .returned (.tuple #[.slice lo ln lc, .agg #[.int .i64 (outL res).1, .int .i64 (outL res).2.1]]) ∧ LabV w' (fun b => w.heap.size ≤ b) (.slice lo ln lc) (outL res).2.2 := by
  obtain ⟨hb, ⟨l, hr, lo, ln, lc, hx, ht⟩ | ⟨c, q, hr, hx⟩⟩ := h
  · subst hr
    exact ⟨hb, lo, ln, lc, hx, ht⟩
  · subst hr
    exact ⟨hb, none, 0, 0, hx, labNone _ _⟩
set_option maxRecDepth 100000 in
set_option maxHeartbeats 8000000 in
theorem law_pe (s : ByteArray) (w : World) (hs : s.size ≤ 140737488351232) (hI : ∀ V, Below w.heap.size w V → ItoaC V) (hl : LevAt w w.heap.size) (hk : TkW w) :
    Calls Tryz.prog 3 #[.string s] w fun e w' => e = .returned (.bool true) ∧ Below w.heap.size w w' := by
  obtain ⟨cE, hcE⟩ : ∃ c, c = (outE (Par.parseE s.data.toList)).1 := ⟨_, rfl⟩
  obtain ⟨qE, hqE⟩ : ∃ c, c = (outE (Par.parseE s.data.toList)).2.1 := ⟨_, rfl⟩
  obtain ⟨tE, htE⟩ : ∃ c, c = (outE (Par.parseE s.data.toList)).2.2 := ⟨_, rfl⟩
  obtain ⟨cL, hcL⟩ : ∃ c, c = (outL (Par.readL s.data.toList)).1 := ⟨_, rfl⟩
  obtain ⟨qL, hqL⟩ : ∃ c, c = (outL (Par.readL s.data.toList)).2.1 := ⟨_, rfl⟩
  obtain ⟨tL, htL⟩ : ∃ c, c = (outL (Par.readL s.data.toList)).2.2 := ⟨_, rfl⟩
  have hsm : s.size ≤ maxLen := by unfold maxLen; omega
  have HLev : Hid (∀ V, Below w.heap.size w V → LevAt V V.heap.size) := fun V hV => (hl.keeps hV.size fun b hb => hV.block b hb).mono hV.size
  have HTk : Hid (TkW w) := hk
  have HIt : Hid (∀ V, Below w.heap.size w V → ItoaC V) := hI
  have HEq : Hid (cE = (outE (Par.parseE s.data.toList)).1 ∧ qE = (outE (Par.parseE s.data.toList)).2.1 ∧ tE = (outE (Par.parseE s.data.toList)).2.2 ∧ cL = (outL (Par.readL s.data.toList)).1 ∧ qL = (outL (Par.readL s.data.toList)).2.1 ∧ tL = (outL (Par.readL s.data.toList)).2.2) := ⟨hcE, hqE, htE, hcL, hqL, htL⟩
  have h1 := parseC s w hsm hl
  clear hcE hqE htE hcL hqL htL hk hI hl
  go_enter Tryz.func3, Tryz.ntmps3
  go_wp2_with fail
  refine h1.mono ?_
  intro x w1 hp
  obtain ⟨hb1, z0, z1, z2, z3, z4, z5, m5, d5, z6, m6, d6, rfl, ht1⟩ := wp_open hp
  rw [← HEq.out.1, ← HEq.out.2.1]
  rw [← HEq.out.2.2.1] at ht1
  obtain ⟨v1, hv1⟩ : ∃ v, v = (w1.alloc (.cells #[.int .i64 z0, .int .i64 z1, .int .i64 z2, .int .i64 z3, .string z4, .slice z5 m5 d5, .slice z6 m6 d6] 26)).alloc (.cells #[.int .i64 cE, .int .i64 qE] 29) := ⟨_, rfl⟩
  have hbv1 : Below w1.heap.size w1 v1 := by rw [hv1]; exact ((Below.refl _ _).alloc (Nat.le_refl _) _).alloc (by simp) _
  have hsv1 : v1.heap.size = w1.heap.size + 2 := by rw [hv1]; simp
  have hX1 : v1.heap[w1.heap.size]? = some (.cells #[.int .i64 z0, .int .i64 z1, .int .i64 z2, .int .i64 z3, .string z4, .slice z5 m5 d5, .slice z6 m6 d6] 26 (0, 0)) := by rw [hv1]; exact heap_past_alloc (heap_at_alloc _ _ _ rfl)
  have hF1 : v1.heap[w1.heap.size + 1]? = some (.cells #[.int .i64 cE, .int .i64 qE] 29 (0, 0)) := by rw [hv1]; exact heap_at_alloc _ _ _ (by simp)
  have hB1 : Below w.heap.size w v1 := hb1.trans (hbv1.mono hb1.size)
  have h2 := parseLC s v1 hsm (HLev.out v1 hB1)
  have HB1 : Hid (Below w.heap.size w v1) := hB1
  have HX : Hid (∀ V, Below v1.heap.size v1 V → V.heap[w1.heap.size]? = some (.cells #[.int .i64 z0, .int .i64 z1, .int .i64 z2, .int .i64 z3, .string z4, .slice z5 m5 d5, .slice z6 m6 d6] 26 (0, 0)) ∧ V.heap[w1.heap.size + 1]? = some (.cells #[.int .i64 cE, .int .i64 qE] 29 (0, 0)) ∧ TrIs V (fun b => b < v1.heap.size) tE [.int .i64 z0, .int .i64 z1, .int .i64 z2, .int .i64 z3, .string z4, .slice z5 m5 d5, .slice z6 m6 d6]) := fun V hV =>
    ⟨(hV.block _ (lt_of_block hX1)).trans hX1, (hV.block _ (lt_of_block hF1)).trans hF1, TrIs.keeps ((TrIs.keeps ht1 (Keeps.of_below hbv1)).mono fun b _ hl => hl) ⟨hV.size, fun b hb _ => hV.block b hb⟩⟩
  clear h1 hp hb1 ht1 hbv1 hX1 hF1 hB1
  go_wp2_with fail
  rw [← hv1]
  clear hv1
  refine h2.mono ?_
  intro x w2 hp
  obtain ⟨hb2, lo, ln, lc, rfl, ht2⟩ := lp_open hp
  rw [← HEq.out.2.2.2.1, ← HEq.out.2.2.2.2.1]
  rw [← HEq.out.2.2.2.2.2] at ht2
  obtain ⟨v2, hv2⟩ : ∃ v, v = w2.alloc (.cells #[.int .i64 cL, .int .i64 qL] 29) := ⟨_, rfl⟩
  have hbv2 : Below w2.heap.size w2 v2 := by rw [hv2]; exact (Below.refl _ _).alloc (Nat.le_refl _) _
  have hF2 : v2.heap[w2.heap.size]? = some (.cells #[.int .i64 cL, .int .i64 qL] 29 (0, 0)) := by rw [hv2]; exact heap_at_alloc _ _ _ rfl
  have hB2 : Below v1.heap.size v1 v2 := hb2.trans (hbv2.mono hb2.size)
  have hB2w : Below w.heap.size w v2 := HB1.out.trans (hB2.mono HB1.out.size)
  have h3 := readEC s v2 hs (HTk.out.later hB2w) pintC
  have HB2 : Hid (Below v1.heap.size v1 v2) := hB2
  have HW2 : Hid (Below w.heap.size w v2) := hB2w
  have HG : Hid (∀ V, Below v2.heap.size v2 V → V.heap[w2.heap.size]? = some (.cells #[.int .i64 cL, .int .i64 qL] 29 (0, 0)) ∧ LabV V (fun b => b < v2.heap.size) (.slice lo ln lc) tL) := fun V hV =>
    ⟨(hV.block _ (lt_of_block hF2)).trans hF2, LabV.keeps ((ht2.keeps (Keeps.of_below hbv2)).mono fun b _ hl => hl) ⟨hV.size, fun b hb _ => hV.block b hb⟩⟩
  clear h2 hp hb2 ht2 hbv2 hF2 hB2 hB2w
  go_wp2_with fail
  rw [← hv2]
  clear hv2
  refine h3.mono ?_
  intro x w3 hp
  obtain ⟨hb3, y0, y1, y2, y3, y4, y5, n5, e5, y6, n6, e6, rfl, ht3⟩ := wp_open hp
  rw [← HEq.out.1, ← HEq.out.2.1]
  rw [← HEq.out.2.2.1] at ht3
  obtain ⟨v3, hv3⟩ : ∃ v, v = (w3.alloc (.cells #[.int .i64 y0, .int .i64 y1, .int .i64 y2, .int .i64 y3, .string y4, .slice y5 n5 e5, .slice y6 n6 e6] 26)).alloc (.cells #[.int .i64 cE, .int .i64 qE] 29) := ⟨_, rfl⟩
  have hbv3 : Below w3.heap.size w3 v3 := by rw [hv3]; exact ((Below.refl _ _).alloc (Nat.le_refl _) _).alloc (by simp) _
  have hX3 : v3.heap[w3.heap.size]? = some (.cells #[.int .i64 y0, .int .i64 y1, .int .i64 y2, .int .i64 y3, .string y4, .slice y5 n5 e5, .slice y6 n6 e6] 26 (0, 0)) := by rw [hv3]; exact heap_past_alloc (heap_at_alloc _ _ _ rfl)
  have hF3 : v3.heap[w3.heap.size + 1]? = some (.cells #[.int .i64 cE, .int .i64 qE] 29 (0, 0)) := by rw [hv3]; exact heap_at_alloc _ _ _ (by simp)
  have hB3 : Below v2.heap.size v2 v3 := hb3.trans (hbv3.mono hb3.size)
  have hB3w : Below w.heap.size w v3 := HW2.out.trans (hB3.mono HW2.out.size)
  have h4 := readLC s v3 hs (HTk.out.later hB3w)
  have HB3 : Hid (Below v2.heap.size v2 v3) := hB3
  have HW3 : Hid (Below w.heap.size w v3) := hB3w
  have HY : Hid (∀ V, Below v3.heap.size v3 V → V.heap[w3.heap.size]? = some (.cells #[.int .i64 y0, .int .i64 y1, .int .i64 y2, .int .i64 y3, .string y4, .slice y5 n5 e5, .slice y6 n6 e6] 26 (0, 0)) ∧ V.heap[w3.heap.size + 1]? = some (.cells #[.int .i64 cE, .int .i64 qE] 29 (0, 0)) ∧ TrIs V (fun b => b < v3.heap.size) tE [.int .i64 y0, .int .i64 y1, .int .i64 y2, .int .i64 y3, .string y4, .slice y5 n5 e5, .slice y6 n6 e6]) := fun V hV =>
    ⟨(hV.block _ (lt_of_block hX3)).trans hX3, (hV.block _ (lt_of_block hF3)).trans hF3, TrIs.keeps ((TrIs.keeps ht3 (Keeps.of_below hbv3)).mono fun b _ hl => hl) ⟨hV.size, fun b hb _ => hV.block b hb⟩⟩
  clear h3 hp hb3 ht3 hbv3 hX3 hF3 hB3 hB3w
  go_wp2_with fail
  rw [← hv3]
  clear hv3
  refine h4.mono ?_
  intro x w4 hp
  obtain ⟨hb4, ko, kn, kc, rfl, ht4⟩ := lp_open hp
  rw [← HEq.out.2.2.2.1, ← HEq.out.2.2.2.2.1]
  rw [← HEq.out.2.2.2.2.2] at ht4
  obtain ⟨v4, hv4⟩ : ∃ v, v = w4.alloc (.cells #[.int .i64 cL, .int .i64 qL] 29) := ⟨_, rfl⟩
  have hbv4 : Below w4.heap.size w4 v4 := by rw [hv4]; exact (Below.refl _ _).alloc (Nat.le_refl _) _
  have hF4 : v4.heap[w4.heap.size]? = some (.cells #[.int .i64 cL, .int .i64 qL] 29 (0, 0)) := by rw [hv4]; exact heap_at_alloc _ _ _ rfl
  have hB4 : Below v3.heap.size v3 v4 := hb4.trans (hbv4.mono hb4.size)
  have hB4w : Below w.heap.size w v4 := HW3.out.trans (hB4.mono HW3.out.size)
  have h5 := treedC (w := v4) (fun V hV => HIt.out V (hB4w.trans (hV.mono hB4w.size))) (HLev.out v4 hB4w)
  have HB4 : Hid (Below v3.heap.size v3 v4) := hB4
  have HW4 : Hid (Below w.heap.size w v4) := hB4w
  have HK : Hid (∀ V, Below v4.heap.size v4 V → V.heap[w4.heap.size]? = some (.cells #[.int .i64 cL, .int .i64 qL] 29 (0, 0)) ∧ LabV V (fun b => b < v4.heap.size) (.slice ko kn kc) tL) := fun V hV =>
    ⟨(hV.block _ (lt_of_block hF4)).trans hF4, LabV.keeps ((ht4.keeps (Keeps.of_below hbv4)).mono fun b _ hl => hl) ⟨hV.size, fun b hb _ => hV.block b hb⟩⟩
  clear h4 hp hb4 ht4 hbv4 hF4 hB4 hB4w
  go_wp2_with fail
  rw [← hv4]
  clear hv4
  refine h5.mono ?_
  rintro x w5 ⟨rfl, hb5⟩
  have HALL : Hid (∀ V, Below v4.heap.size v4 V → (w1.heap.size < V.heap.size ∧ w1.heap.size + 1 < V.heap.size ∧ w2.heap.size < V.heap.size ∧ w3.heap.size < V.heap.size ∧ w3.heap.size + 1 < V.heap.size ∧ w4.heap.size < V.heap.size) ∧ V.heap[w1.heap.size]? = some (.cells #[.int .i64 z0, .int .i64 z1, .int .i64 z2, .int .i64 z3, .string z4, .slice z5 m5 d5, .slice z6 m6 d6] 26 (0, 0)) ∧ V.heap[w1.heap.size + 1]? = some (.cells #[.int .i64 cE, .int .i64 qE] 29 (0, 0)) ∧ V.heap[w2.heap.size]? = some (.cells #[.int .i64 cL, .int .i64 qL] 29 (0, 0)) ∧ V.heap[w3.heap.size]? = some (.cells #[.int .i64 y0, .int .i64 y1, .int .i64 y2, .int .i64 y3, .string y4, .slice y5 n5 e5, .slice y6 n6 e6] 26 (0, 0)) ∧ V.heap[w3.heap.size + 1]? = some (.cells #[.int .i64 cE, .int .i64 qE] 29 (0, 0)) ∧ V.heap[w4.heap.size]? = some (.cells #[.int .i64 cL, .int .i64 qL] 29 (0, 0)) ∧
      TrIs V (fun b => b < v1.heap.size) tE [.int .i64 z0, .int .i64 z1, .int .i64 z2, .int .i64 z3, .string z4, .slice z5 m5 d5, .slice z6 m6 d6] ∧ TrIs V (fun b => b < v3.heap.size) tE [.int .i64 y0, .int .i64 y1, .int .i64 y2, .int .i64 y3, .string y4, .slice y5 n5 e5, .slice y6 n6 e6] ∧ LabV V (fun b => b < v2.heap.size) (.slice lo ln lc) tL ∧ LabV V (fun b => b < v4.heap.size) (.slice ko kn kc) tL) := by
    intro V hV
    have q3 : Below v3.heap.size v3 V := HB4.out.trans (hV.mono HB4.out.size)
    have q2 : Below v2.heap.size v2 V := HB3.out.trans (q3.mono HB3.out.size)
    have q1 : Below v1.heap.size v1 V := HB2.out.trans (q2.mono HB2.out.size)
    obtain ⟨a1, a2, a3⟩ := HX.out V q1
    obtain ⟨b1, b2⟩ := HG.out V q2
    obtain ⟨c1, c2, c3⟩ := HY.out V q3
    obtain ⟨d1, d2⟩ := HK.out V hV
    exact ⟨⟨lt_of_block a1, lt_of_block a2, lt_of_block b1, lt_of_block c1, lt_of_block c2, lt_of_block d1⟩, a1, a2, b1, c1, c2, d1, a3, c3, b2, d2⟩
  have HB5 : Hid (Below v4.heap.size v4 w5) := hb5
  clear h5 hb5
  obtain ⟨⟨l1, l2, l3, l4, l5, l6⟩, k1, k2, k3, k4, k5, k6, t1, t2, t3, t4⟩ := HALL.out w5 HB5.out
  have hse := sameExprC t1 t2
  obtain ⟨⟨p0, p1, p2, p3, p4, p5, p6⟩, _⟩ := blkE k1
  obtain ⟨⟨r0, r1, r2, r3, r4, r5, r6⟩, _⟩ := blkE k4
  obtain ⟨f0, f1⟩ := blkL k2
  obtain ⟨g0, g1⟩ := blkL k3
  obtain ⟨i0, i1⟩ := blkL k5
  obtain ⟨j0, j1⟩ := blkL k6
  clear k1 k2 k3 k4 k5 k6 t1 t2 t3 t4
  go_wp2_with fail
  refine hse.mono ?_
  rintro x w6 ⟨rfl, hb6⟩
  have HB6 : Hid (Below v4.heap.size v4 w6) := HB5.out.trans (hb6.mono HB5.out.size)
  clear hse hb6 p0 p1 p2 p3 p4 p5 p6 r0 r1 r2 r3 r4 r5 r6 f0 f1 g0 g1 i0 i1 j0 j1 l1 l2 l3 l4 l5 l6
  obtain ⟨⟨l1, l2, l3, l4, l5, l6⟩, k1, k2, k3, k4, k5, k6, t1, t2, t3, t4⟩ := HALL.out w6 HB6.out
  have hsp := sameSpotsC t1 t2
  obtain ⟨⟨p0, p1, p2, p3, p4, p5, p6⟩, _⟩ := blkE k1
  obtain ⟨⟨r0, r1, r2, r3, r4, r5, r6⟩, _⟩ := blkE k4
  clear k1 k2 k3 k4 k5 k6 t1 t2 t3 t4
  go_wp2_with fail
  refine hsp.mono ?_
  rintro x w7 ⟨rfl, hb7⟩
  have HB7 : Hid (Below v4.heap.size v4 w7) := HB6.out.trans (hb7.mono HB6.out.size)
  clear hsp hb7 p0 p1 p2 p3 p4 p5 p6 r0 r1 r2 r3 r4 r5 r6 l1 l2 l3 l4 l5 l6
  obtain ⟨_, _, _, _, _, _, _, _, _, t3, t4⟩ := HALL.out w7 HB7.out
  have hsl := sameLabM t3 t4
  clear t3 t4
  go_wp2_with fail
  refine hsl.mono ?_
  rintro x w8 ⟨rfl, hb8⟩
  have HB8 : Hid (Below v4.heap.size v4 w8) := HB7.out.trans (hb8.mono HB7.out.size)
  clear hsl hb8
  go_wp2
  go_ret
  exact ⟨rfl, HW4.out.trans (HB8.out.mono HW4.out.size)⟩
end Go.Proofs.YtcdeicfegfedfaaGreatDoor
