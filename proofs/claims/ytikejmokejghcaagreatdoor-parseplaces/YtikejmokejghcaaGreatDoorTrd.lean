/- The closed fact on expressions: treed() is true. -/
import Derived.Test.YtikejmokejghcaaGreatDoorExp
import Derived.Test.YtikejmokejghcaaGreatDoorGaTxE
namespace Go.Proofs.YtikejmokejghcaaGreatDoor
open Go.RowKit
open Par (Tok Po Tr nx atP isT ba Res)

def L0 : List UInt8 := [49, 43, 50, 42, 45, 40, 97, 43, 98, 41]
def M0 : Tr := .mk 3 3 0 0 (ba [42]) [] [.mk 1 2 2 1 (ba []) [] [], .mk 3 4 0 0 (ba [45]) [] [.mk 3 7 0 0 (ba [43]) [] [.mk 2 6 0 0 (ba [97]) [] [], .mk 2 8 0 0 (ba [98]) [] []]]]
def T0 : Tr := .mk 3 1 0 0 (ba [43]) [] [.mk 1 0 1 1 (ba []) [] [], M0]
set_option maxRecDepth 100000 in
theorem readT : Par.readE L0 = .ok T0 [] := by kernel_rfl
set_option maxRecDepth 100000 in
theorem formT : Par.formD 12 T0 = true := by kernel_rfl
theorem parseT : Par.parseE L0 = .ok T0 [] := by
  unfold Par.parseE
  rw [readT]
  show (if Par.formD 12 T0 = true then Res.ok T0 [] else .no 2 0) = _
  rw [if_pos formT]
theorem itoa1 : Lib.itoa 1 = [49] := by
  unfold Lib.itoa
  rw [if_neg (by decide)]
  show Lib.decDigits 1 = _
  rw [Lib.decDigits, dif_pos (by decide)]
  rfl
theorem itoa2 : Lib.itoa 2 = [50] := by
  unfold Lib.itoa
  rw [if_neg (by decide)]
  show Lib.decDigits 2 = _
  rw [Lib.decDigits, dif_pos (by decide)]
  rfl
theorem txtT : Par.txt 12 T0 = [49, 32, 43, 32, 50, 32, 42, 32, 45, 40, 97, 32, 43, 32, 98, 41] := by
  have e : Par.txt 12 T0 = Lib.itoa 1 ++ (32 :: ([43] ++ (32 :: (Lib.itoa 2 ++ (32 :: ([42] ++ (32 :: ([45] ++ (40 :: (([97] ++ (32 :: ([43] ++ (32 :: [98])))) ++ [41])))))))))) := by kernel_rfl
  rw [e, itoa1, itoa2]
  rfl
set_option maxRecDepth 100000 in
set_option maxHeartbeats 4000000 in
theorem treedC {w : World} (hI : ∀ V, Below w.heap.size w V → ItoaC V) (hl : LevAt w w.heap.size) : Calls Tryz.prog 5 #[] w fun x w' => x = .returned (.bool true) ∧ Below w.heap.size w w' := by
  have hpa := parseC ⟨#[49, 43, 50, 42, 45, 40, 97, 43, 98, 41]⟩ w (by decide) hl
  rw [show Par.parseE (⟨#[49, 43, 50, 42, 45, 40, 97, 43, 98, 41]⟩ : ByteArray).data.toList = .ok T0 [] from parseT] at hpa
  have HI : Hid (∀ V, Below w.heap.size w V → ItoaC V) := hI
  have HL : Hid (∀ V, Below w.heap.size w V → LevAt V w.heap.size) := fun V hV => hl.keeps hV.size fun b hb => hV.block b hb
  clear hI hl
  go_enter Tryz.func5, Tryz.ntmps5
  go_wp2_with fail
  refine hpa.mono ?_
  rintro x W1 ⟨hb1, ⟨t, hr, z0, z1, z2, z3, z4, z5, m5, d5, z6, m6, d6, rfl, ht⟩ | ⟨c, q, hr, _⟩⟩
  · injection hr with hr _
    subst hr
    obtain ⟨W2, hW2⟩ : ∃ W2, W2 = (W1.alloc (.cells #[.int .i64 z0, .int .i64 z1, .int .i64 z2, .int .i64 z3, .string z4, .slice z5 m5 d5, .slice z6 m6 d6] 26)).alloc (.cells #[.int .i64 0, .int .i64 0] 29) := ⟨_, rfl⟩
    have hb2 : Below W1.heap.size W1 W2 := by rw [hW2]; exact ((Below.refl _ _).alloc (Nat.le_refl _) _).alloc (by simp) _
    have hbw : Below w.heap.size w W2 := hb1.trans (hb2.mono hb1.size)
    have ht2 := ht.keeps (Keeps.of_below hb2)
    have hx2 : W2.heap[W1.heap.size]? = some (.cells #[.int .i64 z0, .int .i64 z1, .int .i64 z2, .int .i64 z3, .string z4, .slice z5 m5 d5, .slice z6 m6 d6] 26 (0, 0)) := by rw [hW2]; exact heap_past_alloc (heap_at_alloc _ _ _ rfl)
    have hy2 : W2.heap[W1.heap.size + 1]? = some (.cells #[.int .i64 0, .int .i64 0] 29 (0, 0)) := by rw [hW2]; exact heap_at_alloc _ _ _ (by simp)
    have htx := treeTextC (fun V hV => HI.out V (hbw.trans (hV.mono hbw.size))) ht2 ((HL.out W2 hbw).mono hbw.size)
    rw [if_pos formT, if_pos formT, txtT] at htx
    have HT : Hid (TrIs W2 (fun b => w.heap.size ≤ b) T0 [.int .i64 z0, .int .i64 z1, .int .i64 z2, .int .i64 z3, .string z4, .slice z5 m5 d5, .slice z6 m6 d6]) := ht2
    have HBW : Hid (Below w.heap.size w W2) := hbw
    have HXY : Hid (W2.heap[W1.heap.size]? = some (.cells #[.int .i64 z0, .int .i64 z1, .int .i64 z2, .int .i64 z3, .string z4, .slice z5 m5 d5, .slice z6 m6 d6] 26 (0, 0)) ∧ W2.heap[W1.heap.size + 1]? = some (.cells #[.int .i64 0, .int .i64 0] 29 (0, 0))) := ⟨hx2, hy2⟩
    clear hx2 hy2 ht2 ht hb2 hb1 hbw hpa
    go_wp2_with fail
    rw [← hW2]
    clear hW2
    refine htx.mono ?_
    rintro x W3 ⟨rfl, hb3⟩
    have ht3 := HT.out.keeps (Keeps.of_below hb3)
    have hx3 := (hb3.block _ (lt_of_block HXY.out.1)).trans HXY.out.1
    have hy3 := (hb3.block _ (lt_of_block HXY.out.2)).trans HXY.out.2
    have HB3 : Hid (Below w.heap.size w W3) := HBW.out.trans (hb3.mono HBW.out.size)
    have n1 := lt_of_block hx3
    have n2 := lt_of_block hy3
    obtain ⟨_, x6⟩ : True ∧ W3.cell? ⟨W1.heap.size, 6, none⟩ = some (.slice z6 m6 d6) := ⟨trivial, by simp [World.cell?, hx3]⟩
    have y0 : W3.cell? ⟨W1.heap.size + 1, 0, none⟩ = some (.int .i64 0) := by simp [World.cell?, hy3]
    obtain ⟨ab, aoff, hz6, hm6, hd6, k4, hal⟩ : ∃ ab aoff, z6 = some ⟨ab, aoff, none⟩ ∧ m6 = 2 ∧ 2 ≤ d6 ∧ W3.cell? ⟨ab, aoff + 7 + 4, none⟩ = some (.string (ba [42])) ∧ ab < W3.heap.size := by
      cases ht3 with
      | mk hs hlb hrr hcl hk =>
        obtain ⟨ao, ab, aoff, ac, hv, har⟩ := hrr
        injection hv with e1 e2 e3
        rename_i css
        have h2 : css.length = 2 := hcl
        have hk1 := hk 1 (by simp) (by omega)
        have hc1 := har.cell 1 (by omega) 4 (.string (ba [42])) (by
          generalize css[1] = cs1 at hk1
          cases hk1; rfl)
        refine ⟨ab, aoff, by rw [e1]; exact har.adr (by omega), by omega, by have := har.cap; omega, hc1, har.lt (by omega)⟩
    subst hz6 hm6
    have hb42 : (ba [42]).toList = [42] := ba_list _
    clear ht3 hx3 hy3 hb3 htx
    go_wp2
    go_ret
    exact ⟨rfl, HB3.out⟩
  · cases hr
end Go.Proofs.YtikejmokejghcaaGreatDoor
