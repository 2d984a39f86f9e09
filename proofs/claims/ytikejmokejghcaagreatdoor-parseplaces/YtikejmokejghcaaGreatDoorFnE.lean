/- slices.ContainsFunc at expressions, with whatever test. -/
import Derived.Test.YtikejmokejghcaaGreatDoorGaFn
import Derived.Test.YtikejmokejghcaaGreatDoorFmB
namespace Go.Proofs.YtikejmokejghcaaGreatDoor
open Go.RowKit
open Par (Tok Po Tr nx atP isT ba Res)

theorem TrIs.open7 {w : World} {S : Nat → Prop} {t : Tr} {cs : List Value} (h : TrIs w S t cs) : ∃ (z0 z1 z2 z3 : Int) (z4 : ByteArray) (z5 : Option Addr) (m5 d5 : Nat) (z6 : Option Addr) (m6 d6 : Nat), cs = [.int .i64 z0, .int .i64 z1, .int .i64 z2, .int .i64 z3, .string z4, .slice z5 m5 d5, .slice z6 m6 d6] := by
  cases h with
  | mk hs hl hr hc hk =>
    obtain ⟨ao, b, off, c, rfl, _⟩ := hl.toP
    obtain ⟨ao', b', off', c', rfl, _⟩ := hr
    exact ⟨_, _, _, _, _, _, _, _, _, _, _, rfl⟩
set_option maxRecDepth 100000 in
set_option maxHeartbeats 2000000 in
theorem indexFuncE (g : Nat) (lb : Array Value) (eg : ∀ args w, (callFunc g args).run Tryz.prog w = .ok (.enter g args) w) (t : Tr → Bool) (S : Nat → Prop) (ao : Option Addr) (b off n c : Nat) (css : List (List Value)) (a : List Tr) (w : World) (hn : n = a.length) (hr : RowAt w S 7 ao b off n c css) (hl : css.length = a.length) (hk : ∀ i (h : i < a.length) (h' : i < css.length), TrIs w S a[i] css[i])
    (hp : ∀ (W : World) (i : Nat) (hi : i < a.length) (hc : i < css.length), Below w.heap.size w W → Calls Tryz.prog g (#[.agg css[i].toArray] ++ lb) W fun e w' => e = .returned (.bool (t a[i])) ∧ Below W.heap.size W w') :
    Calls Tryz.prog 15 #[.slice ao n c, .func (.func g) #[] lb] w fun e w' => e = .returned (.int .i64 (firstI t a)) ∧ Below w.heap.size w w' := by
  have HL : Hid (n = a.length) := hn
  have HC : Hid (css.length = a.length) := hl
  have HR : Hid (RowAt w S 7 ao b off n c css) := hr
  have HK : Hid (∀ i (h : i < a.length) (h' : i < css.length), TrIs w S a[i] css[i]) := hk
  have HP : Hid (∀ (W : World) (i : Nat) (hi : i < a.length) (hc : i < css.length), Below w.heap.size w W → Calls Tryz.prog g (#[.agg css[i].toArray] ++ lb) W fun e w' => e = .returned (.bool (t a[i])) ∧ Below W.heap.size W w') := hp
  have hcap := hr.cap
  have hmx := hr.mx
  unfold maxLen at hmx
  clear hn hp hl hr hk
  go_enter Tryz.func15, Tryz.ntmps15
  go_wp2
  go_loopw [8] (fun i wr => ∃ k : Nat, k ≤ n ∧ i = .int .i64 k ∧ Hid (∀ s ∈ a.take k, t s = false) ∧ Hid (Below w.heap.size w wr)) (fun i _ => n - (intOf i).toNat)
  case atStart => exact ⟨0, Nat.zero_le _, rfl, by show ∀ s ∈ _, _; simp, Below.refl _ _⟩
  case round =>
    obtain ⟨k, hk, rfl, HN, HB⟩ := hrel
    by_cases hlt : k < n
    · have hka : k < a.length := by have := HL.out; omega
      have hkc : k < css.length := by have := HC.out; omega
      have hao := HR.out.adr (by omega)
      subst hao
      obtain ⟨z0, z1, z2, z3, z4, z5, m5, d5, z6, m6, d6, hcs⟩ := (HK.out k hka hkc).open7
      have hbl := HR.out.lt (by omega)
      have hbl2 : b < wr.heap.size := Nat.lt_of_lt_of_le hbl HB.out.size
      have fc : ∀ j u, css[k][j]? = some u → wr.cell? ⟨b, off + k * 7 + j, none⟩ = some u := fun j u hu => (HB.out.cell (p := ⟨b, off + k * 7 + j, none⟩) hbl).trans (HR.out.cell k hkc j u hu)
      have hcall := HP.out wr k hka hkc HB.out
      rw [hcs] at fc hcall
      have c0 : wr.cell? ⟨b, off + k * 7, none⟩ = _ := fc 0 _ rfl
      have c1 := fc 1 _ rfl
      have c2 := fc 2 _ rfl
      have c3 := fc 3 _ rfl
      have c4 := fc 4 _ rfl
      have c5 := fc 5 _ rfl
      have c6 := fc 6 _ rfl
      obtain ⟨x, hx⟩ : ∃ x, x = a[k] := ⟨_, rfl⟩
      rw [← hx] at hcall
      have HX : Hid (x = a[k]) := hx
      clear fc hcs hx hbl
      cases hq : t x with
      | true =>
        rw [hq] at hcall
        have HF : Hid (firstI t a = (k : Int)) := firstI_hit hka HN.out (by rw [← HX.out]; exact hq)
        clear hq
        go_wp2_with fail
        refine hcall.mono ?_
        rintro e w1 ⟨rfl, hb1⟩
        go_wp2
        go_ret
        refine ⟨?_, HB.out.trans (hb1.mono HB.out.size)⟩
        rw [HF.out]; rfl
      | false =>
        rw [hq] at hcall
        have HS : Hid (∀ s ∈ a.take (k + 1), t s = false) := none_step hka HN.out (by rw [← HX.out]; exact hq)
        clear hq
        go_wp2_with fail
        refine hcall.mono ?_
        rintro e w1 ⟨rfl, hb1⟩
        have HB1 : Hid (Below w.heap.size w w1) := HB.out.trans (hb1.mono HB.out.size)
        clear hb1
        go_wp2
        go_roundw
        case rel => exact ⟨k + 1, by omega, by go_num, HS, HB1⟩
        case measure => simp [intOf]; omega
    · have HF : Hid (firstI t a = -1) := firstI_miss (by
        have := HN.out
        rwa [List.take_of_length_le (by have := HL.out; omega)] at this)
      go_wp2
      go_ret
      refine ⟨?_, HB.out⟩
      rw [HF.out]; rfl
set_option maxHeartbeats 1000000 in
theorem containsFuncE (g : Nat) (lb : Array Value) (eg : ∀ args w, (callFunc g args).run Tryz.prog w = .ok (.enter g args) w) (t : Tr → Bool) (S : Nat → Prop) (ao : Option Addr) (b off n c : Nat) (css : List (List Value)) (a : List Tr) (w : World) (hn : n = a.length) (hr : RowAt w S 7 ao b off n c css) (hl : css.length = a.length) (hk : ∀ i (h : i < a.length) (h' : i < css.length), TrIs w S a[i] css[i])
    (hp : ∀ (W : World) (i : Nat) (hi : i < a.length) (hc : i < css.length), Below w.heap.size w W → Calls Tryz.prog g (#[.agg css[i].toArray] ++ lb) W fun e w' => e = .returned (.bool (t a[i])) ∧ Below W.heap.size W w') :
    Calls Tryz.prog 8 #[.slice ao n c, .func (.func g) #[] lb] w fun e w' => e = .returned (.bool (a.any t)) ∧ Below w.heap.size w w' := by
  rw [← firstI_geq]
  have HI := indexFuncE g lb eg t S ao b off n c css a w hn hr hl hk hp
  clear hn hr hl hk hp eg
  obtain ⟨p, hp⟩ : ∃ p, p = firstI t a := ⟨_, rfl⟩
  rw [← hp] at HI ⊢
  have HK : Hid (Calls Tryz.prog 15 #[.slice ao n c, .func (.func g) #[] lb] w fun e w' => e = .returned (.int .i64 p) ∧ Below w.heap.size w w') := HI
  clear HI hp
  go_enter Tryz.func8, Tryz.ntmps8
  go_wp2_with fail
  refine HK.out.mono ?_
  rintro e w1 ⟨rfl, hb1⟩
  go_wp2
  go_ret
  exact ⟨rfl, hb1⟩
end Go.Proofs.YtikejmokejghcaaGreatDoor
