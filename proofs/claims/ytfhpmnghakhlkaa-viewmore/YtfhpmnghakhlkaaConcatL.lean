/- slices.Grow of nothing, and slices.Concat of two rows of pairs. -/
import Derived.Test.YtfhpmnghakhlkaaOwnC
import Derived.Lib.AppendZerosOnto
import Derived.Lib.AppendZeros
import Derived.Deep.DeepAppendRoom
namespace Go.Proofs.Ytfhpmnghakhlkaa
open Go.RowKit

set_option maxRecDepth 100000 in
set_option maxHeartbeats 1000000 in
theorem grow_zero (w : World) :
    Calls Try.prog 11 #[.slice none 0 0, .int .i64 0] w fun e w' => e = .returned (.slice none 0 0) ∧ w' = w := by
  go_enter Try.func11, Try.ntmps11
  go_wp2
  go_ret
  exact ⟨rfl, rfl⟩

set_option maxRecDepth 100000 in
set_option maxHeartbeats 1000000 in
theorem grow_some (N : Nat) (w : World) (h0 : 0 < N) (hb : N * 32 ≤ 281474976710656) :
    Calls Try.prog 11 #[.slice none 0 0, .int .i64 N] w fun e w' => ∃ G, e = .returned (.slice (some ⟨w.heap.size, 0, none⟩) 0 G) ∧ N ≤ G ∧ w'.ownsRow w.heap.size 29 2 (.slice (some ⟨w.heap.size, 0, none⟩) 0 G) 0 [] ∧ Below w.heap.size w w' := by
  obtain ⟨i0, hi, hz0, hz1, hz2⟩ := info_parts Try.infoPair
  have hnx : Builtin.nextslicecap (0 + N) 0 = N := by unfold Builtin.nextslicecap; rw [if_pos (by omega)]; omega
  have hrz : ∀ ty, (Builtin.append_ #[23, 3] ty #[.slice none 0 0, .int .i64 (N : Int)]).run Try.prog w =
      .ok (.slice (some ⟨w.heap.size, 0, none⟩) (0 + N) (grownCap w (0 + N) 0 29)) (w.drew.alloc (.cells (([] : List Value).toArray ++ Builtin.zeroCells #[.string ⟨#[]⟩, .string ⟨#[]⟩] N ++ Builtin.zeroCells #[.string ⟨#[]⟩, .string ⟨#[]⟩] (grownCap w (0 + N) 0 29 - (0 + N))) 29)) := fun ty =>
    Lib.run_append_grow_zeros w 23 3 ty 29 i0 _ .i64 .i64 Try.underlying23 Try.underlying3 hi hz0 none 0 0 [] (by simp [Builtin.firstCells]) N h0 (by omega) (by omega) (by omega) (by rw [hz2]; exact hb) (by rw [hnx, hz2]; exact hb)
  have hGn : 0 + N ≤ grownCap w (0 + N) 0 29 := grownCap_ge w _ _ _
  have hGm : grownCap w (0 + N) 0 29 ≤ maxLen := grownCap_le_maxLen w (0 + N) 0 29 (by unfold maxLen; omega)
  rw [Nat.zero_add] at hrz hGn hGm
  obtain ⟨G, hG⟩ : ∃ G, G = grownCap w N 0 29 := ⟨_, rfl⟩
  rw [← hG] at hrz hGn hGm
  obtain ⟨cs, hcs⟩ : ∃ cs, cs = ([] : List Value).toArray ++ Builtin.zeroCells #[.string ⟨#[]⟩, .string ⟨#[]⟩] N ++ Builtin.zeroCells #[.string ⟨#[]⟩, .string ⟨#[]⟩] (G - N) := ⟨_, rfl⟩
  rw [← hcs] at hrz
  have hcz : cs.size = G * 2 := by
    rw [hcs]; simp [Builtin.zeroCells]; omega
  have HO : Hid ((w.drew.alloc (.cells cs 29)).ownsRow w.heap.size 29 2 (.slice (some ⟨w.heap.size, 0, none⟩) 0 G) 0 []) :=
    ⟨rfl, .inr ⟨w.heap.size, G, cs, rfl, Nat.le_refl _, heap_at_alloc _ _ _ rfl, Nat.zero_le _, hGm, hcz, by simp⟩⟩
  have HB : Hid (Below w.heap.size w (w.drew.alloc (.cells cs 29))) := by
    have h : Below w.heap.size w w.drew := ⟨rfl, rfl, rfl, Nat.le_refl _, fun _ _ => rfl⟩
    exact h.alloc (Nat.le_refl _) _
  have p1 : (0 : Int) < (N : Int) := by omega
  have HGN : Hid (N ≤ G) := hGn
  have hNb : N ≤ 8796093022208 := by omega
  unfold maxLen at hGm
  clear hnx hG hcs hcz hb hGn
  go_enter Try.func11, Try.ntmps11
  go_wp2_with (at_builtin; refine Lib.wpList_append_run _ rfl _ _ _ _ rfl _ _ rfl rfl _ _ (hrz _) ?_)
  all_goals (go_ret; exact ⟨G, rfl, HGN.out, HO.out, HB.out⟩)

theorem append_none (base xo : Option Addr) (n c xc : Nat) (ty : TypeId) (w : World) (hn : n ≤ c) : (Builtin.append_ #[23, 23] ty #[.slice base n c, .slice xo 0 xc]).run Try.prog w = .ok (.slice base n c) w := by
  cases base <;> cases xo <;> simp [Builtin.append_, run_underlying Try.underlying23, go_sem, hn, Builtin.firstCells, Builtin.lenOf, storeCells]

def catUp (ps qs : List (ByteArray × ByteArray)) : Nat → List (ByteArray × ByteArray)
  | 0 => []
  | 1 => ps
  | _ => ps ++ qs
def sumUp (m r : Nat) : Nat → Nat
  | 0 => 0
  | 1 => m
  | _ => m + r
theorem sumUp_le (m r j : Nat) : sumUp m r j ≤ m + r := by
  match j with
  | 0 => simp [sumUp]
  | 1 => simp [sumUp]
  | _ + 2 => simp [sumUp]
/- The new row, as it is filled. -/
def CatSt (w wr : World) (v : Value) (l : List (ByteArray × ByteArray)) (N : Nat) : Prop :=
  Below w.heap.size w wr ∧ ((N = 0 ∧ v = .slice none 0 0) ∨ ∃ g G, v = .slice (some ⟨g, 0, none⟩) l.length G ∧ N ≤ G ∧ w.heap.size ≤ g ∧ wr.ownsRow w.heap.size 29 2 v l.length (prC l))
theorem prC_len2 (l : List (ByteArray × ByteArray)) : (prC l).length = l.length * 2 := by
  induction l with
  | nil => rfl
  | cons a r ih =>
    have e : prC (a :: r) = .string a.1 :: .string a.2 :: prC r := rfl
    rw [e]; simp [ih]; omega
theorem prC_one2 (l : List (ByteArray × ByteArray)) : ∀ u ∈ prC l, u.oneCell' = true := by
  intro u hu
  simp only [prC, List.mem_flatMap] at hu
  obtain ⟨p, _, hp⟩ := hu
  simp at hp
  rcases hp with rfl | rfl <;> rfl
theorem prs_cells_off {w : World} {b off : Nat} {l : List (ByteArray × ByteArray)} {ao : Option Addr} (h : Prs w ao b off l) : ∀ j u, (prC l)[j]? = some u → w.cell? ((⟨b, off, none⟩ : Addr).add j) = some u := by
  intro j u hu
  have e1 : (⟨b, off, none⟩ : Addr).add j = ⟨b, off + j, none⟩ := by simp [Addr.add]
  rw [e1]
  have hj : j < l.length * 2 := by
    have := (List.getElem?_eq_some_iff.1 hu).1
    rwa [prC_len2] at this
  have hk : j / 2 < l.length := by omega
  obtain ⟨h0, h1⟩ := prC_at l (j / 2) hk
  rcases Nat.mod_two_eq_zero_or_one j with e | e
  · have ej : j = j / 2 * 2 := by omega
    rw [← ej, hu] at h0
    have := h.c0 (j / 2) hk
    rw [← ej] at this
    rw [this, h0]
  · have ej : j = j / 2 * 2 + 1 := by omega
    rw [← ej, hu] at h1
    have := h.c1 (j / 2) hk
    rw [Nat.add_assoc, ← ej] at this
    rw [this, h1]

set_option maxRecDepth 100000 in
set_option maxHeartbeats 2000000 in
theorem concatP (sb : Nat) (po qo : Option Addr) (b off b' off' m r d d' : Nat) (ps qs : List (ByteArray × ByteArray)) (w : World) (hm : m = ps.length) (hr : r = qs.length) (hb : (m + r) * 32 ≤ 281474976710656)
    (s0 : w.cell? ⟨sb, 0, none⟩ = some (.slice po m d)) (s1 : w.cell? ⟨sb, 1, none⟩ = some (.slice qo r d')) (ls : sb < w.heap.size) (hp : Prs w po b off ps) (hq : Prs w qo b' off' qs) :
    Calls Try.prog 5 #[.slice (some ⟨sb, 0, none⟩) 2 2] w fun e w' => ∃ v, e = .returned v ∧ w'.ownsRow w.heap.size 29 2 v (ps ++ qs).length (prC (ps ++ qs)) ∧ Below w.heap.size w w' := by
  have HM : Hid (m = ps.length) := hm
  have HR : Hid (r = qs.length) := hr
  obtain ⟨i0, hi, hz0, hz1, hz2⟩ := info_parts Try.infoPair
  have hmb : m + r ≤ 8796093022208 := by omega
  have HB : Hid ((m + r) * 32 ≤ 281474976710656) := hb
  have S0 : Hid (w.cell? ⟨sb, 0, none⟩ = some (.slice po m d)) := s0
  have S1 : Hid (w.cell? ⟨sb, 1, none⟩ = some (.slice qo r d')) := s1
  clear hm hr hb s0 s1
  go_enter Try.func5, Try.ntmps5
  go_wp2
  go_loopw [3, 11] (fun v i wr => ∃ j : Nat, j ≤ 2 ∧ i = .int .i64 j ∧ v = .int .i64 (sumUp m r j : Nat) ∧ wr = w) (fun _ i _ => 2 - (intOf i).toNat)
  case atStart => exact ⟨0, by omega, rfl, rfl, rfl⟩
  case round =>
    obtain ⟨j, hj, rfl, rfl, hw⟩ := hrel
    subst hw
    by_cases hlt : j < 2
    · have key : ∃ xo xn xc, wr.cell? ⟨sb, j, none⟩ = some (.slice xo xn xc) ∧ sumUp m r (j + 1) = sumUp m r j + xn ∧ xn ≤ m + r := by
        match j, hlt with
        | 0, _ => exact ⟨po, m, d, S0.out, by simp [sumUp], by omega⟩
        | 1, _ => exact ⟨qo, r, d', S1.out, by simp [sumUp], by omega⟩
      obtain ⟨xo, xn, xc, f0, hs, hx⟩ := key
      have HS : Hid (sumUp m r (j + 1) = sumUp m r j + xn) := hs
      have hle := sumUp_le m r j
      have hd : decide ((j : Int) < 2) = true := by simp; omega
      clear hs
      obtain ⟨sj, hsj⟩ : ∃ sj, sj = sumUp m r j := ⟨_, rfl⟩
      rw [← hsj] at HS hle ⊢
      clear hsj
      go_wp2
      go_roundw
      case rel => exact ⟨j + 1, by omega, by go_num, by rw [HS.out]; go_num, trivial⟩
      case measure => simp [intOf]; omega
    · obtain rfl : j = 2 := by omega
      obtain ⟨wq, hwq⟩ : ∃ wq, wq = wr := ⟨wr, rfl⟩
      subst hwq
      obtain ⟨N, hN⟩ : ∃ N, N = sumUp m r 2 := ⟨_, rfl⟩
      rw [← hN]
      have hNe : N = m + r := by rw [hN]; rfl
      have HN : Hid (N = m + r) := hNe
      have hNb : N ≤ 8796093022208 := by omega
      have hrest : ∀ (v : Value) (w2 : World), CatSt wq w2 v [] N → True := fun _ _ _ => trivial
      clear hN hNe hlt hj hrest
      have HG : Hid (Calls Try.prog 11 #[.slice none 0 0, .int .i64 N] wq fun e w' => ∃ v, e = .returned v ∧ CatSt wq w' v [] N) := by
        by_cases h0 : N = 0
        · subst h0
          refine (grow_zero wq).mono ?_
          rintro e w' ⟨rfl, rfl⟩
          exact ⟨_, rfl, Below.refl _ _, .inl ⟨rfl, rfl⟩⟩
        · refine (grow_some N wq (by omega) (by rw [HN.out]; exact HB.out)).mono ?_
          rintro e w' ⟨G, rfl, hG, hown, hbel⟩
          exact ⟨_, rfl, hbel, .inr ⟨_, G, rfl, hG, Nat.le_refl _, hown⟩⟩
      go_wp2_with fail
      refine HG.out.mono ?_
      rintro e w2 ⟨v2, rfl, hst⟩
      have HST : Hid (CatSt wq w2 v2 [] N) := hst
      clear hst HG
      go_wp2
      go_loopw [6, 27] (fun v i wx => ∃ j : Nat, j ≤ 2 ∧ i = .int .i64 j ∧ Hid (CatSt wq wx v (catUp ps qs j) N)) (fun _ i _ => 2 - (intOf i).toNat)
      case atStart => exact ⟨0, by omega, rfl, HST⟩
      case round =>
        clear HST
        obtain ⟨j, hj, rfl, HST⟩ := hrel
        have hbx := HST.out.1
        by_cases hlt : j < 2
        · have key : ∃ xo xn xc xb xoff, ∃ xl : List (ByteArray × ByteArray), wq.cell? ⟨sb, j, none⟩ = some (.slice xo xn xc) ∧ xn = xl.length ∧ Prs wq xo xb xoff xl ∧ catUp ps qs (j + 1) = catUp ps qs j ++ xl ∧ (catUp ps qs j).length + xn ≤ N := by
            have h1 := HM.out
            have h2 := HR.out
            have h3 := HN.out
            match j, hlt with
            | 0, _ => exact ⟨po, m, d, b, off, ps, S0.out, h1, hp, by simp [catUp], by simp [catUp]; omega⟩
            | 1, _ => exact ⟨qo, r, d', b', off', qs, S1.out, h2, hq, by simp [catUp], by simp [catUp]; omega⟩
          obtain ⟨xo, xn, xc, xb, xoff, xl, f, hxn, hpx, hcu, hfit⟩ := key
          have f0 := (hbx.cell (p := ⟨sb, j, none⟩) ls).trans f
          have HXN : Hid (xn = xl.length) := hxn
          have HPX : Hid (Prs wq xo xb xoff xl) := hpx
          have HCU : Hid (catUp ps qs (j + 1) = catUp ps qs j ++ xl) := hcu
          obtain ⟨l, hl⟩ : ∃ l, l = catUp ps qs j := ⟨_, rfl⟩
          rw [← hl] at HST HCU hfit
          have HFT : Hid (l.length + xn ≤ N) := hfit
          have hd : decide ((j : Int) < 2) = true := by simp; omega
          have lsx : sb < wr.heap.size := Nat.lt_of_lt_of_le ls hbx.size
          have HBX : Hid (Below wq.heap.size wq wr) := hbx
          clear hxn hpx hcu hl f hfit hbx
          by_cases hx0 : xn = 0
          · have hxl : xl = [] := List.length_eq_zero_iff.1 (by rw [← HXN.out]; exact hx0)
            have HC2 : Hid (catUp ps qs (j + 1) = l) := by show _ = _; rw [HCU.out, hxl]; simp
            subst hx0
            clear hxl
            have hform : ∃ base q G, u6 = .slice base q G ∧ q ≤ G := by
              rcases HST.out.2 with ⟨_, h⟩ | ⟨g, G, h, hG, _, _⟩
              · exact ⟨none, 0, 0, h, Nat.le_refl _⟩
              · exact ⟨_, _, G, h, by have := HFT.out; omega⟩
            obtain ⟨base, q, G, hu, hqG⟩ := hform
            subst hu
            have HAN : Hid (∀ ty wx, (Builtin.append_ #[23, 23] ty #[.slice base q G, .slice xo 0 xc]).run Try.prog wx = .ok (.slice base q G) wx) := fun ty wx => append_none base xo q G xc ty wx hqG
            clear hqG
            go_wp2_with (at_builtin; refine Lib.wpList_append_run _ rfl _ _ _ _ rfl _ _ rfl rfl _ _ (HAN.out _ _) ?_)
            go_roundw
            case rel => exact ⟨j + 1, by omega, by go_num, by rw [HC2.out]; exact HST⟩
            case measure => simp [intOf]; omega
          · have hxo := HPX.out.adr (by have := HXN.out; omega)
            subst hxo
            have hform : ∃ g G, u6 = .slice (some ⟨g, 0, none⟩) l.length G ∧ N ≤ G ∧ wq.heap.size ≤ g ∧ Hid (wr.ownsRow wq.heap.size 29 2 (.slice (some ⟨g, 0, none⟩) l.length G) l.length (prC l)) := by
              rcases HST.out.2 with ⟨h, _⟩ | ⟨g, G, h, hG, hg, ho⟩
              · have := HFT.out; omega
              · exact ⟨g, G, h, hG, hg, by rw [h] at ho; exact ho⟩
            obtain ⟨g, G, hu, hNG, hgq, HO⟩ := hform
            subst hu
            have HC1 : Hid (∀ j u, (prC xl)[j]? = some u → wr.cell? ((⟨xb, xoff, none⟩ : Addr).add j) = some u) := prs_cells_off (HPX.out.later HBX.out)
            have HRM : Hid (l.length + xn ≤ G) := by have := HFT.out; show _ ≤ _; omega
            go_wp2_with (at_builtin; refine wpList_append_own_spare _ rfl _ _ 23 rfl wq.heap.size 29 i0 2 Try.underlying23 hi hz1 g l.length G _ rfl HO.out ⟨xb, xoff, none⟩ xn xc (prC xl) rfl ?c0 HC1.out (prC_one2 _) HRM.out ?_)
            case c0 => rw [prC_len2, HXN.out]
            · intro w3 hown3 hgrow3
              have HN3 : Hid (CatSt wq w3 (.slice (some ⟨g, 0, none⟩) (l.length + xn) G) (l ++ xl) N) := by
                have hl : (l ++ xl).length = l.length + xn := by rw [List.length_append, HXN.out]
                refine ⟨HBX.out.grown hgrow3 HBX.out.size (fun k he => by simp at he; omega), .inr ⟨g, G, by rw [hl], hNG, hgq, ?_⟩⟩
                rw [hl]
                simpa [prC] using hown3
              clear hown3 hgrow3
              go_wp2
              go_roundw
              case rel => exact ⟨j + 1, by omega, by go_num, by rw [HCU.out]; exact HN3⟩
              case measure => simp [intOf]; omega
        · obtain rfl : j = 2 := by omega
          have HF : Hid (wr.ownsRow wq.heap.size 29 2 u6 (ps ++ qs).length (prC (ps ++ qs))) := by
            rcases HST.out.2 with ⟨h, hv⟩ | ⟨g, G, h, _, _, ho⟩
            · have e : ps ++ qs = [] := by
                apply List.length_eq_zero_iff.1
                have h1 := HM.out
                have h2 := HR.out
                have h3 := HN.out
                rw [List.length_append]; omega
              rw [hv, e]
              exact World.ownsRow_nil _ _ _ _
            · exact ho
          go_wp2
          go_ret
          exact ⟨_, rfl, HF.out, HST.out.1⟩
end Go.Proofs.Ytfhpmnghakhlkaa
