/- slices.Grow of nothing, and slices.Concat of two labels. Contract of label.Join. Contract of label.Less. -/
import Derived.Test.YtjfiakoningmkaaGreatDoorNormL
import Derived.Lib.AppendZerosOnto
import Derived.Lib.AppendZeros
import Derived.Deep.DeepAppendRoom
namespace Go.Proofs.YtjfiakoningmkaaGreatDoor
open Go.RowKit

set_option maxRecDepth 100000 in
set_option maxHeartbeats 1000000 in
theorem growN_zero (w : World) :
    Calls Tryz.prog 37 #[.slice none 0 0, .int .i64 0] w fun e w' => e = .returned (.slice none 0 0) ∧ w' = w := by
  go_enter Tryz.func37, Tryz.ntmps37
  go_wp2
  go_ret
  exact ⟨rfl, rfl⟩

set_option maxRecDepth 100000 in
set_option maxHeartbeats 1000000 in
theorem growN_some (N : Nat) (w : World) (h0 : 0 < N) (hb : N * 40 ≤ 281474976710656) :
    Calls Tryz.prog 37 #[.slice none 0 0, .int .i64 N] w fun e w' => ∃ G, e = .returned (.slice (some ⟨w.heap.size, 0, none⟩) 0 G) ∧ N ≤ G ∧ w'.ownsRow w.heap.size 37 2 (.slice (some ⟨w.heap.size, 0, none⟩) 0 G) 0 [] ∧ Below w.heap.size w w' := by
  obtain ⟨i0, hi, hz0, hz1, hz2⟩ := info_parts Tryz.infoPolD
  have hnx : Builtin.nextslicecap (0 + N) 0 = N := by unfold Builtin.nextslicecap; rw [if_pos (by omega)]; omega
  have hrz : ∀ ty, (Builtin.append_ #[25, 3] ty #[.slice none 0 0, .int .i64 (N : Int)]).run Tryz.prog w =
      .ok (.slice (some ⟨w.heap.size, 0, none⟩) (0 + N) (grownCap w (0 + N) 0 37)) (w.drew.alloc (.cells (([] : List Value).toArray ++ Builtin.zeroCells #[.string ⟨#[]⟩, .slice none 0 0] N ++ Builtin.zeroCells #[.string ⟨#[]⟩, .slice none 0 0] (grownCap w (0 + N) 0 37 - (0 + N))) 37)) := fun ty =>
    Lib.run_append_grow_zeros w 25 3 ty 37 i0 _ .i64 .i64 Tryz.underlying25 Tryz.underlying3 hi hz0 none 0 0 [] (by simp [Builtin.firstCells]) N h0 (by omega) (by omega) (by omega) (by rw [hz2]; exact hb) (by rw [hnx, hz2]; exact hb)
  have hGn : 0 + N ≤ grownCap w (0 + N) 0 37 := grownCap_ge w _ _ _
  have hGm : grownCap w (0 + N) 0 37 ≤ maxLen := grownCap_le_maxLen w (0 + N) 0 37 (by unfold maxLen; omega)
  rw [Nat.zero_add] at hrz hGn hGm
  obtain ⟨G, hG⟩ : ∃ G, G = grownCap w N 0 37 := ⟨_, rfl⟩
  rw [← hG] at hrz hGn hGm
  obtain ⟨cs, hcs⟩ : ∃ cs, cs = ([] : List Value).toArray ++ Builtin.zeroCells #[.string ⟨#[]⟩, .slice none 0 0] N ++ Builtin.zeroCells #[.string ⟨#[]⟩, .slice none 0 0] (G - N) := ⟨_, rfl⟩
  rw [← hcs] at hrz
  have hcz : cs.size = G * 2 := by
    rw [hcs]; simp [Builtin.zeroCells]; omega
  have HO : Hid ((w.drew.alloc (.cells cs 37)).ownsRow w.heap.size 37 2 (.slice (some ⟨w.heap.size, 0, none⟩) 0 G) 0 []) :=
    ⟨rfl, .inr ⟨w.heap.size, G, cs, rfl, Nat.le_refl _, heap_at_alloc _ _ _ rfl, Nat.zero_le _, hGm, hcz, by simp⟩⟩
  have HB : Hid (Below w.heap.size w (w.drew.alloc (.cells cs 37))) := by
    have h : Below w.heap.size w w.drew := ⟨rfl, rfl, rfl, Nat.le_refl _, fun _ _ => rfl⟩
    exact h.alloc (Nat.le_refl _) _
  have p1 : (0 : Int) < (N : Int) := by omega
  have HGN : Hid (N ≤ G) := hGn
  have hNb : N ≤ 8796093022208 := by omega
  unfold maxLen at hGm
  clear hnx hG hcs hcz hb hGn
  go_enter Tryz.func37, Tryz.ntmps37
  go_wp2_with (at_builtin; refine Lib.wpList_append_run _ rfl _ _ _ _ rfl _ _ rfl rfl _ _ (hrz _) ?_)
  all_goals (go_ret; exact ⟨G, rfl, HGN.out, HO.out, HB.out⟩)

theorem appendN_none (base xo : Option Addr) (n c xc : Nat) (ty : TypeId) (w : World) (hn : n ≤ c) : (Builtin.append_ #[25, 25] ty #[.slice base n c, .slice xo 0 xc]).run Tryz.prog w = .ok (.slice base n c) w := by
  cases base <;> cases xo <;> simp [Builtin.append_, run_underlying Tryz.underlying25, go_sem, hn, Builtin.firstCells, Builtin.lenOf, storeCells]

def catUpN (ps qs : List PV) : Nat → List PV
  | 0 => []
  | 1 => ps
  | _ => ps ++ qs
def sumUpN (m r : Nat) : Nat → Nat
  | 0 => 0
  | 1 => m
  | _ => m + r
theorem sumUpN_le (m r j : Nat) : sumUpN m r j ≤ m + r := by
  match j with
  | 0 => simp [sumUpN]
  | 1 => simp [sumUpN]
  | _ + 2 => simp [sumUpN]
/- The new row, as it is filled. -/
def CatStN (w wr : World) (v : Value) (l : List PV) (N : Nat) : Prop :=
  Below w.heap.size w wr ∧ ((N = 0 ∧ v = .slice none 0 0) ∨ ∃ g G, v = .slice (some ⟨g, 0, none⟩) l.length G ∧ N ≤ G ∧ w.heap.size ≤ g ∧ wr.ownsRow w.heap.size 37 2 v l.length (polC l))
/- A row of policies with their values. -/
structure PRow (w : World) (ao : Option Addr) (b off : Nat) (L : List PV) : Prop where
  adr : 0 < L.length → ao = some ⟨b, off, none⟩
  c0 : ∀ k (h : k < L.length), w.cell? ⟨b, off + k * 2, none⟩ = some (.string L[k].1.1)
  c1 : ∀ k (h : k < L.length), w.cell? ⟨b, off + k * 2 + 1, none⟩ = some L[k].2
  lt : 0 < L.length → b < w.heap.size
  rd : ∀ y ∈ L, ReadersAt w y.2 y.1.2
theorem PRow.later {w w' : World} {ao : Option Addr} {b off : Nat} {L : List PV} (h : PRow w ao b off L) (hb : Below w.heap.size w w') : PRow w' ao b off L :=
  ⟨h.adr, fun k hk => (hb.cell (p := ⟨b, off + k * 2, none⟩) (h.lt (by omega))).trans (h.c0 k hk), fun k hk => (hb.cell (p := ⟨b, off + k * 2 + 1, none⟩) (h.lt (by omega))).trans (h.c1 k hk), fun hp => Nat.lt_of_lt_of_le (h.lt hp) hb.size, fun y hy => (h.rd y hy).later hb⟩
theorem prow_of {w : World} {ao : Option Addr} {b off : Nat} {x : List Pol} (h : Pols w ao b off x) : ∃ L : List PV, L.map (·.1) = x ∧ PRow w ao b off L := by
  classical
  have hv : ∀ k : Fin x.length, ∃ v, w.cell? ⟨b, off + k.1 * 2 + 1, none⟩ = some v ∧ ReadersAt w v x[k.1].2 := fun k => h.c1 k.1 k.2
  let f := fun k => Classical.choose (hv k)
  have hf : ∀ k, w.cell? ⟨b, off + k.1 * 2 + 1, none⟩ = some (f k) ∧ ReadersAt w (f k) x[k.1].2 := fun k => Classical.choose_spec (hv k)
  refine ⟨List.ofFn fun k : Fin x.length => (x[k.1], f k), ?_, ?_⟩
  · apply List.ext_getElem
    · simp
    · intro i h1 h2; simp
  · refine ⟨fun hp => h.adr (by simpa using hp), fun k hk => ?_, fun k hk => ?_, fun hp => h.lt (by simpa using hp), fun y hy => ?_⟩
    · have hk' : k < x.length := by simpa using hk
      have := h.c0 k hk'
      simpa using this
    · have hk' : k < x.length := by simpa using hk
      have := (hf ⟨k, hk'⟩).1
      simpa using this
    · obtain ⟨k, rfl⟩ := List.mem_ofFn.1 hy
      exact (hf k).2
theorem prow_one {w : World} {ao : Option Addr} {b off : Nat} {L : List PV} (h : PRow w ao b off L) : ∀ u ∈ polC L, u.oneCell' = true := by
  intro u hu
  simp only [polC, List.mem_flatMap] at hu
  obtain ⟨y, hy, hp⟩ := hu
  simp [encP] at hp
  rcases hp with rfl | rfl
  · rfl
  · obtain ⟨ro, _, _, rc, e, _⟩ := h.rd y hy
    rw [e]; rfl
theorem prow_cells_off {w : World} {b off : Nat} {l : List PV} {ao : Option Addr} (h : PRow w ao b off l) : ∀ j u, (polC l)[j]? = some u → w.cell? ((⟨b, off, none⟩ : Addr).add j) = some u := by
  intro j u hu
  have e1 : (⟨b, off, none⟩ : Addr).add j = ⟨b, off + j, none⟩ := by simp [Addr.add]
  rw [e1]
  have hj : j < l.length * 2 := by
    have := (List.getElem?_eq_some_iff.1 hu).1
    rwa [polC_len] at this
  have hk : j / 2 < l.length := by omega
  obtain ⟨h0, h1⟩ := polC_at l (j / 2) hk
  rcases Nat.mod_two_eq_zero_or_one j with e | e
  · have ej : j = j / 2 * 2 := by omega
    rw [← ej, hu] at h0
    have := h.c0 (j / 2) hk
    rw [← ej] at this
    rw [this, h0]
  · have ej : j = j / 2 * 2 + 1 := by omega
    rw [← ej, hu] at h1
    have := h.c1 (j / 2) hk
    rw [Nat.add_assoc, ← ej] at this
    rw [this, h1]

set_option maxRecDepth 100000 in
set_option maxHeartbeats 2000000 in
theorem concatN (sb : Nat) (po qo : Option Addr) (b off b' off' m r d d' : Nat) (ps qs : List PV) (w : World) (hm : m = ps.length) (hr : r = qs.length) (hb : (m + r) * 40 ≤ 281474976710656)
    (s0 : w.cell? ⟨sb, 0, none⟩ = some (.slice po m d)) (s1 : w.cell? ⟨sb, 1, none⟩ = some (.slice qo r d')) (ls : sb < w.heap.size) (hp : PRow w po b off ps) (hq : PRow w qo b' off' qs) :
    Calls Tryz.prog 11 #[.slice (some ⟨sb, 0, none⟩) 2 2] w fun e w' => ∃ v, e = .returned v ∧ w'.ownsRow w.heap.size 37 2 v (ps ++ qs).length (polC (ps ++ qs)) ∧ Below w.heap.size w w' := by
  have HM : Hid (m = ps.length) := hm
  have HR : Hid (r = qs.length) := hr
  obtain ⟨i0, hi, hz0, hz1, hz2⟩ := info_parts Tryz.infoPolD
  have hmb : m + r ≤ 8796093022208 := by omega
  have HB : Hid ((m + r) * 40 ≤ 281474976710656) := hb
  have S0 : Hid (w.cell? ⟨sb, 0, none⟩ = some (.slice po m d)) := s0
  have S1 : Hid (w.cell? ⟨sb, 1, none⟩ = some (.slice qo r d')) := s1
  clear hm hr hb s0 s1
  go_enter Tryz.func11, Tryz.ntmps11
  go_wp2
  go_loopw [3, 11] (fun v i wr => ∃ j : Nat, j ≤ 2 ∧ i = .int .i64 j ∧ v = .int .i64 (sumUpN m r j : Nat) ∧ wr = w) (fun _ i _ => 2 - (intOf i).toNat)
  case atStart => exact ⟨0, by omega, rfl, rfl, rfl⟩
  case round =>
    obtain ⟨j, hj, rfl, rfl, hw⟩ := hrel
    subst hw
    by_cases hlt : j < 2
    · have key : ∃ xo xn xc, wr.cell? ⟨sb, j, none⟩ = some (.slice xo xn xc) ∧ sumUpN m r (j + 1) = sumUpN m r j + xn ∧ xn ≤ m + r := by
        match j, hlt with
        | 0, _ => exact ⟨po, m, d, S0.out, by simp [sumUpN], by omega⟩
        | 1, _ => exact ⟨qo, r, d', S1.out, by simp [sumUpN], by omega⟩
      obtain ⟨xo, xn, xc, f0, hs, hx⟩ := key
      have HS : Hid (sumUpN m r (j + 1) = sumUpN m r j + xn) := hs
      have hle := sumUpN_le m r j
      have hd : decide ((j : Int) < 2) = true := by simp; omega
      clear hs
      obtain ⟨sj, hsj⟩ : ∃ sj, sj = sumUpN m r j := ⟨_, rfl⟩
      rw [← hsj] at HS hle ⊢
      clear hsj
      go_wp2
      go_roundw
      case rel => exact ⟨j + 1, by omega, by go_num, by rw [HS.out]; go_num, trivial⟩
      case measure => simp [intOf]; omega
    · obtain rfl : j = 2 := by omega
      obtain ⟨wq, hwq⟩ : ∃ wq, wq = wr := ⟨wr, rfl⟩
      subst hwq
      obtain ⟨N, hN⟩ : ∃ N, N = sumUpN m r 2 := ⟨_, rfl⟩
      rw [← hN]
      have hNe : N = m + r := by rw [hN]; rfl
      have HN : Hid (N = m + r) := hNe
      have hNb : N ≤ 8796093022208 := by omega
      have hrest : ∀ (v : Value) (w2 : World), CatStN wq w2 v [] N → True := fun _ _ _ => trivial
      clear hN hNe hlt hj hrest
      have HG : Hid (Calls Tryz.prog 37 #[.slice none 0 0, .int .i64 N] wq fun e w' => ∃ v, e = .returned v ∧ CatStN wq w' v [] N) := by
        by_cases h0 : N = 0
        · subst h0
          refine (growN_zero wq).mono ?_
          rintro e w' ⟨rfl, rfl⟩
          exact ⟨_, rfl, Below.refl _ _, .inl ⟨rfl, rfl⟩⟩
        · refine (growN_some N wq (by omega) (by rw [HN.out]; exact HB.out)).mono ?_
          rintro e w' ⟨G, rfl, hG, hown, hbel⟩
          exact ⟨_, rfl, hbel, .inr ⟨_, G, rfl, hG, Nat.le_refl _, hown⟩⟩
      go_wp2_with fail
      refine HG.out.mono ?_
      rintro e w2 ⟨v2, rfl, hst⟩
      have HST : Hid (CatStN wq w2 v2 [] N) := hst
      clear hst HG
      go_wp2
      go_loopw [6, 27] (fun v i wx => ∃ j : Nat, j ≤ 2 ∧ i = .int .i64 j ∧ Hid (CatStN wq wx v (catUpN ps qs j) N)) (fun _ i _ => 2 - (intOf i).toNat)
      case atStart => exact ⟨0, by omega, rfl, HST⟩
      case round =>
        clear HST
        obtain ⟨j, hj, rfl, HST⟩ := hrel
        have hbx := HST.out.1
        by_cases hlt : j < 2
        · have key : ∃ xo xn xc xb xoff, ∃ xl : List PV, wq.cell? ⟨sb, j, none⟩ = some (.slice xo xn xc) ∧ xn = xl.length ∧ PRow wq xo xb xoff xl ∧ catUpN ps qs (j + 1) = catUpN ps qs j ++ xl ∧ (catUpN ps qs j).length + xn ≤ N := by
            have h1 := HM.out
            have h2 := HR.out
            have h3 := HN.out
            match j, hlt with
            | 0, _ => exact ⟨po, m, d, b, off, ps, S0.out, h1, hp, by simp [catUpN], by simp [catUpN]; omega⟩
            | 1, _ => exact ⟨qo, r, d', b', off', qs, S1.out, h2, hq, by simp [catUpN], by simp [catUpN]; omega⟩
          obtain ⟨xo, xn, xc, xb, xoff, xl, f, hxn, hpx, hcu, hfit⟩ := key
          have f0 := (hbx.cell (p := ⟨sb, j, none⟩) ls).trans f
          have HXN : Hid (xn = xl.length) := hxn
          have HPX : Hid (PRow wq xo xb xoff xl) := hpx
          have HON : Hid (∀ u ∈ polC xl, u.oneCell' = true) := prow_one hpx
          have HCU : Hid (catUpN ps qs (j + 1) = catUpN ps qs j ++ xl) := hcu
          obtain ⟨l, hl⟩ : ∃ l, l = catUpN ps qs j := ⟨_, rfl⟩
          rw [← hl] at HST HCU hfit
          have HFT : Hid (l.length + xn ≤ N) := hfit
          have hd : decide ((j : Int) < 2) = true := by simp; omega
          have lsx : sb < wr.heap.size := Nat.lt_of_lt_of_le ls hbx.size
          have HBX : Hid (Below wq.heap.size wq wr) := hbx
          clear hxn hpx hcu hl f hfit hbx
          by_cases hx0 : xn = 0
          · have hxl : xl = [] := List.length_eq_zero_iff.1 (by rw [← HXN.out]; exact hx0)
            have HC2 : Hid (catUpN ps qs (j + 1) = l) := by show _ = _; rw [HCU.out, hxl]; simp
            subst hx0
            clear hxl
            have hform : ∃ base q G, u6 = .slice base q G ∧ q ≤ G := by
              rcases HST.out.2 with ⟨_, h⟩ | ⟨g, G, h, hG, _, _⟩
              · exact ⟨none, 0, 0, h, Nat.le_refl _⟩
              · exact ⟨_, _, G, h, by have := HFT.out; omega⟩
            obtain ⟨base, q, G, hu, hqG⟩ := hform
            subst hu
            have HAN : Hid (∀ ty wx, (Builtin.append_ #[25, 25] ty #[.slice base q G, .slice xo 0 xc]).run Tryz.prog wx = .ok (.slice base q G) wx) := fun ty wx => appendN_none base xo q G xc ty wx hqG
            clear hqG
            go_wp2_with (at_builtin; refine Lib.wpList_append_run _ rfl _ _ _ _ rfl _ _ rfl rfl _ _ (HAN.out _ _) ?_)
            go_roundw
            case rel => exact ⟨j + 1, by omega, by go_num, by rw [HC2.out]; exact HST⟩
            case measure => simp [intOf]; omega
          · have hxo := HPX.out.adr (by have := HXN.out; omega)
            subst hxo
            have hform : ∃ g G, u6 = .slice (some ⟨g, 0, none⟩) l.length G ∧ N ≤ G ∧ wq.heap.size ≤ g ∧ Hid (wr.ownsRow wq.heap.size 37 2 (.slice (some ⟨g, 0, none⟩) l.length G) l.length (polC l)) := by
              rcases HST.out.2 with ⟨h, _⟩ | ⟨g, G, h, hG, hg, ho⟩
              · have := HFT.out; omega
              · exact ⟨g, G, h, hG, hg, by rw [h] at ho; exact ho⟩
            obtain ⟨g, G, hu, hNG, hgq, HO⟩ := hform
            subst hu
            have HC1 : Hid (∀ j u, (polC xl)[j]? = some u → wr.cell? ((⟨xb, xoff, none⟩ : Addr).add j) = some u) := prow_cells_off (HPX.out.later HBX.out)
            have HRM : Hid (l.length + xn ≤ G) := by have := HFT.out; show _ ≤ _; omega
            go_wp2_with (at_builtin; refine wpList_append_own_spare _ rfl _ _ 25 rfl wq.heap.size 37 i0 2 Tryz.underlying25 hi hz1 g l.length G _ rfl HO.out ⟨xb, xoff, none⟩ xn xc (polC xl) rfl ?c0 HC1.out HON.out HRM.out ?_)
            case c0 => rw [polC_len, HXN.out]
            · intro w3 hown3 hgrow3
              have HN3 : Hid (CatStN wq w3 (.slice (some ⟨g, 0, none⟩) (l.length + xn) G) (l ++ xl) N) := by
                have hl : (l ++ xl).length = l.length + xn := by rw [List.length_append, HXN.out]
                refine ⟨HBX.out.grown hgrow3 HBX.out.size (fun k he => by simp at he; omega), .inr ⟨g, G, by rw [hl], hNG, hgq, ?_⟩⟩
                rw [hl]
                simpa [polC] using hown3
              clear hown3 hgrow3
              go_wp2
              go_roundw
              case rel => exact ⟨j + 1, by omega, by go_num, by rw [HCU.out]; exact HN3⟩
              case measure => simp [intOf]; omega
        · obtain rfl : j = 2 := by omega
          have HF : Hid (wr.ownsRow wq.heap.size 37 2 u6 (ps ++ qs).length (polC (ps ++ qs))) := by
            rcases HST.out.2 with ⟨h, hv⟩ | ⟨g, G, h, _, _, ho⟩
            · have e : ps ++ qs = [] := by
                apply List.length_eq_zero_iff.1
                have h1 := HM.out
                have h2 := HR.out
                have h3 := HN.out
                rw [List.length_append]; omega
              rw [hv, e]
              exact World.ownsRow_nil _ _ _ _
            · exact ho
          go_wp2
          go_ret
          exact ⟨_, rfl, HF.out, HST.out.1⟩
end Go.Proofs.YtjfiakoningmkaaGreatDoor

namespace Go.Proofs.YtjfiakoningmkaaGreatDoor
open Go.RowKit

theorem norm_facts {ls : List ByteArray} {ps : List (ByteArray × ByteArray)} {x y : List Pol} (h0 : checkF ls ps = 0) (hof : Lab.OfL ls x) (h6 : ∀ p ∈ x, p.2.length ≤ 6) (hn : Lab.Norm blt plt ps x y) : Lab.OfL ls y ∧ (∀ p ∈ y, p.2.length ≤ 6) ∧ checkL ls ps y = 0 ∧ ∀ p ∈ y, SmallP p := by
  have hcl : ∀ c ∈ y, Lab.cleaned blt x c := fun c hc => ((hn.mem c).1 hc).1
  have hofy : Lab.OfL ls y := fun c hc => of_clean hof (hcl c hc)
  have h6y : ∀ p ∈ y, p.2.length ≤ 6 := by
    intro c hc
    obtain ⟨p, hp, h⟩ := hcl c hc
    rw [← Lab.clean_unique blt_order (plainF_clean p) h]
    have h1 := plainF_len p
    have h2 := h6 p hp
    omega
  have hlen : y.length ≤ 192 := by
    refine Lab.norm_few blt_order plt_order (right_of h0).1 hn.up (fun c hc => ?_) hofy
    obtain ⟨p, hp, h⟩ := hcl c hc
    refine ⟨rfl, h.up, fun r => ⟨fun hr => ⟨hr, ?_⟩, fun hr => hr.1⟩⟩
    rw [h.own]
    exact ((h.mem r).1 hr).2
  exact ⟨hofy, h6y, checkL_of h0 (by omega) hofy h6y, smallP_of h0 hofy h6y⟩

set_option maxRecDepth 100000 in
set_option maxHeartbeats 2000000 in
theorem joinC (ao po lo mo : Option Addr) (b off b' off' n m c d lb loff ln lc mb moff mn mc : Nat) (ls : List ByteArray) (ps : List (ByteArray × ByteArray)) (x z : List Pol) (w : World) (hc : Chiefs w ao po b off b' off' n m c ls ps) (hx : LabAt w lo lb loff ln lc x) (hz : LabAt w mo mb moff mn mc z) :
    Calls Tryz.prog 5 #[.slice ao n c, .slice po m d, .slice lo ln lc, .slice mo mn mc] w fun e w' => ∃ (v : Value) (y : List Pol), e = .returned (.tuple #[v, .int .i64 (bothL ls ps x z)]) ∧ (bothL ls ps x z = 0 → Lab.Norm blt plt ps (x ++ z) y) ∧ LabNew w' w.heap.size v y ∧ Below w.heap.size w w' := by
  have hk0 := checkBothC ao po lo mo b off b' off' n m c d lb loff ln lc mb moff mn mc ls ps x z w hc hx hz
  have HC : Hid (Chiefs w ao po b off b' off' n m c ls ps) := hc
  have HX : Hid (LabAt w lo lb loff ln lc x) := hx
  have HZ : Hid (LabAt w mo mb moff mn mc z) := hz
  clear hc hx hz
  by_cases h0 : bothL ls ps x z = 0
  · have HCK : Hid (checkF ls ps = 0 ∧ x.length ≤ 200 ∧ Lab.OfL ls x ∧ ∀ p ∈ x, p.2.length ≤ 6) := checkL_ok (both_ok h0).1
    have HCZ : Hid (checkF ls ps = 0 ∧ z.length ≤ 200 ∧ Lab.OfL ls z ∧ ∀ p ∈ z, p.2.length ≤ 6) := checkL_ok (both_ok h0).2
    rw [h0]
    rw [h0] at hk0
    clear h0
    go_enter Tryz.func5, Tryz.ntmps5
    go_wp2_with fail
    refine hk0.mono ?_
    rintro e w1 ⟨rfl, hb1⟩
    have HB1 : Hid (Below w.heap.size w w1) := hb1
    have hwh := wholeL ao po b off b' off' n m c d ls ps w1 (HC.out.later hb1) HCK.out.1
    clear hb1 hk0
    go_wp2_with fail
    refine hwh.mono ?_
    rintro e w2 ⟨rfl, hord, hb2⟩
    have HB2 : Hid (Below w.heap.size w w2) := HB1.out.trans (hb2.mono HB1.out.size)
    obtain ⟨wz, hwz⟩ : ∃ wz, wz = w2.alloc (.cells #[.slice lo ln lc, .slice mo mn mc] 25) := ⟨_, rfl⟩
    have hbz : Below w2.heap.size w2 wz := by rw [hwz]; exact (Below.refl _ _).alloc (Nat.le_refl _) _
    have k0 : wz.heap[w2.heap.size]? = some (.cells #[.slice lo ln lc, .slice mo mn mc] 25 (0, 0)) := by rw [hwz]; exact heap_at_alloc _ _ _ rfl
    have HBZ : Hid (Below w.heap.size w wz) := HB2.out.trans (hbz.mono HB2.out.size)
    obtain ⟨L1, hL1, hp1⟩ := prow_of (HX.out.later HBZ.out).pols
    obtain ⟨L2, hL2, hp2⟩ := prow_of (HZ.out.later HBZ.out).pols
    have l1 : ln = L1.length := by have := HX.out.ln; rw [← hL1, List.length_map] at this; exact this
    have l2 : mn = L2.length := by have := HZ.out.ln; rw [← hL2, List.length_map] at this; exact this
    have b1 : L1.length ≤ 200 := by have := HCK.out.2.1; rw [← hL1, List.length_map] at this; exact this
    have b2 : L2.length ≤ 200 := by have := HCZ.out.2.1; rw [← hL2, List.length_map] at this; exact this
    have hcat := concatN w2.heap.size lo mo lb loff mb moff ln mn lc mc L1 L2 wz l1 l2 (by omega) (by simp [World.cell?, k0]) (by simp [World.cell?, k0]) (lt_of_block k0) hp1 hp2
    have HRD : Hid (∀ y ∈ L1 ++ L2, ReadersAt wz y.2 y.1.2) := fun y hy => (List.mem_append.1 hy).elim (hp1.rd y) (hp2.rd y)
    have HMAP : Hid ((L1 ++ L2).map (·.1) = x ++ z) := by show _ = _; rw [List.map_append, hL1, hL2]
    have HLEN : Hid ((L1 ++ L2).length ≤ 400) := by show _ ≤ _; rw [List.length_append]; omega
    have HORD : Hid (Ord wz w1.heap.size (Act.acts ls ps)) := hord.later hbz
    have HWZ : Hid (wz = w2.alloc (.cells #[.slice lo ln lc, .slice mo mn mc] 25)) := hwz
    clear hord hb2 hwh hwz hbz k0 hL1 hL2 hp1 hp2 l1 l2 b1 b2
    obtain ⟨L, hL⟩ : ∃ L, L = L1 ++ L2 := ⟨_, rfl⟩
    rw [← hL] at hcat HRD HMAP HLEN
    clear hL
    go_wp2_with fail
    rw [← HWZ.out]
    refine hcat.mono ?_
    rintro e w3 ⟨v3, rfl, ho3, hb3⟩
    obtain ⟨co, cc, hv3⟩ := slice_of ho3
    subst hv3
    have HB3 : Hid (Below w.heap.size w w3) := HBZ.out.trans (hb3.mono HBZ.out.size)
    obtain ⟨cb, coff, hpc⟩ := pols_own rfl ho3 (fun y hy => (HRD.out y hy).later hb3)
    have hno := normalN w1.heap.size ls ps co cb coff L.length cc (L.map (·.1)) w3 HCK.out.1
      (by rw [HMAP.out]; exact fun p hp => (List.mem_append.1 hp).elim (HCK.out.2.2.1 p) (HCZ.out.2.2.1 p))
      (by rw [HMAP.out]; exact fun p hp => (List.mem_append.1 hp).elim (HCK.out.2.2.2 p) (HCZ.out.2.2.2 p))
      (HORD.out.later hb3) (by rw [List.length_map]) (by have := HLEN.out; omega) hpc
    rw [HMAP.out] at hno
    clear hpc hb3 ho3 hcat HORD HRD
    go_wp2_with fail
    refine hno.mono ?_
    rintro e w4 ⟨v, y, rfl, hy, hl, hb4⟩
    have HF : Hid (Lab.Norm blt plt ps (x ++ z) y ∧ LabNew w4 w.heap.size v y ∧ Below w.heap.size w w4) := ⟨hy, by
      obtain ⟨M, k1, k2, k3⟩ := hl
      exact ⟨M, k1, ownsRow_le' k2 HB3.out.size, k3⟩, HB3.out.trans (hb4.mono HB3.out.size)⟩
    clear hy hl hb4 hno
    go_wp2
    go_ret2
    exact ⟨v, y, rfl, fun _ => HF.out.1, HF.out.2.1, HF.out.2.2⟩
  · obtain ⟨e0, he0⟩ : ∃ e0, e0 = bothL ls ps x z := ⟨_, rfl⟩
    rw [← he0] at hk0 h0 ⊢
    have hb : (e0 == 0) = false := by simp [h0]
    have hb' : (e0 != 0) = true := by simp [h0]
    have HH : Hid (¬ e0 = 0) := h0
    clear h0 he0
    go_enter Tryz.func5, Tryz.ntmps5
    go_wp2_with fail
    refine hk0.mono ?_
    rintro e w1 ⟨rfl, hb1⟩
    have HB1 : Hid (Below w.heap.size w w1) := hb1
    clear hb1 hk0
    go_wp2
    go_ret2
    exact ⟨_, [], rfl, fun h => absurd h HH.out, ⟨[], rfl, World.ownsRow_nil _ _ _ _, fun z hz => by cases hz⟩, HB1.out⟩
end Go.Proofs.YtjfiakoningmkaaGreatDoor

namespace Go.Proofs.YtjfiakoningmkaaGreatDoor
open Go.RowKit Go.Maps

def lessE (ls : List ByteArray) (ps : List (ByteArray × ByteArray)) (x : List Pol) (bs : List ByteArray) : Int := if checkL ls ps x = 0 then amongF ls bs else checkL ls ps x
def goesB (ls : List ByteArray) (ps : List (ByteArray × ByteArray)) (bs : List ByteArray) (p : Pol) : Bool := bs.any fun a => Act.acts ls ps a p.1
def leftF (ls : List ByteArray) (ps : List (ByteArray × ByteArray)) (x : List Pol) (bs : List ByteArray) : List Pol := x.filter fun p => !goesB ls ps bs p

theorem may_any (B : Nat) (T : ByteArray → ByteArray → Bool) (ob pb : Nat) (o a : ByteArray) (w : World) (h : Ord w B T) (ha : a.size ≤ maxLen) (ho : o.size ≤ maxLen)
    (c0 : w.cell? ⟨ob, 0, none⟩ = some (.map (some B))) (c1 : w.cell? ⟨pb, 0, none⟩ = some (.string o)) :
    Calls Tryz.prog 21 #[.string a, .pointer (some ⟨ob, 0, none⟩), .pointer (some ⟨pb, 0, none⟩)] w fun e w' => e = .returned (.bool (T a o)) ∧ Below w.heap.size w w' := by
  have HK : Hid (Calls Tryz.prog 22 #[.map (some B), .string a, .string o] w fun e w' => e = .returned (.bool (T a o)) ∧ Below w.heap.size w w') := oacts_any B T a o w h ha ho
  clear h ha ho
  obtain ⟨t, ht⟩ : ∃ t, t = T a o := ⟨_, rfl⟩
  rw [← ht] at HK ⊢
  clear ht
  go_enter Tryz.func21, Tryz.ntmps21
  go_wp2_with fail
  refine HK.out.mono ?_
  rintro e w1 ⟨rfl, hb1⟩
  go_wp2
  go_ret
  exact ⟨rfl, hb1⟩

theorem RiseSt.add {w wr w2 w3 : World} {v v2 : Value} {L : List PV} {B : Nat} {T : ByteArray → ByteArray → Bool} {y : PV} (h : RiseSt w wr v L B T) (hB : B < w.heap.size) (hb : Below wr.heap.size wr w2) (ho : Off w2 v.ownBlock y) (hown : w3.ownsRow (w.heap.size + 1) 37 2 v2 (L.length + 1) (polC L ++ [.string y.1.1, y.2]))
    (hgr : (w2.alloc (.cells #[.string y.1.1, y.2] 37)).grownBy w3 v.ownBlock) (hloc : v2.ownBlock = v.ownBlock ∨ v2.ownBlock = some (w2.alloc (.cells #[.string y.1.1, y.2] 37)).heap.size) : RiseSt w w3 v2 (L ++ [y]) B T := by
  have h2 := (h.later hb).later ((Below.refl w2.heap.size w2).alloc (Nat.le_refl _) (.cells #[.string y.1.1, y.2] 37))
  have hne : ∀ k, some k = v.ownBlock → w.heap.size + 1 ≤ k := fun k he => (h.own.lt _ he.symm).1
  refine ⟨h2.bel.grown hgr h2.bel.size (fun k he => by have := hne k he.symm; omega), ?_, ?_, ?_, fun z hz => ?_⟩
  · rw [hgr.block _ (lt_of_block h2.box) (fun he => by have := hne _ he; omega)]; exact h2.box
  · obtain ⟨n, D, k1, k2⟩ := h2.ord
    exact ⟨n, D, k1.kept hgr (fun he => by have := hne _ he; omega), k2⟩
  · rw [← polC_snoc, List.length_append]; exact hown
  · rcases List.mem_append.1 hz with hz | hz
    · exact off_step (h2.off z hz) hgr hloc
    · have e : z = y := by simpa using hz
      subst e
      exact off_step (ho.later ((Below.refl _ _).alloc (Nat.le_refl _) _)) hgr hloc
theorem left_step {ls : List ByteArray} {ps : List (ByteArray × ByteArray)} {x : List Pol} {bs : List ByteArray} {k : Nat} (hk : k < x.length) : leftF ls ps (x.take (k + 1)) bs = leftF ls ps (x.take k) bs ++ (if goesB ls ps bs x[k] = true then [] else [x[k]]) := by
  unfold leftF
  rw [List.take_succ_eq_append_getElem hk, List.filter_append]
  congr 1
  cases h : goesB ls ps bs x[k] <;> simp [h]

set_option maxRecDepth 100000 in
set_option maxHeartbeats 4000000 in
theorem lessC (ao po lo vo : Option Addr) (b off b' off' n m c d lb loff ln lc vb voff vn vc : Nat) (ls : List ByteArray) (ps : List (ByteArray × ByteArray)) (x : List Pol) (bs : List ByteArray) (w : World) (hc : Chiefs w ao po b off b' off' n m c ls ps) (hx : LabAt w lo lb loff ln lc x) (hvn : vn = bs.length) (hvm : vn ≤ maxLen) (hv : Strs w vo vb voff bs) :
    Calls Tryz.prog 6 #[.slice ao n c, .slice po m d, .slice lo ln lc, .slice vo vn vc] w fun e w' => ∃ (v : Value) (y : List Pol), e = .returned (.tuple #[v, .int .i64 (lessE ls ps x bs)]) ∧ (lessE ls ps x bs = 0 → Lab.Norm blt plt ps (leftF ls ps x bs) y) ∧ LabNew w' w.heap.size v y ∧ Below w.heap.size w w' := by
  have hk0 := checkLab ao po lo b off b' off' n m c d lb loff ln lc ls ps x w hc hx
  have HC : Hid (Chiefs w ao po b off b' off' n m c ls ps) := hc
  have HX : Hid (LabAt w lo lb loff ln lc x) := hx
  have HVN : Hid (vn = bs.length) := hvn
  have HVM : Hid (vn ≤ maxLen) := hvm
  have HV : Hid (Strs w vo vb voff bs) := hv
  clear hc hx hvn hvm hv
  by_cases h0 : checkL ls ps x = 0
  · have HE : Hid (lessE ls ps x bs = amongF ls bs) := by show _ = _; simp [lessE, h0]
    have HCK : Hid (checkF ls ps = 0 ∧ x.length ≤ 200 ∧ Lab.OfL ls x ∧ ∀ p ∈ x, p.2.length ≤ 6) := checkL_ok h0
    rw [HE.out]
    rw [h0] at hk0
    clear h0 HE
    have HAM : Hid (∀ w1, Below w.heap.size w w1 → Calls Tryz.prog 20 #[.slice ao n c, .slice vo vn vc] w1 fun e w' => e = .returned (.int .i64 (amongF ls bs)) ∧ w' = w1) := fun w1 hb => among_any ao vo b off vb voff n vn c vc ls bs w1 HC.out.ln HC.out.mn HVN.out HVM.out (HC.out.strs.later hb) (HV.out.later hb)
    by_cases h1 : amongF ls bs = 0
    · have HBS : Hid (bs.length ≤ 6 ∧ ∀ s ∈ bs, s ∈ ls) := among_ok h1
      rw [h1] at HAM ⊢
      clear h1
      have hmf : ∀ (fn : Fn) (first cap : Array Value) (w : World), (Instr.makeFunc fn first cap).run Tryz.prog w = .ok (.func fn first cap) w := fun _ _ _ _ => rfl
      have HNL : Hid (∀ s ∈ ls, s.size ≤ maxLen) := fun s hs => by have := name_short ((right_of HCK.out.1).2.2.2 s hs); unfold maxLen; omega
      have hln : ln ≤ 200 := by have h1 := HCK.out.2.1; have h2 := HX.out.ln; omega
      obtain ⟨i0, hi, hz0, hz1, hz2⟩ := info_parts Tryz.infoPolD
      go_enter Tryz.func6, Tryz.ntmps6
      go_wp2_with fail
      refine hk0.mono ?_
      rintro e w1 ⟨rfl, hb1⟩
      have HB1 : Hid (Below w.heap.size w w1) := hb1
      clear hb1 hk0
      go_wp2_with fail
      refine (HAM.out w1 HB1.out).mono ?_
      rintro e w1' ⟨rfl, rfl⟩
      have hwh := wholeL ao po b off b' off' n m c d ls ps w1' (HC.out.later HB1.out) HCK.out.1
      clear HAM
      go_wp2_with fail
      refine hwh.mono ?_
      rintro e w2 ⟨rfl, hord, hb2⟩
      have HB2 : Hid (Below w.heap.size w w2) := HB1.out.trans (hb2.mono HB1.out.size)
      obtain ⟨B, hB⟩ : ∃ B, B = w1'.heap.size := ⟨_, rfl⟩
      rw [← hB] at hord
      have HBW : Hid (B < w2.heap.size) := hord.lt
      have HS0 : Hid (RiseSt w2 (w2.alloc (.cells #[.map (some B)] 45)) (.slice none 0 0) [] B (Act.acts ls ps)) := by
        have hb : Below w2.heap.size w2 (w2.alloc (.cells #[.map (some B)] 45)) := (Below.refl _ _).alloc (Nat.le_refl _) _
        exact ⟨hb, heap_at_alloc _ _ _ rfl, hord.later hb, World.ownsRow_nil _ _ _ _, fun y hy => by cases hy⟩
      rw [← hB]
      clear hord hb2 hwh hB HB1
      go_wp2
      go_loopw [13, 35] (fun v i wr => ∃ k : Nat, k ≤ ln ∧ i = .int .i64 k ∧ Hid (∃ L : List PV, RiseSt w2 wr v L B (Act.acts ls ps) ∧ L.map (·.1) = leftF ls ps (x.take k) bs)) (fun _ i _ => ln - (intOf i).toNat)
      case atStart => exact ⟨0, Nat.zero_le _, rfl, [], HS0.out, rfl⟩
      case round =>
        clear HS0
        obtain ⟨k, hk, rfl, HL⟩ := hrel
        obtain ⟨L, hS, hLm⟩ := HL.out
        have HS : Hid (RiseSt w2 wr u13 L B (Act.acts ls ps)) := hS
        have HLM : Hid (L.map (·.1) = leftF ls ps (x.take k) bs) := hLm
        have hLk : L.length ≤ k := by
          have h1 := congrArg List.length hLm
          rw [List.length_map] at h1
          have h2 : (leftF ls ps (x.take k) bs).length ≤ (x.take k).length := List.length_filter_le _ _
          rw [List.length_take] at h2
          omega
        clear HL hS hLm
        obtain ⟨N, hN⟩ : ∃ N, N = L.length := ⟨_, rfl⟩
        obtain ⟨ao', cap', hv5⟩ := slice_of HS.out.own
        rw [← hN] at hv5 hLk
        subst hv5
        have HWR : Hid (Below w.heap.size w wr) := HB2.out.trans (HS.out.bel.mono HB2.out.size)
        have HOWN : Hid (wr.ownsRow (w2.heap.size + 1) 37 2 (.slice ao' N cap') N (polC L)) := by have h9 := HS.out.own; rw [← hN] at h9; exact h9
        have HNN : Hid (N = L.length) := hN
        clear hN
        by_cases hlt : k < ln
        · have hkl : k < x.length := by have := HX.out.ln; omega
          have hX := HX.out.pols.later HWR.out
          have hao := hX.adr (by omega)
          have f0 := hX.c0 k hkl
          obtain ⟨pv, g1, hv⟩ := HX.out.pols.c1 k hkl
          have f1 := (HWR.out.cell (p := ⟨lb, loff + k * 2 + 1, none⟩) (HX.out.pols.lt (by omega))).trans g1
          have hof := HCK.out.2.2.1 _ (List.getElem_mem hkl)
          have hst := left_step (ls := ls) (ps := ps) (bs := bs) hkl
          obtain ⟨p, hp⟩ : ∃ p, p = x[k] := ⟨_, rfl⟩
          rw [← hp] at f0 hv hof hst
          obtain ⟨ro, rc, rn, hv0⟩ : ∃ ro rc rn, pv = .slice ro rn rc := by obtain ⟨ro, _, _, rc, h, _⟩ := hv; exact ⟨ro, rc, _, h⟩
          subst hv0
          obtain ⟨wy, hwy⟩ : ∃ wy, wy = wr.alloc (.cells #[.string p.1, .slice ro rn rc] 37) := ⟨_, rfl⟩
          have hby : Below wr.heap.size wr wy := by rw [hwy]; exact (Below.refl _ _).alloc (Nat.le_refl _) _
          have k1 : wy.heap[wr.heap.size]? = some (.cells #[.string p.1, .slice ro rn rc] 37 (0, 0)) := by rw [hwy]; exact heap_at_alloc _ _ _ rfl
          have hSY := HS.out.later hby
          have HFN : Hid (Calls Tryz.prog 12 #[.slice vo vn vc, .func (.func 21) #[] #[.pointer (some ⟨w2.heap.size, 0, none⟩), .pointer (some ⟨wr.heap.size, 0, none⟩)]] wy fun e w' => e = .returned (.bool (goesB ls ps bs p)) ∧ Below wy.heap.size wy w') :=
            containsFuncS _ _ (enters_of Tryz.func21 (by kernel_rfl) rfl) (fun a => Act.acts ls ps a p.1) vo vb voff vn vc bs wy HVN.out (by have h1 := HBS.out.1; have h2 := HVN.out; omega) (HV.out.later (HWR.out.trans (hby.mono HWR.out.size))) (fun W a ha hW =>
              may_any B (Act.acts ls ps) w2.heap.size wr.heap.size p.1 a W (hSY.ord.later hW) (HNL.out a (HBS.out.2 a ha)) (HNL.out _ hof.1)
                (by have e := (hW.block _ (lt_of_block hSY.box)).trans hSY.box; simp [World.cell?, e]) (by have e := (hW.block _ (lt_of_block k1)).trans k1; simp [World.cell?, e]))
          have HK1 : Hid (∀ W, Below wy.heap.size wy W → W.cell? ⟨wr.heap.size, 0, none⟩ = some (.string p.1) ∧ W.cell? ⟨wr.heap.size, 1, none⟩ = some (.slice ro rn rc)) := fun W hW => by
            have e := (hW.block _ (lt_of_block k1)).trans k1
            exact ⟨by simp [World.cell?, e], by simp [World.cell?, e]⟩
          have HOFF : Hid (∀ W, Below wr.heap.size wr W → Off W (Value.slice ao' N cap').ownBlock (p, .slice ro rn rc)) := fun W hW => by
            obtain ⟨a1, a2, a3, a4, q1, q2, q3, q4⟩ := hv
            have hww := HWR.out.trans (hW.mono HWR.out.size)
            refine ⟨a1, a2, a3, a4, q1, q2, q3, q4.later hww, fun hp he => ?_⟩
            have r1 := q4.lt hp
            have r2 := (HOWN.out.lt _ he.symm).1
            have r3 := HB2.out.size
            omega
          have HST : Hid (leftF ls ps (x.take (k + 1)) bs = leftF ls ps (x.take k) bs ++ (if goesB ls ps bs p = true then [] else [p])) := hst
          have HBY : Hid (Below wr.heap.size wr wy) := hby
          have HWY : Hid (wy = wr.alloc (.cells #[.string p.1, .slice ro rn rc] 37)) := hwy
          have hly : wr.heap.size < wy.heap.size := lt_of_block k1
          clear hX hp hv hof hst hby hwy k1 hSY g1
          subst hao
          obtain ⟨t, ht⟩ : ∃ t, t = goesB ls ps bs p := ⟨_, rfl⟩
          rw [← ht] at HFN HST
          clear ht
          go_wp2_with fail
          rw [← HWY.out]
          refine HFN.out.mono ?_
          clear HFN
          rintro e w4 ⟨rfl, hb4⟩
          obtain ⟨d1, d2⟩ := HK1.out w4 hb4
          have HB4 : Hid (Below wr.heap.size wr w4) := HBY.out.trans (hb4.mono HBY.out.size)
          clear hb4 HK1 HWY HBY
          cases t with
          | true =>
            have HN3 : Hid (∃ L : List PV, RiseSt w2 w4 (.slice ao' N cap') L B (Act.acts ls ps) ∧ L.map (·.1) = leftF ls ps (x.take (k + 1)) bs) := ⟨L, HS.out.later HB4.out, by rw [HLM.out, HST.out]; simp⟩
            clear HS HLM HST HOWN
            go_wp2
            go_roundw
            case rel => exact ⟨k + 1, by omega, by go_num, HN3⟩
            case measure => simp [intOf]; omega
          | false =>
            have HO2 : Hid (w4.ownsRow (w2.heap.size + 1) 37 2 (.slice ao' N cap') N (polC L)) := own_below HOWN.out HB4.out
            have hbig : w2.heap.size + 1 ≤ w4.heap.size := Nat.le_trans (lt_of_block HS.out.box) HB4.out.size
            have h1c : ∀ u ∈ [Value.string p.1, Value.slice ro rn rc], u.oneCell' = true := by intro u hu; simp at hu; rcases hu with rfl | rfl <;> rfl
            go_wp2_with (at_builtin; refine wpList_append_own_at _ rfl _ _ 25 rfl (w2.heap.size + 1) 37 i0 (.agg #[.string ⟨#[]⟩, .slice none 0 0]) 2 40 Tryz.underlying25 hi hz0 hz1 hz2 rfl (by decide) _ _ _ rfl (World.ownsRow.alloc HO2.out _) ⟨w4.heap.size, 0, none⟩ 1 1 [.string p.1, .slice ro rn rc] rfl rfl ?c1 h1c ?c3 ?c4 ?c5 ?_)
            case c1 => exact two_new _ _ _ _
            case c3 => unfold maxLen; omega
            case c4 => omega
            case c5 => simp; omega
            · intro v2 w5 hown5 hgrow5 _ hloc5
              have HN3 : Hid (∃ L : List PV, RiseSt w2 w5 v2 L B (Act.acts ls ps) ∧ L.map (·.1) = leftF ls ps (x.take (k + 1)) bs) :=
                ⟨L ++ [(p, .slice ro rn rc)], HS.out.add (y := (p, .slice ro rn rc)) HBW.out HB4.out (HOFF.out w4 HB4.out) (by rw [← HNN.out]; exact hown5) hgrow5 (hloc5.imp id fun h9 => h9.trans (by simp)), by rw [List.map_append, HLM.out, HST.out]; simp⟩
              clear hown5 hgrow5 hloc5 HS HLM HST HOWN
              go_wp2
              go_roundw
              case rel => exact ⟨k + 1, by omega, by go_num, HN3⟩
              case measure => simp [intOf]; omega
        · have hkn : k = ln := by omega
          have hL : L.map (·.1) = leftF ls ps x bs := by rw [HLM.out, List.take_of_length_le (by have := HX.out.ln; omega)]
          have hsub : ∀ q ∈ L.map (·.1), q ∈ x := by rw [hL]; intro q hq; exact (List.mem_filter.1 hq).1
          obtain ⟨pb, poff, hpc⟩ := pols_own HNN.out HOWN.out (fun y hy => (HS.out.off y hy).at')
          have c0 : wr.cell? ⟨w2.heap.size, 0, none⟩ = some (.map (some B)) := by have e := HS.out.box; simp [World.cell?, e]
          have hno := normalN B ls ps ao' pb poff N cap' (L.map (·.1)) wr HCK.out.1 (fun q hq => HCK.out.2.2.1 q (hsub q hq)) (fun q hq => HCK.out.2.2.2 q (hsub q hq)) HS.out.ord (by rw [List.length_map]; exact HNN.out) (by omega) hpc
          rw [hL] at hno
          clear hpc hsub hL HS HLM HOWN
          go_wp2_with fail
          refine hno.mono ?_
          rintro e w4 ⟨v, y, rfl, hy, hl, hb4⟩
          have HF : Hid (Lab.Norm blt plt ps (leftF ls ps x bs) y ∧ LabNew w4 w.heap.size v y ∧ Below w.heap.size w w4) := ⟨hy, by
            obtain ⟨M, k1, k2, k3⟩ := hl
            exact ⟨M, k1, ownsRow_le' k2 HWR.out.size, k3⟩, HWR.out.trans (hb4.mono HWR.out.size)⟩
          clear hy hl hb4 hno
          go_wp2
          go_ret2
          exact ⟨v, y, rfl, fun _ => HF.out.1, HF.out.2.1, HF.out.2.2⟩
    · obtain ⟨e0, he0⟩ : ∃ e0, e0 = amongF ls bs := ⟨_, rfl⟩
      rw [← he0] at HAM h1 ⊢
      have hb : (e0 == 0) = false := by simp [h1]
      have hb' : (e0 != 0) = true := by simp [h1]
      have HH : Hid (¬ e0 = 0) := h1
      clear h1 he0
      go_enter Tryz.func6, Tryz.ntmps6
      go_wp2_with fail
      refine hk0.mono ?_
      rintro e w1 ⟨rfl, hb1⟩
      have HB1 : Hid (Below w.heap.size w w1) := hb1
      clear hb1 hk0
      go_wp2_with fail
      refine (HAM.out w1 HB1.out).mono ?_
      rintro e w1' ⟨rfl, rfl⟩
      go_wp2
      go_ret2
      exact ⟨_, [], rfl, fun h => absurd h HH.out, ⟨[], rfl, World.ownsRow_nil _ _ _ _, fun z hz => by cases hz⟩, HB1.out⟩
  · have HE : Hid (lessE ls ps x bs = checkL ls ps x) := by show _ = _; simp [lessE, h0]
    rw [HE.out]
    obtain ⟨e0, he0⟩ : ∃ e0, e0 = checkL ls ps x := ⟨_, rfl⟩
    rw [← he0] at hk0 h0 ⊢
    have hb : (e0 == 0) = false := by simp [h0]
    have hb' : (e0 != 0) = true := by simp [h0]
    have HH : Hid (¬ e0 = 0) := h0
    clear h0 he0 HE
    go_enter Tryz.func6, Tryz.ntmps6
    go_wp2_with fail
    refine hk0.mono ?_
    rintro e w1 ⟨rfl, hb1⟩
    have HB1 : Hid (Below w.heap.size w w1) := hb1
    clear hb1 hk0
    go_wp2
    go_ret2
    exact ⟨_, [], rfl, fun h => absurd h HH.out, ⟨[], rfl, World.ownsRow_nil _ _ _ _, fun z hz => by cases hz⟩, HB1.out⟩
end Go.Proofs.YtjfiakoningmkaaGreatDoor
