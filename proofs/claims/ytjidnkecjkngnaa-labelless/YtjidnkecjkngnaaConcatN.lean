/- slices.Grow of nothing, and slices.Concat of two labels. -/
import Derived.Test.YtjidnkecjkngnaaNormL
import Derived.Lib.AppendZerosOnto
import Derived.Lib.AppendZeros
import Derived.Deep.DeepAppendRoom
namespace Go.Proofs.Ytjidnkecjkngnaa
open Go.RowKit

set_option maxRecDepth 100000 in
set_option maxHeartbeats 1000000 in
theorem growN_zero (w : World) :
    Calls Try.prog 63 #[.slice none 0 0, .int .i64 0] w fun e w' => e = .returned (.slice none 0 0) ∧ w' = w := by
  go_enter Try.func63, Try.ntmps63
  go_wp2
  go_ret
  exact ⟨rfl, rfl⟩

set_option maxRecDepth 100000 in
set_option maxHeartbeats 1000000 in
theorem growN_some (N : Nat) (w : World) (h0 : 0 < N) (hb : N * 40 ≤ 281474976710656) :
    Calls Try.prog 63 #[.slice none 0 0, .int .i64 N] w fun e w' => ∃ G, e = .returned (.slice (some ⟨w.heap.size, 0, none⟩) 0 G) ∧ N ≤ G ∧ w'.ownsRow w.heap.size 51 2 (.slice (some ⟨w.heap.size, 0, none⟩) 0 G) 0 [] ∧ Below w.heap.size w w' := by
  obtain ⟨i0, hi, hz0, hz1, hz2⟩ := info_parts Try.infoPolD
  have hnx : Builtin.nextslicecap (0 + N) 0 = N := by unfold Builtin.nextslicecap; rw [if_pos (by omega)]; omega
  have hrz : ∀ ty, (Builtin.append_ #[23, 3] ty #[.slice none 0 0, .int .i64 (N : Int)]).run Try.prog w =
      .ok (.slice (some ⟨w.heap.size, 0, none⟩) (0 + N) (grownCap w (0 + N) 0 51)) (w.drew.alloc (.cells (([] : List Value).toArray ++ Builtin.zeroCells #[.string ⟨#[]⟩, .slice none 0 0] N ++ Builtin.zeroCells #[.string ⟨#[]⟩, .slice none 0 0] (grownCap w (0 + N) 0 51 - (0 + N))) 51)) := fun ty =>
    Lib.run_append_grow_zeros w 23 3 ty 51 i0 _ .i64 .i64 Try.underlying23 Try.underlying3 hi hz0 none 0 0 [] (by simp [Builtin.firstCells]) N h0 (by omega) (by omega) (by omega) (by rw [hz2]; exact hb) (by rw [hnx, hz2]; exact hb)
  have hGn : 0 + N ≤ grownCap w (0 + N) 0 51 := grownCap_ge w _ _ _
  have hGm : grownCap w (0 + N) 0 51 ≤ maxLen := grownCap_le_maxLen w (0 + N) 0 51 (by unfold maxLen; omega)
  rw [Nat.zero_add] at hrz hGn hGm
  obtain ⟨G, hG⟩ : ∃ G, G = grownCap w N 0 51 := ⟨_, rfl⟩
  rw [← hG] at hrz hGn hGm
  obtain ⟨cs, hcs⟩ : ∃ cs, cs = ([] : List Value).toArray ++ Builtin.zeroCells #[.string ⟨#[]⟩, .slice none 0 0] N ++ Builtin.zeroCells #[.string ⟨#[]⟩, .slice none 0 0] (G - N) := ⟨_, rfl⟩
  rw [← hcs] at hrz
  have hcz : cs.size = G * 2 := by
    rw [hcs]; simp [Builtin.zeroCells]; omega
  have HO : Hid ((w.drew.alloc (.cells cs 51)).ownsRow w.heap.size 51 2 (.slice (some ⟨w.heap.size, 0, none⟩) 0 G) 0 []) :=
    ⟨rfl, .inr ⟨w.heap.size, G, cs, rfl, Nat.le_refl _, heap_at_alloc _ _ _ rfl, Nat.zero_le _, hGm, hcz, by simp⟩⟩
  have HB : Hid (Below w.heap.size w (w.drew.alloc (.cells cs 51))) := by
    have h : Below w.heap.size w w.drew := ⟨rfl, rfl, rfl, Nat.le_refl _, fun _ _ => rfl⟩
    exact h.alloc (Nat.le_refl _) _
  have p1 : (0 : Int) < (N : Int) := by omega
  have HGN : Hid (N ≤ G) := hGn
  have hNb : N ≤ 8796093022208 := by omega
  unfold maxLen at hGm
  clear hnx hG hcs hcz hb hGn
  go_enter Try.func63, Try.ntmps63
  go_wp2_with (at_builtin; refine Lib.wpList_append_run _ rfl _ _ _ _ rfl _ _ rfl rfl _ _ (hrz _) ?_)
  all_goals (go_ret; exact ⟨G, rfl, HGN.out, HO.out, HB.out⟩)

theorem appendN_none (base xo : Option Addr) (n c xc : Nat) (ty : TypeId) (w : World) (hn : n ≤ c) : (Builtin.append_ #[23, 23] ty #[.slice base n c, .slice xo 0 xc]).run Try.prog w = .ok (.slice base n c) w := by
  cases base <;> cases xo <;> simp [Builtin.append_, run_underlying Try.underlying23, go_sem, hn, Builtin.firstCells, Builtin.lenOf, storeCells]

def catUpN (ps qs : List PV) : Nat → List PV
  | 0 => []
  | 1 => ps
  | _ => ps ++ qs
def sumUpN (m r : Nat) : Nat → Nat
  | 0 => 0
  | 1 => m
  | _ => m + r
theorem sumUpN_le (m r j : Nat) : sumUpN m r j ≤ m + r := by
  match j with
  | 0 => simp [sumUpN]
  | 1 => simp [sumUpN]
  | _ + 2 => simp [sumUpN]
/- The new row, as it is filled. -/
def CatStN (w wr : World) (v : Value) (l : List PV) (N : Nat) : Prop :=
  Below w.heap.size w wr ∧ ((N = 0 ∧ v = .slice none 0 0) ∨ ∃ g G, v = .slice (some ⟨g, 0, none⟩) l.length G ∧ N ≤ G ∧ w.heap.size ≤ g ∧ wr.ownsRow w.heap.size 51 2 v l.length (polC l))
/- A row of policies with their values. -/
structure PRow (w : World) (ao : Option Addr) (b off : Nat) (L : List PV) : Prop where
  adr : 0 < L.length → ao = some ⟨b, off, none⟩
  c0 : ∀ k (h : k < L.length), w.cell? ⟨b, off + k * 2, none⟩ = some (.string L[k].1.1)
  c1 : ∀ k (h : k < L.length), w.cell? ⟨b, off + k * 2 + 1, none⟩ = some L[k].2
  lt : 0 < L.length → b < w.heap.size
  rd : ∀ y ∈ L, ReadersAt w y.2 y.1.2
theorem PRow.later {w w' : World} {ao : Option Addr} {b off : Nat} {L : List PV} (h : PRow w ao b off L) (hb : Below w.heap.size w w') : PRow w' ao b off L :=
  ⟨h.adr, fun k hk => (hb.cell (p := ⟨b, off + k * 2, none⟩) (h.lt (by omega))).trans (h.c0 k hk), fun k hk => (hb.cell (p := ⟨b, off + k * 2 + 1, none⟩) (h.lt (by omega))).trans (h.c1 k hk), fun hp => Nat.lt_of_lt_of_le (h.lt hp) hb.size, fun y hy => (h.rd y hy).later hb⟩
theorem prow_of {w : World} {ao : Option Addr} {b off : Nat} {x : List Pol} (h : Pols w ao b off x) : ∃ L : List PV, L.map (·.1) = x ∧ PRow w ao b off L := by
  classical
  have hv : ∀ k : Fin x.length, ∃ v, w.cell? ⟨b, off + k.1 * 2 + 1, none⟩ = some v ∧ ReadersAt w v x[k.1].2 := fun k => h.c1 k.1 k.2
  let f := fun k => Classical.choose (hv k)
  have hf : ∀ k, w.cell? ⟨b, off + k.1 * 2 + 1, none⟩ = some (f k) ∧ ReadersAt w (f k) x[k.1].2 := fun k => Classical.choose_spec (hv k)
  refine ⟨List.ofFn fun k : Fin x.length => (x[k.1], f k), ?_, ?_⟩
  · apply List.ext_getElem
    · simp
    · intro i h1 h2; simp
  · refine ⟨fun hp => h.adr (by simpa using hp), fun k hk => ?_, fun k hk => ?_, fun hp => h.lt (by simpa using hp), fun y hy => ?_⟩
    · have hk' : k < x.length := by simpa using hk
      have := h.c0 k hk'
      simpa using this
    · have hk' : k < x.length := by simpa using hk
      have := (hf ⟨k, hk'⟩).1
      simpa using this
    · obtain ⟨k, rfl⟩ := List.mem_ofFn.1 hy
      exact (hf k).2
theorem prow_one {w : World} {ao : Option Addr} {b off : Nat} {L : List PV} (h : PRow w ao b off L) : ∀ u ∈ polC L, u.oneCell' = true := by
  intro u hu
  simp only [polC, List.mem_flatMap] at hu
  obtain ⟨y, hy, hp⟩ := hu
  simp [encP] at hp
  rcases hp with rfl | rfl
  · rfl
  · obtain ⟨ro, _, _, rc, e, _⟩ := h.rd y hy
    rw [e]; rfl
theorem prow_cells_off {w : World} {b off : Nat} {l : List PV} {ao : Option Addr} (h : PRow w ao b off l) : ∀ j u, (polC l)[j]? = some u → w.cell? ((⟨b, off, none⟩ : Addr).add j) = some u := by
  intro j u hu
  have e1 : (⟨b, off, none⟩ : Addr).add j = ⟨b, off + j, none⟩ := by simp [Addr.add]
  rw [e1]
  have hj : j < l.length * 2 := by
    have := (List.getElem?_eq_some_iff.1 hu).1
    rwa [polC_len] at this
  have hk : j / 2 < l.length := by omega
  obtain ⟨h0, h1⟩ := polC_at l (j / 2) hk
  rcases Nat.mod_two_eq_zero_or_one j with e | e
  · have ej : j = j / 2 * 2 := by omega
    rw [← ej, hu] at h0
    have := h.c0 (j / 2) hk
    rw [← ej] at this
    rw [this, h0]
  · have ej : j = j / 2 * 2 + 1 := by omega
    rw [← ej, hu] at h1
    have := h.c1 (j / 2) hk
    rw [Nat.add_assoc, ← ej] at this
    rw [this, h1]

set_option maxRecDepth 100000 in
set_option maxHeartbeats 2000000 in
theorem concatN (sb : Nat) (po qo : Option Addr) (b off b' off' m r d d' : Nat) (ps qs : List PV) (w : World) (hm : m = ps.length) (hr : r = qs.length) (hb : (m + r) * 40 ≤ 281474976710656)
    (s0 : w.cell? ⟨sb, 0, none⟩ = some (.slice po m d)) (s1 : w.cell? ⟨sb, 1, none⟩ = some (.slice qo r d')) (ls : sb < w.heap.size) (hp : PRow w po b off ps) (hq : PRow w qo b' off' qs) :
    Calls Try.prog 42 #[.slice (some ⟨sb, 0, none⟩) 2 2] w fun e w' => ∃ v, e = .returned v ∧ w'.ownsRow w.heap.size 51 2 v (ps ++ qs).length (polC (ps ++ qs)) ∧ Below w.heap.size w w' := by
  have HM : Hid (m = ps.length) := hm
  have HR : Hid (r = qs.length) := hr
  obtain ⟨i0, hi, hz0, hz1, hz2⟩ := info_parts Try.infoPolD
  have hmb : m + r ≤ 8796093022208 := by omega
  have HB : Hid ((m + r) * 40 ≤ 281474976710656) := hb
  have S0 : Hid (w.cell? ⟨sb, 0, none⟩ = some (.slice po m d)) := s0
  have S1 : Hid (w.cell? ⟨sb, 1, none⟩ = some (.slice qo r d')) := s1
  clear hm hr hb s0 s1
  go_enter Try.func42, Try.ntmps42
  go_wp2
  go_loopw [3, 11] (fun v i wr => ∃ j : Nat, j ≤ 2 ∧ i = .int .i64 j ∧ v = .int .i64 (sumUpN m r j : Nat) ∧ wr = w) (fun _ i _ => 2 - (intOf i).toNat)
  case atStart => exact ⟨0, by omega, rfl, rfl, rfl⟩
  case round =>
    obtain ⟨j, hj, rfl, rfl, hw⟩ := hrel
    subst hw
    by_cases hlt : j < 2
    · have key : ∃ xo xn xc, wr.cell? ⟨sb, j, none⟩ = some (.slice xo xn xc) ∧ sumUpN m r (j + 1) = sumUpN m r j + xn ∧ xn ≤ m + r := by
        match j, hlt with
        | 0, _ => exact ⟨po, m, d, S0.out, by simp [sumUpN], by omega⟩
        | 1, _ => exact ⟨qo, r, d', S1.out, by simp [sumUpN], by omega⟩
      obtain ⟨xo, xn, xc, f0, hs, hx⟩ := key
      have HS : Hid (sumUpN m r (j + 1) = sumUpN m r j + xn) := hs
      have hle := sumUpN_le m r j
      have hd : decide ((j : Int) < 2) = true := by simp; omega
      clear hs
      obtain ⟨sj, hsj⟩ : ∃ sj, sj = sumUpN m r j := ⟨_, rfl⟩
      rw [← hsj] at HS hle ⊢
      clear hsj
      go_wp2
      go_roundw
      case rel => exact ⟨j + 1, by omega, by go_num, by rw [HS.out]; go_num, trivial⟩
      case measure => simp [intOf]; omega
    · obtain rfl : j = 2 := by omega
      obtain ⟨wq, hwq⟩ : ∃ wq, wq = wr := ⟨wr, rfl⟩
      subst hwq
      obtain ⟨N, hN⟩ : ∃ N, N = sumUpN m r 2 := ⟨_, rfl⟩
      rw [← hN]
      have hNe : N = m + r := by rw [hN]; rfl
      have HN : Hid (N = m + r) := hNe
      have hNb : N ≤ 8796093022208 := by omega
      have hrest : ∀ (v : Value) (w2 : World), CatStN wq w2 v [] N → True := fun _ _ _ => trivial
      clear hN hNe hlt hj hrest
      have HG : Hid (Calls Try.prog 63 #[.slice none 0 0, .int .i64 N] wq fun e w' => ∃ v, e = .returned v ∧ CatStN wq w' v [] N) := by
        by_cases h0 : N = 0
        · subst h0
          refine (growN_zero wq).mono ?_
          rintro e w' ⟨rfl, rfl⟩
          exact ⟨_, rfl, Below.refl _ _, .inl ⟨rfl, rfl⟩⟩
        · refine (growN_some N wq (by omega) (by rw [HN.out]; exact HB.out)).mono ?_
          rintro e w' ⟨G, rfl, hG, hown, hbel⟩
          exact ⟨_, rfl, hbel, .inr ⟨_, G, rfl, hG, Nat.le_refl _, hown⟩⟩
      go_wp2_with fail
      refine HG.out.mono ?_
      rintro e w2 ⟨v2, rfl, hst⟩
      have HST : Hid (CatStN wq w2 v2 [] N) := hst
      clear hst HG
      go_wp2
      go_loopw [6, 27] (fun v i wx => ∃ j : Nat, j ≤ 2 ∧ i = .int .i64 j ∧ Hid (CatStN wq wx v (catUpN ps qs j) N)) (fun _ i _ => 2 - (intOf i).toNat)
      case atStart => exact ⟨0, by omega, rfl, HST⟩
      case round =>
        clear HST
        obtain ⟨j, hj, rfl, HST⟩ := hrel
        have hbx := HST.out.1
        by_cases hlt : j < 2
        · have key : ∃ xo xn xc xb xoff, ∃ xl : List PV, wq.cell? ⟨sb, j, none⟩ = some (.slice xo xn xc) ∧ xn = xl.length ∧ PRow wq xo xb xoff xl ∧ catUpN ps qs (j + 1) = catUpN ps qs j ++ xl ∧ (catUpN ps qs j).length + xn ≤ N := by
            have h1 := HM.out
            have h2 := HR.out
            have h3 := HN.out
            match j, hlt with
            | 0, _ => exact ⟨po, m, d, b, off, ps, S0.out, h1, hp, by simp [catUpN], by simp [catUpN]; omega⟩
            | 1, _ => exact ⟨qo, r, d', b', off', qs, S1.out, h2, hq, by simp [catUpN], by simp [catUpN]; omega⟩
          obtain ⟨xo, xn, xc, xb, xoff, xl, f, hxn, hpx, hcu, hfit⟩ := key
          have f0 := (hbx.cell (p := ⟨sb, j, none⟩) ls).trans f
          have HXN : Hid (xn = xl.length) := hxn
          have HPX : Hid (PRow wq xo xb xoff xl) := hpx
          have HON : Hid (∀ u ∈ polC xl, u.oneCell' = true) := prow_one hpx
          have HCU : Hid (catUpN ps qs (j + 1) = catUpN ps qs j ++ xl) := hcu
          obtain ⟨l, hl⟩ : ∃ l, l = catUpN ps qs j := ⟨_, rfl⟩
          rw [← hl] at HST HCU hfit
          have HFT : Hid (l.length + xn ≤ N) := hfit
          have hd : decide ((j : Int) < 2) = true := by simp; omega
          have lsx : sb < wr.heap.size := Nat.lt_of_lt_of_le ls hbx.size
          have HBX : Hid (Below wq.heap.size wq wr) := hbx
          clear hxn hpx hcu hl f hfit hbx
          by_cases hx0 : xn = 0
          · have hxl : xl = [] := List.length_eq_zero_iff.1 (by rw [← HXN.out]; exact hx0)
            have HC2 : Hid (catUpN ps qs (j + 1) = l) := by show _ = _; rw [HCU.out, hxl]; simp
            subst hx0
            clear hxl
            have hform : ∃ base q G, u6 = .slice base q G ∧ q ≤ G := by
              rcases HST.out.2 with ⟨_, h⟩ | ⟨g, G, h, hG, _, _⟩
              · exact ⟨none, 0, 0, h, Nat.le_refl _⟩
              · exact ⟨_, _, G, h, by have := HFT.out; omega⟩
            obtain ⟨base, q, G, hu, hqG⟩ := hform
            subst hu
            have HAN : Hid (∀ ty wx, (Builtin.append_ #[23, 23] ty #[.slice base q G, .slice xo 0 xc]).run Try.prog wx = .ok (.slice base q G) wx) := fun ty wx => appendN_none base xo q G xc ty wx hqG
            clear hqG
            go_wp2_with (at_builtin; refine Lib.wpList_append_run _ rfl _ _ _ _ rfl _ _ rfl rfl _ _ (HAN.out _ _) ?_)
            go_roundw
            case rel => exact ⟨j + 1, by omega, by go_num, by rw [HC2.out]; exact HST⟩
            case measure => simp [intOf]; omega
          · have hxo := HPX.out.adr (by have := HXN.out; omega)
            subst hxo
            have hform : ∃ g G, u6 = .slice (some ⟨g, 0, none⟩) l.length G ∧ N ≤ G ∧ wq.heap.size ≤ g ∧ Hid (wr.ownsRow wq.heap.size 51 2 (.slice (some ⟨g, 0, none⟩) l.length G) l.length (polC l)) := by
              rcases HST.out.2 with ⟨h, _⟩ | ⟨g, G, h, hG, hg, ho⟩
              · have := HFT.out; omega
              · exact ⟨g, G, h, hG, hg, by rw [h] at ho; exact ho⟩
            obtain ⟨g, G, hu, hNG, hgq, HO⟩ := hform
            subst hu
            have HC1 : Hid (∀ j u, (polC xl)[j]? = some u → wr.cell? ((⟨xb, xoff, none⟩ : Addr).add j) = some u) := prow_cells_off (HPX.out.later HBX.out)
            have HRM : Hid (l.length + xn ≤ G) := by have := HFT.out; show _ ≤ _; omega
            go_wp2_with (at_builtin; refine wpList_append_own_spare _ rfl _ _ 23 rfl wq.heap.size 51 i0 2 Try.underlying23 hi hz1 g l.length G _ rfl HO.out ⟨xb, xoff, none⟩ xn xc (polC xl) rfl ?c0 HC1.out HON.out HRM.out ?_)
            case c0 => rw [polC_len, HXN.out]
            · intro w3 hown3 hgrow3
              have HN3 : Hid (CatStN wq w3 (.slice (some ⟨g, 0, none⟩) (l.length + xn) G) (l ++ xl) N) := by
                have hl : (l ++ xl).length = l.length + xn := by rw [List.length_append, HXN.out]
                refine ⟨HBX.out.grown hgrow3 HBX.out.size (fun k he => by simp at he; omega), .inr ⟨g, G, by rw [hl], hNG, hgq, ?_⟩⟩
                rw [hl]
                simpa [polC] using hown3
              clear hown3 hgrow3
              go_wp2
              go_roundw
              case rel => exact ⟨j + 1, by omega, by go_num, by rw [HCU.out]; exact HN3⟩
              case measure => simp [intOf]; omega
        · obtain rfl : j = 2 := by omega
          have HF : Hid (wr.ownsRow wq.heap.size 51 2 u6 (ps ++ qs).length (polC (ps ++ qs))) := by
            rcases HST.out.2 with ⟨h, hv⟩ | ⟨g, G, h, _, _, ho⟩
            · have e : ps ++ qs = [] := by
                apply List.length_eq_zero_iff.1
                have h1 := HM.out
                have h2 := HR.out
                have h3 := HN.out
                rw [List.length_append]; omega
              rw [hv, e]
              exact World.ownsRow_nil _ _ _ _
            · exact ho
          go_wp2
          go_ret
          exact ⟨_, rfl, HF.out, HST.out.1⟩
end Go.Proofs.Ytjidnkecjkngnaa
