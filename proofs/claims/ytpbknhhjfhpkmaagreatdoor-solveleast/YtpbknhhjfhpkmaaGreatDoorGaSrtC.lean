/- order2_func, median_func, medianAdjacent_func, choosePivot_func: where the pivot lies. breakPatterns_func: some places change. -/
import Derived.Test.YtpbknhhjfhpkmaaGreatDoorGaSrtA
import Derived.Test.YtpbknhhjfhpkmaaGreatDoorGaShelf
import Derived.Sort.Walk7
namespace Go.Proofs.YtpbknhhjfhpkmaaGreatDoor
open Go.RowKit Go.Sort

/- What a store into a block that is new leaves as it is. -/
def Other {α : Type} (S : Array α → World → Prop) : Prop := ∀ {W0 W W' : World} {d0 dk : Array α} {c : Nat}, S d0 W0 → W0.heap.size ≤ c → S dk W → W.grownBy W' (some c) → S dk W'
/- A counter in a block of its own. -/
structure Cnt {α : Type} (S : Array α → World → Prop) (d : Array α) (W : World) (cb s : Nat) (w : World) : Prop where
  st : S d w
  cell : w.cell? ⟨cb, 0, none⟩ = some (.int .i64 s)
  fz : w.frozen? ⟨cb, 0, none⟩ = false
  lt : cb < w.heap.size
  gr : W.grownBy w (some cb)
section
variable {α : Type} {S : Array α → World → Prop} {d d0 : Array α} {W W0 w w1 : World} {cb s : Nat}
theorem Cnt.later (h : Cnt S d W cb s w) (HO : Other S) (h0 : S d0 W0) (hc : W0.heap.size ≤ cb) (hg : w.grownBy w1 none) : Cnt S d W cb s w1 := by
  have hk := hg.block cb h.lt (by simp)
  exact ⟨HO h0 hc h.st (gany _ hg), by rw [World.cell?_of_block (a := ⟨cb, 0, none⟩) hk]; exact h.cell, by rw [World.frozen?_of_block (a := ⟨cb, 0, none⟩) hk]; exact h.fz, Nat.lt_of_lt_of_le h.lt hg.size, gtrans h.gr (gany _ hg)⟩
theorem Cnt.more (h : Cnt S d W cb s w) (HO : Other S) (h0 : S d0 W0) (hc : W0.heap.size ≤ cb) (t : Nat) (z : Int) (hz : z = t) : Cnt S d W cb t (w.setCell ⟨cb, 0, none⟩ (.int .i64 z)) := by
  subst hz
  have hg : w.grownBy (w.setCell ⟨cb, 0, none⟩ (.int .i64 t)) (some cb) := grown_set (grown_refl _ _) rfl _
  exact ⟨HO h0 hc h.st hg, World.cell?_setCell_same' _ _ _ (by rw [h.cell]; rfl), by rw [World.frozen?_setCell]; exact h.fz, by simpa using h.lt, gtrans h.gr hg⟩
theorem Cnt.on {w2 : World} {s' : Nat} (h : Cnt S d W cb s w) (k : Cnt S d w cb s' w2) : Cnt S d W cb s' w2 := ⟨k.st, k.cell, k.fz, k.lt, gtrans h.gr k.gr⟩
end
variable {α : Type} [Inhabited α] {S : Array α → World → Prop} {blk n : Nat} {lt : α → α → Bool} {g : Nat} {lb : Array Value} {sf : Nat} {sb : Array Value}
set_option maxRecDepth 100000 in
set_option maxHeartbeats 4000000 in
theorem order2S (H : Srt S blk n lt g lb sf sb) (HO : Other S) {W0 : World} {d0 : Array α} (h0 : S d0 W0) (a b cb s : Nat) (za zb : Int) (ea : za = a) (eb : zb = b) (d : Array α) (W : World) (hC : Cnt S d W cb s W) (ha : a < n) (hb : b < n) (hc : W0.heap.size ≤ cb) (hs : s < 1000) :
    Calls Tryz.prog 198 #[.agg #[.func (.func g) #[] lb, .func (.func sf) #[] sb], .int .i64 za, .int .i64 zb, .pointer (some ⟨cb, 0, none⟩)] W fun e w' => ∃ x y s' : Nat, e = .returned (.tuple #[.int .i64 x, .int .i64 y]) ∧ (x = a ∧ y = b ∨ x = b ∧ y = a) ∧ s' ≤ s + 1 ∧ Cnt S d W cb s' w' := by
  subst ea eb
  have eg := H.eg
  have hC1 : Cnt S d W cb s (W.alloc (.cells #[.func (.func g) #[] lb, .func (.func sf) #[] sb] 143)) := hC.later HO h0 hc (galloc _ _)
  cases hl0 : lt d[b]! d[a]! with
  | true =>
    have hl := H.lessZ hC1.st (b : Int) (a : Int) b a rfl rfl hb ha hl0
    have HC1 : Hid (Cnt S d W cb s (W.alloc (.cells #[.func (.func g) #[] lb, .func (.func sf) #[] sb] 143))) := hC1
    have HO' : Hid (Other S) := HO
    have H0 : Hid (S d0 W0) := h0
    clear hl0 hC hC1 H HO h0
    go_enter Tryz.func198, Tryz.ntmps198
    go_wp2_with fail
    refine hl.mono ?_
    rintro e w1 ⟨rfl, hg⟩
    have hC2 := HC1.out.later HO'.out H0.out hc hg
    have c2 := hC2.cell
    have f2 := hC2.fz
    have HC3 : Hid (Cnt S d W cb (s + 1) (w1.setCell ⟨cb, 0, none⟩ (.int .i64 ((s : Int) + 1)))) := hC2.more HO'.out H0.out hc (s + 1) _ (by omega)
    clear hC2 hg hl
    go_wp2
    go_ret2
    exact ⟨b, a, s + 1, rfl, Or.inr ⟨rfl, rfl⟩, Nat.le_refl _, HC3.out⟩
  | false =>
    have hl := H.lessZ hC1.st (b : Int) (a : Int) b a rfl rfl hb ha hl0
    have HC1 : Hid (Cnt S d W cb s (W.alloc (.cells #[.func (.func g) #[] lb, .func (.func sf) #[] sb] 143))) := hC1
    have HO' : Hid (Other S) := HO
    have H0 : Hid (S d0 W0) := h0
    clear hl0 hC hC1 H HO h0
    go_enter Tryz.func198, Tryz.ntmps198
    go_wp2_with fail
    refine hl.mono ?_
    rintro e w1 ⟨rfl, hg⟩
    have HC2 : Hid (Cnt S d W cb s w1) := HC1.out.later HO'.out H0.out hc hg
    clear hg hl
    go_wp2
    go_ret2
    exact ⟨a, b, s, rfl, Or.inl ⟨rfl, rfl⟩, Nat.le_succ _, HC2.out⟩

set_option maxRecDepth 100000 in
set_option maxHeartbeats 4000000 in
theorem medianS (H : Srt S blk n lt g lb sf sb) (HO : Other S) {W0 : World} {d0 : Array α} (h0 : S d0 W0) (a b c cb s : Nat) (za zb zc : Int) (ea : za = a) (eb : zb = b) (ec : zc = c) (d : Array α) (W : World) (hC : Cnt S d W cb s W) (ha : a < n) (hb : b < n) (hcn : c < n) (hc : W0.heap.size ≤ cb) (hs : s < 900) :
    Calls Tryz.prog 168 #[.agg #[.func (.func g) #[] lb, .func (.func sf) #[] sb], .int .i64 za, .int .i64 zb, .int .i64 zc, .pointer (some ⟨cb, 0, none⟩)] W fun e w' => ∃ x s' : Nat, e = .returned (.int .i64 x) ∧ (x = a ∨ x = b ∨ x = c) ∧ s' ≤ s + 3 ∧ Cnt S d W cb s' w' := by
  subst ea eb ec
  obtain ⟨wz, hwz⟩ : ∃ wz, wz = (W.alloc (.cells #[.func (.func g) #[] lb, .func (.func sf) #[] sb] 143)) := ⟨_, rfl⟩
  have hC1 : Cnt S d W cb s wz := by rw [hwz]; exact hC.later HO h0 hc (galloc _ _)
  have kb : wz.heap[W.heap.size]? = some (.cells #[.func (.func g) #[] lb, .func (.func sf) #[] sb] 143 (0, 0)) := by rw [hwz]; exact heap_at_alloc _ _ _ rfl
  have hne : W.heap.size ≠ cb := by have := hC.lt; omega
  have HKB : Hid (∀ w', wz.grownBy w' (some cb) → w'.cell? ⟨W.heap.size, 0, none⟩ = some (.func (.func g) #[] lb) ∧ w'.cell? ⟨W.heap.size, 1, none⟩ = some (.func (.func sf) #[] sb)) := fun w' hg => by
    have h := (hg.block _ (lt_of_block kb) (by intro e; injection e with e; exact hne e)).trans kb
    exact ⟨by simp [World.cell?, h], by simp [World.cell?, h]⟩
  have hC0 : Cnt S d wz cb s wz := ⟨hC1.st, hC1.cell, hC1.fz, hC1.lt, grown_refl _ _⟩
  have hcall := order2S H HO h0 a b cb s (a : Int) (b : Int) rfl rfl d wz hC0 ha hb hc (by omega)
  have HX : Hid (Cnt S d W cb s wz) := hC1
  have HORD : Hid (∀ (a b s : Nat) (w : World), Cnt S d w cb s w → a < n → b < n → s < 1000 → Calls Tryz.prog 198 #[.agg #[.func (.func g) #[] lb, .func (.func sf) #[] sb], .int .i64 a, .int .i64 b, .pointer (some ⟨cb, 0, none⟩)] w fun e w' => ∃ x y s' : Nat, e = .returned (.tuple #[.int .i64 x, .int .i64 y]) ∧ (x = a ∧ y = b ∨ x = b ∧ y = a) ∧ s' ≤ s + 1 ∧ Cnt S d w cb s' w') := fun a b s w h1 h2 h3 h4 => order2S H HO h0 a b cb s _ _ rfl rfl d w h1 h2 h3 hc h4
  have HWZ : Hid (wz = (W.alloc (.cells #[.func (.func g) #[] lb, .func (.func sf) #[] sb] 143))) := hwz
  clear hC hC1 kb hC0 H HO h0 hwz
  go_enter Tryz.func168, Tryz.ntmps168
  go_wp2_with fail
  rw [← HWZ.out]
  refine hcall.mono ?_
  rintro e w1 ⟨x1, y1, s1, rfl, hxy1, hs1, hC1⟩
  have hcall2 := HORD.out y1 c s1 w1 ⟨hC1.st, hC1.cell, hC1.fz, hC1.lt, grown_refl _ _⟩ (by omega) hcn (by omega)
  have d0 := (HKB.out w1 hC1.gr).1
  have d1 := (HKB.out w1 hC1.gr).2
  have HC1 : Hid (Cnt S d wz cb s1 w1) := hC1
  clear hC1 hcall HWZ
  go_wp2_with fail
  refine hcall2.mono ?_
  rintro e w2 ⟨x2, y2, s2, rfl, hxy2, hs2, hC2⟩
  have HC2 : Hid (Cnt S d wz cb s2 w2) := HC1.out.on hC2
  have hcall3 := HORD.out x1 x2 s2 w2 ⟨hC2.st, hC2.cell, hC2.fz, hC2.lt, grown_refl _ _⟩ (by omega) (by omega) (by omega)
  have e0 := (HKB.out w2 HC2.out.gr).1
  have e1 := (HKB.out w2 HC2.out.gr).2
  clear hC2 hcall2 d0 d1
  go_wp2_with fail
  refine hcall3.mono ?_
  rintro e w3 ⟨x3, y3, s3, rfl, hxy3, hs3, hC3⟩
  have HC3 : Hid (Cnt S d W cb s3 w3) := (HX.out.on HC2.out).on hC3
  clear hC3 hcall3 e0 e1
  go_wp2
  go_ret
  exact ⟨y3, s3, rfl, by omega, by omega, HC3.out⟩

set_option maxRecDepth 100000 in
set_option maxHeartbeats 4000000 in
theorem medianAdjS (H : Srt S blk n lt g lb sf sb) (HO : Other S) {W0 : World} {d0 : Array α} (h0 : S d0 W0) (a cb s : Nat) (za : Int) (ea : za = a) (d : Array α) (W : World) (hC : Cnt S d W cb s W) (ha : 1 ≤ a) (hb : a + 1 < n) (hc : W0.heap.size ≤ cb) (hs : s < 900) :
    Calls Tryz.prog 167 #[.agg #[.func (.func g) #[] lb, .func (.func sf) #[] sb], .int .i64 za, .pointer (some ⟨cb, 0, none⟩)] W fun e w' => ∃ x s' : Nat, e = .returned (.int .i64 x) ∧ (a - 1 ≤ x ∧ x ≤ a + 1) ∧ s' ≤ s + 3 ∧ Cnt S d W cb s' w' := by
  subst ea
  have hsm := H.small
  obtain ⟨wz, hwz⟩ : ∃ wz, wz = (W.alloc (.cells #[.func (.func g) #[] lb, .func (.func sf) #[] sb] 143)) := ⟨_, rfl⟩
  have hC1 : Cnt S d W cb s wz := by rw [hwz]; exact hC.later HO h0 hc (galloc _ _)
  have hcall := medianS H HO h0 (a - 1) a (a + 1) cb s ((a : Int) - 1) (a : Int) ((a : Int) + 1) (by omega) rfl (by omega) d wz ⟨hC1.st, hC1.cell, hC1.fz, hC1.lt, grown_refl _ _⟩ (by omega) (by omega) (by omega) hc hs
  have HX : Hid (Cnt S d W cb s wz) := hC1
  have HWZ : Hid (wz = (W.alloc (.cells #[.func (.func g) #[] lb, .func (.func sf) #[] sb] 143))) := hwz
  clear hC hC1 H HO h0 hwz
  go_enter Tryz.func167, Tryz.ntmps167
  go_wp2_with fail
  rw [← HWZ.out]
  refine hcall.mono ?_
  rintro e w1 ⟨x, s', rfl, hx, hs', hC1⟩
  have HC : Hid (Cnt S d W cb s' w1) := HX.out.on hC1
  clear hC1 hcall
  go_wp2
  go_ret
  exact ⟨x, s', rfl, by omega, hs', HC.out⟩

set_option maxRecDepth 100000 in
set_option maxHeartbeats 4000000 in
theorem choosePivotS (H : Srt S blk n lt g lb sf sb) (HO : Other S) (a L : Nat) (d : Array α) (W : World) (hS : S d W) (h12 : 12 < L) (hb : a + L ≤ n) :
    Calls Tryz.prog 120 #[.agg #[.func (.func g) #[] lb, .func (.func sf) #[] sb], .int .i64 a, .int .i64 ((a : Int) + (L : Int))] W fun e w' => ∃ (p : Nat) (hz : Int), e = .returned (.tuple #[.int .i64 p, .int .i64 hz]) ∧ a ≤ p ∧ p < a + L ∧ S d w' ∧ W.grownBy w' none := by
  have hsm := H.small
  obtain ⟨wz, hwz⟩ : ∃ wz, wz = (W.alloc (.cells #[.func (.func g) #[] lb, .func (.func sf) #[] sb] 143)).alloc (.cells #[.int .i64 0] 3) := ⟨_, rfl⟩
  have kb : wz.heap[W.heap.size]? = some (.cells #[.func (.func g) #[] lb, .func (.func sf) #[] sb] 143 (0, 0)) := by rw [hwz]; exact heap_past_alloc (heap_at_alloc _ _ _ rfl)
  have kc : wz.heap[W.heap.size + 1]? = some (.cells #[.int .i64 0] 3 (0, 0)) := by rw [hwz]; exact heap_at_alloc _ _ _ (by simp)
  have hgz : W.grownBy wz none := by rw [hwz]; exact gtrans (galloc _ _) (galloc _ _)
  have hC0 : Cnt S d wz (W.heap.size + 1) 0 wz := ⟨H.later hS hgz, by simp [World.cell?, kc], by simp [World.frozen?, kc], lt_of_block kc, grown_refl _ _⟩
  have HKB : Hid (∀ w', wz.grownBy w' (some (W.heap.size + 1)) → w'.cell? ⟨W.heap.size, 0, none⟩ = some (.func (.func g) #[] lb) ∧ w'.cell? ⟨W.heap.size, 1, none⟩ = some (.func (.func sf) #[] sb)) := fun w' hg => by
    have h := (hg.block _ (lt_of_block kb) (by simp)).trans kb
    exact ⟨by simp [World.cell?, h], by simp [World.cell?, h]⟩
  have HGR : Hid (∀ w', wz.grownBy w' (some (W.heap.size + 1)) → W.grownBy w' none) := fun w' hg =>
    ⟨hg.os.trans hgz.os, hg.tape.trans hgz.tape, hg.output.trans hgz.output, Nat.le_trans hgz.size hg.size, fun j hj _ => (hg.block j (Nat.lt_of_lt_of_le hj hgz.size) (by simp; omega)).trans (hgz.block j hj (by simp))⟩
  have HADJ : Hid (∀ (a s : Nat) (za : Int) (w : World), za = a → Cnt S d w (W.heap.size + 1) s w → 1 ≤ a → a + 1 < n → s < 900 → Calls Tryz.prog 167 #[.agg #[.func (.func g) #[] lb, .func (.func sf) #[] sb], .int .i64 za, .pointer (some ⟨W.heap.size + 1, 0, none⟩)] w fun e w' => ∃ x s' : Nat, e = .returned (.int .i64 x) ∧ (a - 1 ≤ x ∧ x ≤ a + 1) ∧ s' ≤ s + 3 ∧ Cnt S d w (W.heap.size + 1) s' w') := fun a s za w e h1 h2 h3 h4 => medianAdjS H HO hS a (W.heap.size + 1) s za e d w h1 h2 h3 (by omega) h4
  have HMED : Hid (∀ (a b c s : Nat) (za zb zc : Int) (w : World), za = a → zb = b → zc = c → Cnt S d w (W.heap.size + 1) s w → a < n → b < n → c < n → s < 900 → Calls Tryz.prog 168 #[.agg #[.func (.func g) #[] lb, .func (.func sf) #[] sb], .int .i64 za, .int .i64 zb, .int .i64 zc, .pointer (some ⟨W.heap.size + 1, 0, none⟩)] w fun e w' => ∃ x s' : Nat, e = .returned (.int .i64 x) ∧ (x = a ∨ x = b ∨ x = c) ∧ s' ≤ s + 3 ∧ Cnt S d w (W.heap.size + 1) s' w') := fun a b c s za zb zc w e1 e2 e3 h1 h2 h3 h4 h5 => medianS H HO hS a b c (W.heap.size + 1) s za zb zc e1 e2 e3 d w h1 h2 h3 h4 (by omega) h5
  have HC0 : Hid (Cnt S d wz (W.heap.size + 1) 0 wz) := hC0
  have HWZ : Hid (wz = (W.alloc (.cells #[.func (.func g) #[] lb, .func (.func sf) #[] sb] 143)).alloc (.cells #[.int .i64 0] 3)) := hwz
  obtain ⟨q, hq⟩ : ∃ q, q = L / 4 := ⟨_, rfl⟩
  have zq : (L : Int) / 4 = (q : Int) := by omega
  have q1 : 3 ≤ q := by omega
  have q2 : 4 * q ≤ L := by omega
  have hLz : ((a : Int) + (L : Int) - (a : Int)) = (L : Int) := by omega
  have h8z : (8 : Int) ≤ (L : Int) := by omega
  clear hC0 H HO hS hwz kb kc hgz hq
  by_cases h50 : 50 ≤ L
  · have h50z : (50 : Int) ≤ (L : Int) := by omega
    have c0 := (HKB.out wz HC0.out.gr).1
    have hca := HADJ.out (a + q) 0 ((a : Int) + (q : Int)) wz (by omega) HC0.out (by omega) (by omega) (by omega)
    clear c0
    go_enter Tryz.func120, Tryz.ntmps120
    go_wp2_with fail
    rw [← HWZ.out]
    refine hca.mono ?_
    rintro e w1 ⟨i1, s1, rfl, hi1, hs1, hC1⟩
    have HC1 : Hid (Cnt S d wz (W.heap.size + 1) s1 w1) := hC1
    have d0 := (HKB.out w1 hC1.gr).1
    have d1 := (HKB.out w1 hC1.gr).2
    have hcb := HADJ.out (a + q * 2) s1 ((a : Int) + (q : Int) * 2) w1 (by omega) ⟨hC1.st, hC1.cell, hC1.fz, hC1.lt, grown_refl _ _⟩ (by omega) (by omega) (by omega)
    clear hC1 hca HWZ
    go_wp2_with fail
    refine hcb.mono ?_
    rintro e w2 ⟨j1, s2, rfl, hj1, hs2, hC2⟩
    have HC2 : Hid (Cnt S d wz (W.heap.size + 1) s2 w2) := HC1.out.on hC2
    have e0 := (HKB.out w2 HC2.out.gr).1
    have e1 := (HKB.out w2 HC2.out.gr).2
    have hcc := HADJ.out (a + q * 3) s2 ((a : Int) + (q : Int) * 3) w2 (by omega) ⟨hC2.st, hC2.cell, hC2.fz, hC2.lt, grown_refl _ _⟩ (by omega) (by omega) (by omega)
    clear hC2 hcb d0 d1
    go_wp2_with fail
    refine hcc.mono ?_
    rintro e w3 ⟨k1, s3, rfl, hk1, hs3, hC3⟩
    have HC3 : Hid (Cnt S d wz (W.heap.size + 1) s3 w3) := HC2.out.on hC3
    have g0 := (HKB.out w3 HC3.out.gr).1
    have g1 := (HKB.out w3 HC3.out.gr).2
    have hcm := HMED.out i1 j1 k1 s3 (i1 : Int) (j1 : Int) (k1 : Int) w3 rfl rfl rfl ⟨hC3.st, hC3.cell, hC3.fz, hC3.lt, grown_refl _ _⟩ (by omega) (by omega) (by omega) (by omega)
    clear hC3 hcc e0 e1
    go_wp2_with fail
    refine hcm.mono ?_
    rintro e wt ⟨p, t, rfl, hp, ht, hCt⟩
    have ct := hCt.cell
    have HF : Hid (S d wt ∧ W.grownBy wt none) := ⟨hCt.st, HGR.out wt (gtrans HC3.out.gr hCt.gr)⟩
    clear hCt hcm
    by_cases t0 : t = 0
    · subst t0
      go_wp2
      go_ret2
      exact ⟨p, 1, rfl, by omega, by omega, HF.out⟩
    · by_cases t12 : t = 12
      · subst t12
        go_wp2
        go_ret2
        exact ⟨p, 2, rfl, by omega, by omega, HF.out⟩
      · have z0 : ((t : Int) == 0) = false := by simp; omega
        have z12 : ((t : Int) == 12) = false := by simp; omega
        go_wp2
        go_ret2
        exact ⟨p, 0, rfl, by omega, by omega, HF.out⟩
  · have h50z : ¬ ((50 : Int) ≤ (L : Int)) := by omega
    have hcm := HMED.out (a + q) (a + q * 2) (a + q * 3) 0 ((a : Int) + (q : Int)) ((a : Int) + (q : Int) * 2) ((a : Int) + (q : Int) * 3) wz (by omega) (by omega) (by omega) HC0.out (by omega) (by omega) (by omega) (by omega)
    go_enter Tryz.func120, Tryz.ntmps120
    go_wp2_with fail
    rw [← HWZ.out]
    refine hcm.mono ?_
    rintro e wt ⟨p, t, rfl, hp, ht, hCt⟩
    have ct := hCt.cell
    have HF : Hid (S d wt ∧ W.grownBy wt none) := ⟨hCt.st, HGR.out wt (gtrans HC0.out.gr hCt.gr)⟩
    clear hCt hcm
    by_cases t0 : t = 0
    · subst t0
      go_wp2
      go_ret2
      exact ⟨p, 1, rfl, by omega, by omega, HF.out⟩
    · by_cases t12 : t = 12
      · subst t12
        go_wp2
        go_ret2
        exact ⟨p, 2, rfl, by omega, by omega, HF.out⟩
      · have z0 : ((t : Int) == 0) = false := by simp; omega
        have z12 : ((t : Int) == 12) = false := by simp; omega
        go_wp2
        go_ret2
        exact ⟨p, 0, rfl, by omega, by omega, HF.out⟩
end Go.Proofs.YtpbknhhjfhpkmaaGreatDoor

namespace Go.Proofs.YtpbknhhjfhpkmaaGreatDoor
open Go.RowKit Go.Sort

theorem InB.newSet {α : Type} {S : Array α → World → Prop} {blk : Nat} {x y : Value} {W wr : World} {B : Nat} {dk d0 : Array α} (h : InB S blk x y W B dk wr) (HO : Other S) (h0 : S d0 W) (c : Nat) (hc : W.heap.size ≤ c) (hB : c ≠ B) (v : Value) (k : Nat) : InB S blk x y W B dk ((wr.setCell ⟨c, 0, none⟩ v).drewN k) := by
  have hg : wr.grownBy ((wr.setCell ⟨c, 0, none⟩ v).drewN k) (some c) := grown_drewN (grown_set (grown_refl _ _) rfl _)
  exact ⟨HO h0 hc h.s hg, grown_drewN (grown_setNew h.gr hc v), (hg.block _ (lt_of_block h.box) (by intro e; injection e with e; exact hB e.symm)).trans h.box, h.ne⟩

variable {α : Type} [Inhabited α] {S : Array α → World → Prop} {blk n : Nat} {lt : α → α → Bool} {g : Nat} {lb : Array Value} {sf : Nat} {sb : Array Value}
set_option maxRecDepth 100000 in
set_option maxHeartbeats 4000000 in
theorem breakS (H : Srt S blk n lt g lb sf sb) (HO : Other S) (a L : Nat) (d : Array α) (W : World) (hS : S d W) (h12 : 12 < L) (hb : a + L ≤ n) :
    Calls Tryz.prog 119 #[.agg #[.func (.func g) #[] lb, .func (.func sf) #[] sb], .int .i64 a, .int .i64 ((a : Int) + (L : Int))] W fun e w' => e = .returned (.tuple #[]) ∧ ∃ R, S R w' ∧ PermIn a (a + L) d R ∧ W.grownBy w' (some blk) := by
  have hsm := H.small
  obtain ⟨M, hM⟩ : ∃ M : Nat, M = 1 <<< bitsLen L := ⟨_, rfl⟩
  have hM1 : 1 ≤ M := by rw [hM, Nat.one_shiftLeft]; exact Nat.two_pow_pos _
  have hM2 : M ≤ 2 * L := by rw [hM, Nat.one_shiftLeft]; exact two_pow_bitsLen_le (by omega)
  have hNP : ∀ w, Calls Tryz.prog 165 #[.int .i64 (L : Int)] w fun e w' => e = .returned (.int .u64 (M : Int)) ∧ w' = w := by rw [hM]; exact fun w => Tryz.nextPowerOfTwo L (by omega) w
  have hLz : ((a : Int) + (L : Int) - (a : Int)) = (L : Int) := by omega
  have h8z : (8 : Int) ≤ (L : Int) := by omega
  obtain ⟨wz, hwz⟩ : ∃ wz, wz = (W.alloc (.cells #[.func (.func g) #[] lb, .func (.func sf) #[] sb] 143)).alloc (.cells #[.int .u64 (L : Int)] 214) := ⟨_, rfl⟩
  have hgz : (W.alloc (.cells #[.func (.func g) #[] lb, .func (.func sf) #[] sb] 143)).grownBy wz none := by rw [hwz]; exact galloc _ _
  have hI : InB S blk (.func (.func g) #[] lb) (.func (.func sf) #[] sb) W W.heap.size d wz := (InB.start H hS _ _).later H hgz
  have kc : wz.heap[W.heap.size + 1]? = some (.cells #[.int .u64 (L : Int)] 214 (0, 0)) := by rw [hwz]; exact heap_at_alloc _ _ _ (by simp)
  have HI : Hid (InB S blk (.func (.func g) #[] lb) (.func (.func sf) #[] sb) W W.heap.size d wz) := hI
  have HKC : Hid (wz.heap[W.heap.size + 1]? = some (.cells #[.int .u64 (L : Int)] 214 (0, 0))) := kc
  have HH : Hid (Srt S blk n lt g lb sf sb) := H
  have HOO : Hid (Other S) := HO
  have HS0 : Hid (S d W) := hS
  have HWZ : Hid (wz = (W.alloc (.cells #[.func (.func g) #[] lb, .func (.func sf) #[] sb] 143)).alloc (.cells #[.int .u64 (L : Int)] 214)) := hwz
  have hnb : blk < W.heap.size := H.lt hS
  have hsz : d.size = n := H.size hS
  clear hM hwz hgz hI kc H HO hS
  go_enter Tryz.func119, Tryz.ntmps119
  go_wp2_with fail
  refine (hNP _).mono ?_
  rintro e w' ⟨rfl, rfl⟩
  go_wp2
  rw [← HWZ.out]
  clear HWZ hNP
  obtain ⟨B, hB⟩ : ∃ B, B = W.heap.size := ⟨_, rfl⟩
  rw [← hB] at HI HKC hnb ⊢
  have HB : Hid (B = W.heap.size) := hB
  clear hB
  go_loopg [9] 3 (fun g1 vi wr => ∃ (t R : Nat) (dk : Array α), vi = .int .i64 ((a : Int) + (L : Int) / 4 * 2 - 1 + (t : Int)) ∧ t ≤ 3 ∧ 3 - t ≤ g1 ∧ Hid (InB S blk (.func (.func g) #[] lb) (.func (.func sf) #[] sb) W B dk wr) ∧ wr.cell? ⟨B + 1, 0, none⟩ = some (.int .u64 (R : Int)) ∧ wr.frozen? ⟨B + 1, 0, none⟩ = false ∧ R < 18446744073709551616 ∧ B + 1 < wr.heap.size ∧ Hid (PermIn a (a + L) d dk))
  case atStart => exact ⟨0, L, d, by simp, by omega, by omega, HI, by simp [World.cell?, HKC.out], by simp [World.frozen?, HKC.out], by omega, lt_of_block HKC.out, permIn_refl _ _ _⟩
  case round =>
    clear HI HKC
    obtain ⟨t, R, dk, rfl, ht, hg1, HI, cR, fR, lR, hBl, HP⟩ := hrel
    by_cases ht3 : t < 3
    · have hle : (a : Int) + (L : Int) / 4 * 2 - 1 + (t : Int) ≤ (a : Int) + (L : Int) / 4 * 2 + 1 := by omega
      obtain ⟨R', hR'⟩ : ∃ R' : Nat, R' = xorNextN R := ⟨_, rfl⟩
      have lR' : R' < 18446744073709551616 := by rw [hR']; exact xorNextN_lt R lR
      obtain ⟨O, hO⟩ : ∃ O : Nat, O = R' &&& (M - 1) := ⟨_, rfl⟩
      have lO : O ≤ M - 1 := by rw [hO]; exact Nat.and_le_right
      have eAnd : bits .and .u64 (R' : Int) ((M : Int) - 1) = (O : Int) := by
        rw [show ((M : Int) - 1) = ((M - 1 : Nat) : Int) by omega, bits_and_u64_nat _ _ lR' (by omega), hO]
      have hNext : Calls Tryz.prog 166 #[.pointer (some ⟨B + 1, 0, none⟩)] wr fun e w' => e = .returned (.int .u64 (R' : Int)) ∧ w' = (wr.setCell ⟨B + 1, 0, none⟩ (.int .u64 (R' : Int))).drewN 3 := by
        rw [hR']; exact Tryz.xorshift_Next _ _ R lR wr cR fR
      have hI2 := HI.out.newSet HOO.out HS0.out (B + 1) (by have := HB.out; omega) (by omega) (.int .u64 (R' : Int)) 3
      have cR' : ((wr.setCell ⟨B + 1, 0, none⟩ (.int .u64 (R' : Int))).drewN 3).cell? ⟨B + 1, 0, none⟩ = some (.int .u64 (R' : Int)) := by
        rw [World.cell?_drewN]; exact World.cell?_setCell_same' _ _ _ (by rw [cR]; rfl)
      have fR' : ((wr.setCell ⟨B + 1, 0, none⟩ (.int .u64 (R' : Int))).drewN 3).frozen? ⟨B + 1, 0, none⟩ = false := by
        rw [World.frozen?_drewN, World.frozen?_setCell]; exact fR
      have hBl2 : B + 1 < ((wr.setCell ⟨B + 1, 0, none⟩ (.int .u64 (R' : Int))).drewN 3).heap.size := by
        show B + 1 < (wr.setCell ⟨B + 1, 0, none⟩ (.int .u64 (R' : Int))).heap.size
        simpa using hBl
      generalize (wr.setCell ⟨B + 1, 0, none⟩ (.int .u64 (R' : Int))).drewN 3 = w2 at hNext hI2 cR' fR' hBl2
      have HI2 : Hid (InB S blk (.func (.func g) #[] lb) (.func (.func sf) #[] sb) W B dk w2) := hI2
      have HC2 : Hid (w2.cell? ⟨B + 1, 0, none⟩ = some (.int .u64 (R' : Int)) ∧ w2.frozen? ⟨B + 1, 0, none⟩ = false ∧ B + 1 < w2.heap.size) := ⟨cR', fR', hBl2⟩
      clear hI2 cR fR cR' fR' hBl2 hR' hO HI
      by_cases hLO : L ≤ O
      · have hLOz : (L : Int) ≤ (O : Int) := by omega
        obtain ⟨w3, hsw, hs3, hg3⟩ := HH.out.swapZ HI2.out.s ((a : Int) + (L : Int) / 4 * 2 - 1 + (t : Int)) ((a : Int) + ((O : Int) - (L : Int))) (a + L / 4 * 2 - 1 + t) (a + (O - L)) (by omega) (by omega) (by omega) (by omega)
        have HI3 : Hid (InB S blk (.func (.func g) #[] lb) (.func (.func sf) #[] sb) W B (swp dk (a + L / 4 * 2 - 1 + t) (a + (O - L))) w3) := HI2.out.put hs3 hg3
        have hk := hg3.block (B + 1) HC2.out.2.2 (by simp; omega)
        have HC3 : Hid (w3.cell? ⟨B + 1, 0, none⟩ = some (.int .u64 (R' : Int)) ∧ w3.frozen? ⟨B + 1, 0, none⟩ = false ∧ B + 1 < w3.heap.size) :=
          ⟨by rw [World.cell?_of_block (a := ⟨B + 1, 0, none⟩) hk]; exact HC2.out.1, by rw [World.frozen?_of_block (a := ⟨B + 1, 0, none⟩) hk]; exact HC2.out.2.1, Nat.lt_of_lt_of_le HC2.out.2.2 hg3.size⟩
        have HP3 : Hid (PermIn a (a + L) d (swp dk (a + L / 4 * 2 - 1 + t) (a + (O - L)))) := permIn_trans _ _ _ _ _ HP.out (swp_permIn _ _ _ _ _ (by omega) (by omega) (by omega) (by omega) (by rw [HP.out.1]; omega))
        have d1 := HI2.out.c1
        clear hs3 hg3 hk HI2 HC2
        go_wp2_with fail
        refine hNext.mono ?_
        rintro e w' ⟨rfl, rfl⟩
        go_wp2
        go_roundg (3 - (t + 1))
        case measure => omega
        case rel => exact ⟨t + 1, R', _, by congr 1; push_cast; omega, by omega, Nat.le_refl _, HI3, HC3.out.1, HC3.out.2.1, lR', HC3.out.2.2, HP3⟩
      · have hLOz : ¬ (L : Int) ≤ (O : Int) := by omega
        obtain ⟨w3, hsw, hs3, hg3⟩ := HH.out.swapZ HI2.out.s ((a : Int) + (L : Int) / 4 * 2 - 1 + (t : Int)) ((a : Int) + (O : Int)) (a + L / 4 * 2 - 1 + t) (a + O) (by omega) (by omega) (by omega) (by omega)
        have HI3 : Hid (InB S blk (.func (.func g) #[] lb) (.func (.func sf) #[] sb) W B (swp dk (a + L / 4 * 2 - 1 + t) (a + O)) w3) := HI2.out.put hs3 hg3
        have hk := hg3.block (B + 1) HC2.out.2.2 (by simp; omega)
        have HC3 : Hid (w3.cell? ⟨B + 1, 0, none⟩ = some (.int .u64 (R' : Int)) ∧ w3.frozen? ⟨B + 1, 0, none⟩ = false ∧ B + 1 < w3.heap.size) :=
          ⟨by rw [World.cell?_of_block (a := ⟨B + 1, 0, none⟩) hk]; exact HC2.out.1, by rw [World.frozen?_of_block (a := ⟨B + 1, 0, none⟩) hk]; exact HC2.out.2.1, Nat.lt_of_lt_of_le HC2.out.2.2 hg3.size⟩
        have HP3 : Hid (PermIn a (a + L) d (swp dk (a + L / 4 * 2 - 1 + t) (a + O))) := permIn_trans _ _ _ _ _ HP.out (swp_permIn _ _ _ _ _ (by omega) (by omega) (by omega) (by omega) (by rw [HP.out.1]; omega))
        have d1 := HI2.out.c1
        clear hs3 hg3 hk HI2 HC2
        go_wp2_with fail
        refine hNext.mono ?_
        rintro e w' ⟨rfl, rfl⟩
        go_wp2
        go_roundg (3 - (t + 1))
        case measure => omega
        case rel => exact ⟨t + 1, R', _, by congr 1; push_cast; omega, by omega, Nat.le_refl _, HI3, HC3.out.1, HC3.out.2.1, lR', HC3.out.2.2, HP3⟩
    · obtain rfl : t = 3 := by omega
      have hle : ¬ ((a : Int) + (L : Int) / 4 * 2 - 1 + ((3 : Nat) : Int) ≤ (a : Int) + (L : Int) / 4 * 2 + 1) := by omega
      go_wp2
      go_end0
      exact ⟨rfl, dk, HI.out.s, HP.out, HI.out.gr⟩
end Go.Proofs.YtpbknhhjfhpkmaaGreatDoor
