/- slices.SortFunc at policies by label.compare. -/
import Derived.Test.YtjidnkecjkngnaaLabPl
import Derived.Test.YtjidnkecjkngnaaOrdT
import Derived.Shelf.SlSortCmp.NoneTotal
namespace Go.Proofs.Ytjidnkecjkngnaa
open Go.RowKit

/- A policy and where its readers lie. -/
abbrev PV := Pol × Value
def encP (x : PV) : List Value := [.string x.1.1, x.2]
def polC (L : List PV) : List Value := L.flatMap encP
/- x's readers lie in w, off block g. -/
def Off (w : World) (g : Option Nat) (x : PV) : Prop := ∃ ro rb roff rc, x.2 = .slice ro x.1.2.length rc ∧ x.1.2.length ≤ rc ∧ rc ≤ maxLen ∧ Strs w ro rb roff x.1.2 ∧ (0 < x.1.2.length → some rb ≠ g)
theorem Off.at' {w : World} {g : Option Nat} {x : PV} (h : Off w g x) : ReadersAt w x.2 x.1.2 := by
  obtain ⟨ro, rb, roff, rc, h1, h2, h3, h4, _⟩ := h
  exact ⟨ro, rb, roff, rc, h1, h2, h3, h4⟩
theorem Off.one {w : World} {g : Option Nat} {x : PV} (h : Off w g x) : x.2.oneCell' = true := by
  obtain ⟨ro, rb, roff, rc, h1, _⟩ := h
  rw [h1]; rfl
theorem strs_kept {w w' : World} {ao : Option Addr} {b off : Nat} {l : List ByteArray} {g : Option Nat} (h : Strs w ao b off l) (hg : w.grownBy w' g) (hne : 0 < l.length → some b ≠ g) : Strs w' ao b off l := by
  refine ⟨h.adr, fun k hk => ?_, fun hp => Nat.lt_of_lt_of_le (h.lt hp) hg.size⟩
  have e := hg.block b (h.lt (by omega)) (hne (by omega))
  have := h.cell k hk
  simp only [World.cell?, e] at this ⊢
  exact this
theorem Off.kept {w w' : World} {g : Option Nat} {x : PV} (h : Off w g x) (hg : w.grownBy w' g) : Off w' g x := by
  obtain ⟨ro, rb, roff, rc, h1, h2, h3, h4, h5⟩ := h
  exact ⟨ro, rb, roff, rc, h1, h2, h3, strs_kept h4 hg h5, h5⟩
theorem Off.later {w w' : World} {g : Option Nat} {x : PV} (h : Off w g x) (hb : Below w.heap.size w w') : Off w' g x := by
  obtain ⟨ro, rb, roff, rc, h1, h2, h3, h4, h5⟩ := h
  exact ⟨ro, rb, roff, rc, h1, h2, h3, h4.later hb, h5⟩
theorem polC_len (L : List PV) : (polC L).length = L.length * 2 := by
  induction L with
  | nil => rfl
  | cons a r ih =>
    have e : polC (a :: r) = .string a.1.1 :: a.2 :: polC r := rfl
    rw [e]; simp [ih]; omega
theorem polC_at (L : List PV) (k : Nat) (h : k < L.length) : (polC L)[k * 2]? = some (.string L[k].1.1) ∧ (polC L)[k * 2 + 1]? = some L[k].2 := by
  induction L generalizing k with
  | nil => simp at h
  | cons a r ih =>
    have e : polC (a :: r) = .string a.1.1 :: a.2 :: polC r := rfl
    rw [e]
    match k with
    | 0 => exact ⟨rfl, rfl⟩
    | j + 1 =>
      obtain ⟨h0, h1⟩ := ih j (by simpa using h)
      have e3 : (j + 1) * 2 = j * 2 + 1 + 1 := by omega
      rw [e3]
      exact ⟨by simpa using h0, by simpa using h1⟩
/- A row of policies in block g. -/
structure RowP (w : World) (g : Nat) (L : List PV) : Prop where
  c0 : ∀ k (h : k < L.length), w.cell? ⟨g, k * 2, none⟩ = some (.string L[k].1.1)
  c1 : ∀ k (h : k < L.length), w.cell? ⟨g, k * 2 + 1, none⟩ = some L[k].2
theorem rowP_of {w : World} {g : Nat} {cur : Array Value} {e : TypeId} {fr : Nat × Nat} {L : List PV} (hh : w.heap[g]? = some (.cells cur e fr)) (ht : cur.toList.take (L.length * 2) = polC L) : RowP w g L := by
  have key : ∀ i u, i < L.length * 2 → (polC L)[i]? = some u → w.cell? ⟨g, i, none⟩ = some u := by
    intro i u hi hu
    rw [← ht, List.getElem?_take_of_lt hi, Array.getElem?_toList] at hu
    simpa [World.cell?, hh] using hu
  exact ⟨fun k hk => key _ _ (by omega) (polC_at L k hk).1, fun k hk => key _ _ (by omega) (polC_at L k hk).2⟩

theorem ltOf_iff {α : Type} (f : α → Pol) (x y : α) : ltOf (fun a b => cmpP (f a) (f b)) x y = true ↔ plt (f x) (f y) := by
  unfold ltOf cmpP cmpI plt
  by_cases h1 : keyP (f x) < keyP (f y)
  · simp [h1]
  · by_cases h2 : keyP (f y) < keyP (f x) <;> simp [h1, h2]
theorem ltOf_not {α : Type} (f : α → Pol) (x y : α) : ltOf (fun a b => cmpP (f a) (f b)) x y = false ↔ ¬ plt (f x) (f y) := by
  rw [← ltOf_iff, Bool.not_eq_true]
theorem swoP {α : Type} (f : α → Pol) : Sort.SWO (ltOf fun a b : α => cmpP (f a) (f b)) := by
  have ho := plt_order
  refine ⟨fun x => ?_, fun x y z h g => ?_, fun x y z h g => ?_⟩
  · rw [ltOf_not]; exact ho.irr (f x)
  · rw [ltOf_iff] at h g ⊢; exact ho.trans h g
  · rw [ltOf_not] at h g ⊢
    intro k
    by_cases e : f x = f y
    · exact g (e ▸ k)
    · rcases ho.tot e with e1 | e1
      · exact h e1
      · exact g (ho.trans e1 k)
theorem lenP (n : Nat) (w : World) (h : n < 1000000) : Calls Try.prog 72 #[.int .u64 (n : Int)] w fun e w' => e = .returned (.int .i64 (Lib.bitLen n : Nat)) ∧ w' = w := by
  have h := Any.bits_Len (SlLaysF0.n15.bits (P := Try.prog) (ρ := Try.laysF14_ren) { Try.laysF14 with }) (n : Int) w (by omega) (by omega)
  rwa [Int.toNat_natCast] at h

set_option maxRecDepth 100000 in
set_option maxHeartbeats 2000000 in
theorem sort_none (p : Option Addr) (cap : Nat) (w : World) :
    Calls Try.prog 59 #[.slice p 0 cap, .func (.func 60) #[] #[]] w fun e w' => e = .returned (.tuple #[]) ∧ w' = w := by
  have hl := lenP 0 w (by omega)
  have hp := AnyF.pdqsortCmpFunc_none Try.laysF14 p cap (Lib.bitLen 0 : Nat) (.func (.func 60) #[] #[]) w
  have HP : Hid (Calls Try.prog 71 #[.slice p 0 cap, .int .i64 0, .int .i64 0, .int .i64 (Lib.bitLen 0 : Nat), .func (.func 60) #[] #[]] w fun e w' => e = .returned (.tuple #[]) ∧ w' = w) := hp
  obtain ⟨q, hq⟩ : ∃ q : Nat, q = Lib.bitLen 0 := ⟨_, rfl⟩
  rw [← hq] at HP hl
  clear hp hq
  go_enter Try.func59, Try.ntmps59
  go_wp2_with fail
  refine hl.mono ?_
  rintro e w1 ⟨rfl, hw⟩
  have hw' := hw.symm
  subst hw'
  go_wp2_with fail
  refine HP.out.mono ?_
  rintro e w1 ⟨rfl, hw⟩
  have hw' := hw.symm
  subst hw'
  go_wp2
  go_end0
  exact ⟨rfl, rfl⟩

set_option maxRecDepth 100000 in
set_option maxHeartbeats 4000000 in
theorem sort_some (g cap : Nat) (cur : Array Value) (L : List PV) (w : World) (h0 : L ≠ []) (hn : L.length ≤ 1000) (hh : w.heap[g]? = some (.cells cur 51 (0, 0))) (ht : cur.toList.take (L.length * 2) = polC L) (hoff : ∀ x ∈ L, Off w (some g) x) (h6 : ∀ x ∈ L, x.1.2.length ≤ 1000) :
    Calls Try.prog 59 #[.slice (some ⟨g, 0, none⟩) L.length cap, .func (.func 60) #[] #[]] w fun e w' => e = .returned (.tuple #[]) ∧ ∃ M : List PV, M.Perm L ∧ M.Pairwise (fun a b => a.1 = b.1 ∨ plt a.1 b.1) ∧ RowP w' g M ∧ w.grownBy w' (some g) := by
  have hgl : g < w.heap.size := lt_of_block hh
  have hrow := rowP_of hh ht
  have hfz : ∀ j, w.frozen? ⟨g, j, none⟩ = false := fun j => by simp [World.frozen?, hh]
  have hL0 : 0 < L.length := List.length_pos_iff.2 h0
  haveI : Inhabited { x : PV // x ∈ L } := ⟨⟨L[0], List.getElem_mem hL0⟩⟩
  obtain ⟨enc, henc⟩ : ∃ enc : { x : PV // x ∈ L } → List Value, ∀ x, enc x = [.string x.1.1.1, x.1.2] := ⟨fun x => encP x.1, fun _ => rfl⟩
  obtain ⟨d, hd⟩ : ∃ d : Array { x : PV // x ∈ L }, d = L.attach.toArray := ⟨_, rfl⟩
  have hds : d.size = L.length := by rw [hd]; simp
  have hdg : ∀ i, (hi : i < L.length) → (d[i]!).1 = L[i] := fun i hi => by
    rw [getElem!_pos d i (by omega)]
    simp [hd]
  have hH : Sort.HoldsK enc 2 w g 0 d := by
    intro j hj
    have hj2 : j < d.size * 2 := by simpa using hj
    rw [Sort.get_flatK enc 2 d j hj2]
    refine ⟨?_, by rw [Nat.zero_add]; exact hfz j⟩
    have hk : j / 2 < L.length := by omega
    have e1 : enc d[j / 2]! = [.string L[j / 2].1.1, L[j / 2].2] := by rw [henc, hdg _ hk]
    rw [e1, Nat.zero_add]
    rcases Nat.mod_two_eq_zero_or_one j with e | e
    · rw [e]
      have := hrow.c0 (j / 2) hk
      rwa [show j / 2 * 2 = j by omega] at this
    · rw [e]
      have := hrow.c1 (j / 2) hk
      rwa [show j / 2 * 2 + 1 = j by omega] at this
  have hgrow : ∀ (m : Nat) (dk : Array { x : PV // x ∈ L }) (os : Array Obj), w.grownBy (sortWorldK enc 2 w g 0 m dk os) (some g) := fun m dk os => by
    refine ⟨rfl, rfl, rfl, ?_, fun k hk hne => ?_⟩
    · simp [sortWorldK, Sort.grow, Sort.putRowK, Sort.putRow, Sort.mapBlock, Sort.ahead]
    · have hkg : g ≠ k := fun e => hne (by rw [e])
      simp [sortWorldK, Sort.grow, Sort.putRowK, Sort.putRow, Sort.mapBlock, Sort.ahead, Array.getElem?_append, Array.getElem_modify, hkg, hk]
  have hcmp : CmpLays Try.prog 60 #[] enc 2 (fun x y : { x : PV // x ∈ L } => cmpP x.1.1 y.1.1) g 0 d.size w := fun m os dk hs x y => by
    have hx := ((hoff x.1 x.2).kept (hgrow m dk os)).at'
    have hy := ((hoff y.1 y.2).kept (hgrow m dk os)).at'
    rw [henc, henc]
    exact compareC x.1.1 y.1.1 x.1.2 y.1.2 _ hx hy (h6 x.1 x.2)
  have hp := AnyQ.pdqsortCmpFunc_all (P := Try.prog) (ρ := Try.laysF14_ren) Try.laysF14 2 Try.isAgg51 Try.sizeOf51 enc (fun x y : { x : PV // x ∈ L } => cmpP x.1.1 y.1.1) 60 #[] (swoP fun x : { x : PV // x ∈ L } => x.1.1) g 0 cap d w (enters_of Try.func60 (by kernel_rfl) rfl) hcmp ⟨fun x => by rw [henc]; rfl, fun x v hv => by
      rw [henc] at hv
      simp only [List.mem_cons, List.not_mem_nil, or_false] at hv
      rcases hv with rfl | rfl
      · rfl
      · exact (hoff x.1 x.2).one, hH, hgl⟩ (d.size + 1) 0 d.size (Lib.bitLen d.size) d w (by omega) rfl (SWK.start hH) (Nat.zero_le _) (Nat.le_refl _) (by omega) (Nat.lt_of_le_of_lt (Lib.bitLen_le d.size 62 (by omega) (by omega)) (by omega)) (Or.inl rfl)
  have hs := Sort.pdq_sorts (ltOf fun x y : { x : PV // x ∈ L } => cmpP x.1.1 y.1.1) (swoP fun x : { x : PV // x ∈ L } => x.1.1) d 0 d.size (Lib.bitLen d.size) true true (Nat.zero_le _) (Nat.le_refl _) (Or.inl rfl)
  obtain ⟨d', hd'⟩ : ∃ d', d' = Sort.pdq (ltOf fun x y : { x : PV // x ∈ L } => cmpP x.1.1 y.1.1) d 0 d.size (Lib.bitLen d.size) true true := ⟨_, rfl⟩
  rw [← hd'] at hp hs
  have hfin : ∀ w', SWK enc 2 w g 0 d' w' → ∃ M : List PV, M.Perm L ∧ M.Pairwise (fun a b => a.1 = b.1 ∨ plt a.1 b.1) ∧ RowP w' g M ∧ w.grownBy w' (some g) := by
    rintro w' ⟨nn, os, rfl⟩
    obtain ⟨⟨hsz, _, hperm⟩, hsorted⟩ := hs
    have hHK : Sort.HoldsK enc 2 (sortWorldK enc 2 w g 0 nn d' os) g 0 d' := Sort.holdsK_grow _ _ _ _ _ _ _ (by simpa [Sort.putRowK, Sort.putRow, Sort.mapBlock, Sort.ahead] using hgl) (Sort.holdsK_putRowK _ _ _ _ _ d d' (Sort.holdsK_ahead _ _ _ _ _ _ _ hH) hsz)
    have hsl : d'.size = L.length := by omega
    refine ⟨d'.toList.map (·.1), ?_, ?_, ⟨fun k hk => ?_, fun k hk => ?_⟩, hgrow nn d' os⟩
    · have e1 : (d'.extract 0 d.size).toList = d'.toList := by rw [← hsz]; simp
      have e2 : (d.extract 0 d.size).toList = d.toList := by simp
      rw [e1, e2] at hperm
      have := hperm.map (·.1)
      have e3 : d.toList.map (·.1) = L := by rw [hd]; exact List.attach_map_subtype_val L
      rwa [e3] at this
    · rw [List.pairwise_map, List.pairwise_iff_getElem]
      intro i j hi hj hij
      have hi' : i < d'.size := by simpa using hi
      have hj' : j < d'.size := by simpa using hj
      have := hsorted i j (Nat.zero_le _) hij (by omega)
      rw [getElem!_pos d' j hj', getElem!_pos d' i hi', ltOf_not (fun x : { x : PV // x ∈ L } => x.1.1)] at this
      simp only [Array.getElem_toList]
      by_cases e : (d'[i]).1.1 = (d'[j]).1.1
      · exact .inl e
      · rcases plt_order.tot e with g1 | g1
        · exact .inr g1
        · exact absurd g1 this
    · have hk' : k < d'.size := by simpa using hk
      have := (hHK.cell hk' (c := 0) (by omega)).1
      rw [getElem!_pos d' k hk', henc] at this
      simpa using this
    · have hk' : k < d'.size := by simpa using hk
      have := (hHK.cell hk' (c := 1) (by omega)).1
      rw [getElem!_pos d' k hk', henc] at this
      simpa using this
  have hl := lenP d.size w (by omega)
  have HF : Hid (∀ w', SWK enc 2 w g 0 d' w' → ∃ M : List PV, M.Perm L ∧ M.Pairwise (fun a b => a.1 = b.1 ∨ plt a.1 b.1) ∧ RowP w' g M ∧ w.grownBy w' (some g)) := hfin
  have HP : Hid (Calls Try.prog 71 #[.slice (some ⟨g, 0, none⟩) d.size cap, .int .i64 (0 : Nat), .int .i64 d.size, .int .i64 (Lib.bitLen d.size : Nat), .func (.func 60) #[] #[]] w fun e w' => e = .returned (.tuple #[]) ∧ SWK enc 2 w g 0 d' w') := hp
  rw [hds] at HP hl
  obtain ⟨q, hq⟩ : ∃ q : Nat, q = Lib.bitLen L.length := ⟨_, rfl⟩
  rw [← hq] at HP hl
  obtain ⟨n, hnn⟩ : ∃ n, n = L.length := ⟨_, rfl⟩
  rw [← hnn] at HP hl hn ⊢
  have wrp : IntKind.u64.wrap (n : Int) = n := by simp [IntKind.wrap, IntKind.bits, IntKind.signed]; omega
  have HPOST : Hid (∀ w', SWK enc 2 w g 0 d' w' → ∃ M : List PV, M.Perm L ∧ M.Pairwise (fun a b => a.1 = b.1 ∨ plt a.1 b.1) ∧ RowP w' g M ∧ w.grownBy w' (some g)) := HF
  clear hp hs hd' hfin hcmp hgrow hH hdg hds hrow hfz hh ht hoff h6 hq hnn HF h0 hL0 hd henc
  go_enter Try.func59, Try.ntmps59
  go_wp2_with fail
  refine hl.mono ?_
  rintro e w1 ⟨rfl, hw⟩
  have hw' := hw.symm
  subst hw'
  go_wp2_with fail
  refine HP.out.mono ?_
  rintro e w2 ⟨rfl, hsw⟩
  have HSW : Hid _ := HPOST.out _ hsw
  clear hsw
  go_wp2
  go_end0
  exact ⟨rfl, HSW.out⟩
end Go.Proofs.Ytjidnkecjkngnaa
