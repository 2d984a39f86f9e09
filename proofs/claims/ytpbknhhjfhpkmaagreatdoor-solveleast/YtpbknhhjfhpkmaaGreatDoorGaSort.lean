/- slices.SortFunc at policies by label.compare. slices.DeleteFunc at policies, with whatever test. Ahead of label's normal: the sort, the closure, what its second loop holds. What is left of a label without what some may leave out. -/
import Derived.Test.YtpbknhhjfhpkmaaGreatDoorGaOrdT
import Derived.Shelf.SlSortCmp.NoneTotal
import Derived.Deep.CutBlock
import Derived.Test.YtpbknhhjfhpkmaaGreatDoorGaLab
namespace Go.Proofs.YtpbknhhjfhpkmaaGreatDoor
open Go.RowKit

/- A policy and where its readers lie. -/
abbrev PV := Pol × Value
def encP (x : PV) : List Value := [.string x.1.1, x.2]
def polC (L : List PV) : List Value := L.flatMap encP
/- x's readers lie in w, off block g. -/
def Off (w : World) (g : Option Nat) (x : PV) : Prop := ∃ ro rb roff rc, x.2 = .slice ro x.1.2.length rc ∧ x.1.2.length ≤ rc ∧ rc ≤ maxLen ∧ Strs w ro rb roff x.1.2 ∧ (0 < x.1.2.length → some rb ≠ g)
theorem Off.at' {w : World} {g : Option Nat} {x : PV} (h : Off w g x) : ReadersAt w x.2 x.1.2 := by
  obtain ⟨ro, rb, roff, rc, h1, h2, h3, h4, _⟩ := h
  exact ⟨ro, rb, roff, rc, h1, h2, h3, h4⟩
theorem Off.one {w : World} {g : Option Nat} {x : PV} (h : Off w g x) : x.2.oneCell' = true := by
  obtain ⟨ro, rb, roff, rc, h1, _⟩ := h
  rw [h1]; rfl
theorem strs_kept {w w' : World} {ao : Option Addr} {b off : Nat} {l : List ByteArray} {g : Option Nat} (h : Strs w ao b off l) (hg : w.grownBy w' g) (hne : 0 < l.length → some b ≠ g) : Strs w' ao b off l := by
  refine ⟨h.adr, fun k hk => ?_, fun hp => Nat.lt_of_lt_of_le (h.lt hp) hg.size⟩
  have e := hg.block b (h.lt (by omega)) (hne (by omega))
  have := h.cell k hk
  simp only [World.cell?, e] at this ⊢
  exact this
theorem Off.kept {w w' : World} {g : Option Nat} {x : PV} (h : Off w g x) (hg : w.grownBy w' g) : Off w' g x := by
  obtain ⟨ro, rb, roff, rc, h1, h2, h3, h4, h5⟩ := h
  exact ⟨ro, rb, roff, rc, h1, h2, h3, strs_kept h4 hg h5, h5⟩
theorem Off.later {w w' : World} {g : Option Nat} {x : PV} (h : Off w g x) (hb : Below w.heap.size w w') : Off w' g x := by
  obtain ⟨ro, rb, roff, rc, h1, h2, h3, h4, h5⟩ := h
  exact ⟨ro, rb, roff, rc, h1, h2, h3, h4.later hb, h5⟩
theorem polC_len (L : List PV) : (polC L).length = L.length * 2 := by
  induction L with
  | nil => rfl
  | cons a r ih =>
    have e : polC (a :: r) = .string a.1.1 :: a.2 :: polC r := rfl
    rw [e]; simp [ih]; omega
theorem polC_at (L : List PV) (k : Nat) (h : k < L.length) : (polC L)[k * 2]? = some (.string L[k].1.1) ∧ (polC L)[k * 2 + 1]? = some L[k].2 := by
  induction L generalizing k with
  | nil => simp at h
  | cons a r ih =>
    have e : polC (a :: r) = .string a.1.1 :: a.2 :: polC r := rfl
    rw [e]
    match k with
    | 0 => exact ⟨rfl, rfl⟩
    | j + 1 =>
      obtain ⟨h0, h1⟩ := ih j (by simpa using h)
      have e3 : (j + 1) * 2 = j * 2 + 1 + 1 := by omega
      rw [e3]
      exact ⟨by simpa using h0, by simpa using h1⟩
/- A row of policies in block g. -/
structure RowP (w : World) (g : Nat) (L : List PV) : Prop where
  c0 : ∀ k (h : k < L.length), w.cell? ⟨g, k * 2, none⟩ = some (.string L[k].1.1)
  c1 : ∀ k (h : k < L.length), w.cell? ⟨g, k * 2 + 1, none⟩ = some L[k].2
theorem rowP_of {w : World} {g : Nat} {cur : Array Value} {e : TypeId} {fr : Nat × Nat} {L : List PV} (hh : w.heap[g]? = some (.cells cur e fr)) (ht : cur.toList.take (L.length * 2) = polC L) : RowP w g L := by
  have key : ∀ i u, i < L.length * 2 → (polC L)[i]? = some u → w.cell? ⟨g, i, none⟩ = some u := by
    intro i u hi hu
    rw [← ht, List.getElem?_take_of_lt hi, Array.getElem?_toList] at hu
    simpa [World.cell?, hh] using hu
  exact ⟨fun k hk => key _ _ (by omega) (polC_at L k hk).1, fun k hk => key _ _ (by omega) (polC_at L k hk).2⟩

theorem ltOf_iff {α : Type} (f : α → Pol) (x y : α) : ltOf (fun a b => cmpP (f a) (f b)) x y = true ↔ plt (f x) (f y) := by
  unfold ltOf cmpP cmpI plt
  by_cases h1 : keyP (f x) < keyP (f y)
  · simp [h1]
  · by_cases h2 : keyP (f y) < keyP (f x) <;> simp [h1, h2]
theorem ltOf_not {α : Type} (f : α → Pol) (x y : α) : ltOf (fun a b => cmpP (f a) (f b)) x y = false ↔ ¬ plt (f x) (f y) := by
  rw [← ltOf_iff, Bool.not_eq_true]
theorem swoP {α : Type} (f : α → Pol) : Sort.SWO (ltOf fun a b : α => cmpP (f a) (f b)) := by
  have ho := plt_order
  refine ⟨fun x => ?_, fun x y z h g => ?_, fun x y z h g => ?_⟩
  · rw [ltOf_not]; exact ho.irr (f x)
  · rw [ltOf_iff] at h g ⊢; exact ho.trans h g
  · rw [ltOf_not] at h g ⊢
    intro k
    by_cases e : f x = f y
    · exact g (e ▸ k)
    · rcases ho.tot e with e1 | e1
      · exact h e1
      · exact g (ho.trans e1 k)
theorem lenP (n : Nat) (w : World) (h : n < 1000000) : Calls Tryz.prog 73 #[.int .u64 (n : Int)] w fun e w' => e = .returned (.int .i64 (Lib.bitLen n : Nat)) ∧ w' = w := by
  have h := Any.bits_Len (SlLaysF0.n15.bits (P := Tryz.prog) (ρ := Tryz.laysF14_ren) { Tryz.laysF14 with }) (n : Int) w (by omega) (by omega)
  rwa [Int.toNat_natCast] at h

set_option maxRecDepth 100000 in
set_option maxHeartbeats 2000000 in
theorem sort_none (p : Option Addr) (cap : Nat) (w : World) :
    Calls Tryz.prog 91 #[.slice p 0 cap, .func (.func 92) #[] #[]] w fun e w' => e = .returned (.tuple #[]) ∧ w' = w := by
  have hl := lenP 0 w (by omega)
  have hp := AnyF.pdqsortCmpFunc_none Tryz.laysF14 p cap (Lib.bitLen 0 : Nat) (.func (.func 92) #[] #[]) w
  have HP : Hid (Calls Tryz.prog 137 #[.slice p 0 cap, .int .i64 0, .int .i64 0, .int .i64 (Lib.bitLen 0 : Nat), .func (.func 92) #[] #[]] w fun e w' => e = .returned (.tuple #[]) ∧ w' = w) := hp
  obtain ⟨q, hq⟩ : ∃ q : Nat, q = Lib.bitLen 0 := ⟨_, rfl⟩
  rw [← hq] at HP hl
  clear hp hq
  go_enter Tryz.func91, Tryz.ntmps91
  go_wp2_with fail
  refine hl.mono ?_
  rintro e w1 ⟨rfl, hw⟩
  have hw' := hw.symm
  subst hw'
  go_wp2_with fail
  refine HP.out.mono ?_
  rintro e w1 ⟨rfl, hw⟩
  have hw' := hw.symm
  subst hw'
  go_wp2
  go_end0
  exact ⟨rfl, rfl⟩

set_option maxRecDepth 100000 in
set_option maxHeartbeats 4000000 in
theorem sort_some (g cap : Nat) (cur : Array Value) (L : List PV) (w : World) (h0 : L ≠ []) (hn : L.length ≤ 1000) (hh : w.heap[g]? = some (.cells cur 63 (0, 0))) (ht : cur.toList.take (L.length * 2) = polC L) (hoff : ∀ x ∈ L, Off w (some g) x) (h6 : ∀ x ∈ L, x.1.2.length ≤ 1000) :
    Calls Tryz.prog 91 #[.slice (some ⟨g, 0, none⟩) L.length cap, .func (.func 92) #[] #[]] w fun e w' => e = .returned (.tuple #[]) ∧ ∃ M : List PV, M.Perm L ∧ M.Pairwise (fun a b => a.1 = b.1 ∨ plt a.1 b.1) ∧ RowP w' g M ∧ w.grownBy w' (some g) := by
  have hgl : g < w.heap.size := lt_of_block hh
  have hrow := rowP_of hh ht
  have hfz : ∀ j, w.frozen? ⟨g, j, none⟩ = false := fun j => by simp [World.frozen?, hh]
  have hL0 : 0 < L.length := List.length_pos_iff.2 h0
  haveI : Inhabited { x : PV // x ∈ L } := ⟨⟨L[0], List.getElem_mem hL0⟩⟩
  obtain ⟨enc, henc⟩ : ∃ enc : { x : PV // x ∈ L } → List Value, ∀ x, enc x = [.string x.1.1.1, x.1.2] := ⟨fun x => encP x.1, fun _ => rfl⟩
  obtain ⟨d, hd⟩ : ∃ d : Array { x : PV // x ∈ L }, d = L.attach.toArray := ⟨_, rfl⟩
  have hds : d.size = L.length := by rw [hd]; simp
  have hdg : ∀ i, (hi : i < L.length) → (d[i]!).1 = L[i] := fun i hi => by
    rw [getElem!_pos d i (by omega)]
    simp [hd]
  have hH : Sort.HoldsK enc 2 w g 0 d := by
    intro j hj
    have hj2 : j < d.size * 2 := by simpa using hj
    rw [Sort.get_flatK enc 2 d j hj2]
    refine ⟨?_, by rw [Nat.zero_add]; exact hfz j⟩
    have hk : j / 2 < L.length := by omega
    have e1 : enc d[j / 2]! = [.string L[j / 2].1.1, L[j / 2].2] := by rw [henc, hdg _ hk]
    rw [e1, Nat.zero_add]
    rcases Nat.mod_two_eq_zero_or_one j with e | e
    · rw [e]
      have := hrow.c0 (j / 2) hk
      rwa [show j / 2 * 2 = j by omega] at this
    · rw [e]
      have := hrow.c1 (j / 2) hk
      rwa [show j / 2 * 2 + 1 = j by omega] at this
  have hgrow : ∀ (m : Nat) (dk : Array { x : PV // x ∈ L }) (os : Array Obj), w.grownBy (sortWorldK enc 2 w g 0 m dk os) (some g) := fun m dk os => by
    refine ⟨rfl, rfl, rfl, ?_, fun k hk hne => ?_⟩
    · simp [sortWorldK, Sort.grow, Sort.putRowK, Sort.putRow, Sort.mapBlock, Sort.ahead]
    · have hkg : g ≠ k := fun e => hne (by rw [e])
      simp [sortWorldK, Sort.grow, Sort.putRowK, Sort.putRow, Sort.mapBlock, Sort.ahead, Array.getElem?_append, Array.getElem_modify, hkg, hk]
  have hcmp : CmpLays Tryz.prog 92 #[] enc 2 (fun x y : { x : PV // x ∈ L } => cmpP x.1.1 y.1.1) g 0 d.size w := fun m os dk hs x y => by
    have hx := ((hoff x.1 x.2).kept (hgrow m dk os)).at'
    have hy := ((hoff y.1 y.2).kept (hgrow m dk os)).at'
    rw [henc, henc]
    exact compareC x.1.1 y.1.1 x.1.2 y.1.2 _ hx hy (h6 x.1 x.2)
  have hp := AnyQ.pdqsortCmpFunc_all (P := Tryz.prog) (ρ := Tryz.laysF14_ren) Tryz.laysF14 2 Tryz.isAgg63 Tryz.sizeOf63 enc (fun x y : { x : PV // x ∈ L } => cmpP x.1.1 y.1.1) 92 #[] (swoP fun x : { x : PV // x ∈ L } => x.1.1) g 0 cap d w (enters_of Tryz.func92 (by kernel_rfl) rfl) hcmp ⟨fun x => by rw [henc]; rfl, fun x v hv => by
      rw [henc] at hv
      simp only [List.mem_cons, List.not_mem_nil, or_false] at hv
      rcases hv with rfl | rfl
      · rfl
      · exact (hoff x.1 x.2).one, hH, hgl⟩ (d.size + 1) 0 d.size (Lib.bitLen d.size) d w (by omega) rfl (SWK.start hH) (Nat.zero_le _) (Nat.le_refl _) (by omega) (Nat.lt_of_le_of_lt (Lib.bitLen_le d.size 62 (by omega) (by omega)) (by omega)) (Or.inl rfl)
  have hs := Sort.pdq_sorts (ltOf fun x y : { x : PV // x ∈ L } => cmpP x.1.1 y.1.1) (swoP fun x : { x : PV // x ∈ L } => x.1.1) d 0 d.size (Lib.bitLen d.size) true true (Nat.zero_le _) (Nat.le_refl _) (Or.inl rfl)
  obtain ⟨d', hd'⟩ : ∃ d', d' = Sort.pdq (ltOf fun x y : { x : PV // x ∈ L } => cmpP x.1.1 y.1.1) d 0 d.size (Lib.bitLen d.size) true true := ⟨_, rfl⟩
  rw [← hd'] at hp hs
  have hfin : ∀ w', SWK enc 2 w g 0 d' w' → ∃ M : List PV, M.Perm L ∧ M.Pairwise (fun a b => a.1 = b.1 ∨ plt a.1 b.1) ∧ RowP w' g M ∧ w.grownBy w' (some g) := by
    rintro w' ⟨nn, os, rfl⟩
    obtain ⟨⟨hsz, _, hperm⟩, hsorted⟩ := hs
    have hHK : Sort.HoldsK enc 2 (sortWorldK enc 2 w g 0 nn d' os) g 0 d' := Sort.holdsK_grow _ _ _ _ _ _ _ (by simpa [Sort.putRowK, Sort.putRow, Sort.mapBlock, Sort.ahead] using hgl) (Sort.holdsK_putRowK _ _ _ _ _ d d' (Sort.holdsK_ahead _ _ _ _ _ _ _ hH) hsz)
    have hsl : d'.size = L.length := by omega
    refine ⟨d'.toList.map (·.1), ?_, ?_, ⟨fun k hk => ?_, fun k hk => ?_⟩, hgrow nn d' os⟩
    · have e1 : (d'.extract 0 d.size).toList = d'.toList := by rw [← hsz]; simp
      have e2 : (d.extract 0 d.size).toList = d.toList := by simp
      rw [e1, e2] at hperm
      have := hperm.map (·.1)
      have e3 : d.toList.map (·.1) = L := by rw [hd]; exact List.attach_map_subtype_val L
      rwa [e3] at this
    · rw [List.pairwise_map, List.pairwise_iff_getElem]
      intro i j hi hj hij
      have hi' : i < d'.size := by simpa using hi
      have hj' : j < d'.size := by simpa using hj
      have := hsorted i j (Nat.zero_le _) hij (by omega)
      rw [getElem!_pos d' j hj', getElem!_pos d' i hi', ltOf_not (fun x : { x : PV // x ∈ L } => x.1.1)] at this
      simp only [Array.getElem_toList]
      by_cases e : (d'[i]).1.1 = (d'[j]).1.1
      · exact .inl e
      · rcases plt_order.tot e with g1 | g1
        · exact .inr g1
        · exact absurd g1 this
    · have hk' : k < d'.size := by simpa using hk
      have := (hHK.cell hk' (c := 0) (by omega)).1
      rw [getElem!_pos d' k hk', henc] at this
      simpa using this
    · have hk' : k < d'.size := by simpa using hk
      have := (hHK.cell hk' (c := 1) (by omega)).1
      rw [getElem!_pos d' k hk', henc] at this
      simpa using this
  have hl := lenP d.size w (by omega)
  have HF : Hid (∀ w', SWK enc 2 w g 0 d' w' → ∃ M : List PV, M.Perm L ∧ M.Pairwise (fun a b => a.1 = b.1 ∨ plt a.1 b.1) ∧ RowP w' g M ∧ w.grownBy w' (some g)) := hfin
  have HP : Hid (Calls Tryz.prog 137 #[.slice (some ⟨g, 0, none⟩) d.size cap, .int .i64 (0 : Nat), .int .i64 d.size, .int .i64 (Lib.bitLen d.size : Nat), .func (.func 92) #[] #[]] w fun e w' => e = .returned (.tuple #[]) ∧ SWK enc 2 w g 0 d' w') := hp
  rw [hds] at HP hl
  obtain ⟨q, hq⟩ : ∃ q : Nat, q = Lib.bitLen L.length := ⟨_, rfl⟩
  rw [← hq] at HP hl
  obtain ⟨n, hnn⟩ : ∃ n, n = L.length := ⟨_, rfl⟩
  rw [← hnn] at HP hl hn ⊢
  have wrp : IntKind.u64.wrap (n : Int) = n := by simp [IntKind.wrap, IntKind.bits, IntKind.signed]; omega
  have HPOST : Hid (∀ w', SWK enc 2 w g 0 d' w' → ∃ M : List PV, M.Perm L ∧ M.Pairwise (fun a b => a.1 = b.1 ∨ plt a.1 b.1) ∧ RowP w' g M ∧ w.grownBy w' (some g)) := HF
  clear hp hs hd' hfin hcmp hgrow hH hdg hds hrow hfz hh ht hoff h6 hq hnn HF h0 hL0 hd henc
  go_enter Tryz.func91, Tryz.ntmps91
  go_wp2_with fail
  refine hl.mono ?_
  rintro e w1 ⟨rfl, hw⟩
  have hw' := hw.symm
  subst hw'
  go_wp2_with fail
  refine HP.out.mono ?_
  rintro e w2 ⟨rfl, hsw⟩
  have HSW : Hid _ := HPOST.out _ hsw
  clear hsw
  go_wp2
  go_end0
  exact ⟨rfl, HSW.out⟩
end Go.Proofs.YtpbknhhjfhpkmaaGreatDoor

namespace Go.Proofs.YtpbknhhjfhpkmaaGreatDoor
open Go.RowKit

theorem Tryz.infoPolD : (Tryz.prog.info? 63).map (fun i => (i.zero, i.size, i.bytes)) = some (some (.agg #[.string ⟨#[]⟩, .slice none 0 0]), 2, 40) := by kernel_rfl
def zerosP (m : Nat) : List Value := (Builtin.zeroCells (Value.agg #[.string ⟨#[]⟩, .slice none 0 0]).cells m).toList
theorem zerosP_len (m : Nat) : (zerosP m).length = m * 2 := by simp [zerosP, Builtin.zeroCells, Value.cells]
theorem zerosP_one (m : Nat) : ∀ v ∈ zerosP m, v.oneCell' = true := by
  intro v hv
  simp only [zerosP, Builtin.zeroCells, Value.cells] at hv
  simp at hv
  obtain ⟨a, _, rfl⟩ := hv
  rcases Nat.mod_two_eq_zero_or_one a with e | e <;> rw [e] <;> rfl
theorem clear_pol (w : World) (ty : TypeId) (b o c m : Nat) (hm : 0 < m) (hc : ∀ j, j < m * 2 → (w.cell? ⟨b, o + j, none⟩).isSome = true) (hf : ∀ j, j < m * 2 → w.frozen? ⟨b, o + j, none⟩ = false) :
    (Builtin.clear_ #[34] ty #[.slice (some ⟨b, o, none⟩) m c]).run Tryz.prog w = .ok (.tuple #[]) (w.setCells b o (zerosP m)) := by
  have hst := run_storeCells_cells (P := Tryz.prog) b o (zerosP m) 0 w (by rw [zerosP_len]; simpa using hc) (by rw [zerosP_len]; simpa using hf) (zerosP_one m)
  simp only [Nat.add_zero] at hst
  have hz : (Builtin.zeroCells (Value.agg #[.string ⟨#[]⟩, .slice none 0 0]).cells m).toList = zerosP m := rfl
  obtain ⟨k, rfl⟩ := Nat.exists_eq_succ_of_ne_zero (Nat.pos_iff_ne_zero.1 hm)
  simp [Builtin.clear_, run_underlying Tryz.underlying34, Tryz.zeroValue63, hz, hst]

/- What DeleteFunc's loop holds: the kept ones stand first, those that are to come lie as they lay. -/
structure DelSt (w wr : World) (g cap : Nat) (L K : List PV) (j : Nat) : Prop where
  gr : w.grownBy wr (some g)
  blk : ∃ cur : Array Value, wr.heap[g]? = some (.cells cur 63 (0, 0)) ∧ cur.size = cap * 2
  lo : RowP wr g K
  hi0 : ∀ k (_ : j ≤ k) (h : k < L.length), wr.cell? ⟨g, k * 2, none⟩ = some (.string L[k].1.1)
  hi1 : ∀ k (_ : j ≤ k) (h : k < L.length), wr.cell? ⟨g, k * 2 + 1, none⟩ = some L[k].2
theorem RowP.kept {w w' : World} {g : Nat} {L : List PV} (h : RowP w g L) (e : w'.heap[g]? = w.heap[g]?) : RowP w' g L := by
  refine ⟨fun k hk => ?_, fun k hk => ?_⟩
  · have := h.c0 k hk; simp only [World.cell?, e] at this ⊢; exact this
  · have := h.c1 k hk; simp only [World.cell?, e] at this ⊢; exact this
theorem DelSt.later {w wr w1 : World} {g cap : Nat} {L K : List PV} {j : Nat} (h : DelSt w wr g cap L K j) (hb : Below wr.heap.size wr w1) : DelSt w w1 g cap L K j := by
  obtain ⟨cur, h1, h2⟩ := h.blk
  have e : w1.heap[g]? = wr.heap[g]? := hb.block _ (lt_of_block h1)
  refine ⟨⟨hb.os.trans h.gr.os, hb.tape.trans h.gr.tape, hb.output.trans h.gr.output, Nat.le_trans h.gr.size hb.size, fun k hk hne => (hb.block k (Nat.lt_of_lt_of_le hk h.gr.size)).trans (h.gr.block k hk hne)⟩, ⟨cur, e.trans h1, h2⟩, h.lo.kept e, fun k hj hk => ?_, fun k hj hk => ?_⟩
  · have := h.hi0 k hj hk; simp only [World.cell?, e] at this ⊢; exact this
  · have := h.hi1 k hj hk; simp only [World.cell?, e] at this ⊢; exact this
theorem heap_set_at {w : World} {g o : Nat} {cur : Array Value} {e : TypeId} {fr : Nat × Nat} (h : w.heap[g]? = some (.cells cur e fr)) (u : Value) : (w.setCell ⟨g, o, none⟩ u).heap[g]? = some (.cells (cur.setIfInBounds o u) e fr) := by
  simp [World.setCell, Array.getElem?_modify, h]
theorem DelSt.put {w wr : World} {g cap : Nat} {L K : List PV} {j : Nat} (h : DelSt w wr g cap L K j) (x : PV) (hKj : K.length ≤ j) (hjc : j < cap) : DelSt w ((wr.setCell ⟨g, K.length * 2, none⟩ (.string x.1.1)).setCell ⟨g, K.length * 2 + 1, none⟩ x.2) g cap L (K ++ [x]) (j + 1) := by
  obtain ⟨cur, h1, h2⟩ := h.blk
  have e1 := heap_set_at (o := K.length * 2) h1 (.string x.1.1)
  have e2 := heap_set_at (o := K.length * 2 + 1) e1 x.2
  have cell : ∀ o, ((wr.setCell ⟨g, K.length * 2, none⟩ (.string x.1.1)).setCell ⟨g, K.length * 2 + 1, none⟩ x.2).cell? ⟨g, o, none⟩ = if o = K.length * 2 + 1 then some x.2 else if o = K.length * 2 then some (.string x.1.1) else wr.cell? ⟨g, o, none⟩ := by
    intro o
    have b0 : K.length * 2 < cap * 2 := by omega
    have b1 : K.length * 2 + 1 < cap * 2 := by omega
    simp only [World.cell?, e2, h1, Array.getElem?_setIfInBounds, Array.size_setIfInBounds, h2]
    by_cases c1 : o = K.length * 2 + 1
    · subst c1; simp [b1]
    · by_cases c2 : o = K.length * 2
      · subst c2; simp [b0]
      · simp [c1, c2, Ne.symm c1, Ne.symm c2]
  refine ⟨⟨h.gr.os, h.gr.tape, h.gr.output, by simpa [World.setCell] using h.gr.size, fun k hk hne => ?_⟩, ⟨_, e2, by simp [h2]⟩, ⟨fun k hk => ?_, fun k hk => ?_⟩, fun k hj hk => ?_, fun k hj hk => ?_⟩
  · have hkg : k ≠ g := fun e => hne (by rw [e])
    rw [Below.heap_setCell _ _ _ _ (by simpa using hkg), Below.heap_setCell _ _ _ _ (by simpa using hkg)]
    exact h.gr.block k hk hne
  · rw [cell, if_neg (by omega)]
    by_cases hkK : k = K.length
    · subst hkK; simp
    · have : k < K.length := by simp at hk; omega
      rw [if_neg (by omega), List.getElem_append_left this]
      exact h.lo.c0 k this
  · rw [cell]
    by_cases hkK : k = K.length
    · subst hkK; simp
    · have : k < K.length := by simp at hk; omega
      rw [if_neg (by omega), if_neg (by omega), List.getElem_append_left this]
      exact h.lo.c1 k this
  · rw [cell, if_neg (by omega), if_neg (by omega)]
    exact h.hi0 k (by omega) hk
  · rw [cell, if_neg (by omega), if_neg (by omega)]
    exact h.hi1 k (by omega) hk
theorem DelSt.skip {w wr : World} {g cap : Nat} {L K : List PV} {j : Nat} (h : DelSt w wr g cap L K j) : DelSt w wr g cap L K (j + 1) :=
  ⟨h.gr, h.blk, h.lo, fun k hj hk => h.hi0 k (by omega) hk, fun k hj hk => h.hi1 k (by omega) hk⟩
theorem first_at {t : Pol → Bool} {L : List PV} (h : (L.map (·.1)).any t = true) : ∃ i : Nat, firstI t (L.map (·.1)) = (i : Int) ∧ ∃ hi : i < L.length, t L[i].1 = true ∧ ∀ x ∈ L.take i, t x.1 = false := by
  refine ⟨(L.map (·.1)).findIdx t, by simp [firstI, h], ?_⟩
  have hlt : (L.map (·.1)).findIdx t < (L.map (·.1)).length := List.findIdx_lt_length.2 (List.any_eq_true.1 h)
  have hi : (L.map (·.1)).findIdx t < L.length := by simpa using hlt
  refine ⟨hi, ?_, fun x hx => ?_⟩
  · have := List.findIdx_getElem (w := hlt)
    simpa using this
  · obtain ⟨j, hj, rfl⟩ := List.mem_take_iff_getElem.1 hx
    have := List.not_of_lt_findIdx (p := t) (xs := L.map (·.1)) (i := j) (by omega)
    simpa using this
def keepT (t : Pol → Bool) (L : List PV) : List PV := L.filter fun x => !t x.1
theorem keep_take {t : Pol → Bool} {L : List PV} {i : Nat} (h : ∀ x ∈ L.take i, t x.1 = false) : keepT t (L.take i) = L.take i := by
  unfold keepT
  rw [List.filter_eq_self]
  intro x hx
  simp [h x hx]
theorem keep_step {t : Pol → Bool} {L : List PV} {j : Nat} (hj : j < L.length) : keepT t (L.take (j + 1)) = keepT t (L.take j) ++ (if t L[j].1 = true then [] else [L[j]]) := by
  unfold keepT
  rw [List.take_succ_eq_append_getElem hj, List.filter_append]
  congr 1
  cases h : t L[j].1 <;> simp [h]
theorem keep_len (t : Pol → Bool) (L : List PV) (j : Nat) : (keepT t (L.take j)).length ≤ j := by
  unfold keepT
  have h1 := List.length_filter_le (fun x : PV => !t x.1) (L.take j)
  have h2 := List.length_take_le j L
  omega

theorem take_of_rowP {w : World} {g : Nat} {cur : Array Value} {e : TypeId} {fr : Nat × Nat} {K : List PV} (h : RowP w g K) (hh : w.heap[g]? = some (.cells cur e fr)) (hs : K.length * 2 ≤ cur.size) : cur.toList.take (K.length * 2) = polC K := by
  have _ := hs
  apply List.ext_getElem?
  intro o
  by_cases ho : o < K.length * 2
  · rw [List.getElem?_take_of_lt ho, Array.getElem?_toList]
    have hk : o / 2 < K.length := by omega
    obtain ⟨g0, g1⟩ := polC_at K (o / 2) hk
    rcases Nat.mod_two_eq_zero_or_one o with em | em
    · have e1 : o / 2 * 2 = o := by omega
      have := h.c0 (o / 2) hk
      rw [e1] at this g0
      rw [g0]
      simpa [World.cell?, hh] using this
    · have e1 : o / 2 * 2 + 1 = o := by omega
      have := h.c1 (o / 2) hk
      rw [e1] at this g1
      rw [g1]
      simpa [World.cell?, hh] using this
  · rw [List.getElem?_eq_none (by rw [List.length_take]; omega), List.getElem?_eq_none (by rw [polC_len]; omega)]
theorem heap_setCells {g : Nat} {e : TypeId} {fr : Nat × Nat} : ∀ (vs : List Value) (o : Nat) (w : World) (cur : Array Value), w.heap[g]? = some (.cells cur e fr) → ∃ cur' : Array Value, (w.setCells g o vs).heap[g]? = some (.cells cur' e fr) ∧ cur'.size = cur.size ∧ (∀ k, k < o → cur'[k]? = cur[k]?) ∧ w.grownBy (w.setCells g o vs) (some g)
  | [], _, w, cur, h => ⟨cur, h, rfl, fun _ _ => rfl, ⟨rfl, rfl, rfl, Nat.le_refl _, fun _ _ _ => rfl⟩⟩
  | v :: r, o, w, cur, h => by
    have h1 := heap_set_at (o := o) h v
    obtain ⟨cur', k1, k2, k3, k4⟩ := heap_setCells r (o + 1) _ _ h1
    refine ⟨cur', k1, by rw [k2]; simp, fun k hk => ?_, ?_⟩
    · rw [k3 k (by omega), Array.getElem?_setIfInBounds, if_neg (by omega)]
    · refine ⟨k4.os, k4.tape, k4.output, Nat.le_trans (by simp [World.setCell]) k4.size, fun k hk hne => ?_⟩
      have hkg : k ≠ g := fun e => hne (by rw [e])
      rw [show (w.setCells g o (v :: r)) = (w.setCell ⟨g, o, none⟩ v).setCells g (o + 1) r from rfl, k4.block k (by simpa [World.setCell] using hk) hne]
      exact Below.heap_setCell _ _ _ _ (by simpa using hkg)
theorem grown_of_below {w w' : World} {g : Option Nat} (hb : Below w.heap.size w w') : w.grownBy w' g := ⟨hb.os, hb.tape, hb.output, hb.size, fun k hk _ => hb.block k hk⟩
theorem DelSt.done {w wr : World} {g cap base : Nat} {L K : List PV} {j n : Nat} (h : DelSt w wr g cap L K j) (hn : K.length < n) (hc : n ≤ cap) (hm : cap ≤ maxLen) (hb : base ≤ g) : (wr.setCells g (K.length * 2) (zerosP (n - K.length))).ownsRow base 63 2 (.slice (some ⟨g, 0, none⟩) K.length cap) K.length (polC K) ∧ w.grownBy (wr.setCells g (K.length * 2) (zerosP (n - K.length))) (some g) := by
  obtain ⟨cur, h1, h2⟩ := h.blk
  obtain ⟨cur', k1, k2, k3, k4⟩ := heap_setCells (zerosP (n - K.length)) (K.length * 2) wr cur h1
  have ht := take_of_rowP h.lo h1 (by omega)
  refine ⟨⟨by rw [polC_len], .inr ⟨g, cap, cur', rfl, hb, k1, by omega, hm, by omega, ?_⟩⟩, ⟨k4.os.trans h.gr.os, k4.tape.trans h.gr.tape, k4.output.trans h.gr.output, Nat.le_trans h.gr.size k4.size, fun k hk hne => (k4.block k (Nat.lt_of_lt_of_le hk h.gr.size) hne).trans (h.gr.block k hk hne)⟩⟩
  rw [← ht]
  apply List.ext_getElem?
  intro o
  by_cases ho : o < K.length * 2
  · rw [List.getElem?_take_of_lt ho, List.getElem?_take_of_lt ho, Array.getElem?_toList, Array.getElem?_toList, k3 o ho]
  · rw [List.getElem?_eq_none (by rw [List.length_take]; omega), List.getElem?_eq_none (by rw [List.length_take]; omega)]
theorem pols_of {w : World} {g : Nat} {L : List PV} (h : RowP w g L) (hg : g < w.heap.size) (ho : ∀ x ∈ L, ReadersAt w x.2 x.1.2) : Pols w (some ⟨g, 0, none⟩) g 0 (L.map (·.1)) := by
  refine ⟨fun _ => rfl, fun k hk => ?_, fun k hk => ?_, fun _ => hg⟩
  · rw [List.length_map] at hk
    rw [Nat.zero_add, List.getElem_map]; exact h.c0 k hk
  · rw [List.length_map] at hk
    refine ⟨L[k].2, by rw [Nat.zero_add]; exact h.c1 k hk, ?_⟩
    rw [List.getElem_map]; exact ho _ (List.getElem_mem hk)
theorem pols_nil (w : World) (ao : Option Addr) : Pols w ao 0 0 [] := ⟨fun h => by simp at h, fun k h => by simp at h, fun k h => by simp at h, fun h => by simp at h⟩

set_option maxRecDepth 100000 in
set_option maxHeartbeats 4000000 in
theorem delF (fn : Nat) (lb : Array Value) (eg : ∀ args w, (callFunc fn args).run Tryz.prog w = .ok (.enter fn args) w) (t : Pol → Bool) (base : Nat) (ao : Option Addr) (n cap : Nat) (L : List PV) (w : World) (hn : n = L.length) (hm : n ≤ 1000) (hown : w.ownsRow base 63 2 (.slice ao n cap) n (polC L)) (hoff : ∀ x ∈ L, Off w (Value.slice ao n cap).ownBlock x)
    (hp : ∀ (W : World) (p : Pol) (v : Value), p ∈ L.map (·.1) → ReadersAt W v p.2 → w.grownBy W (Value.slice ao n cap).ownBlock → Calls Tryz.prog fn (#[.agg #[.string p.1, v]] ++ lb) W fun e w' => e = .returned (.bool (t p)) ∧ Below W.heap.size W w') :
    Calls Tryz.prog 96 #[.slice ao n cap, .func (.func fn) #[] lb] w fun e w' => e = .returned (.slice ao (keepT t L).length cap) ∧ w'.ownsRow base 63 2 (.slice ao (keepT t L).length cap) (keepT t L).length (polC (keepT t L)) ∧ w.grownBy w' (Value.slice ao n cap).ownBlock := by
  have hcp := own_cap hown
  by_cases hany : ((L.map (·.1)).any t) = false
  · have hfi : firstI t (L.map (·.1)) = -1 := by simp [firstI, hany]
    have hk : keepT t L = L := by
      unfold keepT
      rw [List.filter_eq_self]
      intro x hx
      have := List.any_eq_false.1 hany x.1 (List.mem_map.2 ⟨x, hx, rfl⟩)
      simpa using this
    have hpols : ∃ b off, Pols w ao b off (L.map (·.1)) := by
      by_cases hL : L = []
      · subst hL; exact ⟨0, 0, pols_nil w ao⟩
      · rcases hown.2 with ⟨_, h2⟩ | ⟨g, c, cur, h1, h2, h3, h4, h5, h6, h7⟩
        · exact absurd (List.length_eq_zero_iff.1 (hn ▸ h2)) hL
        · injection h1 with h1 _ _
          subst h1
          exact ⟨g, 0, pols_of (rowP_of h3 (by rw [← hn]; exact h7)) (lt_of_block h3) (fun x hx => (hoff x hx).at')⟩
    obtain ⟨b, off, hpo⟩ := hpols
    have hix := indexFuncP fn lb eg t ao b off n cap (L.map (·.1)) w (by rw [List.length_map]; exact hn) hm hpo (fun W p v hp1 hp2 hp3 => hp W p v hp1 hp2 (grown_of_below hp3))
    rw [hfi] at hix
    rw [hk]
    have HO : Hid (w.ownsRow base 63 2 (.slice ao n cap) n (polC L)) := hown
    have HN : Hid (L.length = n) := hn.symm
    rw [HN.out]
    clear hany hfi hk hpo hown hoff hp hn
    go_enter Tryz.func96, Tryz.ntmps96
    go_wp2_with fail
    refine hix.mono ?_
    rintro e w1 ⟨rfl, hb1⟩
    go_wp2
    go_ret
    exact ⟨rfl, own_below HO.out hb1, grown_of_below hb1⟩
  · have hany' : ((L.map (·.1)).any t) = true := by simpa using hany
    obtain ⟨i, hfi, hi, hti, hpre⟩ := first_at hany'
    obtain ⟨g, hao, hbg, cur, h3, h6, h7⟩ : ∃ g, ao = some ⟨g, 0, none⟩ ∧ base ≤ g ∧ ∃ cur : Array Value, w.heap[g]? = some (.cells cur 63 (0, 0)) ∧ cur.size = cap * 2 ∧ cur.toList.take (L.length * 2) = polC L := by
      rcases hown.2 with ⟨_, h2⟩ | ⟨g, c, cur, h1, h2, h3, _, _, h6, h7⟩
      · omega
      · injection h1 with h1 _ h8
        subst h8
        exact ⟨g, h1, h2, cur, h3, h6, by rw [← hn]; exact h7⟩
    subst hao
    have hrow := rowP_of h3 h7
    have hob : (Value.slice (some ⟨g, 0, none⟩) n cap).ownBlock = some g := rfl
    rw [hob] at hoff hp ⊢
    have hix := indexFuncP fn lb eg t (some ⟨g, 0, none⟩) g 0 n cap (L.map (·.1)) w (by rw [List.length_map]; exact hn) hm (pols_of hrow (lt_of_block h3) (fun x hx => (hoff x hx).at')) (fun W p v hp1 hp2 hp3 => hp W p v hp1 hp2 (grown_of_below hp3))
    rw [hfi] at hix
    have HST0 : Hid (DelSt w w g cap L (keepT t (L.take (i + 1))) (i + 1)) := by
      have e : keepT t (L.take (i + 1)) = L.take i := by rw [keep_step hi, keep_take hpre, if_pos hti, List.append_nil]
      rw [e]
      refine ⟨⟨rfl, rfl, rfl, Nat.le_refl _, fun _ _ _ => rfl⟩, ⟨cur, h3, h6⟩, ⟨fun k hk => ?_, fun k hk => ?_⟩, fun k _ hk => hrow.c0 k hk, fun k _ hk => hrow.c1 k hk⟩
      · rw [List.getElem_take]; exact hrow.c0 k (by simp at hk; omega)
      · rw [List.getElem_take]; exact hrow.c1 k (by simp at hk; omega)
    have HK0 : Hid ((keepT t (L.take (i + 1))).length = i) := by
      show _ = _
      rw [keep_step hi, keep_take hpre, if_pos hti, List.append_nil, List.length_take]; omega
    have HP : Hid (∀ (W : World) (p : Pol) (v : Value), p ∈ L.map (·.1) → ReadersAt W v p.2 → w.grownBy W (some g) → Calls Tryz.prog fn (#[.agg #[.string p.1, v]] ++ lb) W fun e w' => e = .returned (.bool (t p)) ∧ Below W.heap.size W w') := hp
    have HOFF : Hid (∀ x ∈ L, Off w (some g) x) := hoff
    have HN : Hid (n = L.length) := hn
    have HCM : Hid (cap ≤ maxLen) := hcp.2
    have hnc := hcp.1
    have hin : i < n := by omega
    have hcm := hcp.2
    unfold maxLen at hcm
    clear hany hany' hfi hi hti hpre h3 h6 h7 hrow hob hown hoff hp hn hcp
    go_enter Tryz.func96, Tryz.ntmps96
    go_wp2_with fail
    refine hix.mono ?_
    rintro e w1 ⟨rfl, hb1⟩
    have HS1 : Hid (DelSt w w1 g cap L (keepT t (L.take (i + 1))) (i + 1)) := HST0.out.later hb1
    clear hb1 HST0 hix
    have bi : ((i : Int) == -1) = false := by simp
    go_wp2
    go_loopw [5, 6] (fun a b wr => ∃ j : Nat, j ≤ n ∧ b = .int .i64 j ∧ (keepT t (L.take j)).length < j ∧ a = .int .i64 (keepT t (L.take j)).length ∧ Hid (DelSt w wr g cap L (keepT t (L.take j)) j)) (fun _ b _ => n - (intOf b).toNat)
    case atStart => exact ⟨i + 1, by omega, by go_num, by rw [HK0.out]; omega, by rw [HK0.out], HS1⟩
    case round =>
      clear HS1 HK0
      obtain ⟨j, hj, rfl, hkj, rfl, HS⟩ := hrel
      by_cases hlt : j < n
      · have hjl : j < L.length := by have := HN.out; omega
        have f0 := HS.out.hi0 j (Nat.le_refl _) hjl
        have f1 := HS.out.hi1 j (Nat.le_refl _) hjl
        have hks := keep_step (t := t) hjl
        obtain ⟨x, hx⟩ : ∃ x, x = L[j] := ⟨_, rfl⟩
        rw [← hx] at f0 f1 hks
        have hxm : x ∈ L := by rw [hx]; exact List.getElem_mem hjl
        obtain ⟨K, hK⟩ : ∃ K, K = keepT t (L.take j) := ⟨_, rfl⟩
        rw [← hK] at hkj HS hks ⊢
        obtain ⟨q, hq⟩ : ∃ q, q = K.length := ⟨_, rfl⟩
        have HQ : Hid (q = K.length) := hq
        rw [← hq] at hkj ⊢
        have hra := ((HOFF.out x hxm).kept HS.out.gr).at'
        obtain ⟨ro, rc, rn, hv0⟩ : ∃ ro rc rn, x.2 = .slice ro rn rc := by obtain ⟨ro, _, _, rc, h, _⟩ := hra; exact ⟨ro, rc, _, h⟩
        rw [hv0] at f1 hra
        obtain ⟨wy, hwy⟩ : ∃ wy, wy = wr.alloc (.cells #[.string x.1.1, .slice ro rn rc] 63) := ⟨_, rfl⟩
        have hby : Below wr.heap.size wr wy := by rw [hwy]; exact (Below.refl _ _).alloc (Nat.le_refl _) _
        have HSY : Hid (DelSt w wy g cap L K j) := HS.out.later hby
        have hcall := HP.out wy x.1 (.slice ro rn rc) (List.mem_map.2 ⟨x, hxm, rfl⟩) (hra.later hby) HSY.out.gr
        have HKB : Hid (wy.heap[wr.heap.size]? = some (.cells #[.string x.1.1, .slice ro rn rc] 63 (0, 0))) := by show _ = _; rw [hwy]; exact heap_at_alloc _ _ _ rfl
        have HWY : Hid (wy = wr.alloc (.cells #[.string x.1.1, .slice ro rn rc] 63)) := hwy
        have HX2 : Hid (x.2 = .slice ro rn rc) := hv0
        have hgw : g < wr.heap.size := by obtain ⟨c, h1, _⟩ := HS.out.blk; exact lt_of_block h1
        clear hx hxm hK hq hra hv0 hby hwy HS
        cases ht : t x.1 with
        | true =>
          rw [ht] at hcall hks
          have HKS : Hid (keepT t (L.take (j + 1)) = K) := by show _ = _; rw [hks]; simp
          clear ht hks
          go_wp2_with fail
          rw [← HWY.out]
          refine hcall.mono ?_
          rintro e w2 ⟨rfl, hb2⟩
          have HS2 : Hid (DelSt w w2 g cap L K (j + 1)) := (HSY.out.later hb2).skip
          clear hb2
          go_wp2
          go_roundw
          case rel => exact ⟨j + 1, by omega, by go_num, by rw [HKS.out, ← HQ.out]; omega, by rw [HKS.out, ← HQ.out], by rw [HKS.out]; exact HS2⟩
          case measure => simp [intOf]; omega
        | false =>
          rw [ht] at hcall hks
          have HKS : Hid (keepT t (L.take (j + 1)) = K ++ [x]) := by show _ = _; rw [hks]; simp
          clear ht hks
          go_wp2_with fail
          rw [← HWY.out]
          refine hcall.mono ?_
          rintro e w2 ⟨rfl, hb2⟩
          have HS2 : Hid (DelSt w w2 g cap L K j) := HSY.out.later hb2
          have kb : w2.heap[wr.heap.size]? = some (.cells #[.string x.1.1, .slice ro rn rc] 63 (0, 0)) := (hb2.block _ (lt_of_block HKB.out)).trans HKB.out
          have c0 : w2.cell? ⟨wr.heap.size, 0, none⟩ = some (.string x.1.1) := by simp [World.cell?, kb]
          have c1 : w2.cell? ⟨wr.heap.size, 1, none⟩ = some (.slice ro rn rc) := by simp [World.cell?, kb]
          have lb2 : wr.heap.size < w2.heap.size := lt_of_block kb
          obtain ⟨cu, hc1, hc2⟩ := HS2.out.blk
          obtain ⟨u0, d0⟩ : ∃ u0, w2.cell? ⟨g, q * 2, none⟩ = some u0 := ⟨cu[q * 2]'(by omega), by simp [World.cell?, hc1]⟩
          obtain ⟨u1, d1⟩ : ∃ u1, w2.cell? ⟨g, q * 2 + 1, none⟩ = some u1 := ⟨cu[q * 2 + 1]'(by omega), by simp [World.cell?, hc1]⟩
          have z0 : w2.frozen? ⟨g, q * 2, none⟩ = false := by simp [World.frozen?, hc1]
          have z1 : w2.frozen? ⟨g, q * 2 + 1, none⟩ = false := by simp [World.frozen?, hc1]
          have lg2 : g < w2.heap.size := lt_of_block hc1
          have hiq : (q : Int) < (n : Int) := by omega
          have HS3 : Hid (DelSt w ((w2.setCell ⟨g, q * 2, none⟩ (.string x.1.1)).setCell ⟨g, q * 2 + 1, none⟩ (.slice ro rn rc)) g cap L (K ++ [x]) (j + 1)) := by
            have h := HS2.out.put x (by rw [← HQ.out]; omega) (by omega)
            rw [← HQ.out, HX2.out] at h
            exact h
          have HL1 : Hid ((K ++ [x]).length = q + 1) := by show _ = _; simp [HQ.out]
          clear hb2 kb hc1 hc2 cu HS2
          go_wp2
          go_roundw
          case rel => exact ⟨j + 1, by omega, by go_num, by rw [HKS.out, HL1.out]; omega, by rw [HKS.out, HL1.out]; go_num, by rw [HKS.out]; exact HS3⟩
          case measure => simp [intOf]; omega
      · obtain rfl : j = n := by omega
        have HKE : Hid (keepT t (L.take j) = keepT t L) := by show _ = _; rw [List.take_of_length_le (by have := HN.out; omega)]
        rw [HKE.out] at hkj HS ⊢
        have hdn := HS.out.done (base := base) hkj hnc HCM.out hbg
        obtain ⟨cu, hc1, hc2⟩ := HS.out.blk
        have hcl := fun ty => clear_pol wr ty g ((keepT t L).length * 2) (cap - (keepT t L).length) (j - (keepT t L).length) (by omega) (fun k hk => by simp [World.cell?, hc1]; omega) (fun k hk => by simp [World.frozen?, hc1])
        obtain ⟨q, hq⟩ : ∃ q, q = (keepT t L).length := ⟨_, rfl⟩
        rw [← hq] at hkj hdn hcl ⊢
        have HDN : Hid ((wr.setCells g (q * 2) (zerosP (j - q))).ownsRow base 63 2 (.slice (some ⟨g, 0, none⟩) q cap) q (polC (keepT t L)) ∧ w.grownBy (wr.setCells g (q * 2) (zerosP (j - q))) (some g)) := hdn
        have HQE : Hid (q = (keepT t L).length) := hq
        have hle : q ≤ j := by omega
        have hlc : q ≤ cap := by omega
        have hne : ¬ cap = q := by omega
        clear hdn hc1 hc2 cu hq HS HKE
        go_wp2
        go_ret
        rw [← HQE.out]
        exact ⟨rfl, HDN.out.1, HDN.out.2⟩
end Go.Proofs.YtpbknhhjfhpkmaaGreatDoor

namespace Go.Proofs.YtpbknhhjfhpkmaaGreatDoor
open Go.RowKit Go.Maps

theorem compact_len (zs : List (List UInt8)) : (Go.Lib.compact zs).length ≤ zs.length := by
  unfold Go.Lib.compact Go.Lib.compactUpTo
  rw [List.length_map]
  exact Nat.le_trans (List.length_filter_le _ _) (by simp)
theorem plainF_len (p : Pol) : (plainF p).2.length ≤ p.2.length := by
  have h1 := compact_len (((p.2.filter fun r => decide (r ≠ p.1)).map (·.data.toList)).mergeSort fun x y => decide (x ≤ y))
  rw [List.length_mergeSort, List.length_map] at h1
  have h2 := List.length_filter_le (fun r => decide (r ≠ p.1)) p.2
  simp only [plainF, upC, List.length_map]
  omega

theorem spare_any (B : Nat) (ls : List ByteArray) (ps : List (ByteArray × ByteArray)) (ob pb : Nat) (p q : Pol) (u v : Value) (w : World) (h : Ord w B (Act.acts ls ps)) (hu : ReadersAt w u q.2) (hv : ReadersAt w v p.2) (hq : SzP q) (hz : SzP p)
    (c0 : w.cell? ⟨ob, 0, none⟩ = some (.map (some B))) (c1 : w.cell? ⟨pb, 0, none⟩ = some (.string p.1)) (c2 : w.cell? ⟨pb, 1, none⟩ = some v) :
    Calls Tryz.prog 94 #[.agg #[.string q.1, u], .pointer (some ⟨ob, 0, none⟩), .pointer (some ⟨pb, 0, none⟩)] w fun e w' => e = .returned (.bool (Lab.coversB ls ps p q)) ∧ Below w.heap.size w w' := by
  have hb0 : Below w.heap.size w (w.alloc (.cells #[.string q.1, u] 63)) := (Below.refl _ _).alloc (Nat.le_refl _) _
  have l0 : ob < w.heap.size := World.block_lt_of_cell? w _ c0
  have l1 : pb < w.heap.size := World.block_lt_of_cell? w _ c1
  have HK : Hid (Calls Tryz.prog 95 #[.map (some B), .agg #[.string p.1, v], .agg #[.string q.1, u]] (w.alloc (.cells #[.string q.1, u] 63)) fun e w' => e = .returned (.bool (Lab.coversB ls ps p q)) ∧ Below (w.alloc (.cells #[.string q.1, u] 63)).heap.size (w.alloc (.cells #[.string q.1, u] 63)) w') := covers_any B ls ps p q v u _ (h.later hb0) (hv.later hb0) (hu.later hb0) hz hq
  have HB : Hid (Below w.heap.size w (w.alloc (.cells #[.string q.1, u] 63))) := hb0
  clear h hu hv hq hz hb0
  obtain ⟨t, ht⟩ : ∃ t, t = Lab.coversB ls ps p q := ⟨_, rfl⟩
  rw [← ht] at HK ⊢
  clear ht
  go_enter Tryz.func94, Tryz.ntmps94
  go_wp2_with fail
  refine HK.out.mono ?_
  rintro e w1 ⟨rfl, hb1⟩
  go_wp2
  go_ret
  exact ⟨rfl, HB.out.trans (hb1.mono (by simp))⟩

theorem sortC (base : Nat) (ao : Option Addr) (n cap : Nat) (L : List PV) (w : World) (hn : n = L.length) (hm : n ≤ 1000) (hown : w.ownsRow base 63 2 (.slice ao n cap) n (polC L)) (hoff : ∀ y ∈ L, Off w (Value.slice ao n cap).ownBlock y) (h6 : ∀ y ∈ L, y.1.2.length ≤ 1000) :
    Calls Tryz.prog 91 #[.slice ao n cap, .func (.func 92) #[] #[]] w fun e w' => e = .returned (.tuple #[]) ∧ ∃ M : List PV, M.Perm L ∧ M.Pairwise (fun a b => a.1 = b.1 ∨ plt a.1 b.1) ∧ w.grownBy w' (Value.slice ao n cap).ownBlock ∧ ∃ g, 0 < M.length → ao = some ⟨g, 0, none⟩ ∧ RowP w' g M ∧ g < w'.heap.size := by
  subst hn
  by_cases hL : L = []
  · subst hL
    refine (sort_none ao cap w).mono ?_
    rintro e w' ⟨rfl, rfl⟩
    exact ⟨rfl, [], List.Perm.refl _, List.Pairwise.nil, ⟨rfl, rfl, rfl, Nat.le_refl _, fun _ _ _ => rfl⟩, 0, fun h => absurd h (by simp)⟩
  · rcases hown.2 with ⟨hv, h0⟩ | ⟨g, c, cur, hv, hg, hh, hc1, hc2, hsz, htk⟩
    · exact absurd (List.length_eq_zero_iff.1 h0) hL
    · injection hv with hv1 hv2 hv3
      subst hv1 hv3
      refine (sort_some g cap cur L w hL hm hh htk hoff h6).mono ?_
      rintro e w' ⟨rfl, M, k1, k2, k3, k4⟩
      exact ⟨rfl, M, k1, k2, k4, g, fun _ => ⟨rfl, k3, Nat.lt_of_lt_of_le (lt_of_block hh) k4.size⟩⟩

theorem pols_own {w : World} {base : Nat} {ao : Option Addr} {n cap : Nat} {O : List PV} (hn : n = O.length) (hown : w.ownsRow base 63 2 (.slice ao n cap) n (polC O)) (hr : ∀ y ∈ O, ReadersAt w y.2 y.1.2) : ∃ b off, Pols w ao b off (O.map (·.1)) := by
  subst hn
  rcases hown.2 with ⟨hv, h0⟩ | ⟨g, c, cur, hv, hg, hh, hc1, hc2, hsz, htk⟩
  · have e := List.length_eq_zero_iff.1 h0
    subst e
    exact ⟨0, 0, pols_nil _ _⟩
  · injection hv with hv1 hv2 hv3
    subst hv1 hv3
    exact ⟨g, 0, pols_of (rowP_of hh htk) (lt_of_block hh) hr⟩

/- What the second loop holds. -/
structure OutSt (cov : Pol → Pol → Bool) (wS wr : World) (v : Value) (O M : List PV) (k : Nat) : Prop where
  bel : Below wS.heap.size wS wr
  own : wr.ownsRow wS.heap.size 63 2 v O.length (polC O)
  sub : ∀ y ∈ O, y ∈ M
  len : O.length ≤ k
  fold : O.map (·.1) = ((M.take k).map (·.1)).foldl (Lab.stepN cov) []
theorem OutSt.start (cov : Pol → Pol → Bool) (wS : World) (M : List PV) : OutSt cov wS wS (.slice none 0 0) [] M 0 :=
  ⟨Below.refl _ _, World.ownsRow_nil _ _ _ _, fun _ h => absurd h (by simp), Nat.le_refl _, rfl⟩
theorem OutSt.later {cov : Pol → Pol → Bool} {wS wr w1 : World} {v : Value} {O M : List PV} {k : Nat} (h : OutSt cov wS wr v O M k) (hb : Below wr.heap.size wr w1) : OutSt cov wS w1 v O M k :=
  ⟨h.bel.trans (hb.mono h.bel.size), own_below h.own hb, h.sub, h.len, h.fold⟩
theorem OutSt.readers {cov : Pol → Pol → Bool} {wS wr : World} {v : Value} {O M : List PV} {k : Nat} (h : OutSt cov wS wr v O M k) (hM : ∀ y ∈ M, ReadersAt wS y.2 y.1.2) : ∀ y ∈ O, ReadersAt wr y.2 y.1.2 := fun y hy => (hM y (h.sub y hy)).later h.bel
theorem OutSt.off {cov : Pol → Pol → Bool} {wS wr : World} {v : Value} {O M : List PV} {k : Nat} (h : OutSt cov wS wr v O M k) (hM : ∀ y ∈ M, ReadersAt wS y.2 y.1.2) : ∀ y ∈ O, Off wr v.ownBlock y := by
  intro y hy
  obtain ⟨ro, rb, roff, rc, h1, h2, h3, h4⟩ := hM y (h.sub y hy)
  refine ⟨ro, rb, roff, rc, h1, h2, h3, h4.later h.bel, fun hp he => ?_⟩
  have k1 := h4.lt hp
  have k2 := (h.own.lt _ he.symm).1
  omega
theorem OutSt.skip {cov : Pol → Pol → Bool} {wS wr : World} {v : Value} {O M : List PV} {k : Nat} (h : OutSt cov wS wr v O M k) (hk : k < M.length) (hc : ((O.map (·.1)).any fun q => cov q M[k].1) = true) : OutSt cov wS wr v O M (k + 1) := by
  refine ⟨h.bel, h.own, h.sub, Nat.le_succ_of_le h.len, ?_⟩
  rw [List.take_succ_eq_append_getElem hk, List.map_append, List.foldl_append, ← h.fold]
  simp only [List.map_cons, List.map_nil, List.foldl_cons, List.foldl_nil]
  rw [Lab.stepN, if_pos hc]
theorem keepT_map (t : Pol → Bool) (O : List PV) : (keepT t O).map (·.1) = (O.map (·.1)).filter fun q => !t q := by
  rw [List.filter_map]; rfl
theorem OutSt.put {cov : Pol → Pol → Bool} {wS wr w4 : World} {v v4 : Value} {O M : List PV} {k : Nat} (h : OutSt cov wS wr v O M k) (hk : k < M.length) (hc : ((O.map (·.1)).any fun q => cov q M[k].1) = false) (hb : Below wS.heap.size wS w4)
    (hown : w4.ownsRow wS.heap.size 63 2 v4 ((keepT (cov M[k].1) O).length + 1) (polC (keepT (cov M[k].1) O) ++ [.string M[k].1.1, M[k].2])) : OutSt cov wS w4 v4 (keepT (cov M[k].1) O ++ [M[k]]) M (k + 1) := by
  refine ⟨hb, ?_, fun y hy => ?_, ?_, ?_⟩
  · have e : polC (keepT (cov M[k].1) O ++ [M[k]]) = polC (keepT (cov M[k].1) O) ++ [.string M[k].1.1, M[k].2] := by simp [polC, encP]
    rw [e, List.length_append]; exact hown
  · rcases List.mem_append.1 hy with hy | hy
    · exact h.sub y (List.mem_filter.1 hy).1
    · have e : y = M[k] := by simpa using hy
      rw [e]; exact List.getElem_mem hk
  · have h1 : (keepT (cov M[k].1) O).length ≤ O.length := List.length_filter_le _ _
    have h2 := h.len
    simp only [List.length_append, List.length_cons, List.length_nil]
    omega
  · rw [List.take_succ_eq_append_getElem hk, List.map_append, List.map_append, List.foldl_append, ← h.fold, keepT_map]
    simp only [List.map_cons, List.map_nil, List.foldl_cons, List.foldl_nil]
    rw [Lab.stepN, if_neg (by rw [hc]; simp)]
end Go.Proofs.YtpbknhhjfhpkmaaGreatDoor

namespace Go.Proofs.YtpbknhhjfhpkmaaGreatDoor
open Go.RowKit

def goesB (ls : List ByteArray) (ps : List (ByteArray × ByteArray)) (bs : List ByteArray) (p : Pol) : Bool := bs.any fun a => Act.acts ls ps a p.1
def leftF (ls : List ByteArray) (ps : List (ByteArray × ByteArray)) (x : List Pol) (bs : List ByteArray) : List Pol := x.filter fun p => !goesB ls ps bs p

theorem left_step {ls : List ByteArray} {ps : List (ByteArray × ByteArray)} {x : List Pol} {bs : List ByteArray} {k : Nat} (hk : k < x.length) : leftF ls ps (x.take (k + 1)) bs = leftF ls ps (x.take k) bs ++ (if goesB ls ps bs x[k] = true then [] else [x[k]]) := by
  unfold leftF
  rw [List.take_succ_eq_append_getElem hk, List.filter_append]
  congr 1
  cases h : goesB ls ps bs x[k] <;> simp [h]

end Go.Proofs.YtpbknhhjfhpkmaaGreatDoor
