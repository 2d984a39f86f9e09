/- Contract of solve.least. -/
import Derived.Test.YtnligpcfkmdjeaaGreatDoorGaSolV
import Derived.Deep.DeepHandedRow
namespace Go.Proofs.YtnligpcfkmdjeaaGreatDoor
open Go.RowKit

/- Ways in a row. -/
structure WysAt (w : World) (wo : Option Addr) (wb woff : Nat) (vs : List WayV) : Prop where
  adr : 0 < vs.length → wo = some ⟨wb, woff, none⟩
  at' : ∀ k (h : k < vs.length), WyAt w wb (woff + k * 15) vs[k]
theorem WysAt.later {w w' : World} {wo : Option Addr} {wb woff : Nat} {vs : List WayV} (h : WysAt w wo wb woff vs) (hb : Below w.heap.size w w') : WysAt w' wo wb woff vs := ⟨h.adr, fun k hk => (h.at' k hk).later hb⟩
/- Each way goes from and to labels that there are. -/
def InRange (n : Nat) (vs : List WayV) : Prop := ∀ v ∈ vs, (∀ i ∈ v.src, i < n) ∧ (v.dst = -1 ∨ ∃ d : Nat, v.dst = (d : Int) ∧ d < n)
/- What has been found so far. -/
structure LeOK (n : Nat) (vs : List WayV) (f : Nat → Nat → Nat) : Prop where
  come : Come vs f
  ok : ∀ k, SetOK (f k)
theorem brings_ok {f : Nat → Nat → Nat} {v : WayV} (hf : ∀ k, SetOK (f k)) (h : SetOK v.told) : SetOK (bringsV f v) := less_ok (plusAll_ok hf h) _
theorem putF_ok {f : Nat → Nat → Nat} {s : Nat → Nat} (hf : ∀ k, SetOK (f k)) (hs : SetOK s) (i : Nat) : ∀ k, SetOK (Sol.putF f i s k) := fun k => by
  unfold Sol.putF
  split
  · exact hs
  · exact hf k
theorem in_or (a b : Nat) : Sol.In b (a ||| b) := Sol.in_or_right a b
/- The measure: how many bits are set. -/
def cellN (w : World) (p : Addr) : Nat := match w.cell? p with | some (.int .u64 x) => x.toNat | _ => 0
def totW (w : World) (sb n : Nat) : Nat := Sol.total n fun k i => cellN w ⟨sb, k * 6 + i, none⟩
theorem totW_eq {B : Nat} {w0 w : World} {q5 q6 sb n sc : Nat} {f : Nat → Nat → Nat} {ch : Bool} (h : LeSt B w0 w q5 q6 sb n sc f ch) : totW w sb n = Sol.total n f := by
  unfold totW Sol.total Sol.card
  apply Sol.sum_same
  intro k hk
  apply Sol.sum_same
  intro i hi
  simp only [cellN, h.row k hk i hi, Int.toNat_natCast]
theorem total_put {n : Nat} {f : Nat → Nat → Nat} {i : Nat} (hi : i < n) {s : Nat → Nat} (hf : ∀ k, SetOK (f k)) (hs : SetOK s) (hne : sameS (fun o => s o ||| f i o) (f i) ≠ true) : Sol.total n f < Sol.total n (Sol.putF f i (fun o => s o ||| f i o)) := by
  have hin : ∀ k, k < n → ∀ o, o < 6 → Sol.In (f k o) (Sol.putF f i (fun o => s o ||| f i o) k o) := fun k _ o _ => by
    unfold Sol.putF
    split
    · rename_i e; rw [e]; exact Sol.in_or_right _ _
    · exact fun _ h => h
  refine Sol.total_lt hin (fun k _ o _ => ?_) ?_
  · have := putF_ok hf (plus_ok hs (hf i)) i k o
    exact Nat.lt_of_lt_of_le this (by decide)
  · apply Classical.byContradiction
    intro hno
    apply hne
    rw [sameS_iff]
    intro o ho
    apply Classical.byContradiction
    intro hoe
    refine hno ⟨i, hi, o, ho, ?_⟩
    unfold Sol.putF
    rw [if_pos rfl]
    exact fun e => hoe e.symm

theorem Tryz.infoSetD : (Tryz.prog.info? 65).map (fun i => (i.zero, i.size, i.bytes)) = some (some (.agg #[.int .u64 0, .int .u64 0, .int .u64 0, .int .u64 0, .int .u64 0, .int .u64 0]), 6, 48) := by kernel_rfl
theorem made_set (n : Nat) (w : World) (hn : n ≤ 400) : ∃ MC : Array Value, (Instr.makeSlice 59 (.int .i64 (n : Int)) (.int .i64 (n : Int))).run Tryz.prog w = .ok (.slice (some ⟨w.heap.size, 0, none⟩) n n) (w.alloc (.cells MC 65)) ∧ ∀ j, j < n * 6 → MC[j]? = some (.int .u64 0) := by
  obtain ⟨i0, hi, hz0, hz1, hz2⟩ := info_parts Tryz.infoSetD
  have hr := run_make (P := Tryz.prog) w 59 65 i0 _ Tryz.underlying59 hi hz0 .i64 .i64 n n (by omega) (Int.le_refl _) (by rw [hz2]; omega) (by omega)
  simp only [Int.toNat_natCast] at hr
  refine ⟨_, hr, fun j hj => ?_⟩
  rw [hz1]
  have hlt : j % 6 < 6 := Nat.mod_lt _ (by omega)
  simp only [madeCells, Value.cells]
  match h6 : j % 6, hlt with
  | 0, _ => simp [hj, h6]
  | 1, _ => simp [hj, h6]
  | 2, _ => simp [hj, h6]
  | 3, _ => simp [hj, h6]
  | 4, _ => simp [hj, h6]
  | 5, _ => simp [hj, h6]
/- What the inner loop holds behind its first j ways. -/
structure InSt (n : Nat) (vs : List WayV) (f0 f : Nat → Nat → Nat) (ch : Bool) (j : Nat) : Prop where
  ok : LeOK n vs f
  same : ch = false → f = f0 ∧ ∀ v ∈ vs.take j, v.dst ≠ -1 → ∀ o, o < 6 → Sol.plus (bringsV f v) (f v.dst.toNat) o = f v.dst.toNat o
  more : ch = true → Sol.total n f0 < Sol.total n f
theorem InSt.skip {n : Nat} {vs : List WayV} {f0 f : Nat → Nat → Nat} {ch : Bool} {j : Nat} (h : InSt n vs f0 f ch j) (hj : j < vs.length) (hd : vs[j].dst = -1) : InSt n vs f0 f ch (j + 1) :=
  ⟨h.ok, fun e => ⟨(h.same e).1, fun v hv hn => by
    rcases Sol.take_snoc' hj hv with hv | rfl
    · exact (h.same e).2 v hv hn
    · exact absurd hd hn⟩, h.more⟩
theorem InSt.stay {n : Nat} {vs : List WayV} {f0 f : Nat → Nat → Nat} {ch : Bool} {j : Nat} (h : InSt n vs f0 f ch j) (hj : j < vs.length) (hs : sameS (fun o => bringsV f vs[j] o ||| f vs[j].dst.toNat o) (f vs[j].dst.toNat) = true) : InSt n vs f0 f ch (j + 1) :=
  ⟨h.ok, fun e => ⟨(h.same e).1, fun v hv hn => by
    rcases Sol.take_snoc' hj hv with hv | rfl
    · exact (h.same e).2 v hv hn
    · exact sameS_iff.1 hs⟩, h.more⟩
theorem InSt.put {n : Nat} {vs : List WayV} {f0 f : Nat → Nat → Nat} {ch : Bool} {j : Nat} (h : InSt n vs f0 f ch j) (hj : j < vs.length) (hd : vs[j].dst ≠ -1) (hdn : vs[j].dst.toNat < n) (ht : SetOK vs[j].told) (hs : sameS (fun o => bringsV f vs[j] o ||| f vs[j].dst.toNat o) (f vs[j].dst.toNat) ≠ true) : InSt n vs f0 (Sol.putF f vs[j].dst.toNat (fun o => bringsV f vs[j] o ||| f vs[j].dst.toNat o)) true (j + 1) := by
  have hb := brings_ok h.ok.ok ht
  refine ⟨⟨Come.put f vs[j] h.ok.come (List.getElem_mem hj) hd, putF_ok h.ok.ok (plus_ok hb (h.ok.ok _)) _⟩, fun e => (by cases e), fun _ => ?_⟩
  have hlt := total_put (n := n) hdn h.ok.ok hb hs
  cases hc : ch with
  | true => exact Nat.lt_trans (h.more hc) hlt
  | false => rw [← (h.same hc).1]; exact hlt
theorem LeSt.flag {B : Nat} {w0 w : World} {q5 q6 sb n sc : Nat} {f : Nat → Nat → Nat} {ch : Bool} (h : LeSt B w0 w q5 q6 sb n sc f ch) (c : Bool) : LeSt B w0 (w.setCell ⟨q6, 0, none⟩ (.bool c)) q5 q6 sb n sc f c := by
  obtain ⟨h1, h2, h3⟩ := h.lo
  refine ⟨h.bel.setCell (p := ⟨q6, 0, none⟩) (by show B ≤ q6; omega) _, ?_, heap_setCell_same _ _ _ _ _ _ h.chg, fun k hk j hj => (World.cell?_setCell_far _ _ _ _ (by show q6 ≠ sb; omega)).trans (h.row k hk j hj), fun x => by rw [World.frozen?_setCell]; exact h.fre x, h.lo, by have := h.lt; simpa [World.setCell] using this⟩
  rw [Below.heap_setCell _ _ _ _ (by show q5 ≠ q6; omega)]; exact h.box
theorem LeSt.drew {B : Nat} {w0 w : World} {q5 q6 sb n sc : Nat} {f : Nat → Nat → Nat} {ch : Bool} (h : LeSt B w0 w q5 q6 sb n sc f ch) : LeSt B w0 w.drew q5 q6 sb n sc f ch := h.later ⟨rfl, rfl, rfl, Nat.le_refl _, fun _ _ => rfl⟩
def chgW (w : World) (q6 : Nat) : Nat := match w.cell? ⟨q6, 0, none⟩ with | some (.bool true) => 1 | _ => 0
theorem chgW_eq {B : Nat} {w0 w : World} {q5 q6 sb n sc : Nat} {f : Nat → Nat → Nat} {ch : Bool} (h : LeSt B w0 w q5 q6 sb n sc f ch) : chgW w q6 = if ch = true then 1 else 0 := by
  have : w.cell? ⟨q6, 0, none⟩ = some (.bool ch) := cell_blk h.chg
  unfold chgW
  rw [this]
  cases ch <;> rfl

set_option maxRecDepth 100000 in
set_option maxHeartbeats 4000000 in
theorem leastC (n : Nat) (wo : Option Addr) (wb woff wc : Nat) (vs : List WayV) (w : World) (hn : n ≤ 400) (hm : vs.length ≤ 400) (hv : WysAt w wo wb woff vs) (hr : InRange n vs) :
    Calls Tryz.prog 30 #[.int .i64 (n : Int), .slice wo vs.length wc] w fun e w' => ∃ (sb : Nat) (f : Nat → Nat → Nat), e = .returned (.slice (some ⟨sb, 0, none⟩) n n) ∧ SetsAt w' (some ⟨sb, 0, none⟩) sb 0 n f ∧ Come vs f ∧ (∀ k, SetOK (f k)) ∧ Stable vs f ∧ Below w.heap.size w w' := by
  obtain ⟨m, hmm⟩ : ∃ m, m = vs.length := ⟨_, rfl⟩
  rw [← hmm] at hm ⊢
  have HM : Hid (m = vs.length) := hmm
  have HV : Hid (WysAt w wo wb woff vs) := hv
  have HR : Hid (InRange n vs) := hr
  have hmx : Tryz.prog.follows .mixedOrders = true := by kernel_rfl
  have hmf : ∀ (fn : Fn) (first cap : Array Value) (w : World), (Instr.makeFunc fn first cap).run Tryz.prog w = .ok (.func fn first cap) w := fun _ _ _ _ => rfl
  have eg1 : ∀ args w, (callFunc 64 args).run Tryz.prog w = .ok (.enter 64 args) w := enters_of Tryz.func64 (by kernel_rfl) rfl
  have eg2 : ∀ args w, (callFunc 65 args).run Tryz.prog w = .ok (.enter 65 args) w := enters_of Tryz.func65 (by kernel_rfl) rfl
  obtain ⟨MC, hmk, hMC⟩ := made_set n w hn
  obtain ⟨wz, hwz⟩ : ∃ wz, wz = ((w.alloc (.cells MC 65)).alloc (.cells #[.slice (some ⟨w.heap.size, 0, none⟩) n n] 59)).alloc (.cells #[.bool true] 4) := ⟨_, rfl⟩
  have HWZ : Hid (wz = ((w.alloc (.cells MC 65)).alloc (.cells #[.slice (some ⟨w.heap.size, 0, none⟩) n n] 59)).alloc (.cells #[.bool true] 4)) := hwz
  have hrow : wz.heap[w.heap.size]? = some (.cells MC 65 (0, 0)) := by rw [hwz]; exact heap_past_alloc (heap_past_alloc (heap_at_alloc _ _ _ rfl))
  have HST : Hid (LeSt w.heap.size w wz (w.heap.size + 1) (w.heap.size + 1 + 1) w.heap.size n n (fun _ _ => 0) true) := by
    refine ⟨?_, ?_, ?_, fun k hk i hi => ?_, fun x => ?_, by omega, lt_of_block hrow⟩
    · rw [hwz]; exact (((Below.refl _ _).alloc (Nat.le_refl _) _).alloc (by simp) _).alloc (by simp; omega) _
    · rw [hwz]; exact heap_past_alloc (heap_at_alloc _ _ _ (by simp))
    · rw [hwz]; exact heap_at_alloc _ _ _ (by simp)
    · rw [cell_blk hrow]; exact hMC _ (by omega)
    · simp [World.frozen?, hrow]
  have HOK0 : Hid (LeOK n vs (fun _ _ => 0)) := ⟨Come.none, fun _ _ => by decide⟩
  clear hv hr hmm hMC hrow hwz
  go_enter Tryz.func30, Tryz.ntmps30
  go_wp2
  rw [← HWZ.out]
  clear HWZ hmk
  obtain ⟨sb, hsb⟩ : ∃ sb, sb = w.heap.size := ⟨_, rfl⟩
  obtain ⟨q5, hq5⟩ : ∃ q5, q5 = w.heap.size + 1 := ⟨_, rfl⟩
  obtain ⟨q6, hq6⟩ : ∃ q6, q6 = w.heap.size + 1 + 1 := ⟨_, rfl⟩
  rw [← hq6, ← hq5] at HST ⊢
  have HSB : Hid (sb = w.heap.size) := hsb
  go_loopw [15] (fun _ wr => ∃ (f : Nat → Nat → Nat) (ch : Bool), Hid (LeSt w.heap.size w wr q5 q6 w.heap.size n n f ch ∧ LeOK n vs f ∧ (ch = false → Stable vs f))) (fun _ wr => 2 * (n * 384 - totW wr w.heap.size n) + chgW wr q6)
  case atStart => exact ⟨_, true, HST.out, HOK0.out, fun e => by cases e⟩
  case round =>
    clear HST HOK0 hsb hq5 hq6
    obtain ⟨f0, ch0, HP⟩ := hrel
    have cc : wr.cell? ⟨q6, 0, none⟩ = some (.bool ch0) := cell_blk HP.out.1.chg
    have cz : wr.frozen? ⟨q6, 0, none⟩ = false := by simp [World.frozen?, HP.out.1.chg]
    cases hch : ch0 with
    | false =>
      subst hch
      have cb : wr.cell? ⟨q5, 0, none⟩ = some (.slice (some ⟨w.heap.size, 0, none⟩) n n) := cell_blk HP.out.1.box
      go_wp2
      go_ret
      exact ⟨w.heap.size, rfl, f0, HP.out.1.sets, HP.out.2.1.come, HP.out.2.1.ok, HP.out.2.2 (by trivial), HP.out.1.bel⟩
    | true =>
      subst hch
      have HM0 : Hid (2 * (n * 384 - totW wr w.heap.size n) + chgW wr q6 = 2 * (n * 384 - Sol.total n f0) + 1) := by show _ = _; rw [totW_eq HP.out.1, chgW_eq HP.out.1]; rfl
      have HF1 : Hid (LeSt w.heap.size w (wr.setCell ⟨q6, 0, none⟩ (.bool false)) q5 q6 w.heap.size n n f0 false) := HP.out.1.flag false
      have HI0 : Hid (InSt n vs f0 f0 false 0) := ⟨HP.out.2.1, fun _ => ⟨rfl, fun v hv => by simp at hv⟩, fun e => by cases e⟩
      go_wp2
      clear cc cz
      go_loopw [18] (fun i wq => ∃ (j : Nat) (f : Nat → Nat → Nat) (ch : Bool), j ≤ m ∧ i = .int .i64 j ∧ Hid (LeSt w.heap.size w wq q5 q6 w.heap.size n n f ch ∧ InSt n vs f0 f ch j)) (fun i _ => m - (intOf i).toNat)
      case atStart => exact ⟨0, f0, false, Nat.zero_le _, rfl, HF1.out, HI0.out⟩
      case round =>
        clear HF1 HI0 HP
        obtain ⟨j, f, ch, hj, rfl, HQ⟩ := hrel
        by_cases hlt : j < m
        · have hjv : j < vs.length := by have := HM.out; omega
          have hwo := HV.out.adr (by omega)
          have hway := (HV.out.later HQ.out.1.bel).at' j hjv
          have hrng := HR.out _ (List.getElem_mem hjv)
          have c2 := hway.c2
          have lw := World.block_lt_of_cell? _ _ c2
          have HWY : Hid (WyAt wr wb (woff + j * 15) vs[j]) := hway
          have HRG : Hid ((∀ i ∈ vs[j].src, i < n) ∧ (vs[j].dst = -1 ∨ ∃ d : Nat, vs[j].dst = (d : Int) ∧ d < n)) := hrng
          clear hway hrng
          by_cases hd : vs[j].dst = -1
          · have HSK : Hid (InSt n vs f0 f ch (j + 1)) := HQ.out.2.skip hjv hd
            rw [hd] at c2
            subst hwo
            go_wp2
            go_roundw
            case rel => exact ⟨j + 1, f, ch, by omega, by go_num, HQ.out.1, HSK.out⟩
            case measure => simp [intOf]; omega
          · obtain ⟨d, hdd, hdn⟩ := HRG.out.2.resolve_left hd
            have hdt : vs[j].dst.toNat = d := by rw [hdd]; simp
            have hok := HQ.out.2.ok.ok
            have htold := HWY.out.ok1
            have HBR : Hid (∀ W : World, Below wr.heap.size wr W → Calls Tryz.prog 52 #[.pointer (some ⟨wb, woff + j * 15, none⟩), .func (.func 64) #[] #[.pointer (some ⟨q5, 0, none⟩)]] W fun e w' => e = .returned (.agg (setA (bringsV f vs[j]))) ∧ Below W.heap.size W w') := by
              intro W hb
              refine bringsC 64 #[.pointer (some ⟨q5, 0, none⟩)] eg1 f wb (woff + j * 15) vs[j] W (HWY.out.later hb) hok fun W' i hi hb' => ?_
              have h1 := (HQ.out.1.later hb).later hb'
              exact getL q5 (some ⟨w.heap.size, 0, none⟩) w.heap.size 0 n n f i W' (HRG.out.1 i hi) (cell_blk h1.box) h1.sets
            have HPT : Hid (∀ W : World, Below wr.heap.size wr W → Calls Tryz.prog 65 #[.int .i64 (d : Int), .agg (setA (bringsV f vs[j])), .pointer (some ⟨q5, 0, none⟩), .pointer (some ⟨q6, 0, none⟩)] W fun e w' => e = .returned (.tuple #[]) ∧ ∃ f' ch', LeSt w.heap.size w w' q5 q6 w.heap.size n n f' ch' ∧ InSt n vs f0 f' ch' (j + 1)) := by
              intro W hb
              refine (putC w.heap.size w q5 q6 w.heap.size n n d f (bringsV f vs[j]) ch W (HQ.out.1.later hb) hdn hn (brings_ok hok htold) (hok d)).mono ?_
              rintro e w' ⟨h1, h2⟩
              refine ⟨h1, ?_⟩
              by_cases hs : sameS (fun o => bringsV f vs[j] o ||| f d o) (f d) = true
              · rw [if_pos hs] at h2
                exact ⟨f, ch, h2, HQ.out.2.stay hjv (by rw [hdt]; exact hs)⟩
              · rw [if_neg hs] at h2
                refine ⟨_, true, h2, ?_⟩
                have := HQ.out.2.put hjv hd (by rw [hdt]; exact hdn) htold (by rw [hdt]; exact hs)
                rw [hdt] at this
                exact this
            have hdne : ((d : Int) != -1) = true := by simp
            have HDD : Hid (vs[j].dst = (d : Int)) := hdd
            rw [hdd] at c2
            obtain ⟨s, hs⟩ : ∃ s, s = setA (bringsV f vs[j]) := ⟨_, rfl⟩
            rw [← hs] at HBR HPT
            clear hd hdd hdt hok htold hdn hs
            subst hwo
            go_wp2
            refine wp_region_held_drew (S := fun W' => W'.cell? ⟨wb, woff + j * 15 + 7, none⟩ = some (.int .i64 (d : Int))) hmx c2 ?_
            intro hHeld
            refine wpAnyH_take (i := 0) (v := .func (.func 65) #[] #[.pointer (some ⟨q5, 0, none⟩), .pointer (some ⟨q6, 0, none⟩)]) rfl (by kernel_rfl) (by kernel_rfl) (by kernel_rfl) (fun _ _ _ h => h) (Or.inl ⟨by rfl, fun W' hSw => by dsimp only at hSw; go_simp⟩) hHeld ?_
            simp only [Act.put]
            refine wpAnyH_take (i := 1) (v := .pointer (some ⟨wb, woff + j * 15, none⟩)) rfl (by kernel_rfl) (by kernel_rfl) (by kernel_rfl) (fun _ _ _ h => h) (Or.inl ⟨by rfl, fun W' hSw => by dsimp only at hSw; go_simp⟩) hHeld ?_
            simp only [Act.put]
            refine wpAnyH_take (i := 2) (v := .pointer (some ⟨wb, woff + j * 15, none⟩)) rfl (by kernel_rfl) (by kernel_rfl) (by kernel_rfl) (fun _ _ _ h => h) (Or.inl ⟨by rfl, fun W' hSw => by dsimp only at hSw; go_simp⟩) hHeld ?_
            simp only [Act.put]
            refine wpAnyH_take (i := 3) (v := .pointer (some ⟨wb, woff + j * 15 + 7, none⟩)) rfl (by kernel_rfl) (by kernel_rfl) (by kernel_rfl) (fun _ _ _ h => h) (Or.inl ⟨by rfl, fun W' hSw => by dsimp only at hSw; go_simp⟩) hHeld ?_
            simp only [Act.put]
            refine wpAnyH_take (i := 4) (v := .int .i64 (d : Int)) rfl (by kernel_rfl) (by kernel_rfl) (by kernel_rfl) (fun _ _ _ h => h) (Or.inl ⟨by rfl, fun W' hSw => by dsimp only at hSw; go_simp⟩) hHeld ?_
            simp only [Act.put]
            refine wpAnyH_take (i := 5) (v := .pointer (some ⟨wb, woff + j * 15, none⟩)) rfl (by kernel_rfl) (by kernel_rfl) (by kernel_rfl) (fun _ _ _ h => h) (Or.inl ⟨by rfl, fun W' hSw => by dsimp only at hSw; go_simp⟩) hHeld ?_
            simp only [Act.put]
            refine wpAnyH_take (i := 6) (v := .func (.func 64) #[] #[.pointer (some ⟨q5, 0, none⟩)]) rfl (by kernel_rfl) (by kernel_rfl) (by kernel_rfl) (fun _ _ _ h => h) (Or.inl ⟨by rfl, fun W' hSw => by dsimp only at hSw; go_simp⟩) hHeld ?_
            simp only [Act.put]
            refine wpAnyH_ready (rs := [7]) (by kernel_rfl) (by simp) ?_
            refine AllReadyH.cons rfl (fun K hK => ?_) AllReadyH.nil
            go_simp
            refine (HBR.out wr.drew ⟨rfl, rfl, rfl, Nat.le_refl _, fun _ _ => rfl⟩).mono ?_
            rintro e w4 ⟨rfl, hb4⟩
            have HB4 : Hid (Below wr.heap.size wr w4) := ⟨hb4.os, hb4.tape, hb4.output, hb4.size, hb4.block⟩
            have c4 := cell_below HB4.out c2
            clear hb4
            refine hK.out _ _ c4 ?_
            clear hK K hHeld
            intro hHeld
            refine wpAnyH_ready (rs := [8]) (by kernel_rfl) (by simp) ?_
            refine AllReadyH.cons rfl (fun K hK => ?_) AllReadyH.nil
            go_simp
            refine (HPT.out w4 HB4.out).mono ?_
            rintro e w5 ⟨rfl, f', ch', h5, h6⟩
            have c5 : w5.cell? ⟨wb, woff + j * 15 + 7, none⟩ = some (.int .i64 (d : Int)) := by rw [← HDD.out]; exact ((HV.out.later h5.bel).at' j hjv).c2
            have HN : Hid (LeSt w.heap.size w w5 q5 q6 w.heap.size n n f' ch' ∧ InSt n vs f0 f' ch' (j + 1)) := ⟨h5, h6⟩
            clear h5 h6
            refine hK.out _ _ c5 ?_
            clear hK K hHeld
            intro hHeld
            refine wpAnyH_done (by kernel_rfl) ?_ _
            try simp only [Act.put]
            go_wp2_with fail
            go_roundw
            case rel => exact ⟨j + 1, f', ch', by omega, by go_num, HN.out.1, HN.out.2⟩
            case measure => simp [intOf]; omega
        · have hjm : j = m := by omega
          subst hjm
          have HEND : Hid (LeSt w.heap.size w wr q5 q6 w.heap.size n n f ch ∧ LeOK n vs f ∧ (ch = false → Stable vs f)) := by
            refine ⟨HQ.out.1, HQ.out.2.ok, fun e v hv => (HQ.out.2.same e).2 v ?_⟩
            rw [List.take_of_length_le (by have := HM.out; omega)]; exact hv
          have HMS : Hid (2 * (n * 384 - totW wr w.heap.size n) + chgW wr q6 < 2 * (n * 384 - Sol.total n f0) + 1) := by
            show _ < _
            rw [totW_eq HQ.out.1, chgW_eq HQ.out.1]
            have hT := Sol.total_le n f
            cases hch : ch with
            | true =>
              have := HQ.out.2.more hch
              simp only [if_true]
              omega
            | false =>
              rw [(HQ.out.2.same hch).1]
              simp
          go_wp2
          exact ⟨⟨f, ch, HEND.out⟩, by rw [HM0.out]; exact HMS.out⟩
end Go.Proofs.YtnligpcfkmdjeaaGreatDoor
