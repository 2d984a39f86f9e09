/- Contract of solve's iterator over a set's policies. -/
import Derived.RangeFuncNested
import Derived.RangeFuncBound
import Derived.RangeFuncCalls
import Derived.RangeFuncLeaves
import Derived.Shelf.Abstract
import Derived.Shelf.RegionOpen
import Derived.WalkKit
import Derived.OwnWalkIn
import Derived.TacticsInMore
import Derived.LoopNIn
import Derived.LoopIn
import Derived.Test.YtpbknhhjfhpkmaaGreatDoorSolA
import Derived.Test.YtpbknhhjfhpkmaaGreatDoorSolN
import Derived.Test.YtpbknhhjfhpkmaaGreatDoorGaShelf
namespace Go.Proofs.YtpbknhhjfhpkmaaGreatDoor
open Go.RowKit Go.Shelf

attribute [local go_sem] Oper.semAt_some

/- The policies of one owner that are left. -/
def restAt (x o : Nat) (h : o < 6) : List PB := (bitsOf x).attach.map fun r => ⟨(o, r.1), h, (bitsOf_mem.1 r.2).1⟩
theorem restAt_val (x o : Nat) (h : o < 6) : (restAt x o h).map Subtype.val = (bitsOf x).map fun r => (o, r) := by
  unfold restAt
  rw [List.map_map]
  conv => rhs; rw [← List.attach_map_subtype_val (bitsOf x), List.map_map]
  rfl
theorem val_inj : ∀ {l m : List PB}, l.map Subtype.val = m.map Subtype.val → l = m
  | [], [], _ => rfl
  | [], _ :: _, h => by cases h
  | _ :: _, [], h => by cases h
  | a :: r, b :: t, h => by
    rw [List.map_cons, List.map_cons, List.cons.injEq] at h
    rw [Subtype.ext h.1, val_inj h.2]
theorem restAt_zero (o : Nat) (h : o < 6) : restAt 0 o h = [] := val_inj (by rw [restAt_val, bitsOf_zero]; rfl)
theorem ctz_lt {x : Nat} (h0 : x ≠ 0) (hx : x < 18446744073709551616) : Lib.ctz 64 x < 64 := by
  obtain ⟨_, _, h⟩ := low_form h0 (show x < 2 ^ 64 by simpa using hx)
  exact h
theorem restAt_step {x o : Nat} (h : o < 6) (h0 : x ≠ 0) (hx : x < 18446744073709551616) : restAt x o h = ⟨(o, Lib.ctz 64 x), h, ctz_lt h0 hx⟩ :: restAt (x &&& (x - 1)) o h := val_inj (by
  rw [restAt_val, List.map_cons, restAt_val, bitsOf_step h0 (by simpa using hx)]; rfl)
theorem polsF_step (s : Nat → Nat) {k : Nat} (hk : k < 6) : polsF s (k + 1) = polsF s k ++ restAt (s k) k hk := by
  rw [polsF, dif_pos hk]; rfl
theorem polsF_pre (s : Nat → Nat) (k : Nat) : ∀ d, polsF s k <+: polsF s (k + d)
  | 0 => List.prefix_refl _
  | d + 1 => (polsF_pre s k d).trans ⟨_, rfl⟩
theorem polsF_le (s : Nat → Nat) {k m : Nat} (h : k ≤ m) : polsF s k <+: polsF s m := by
  have := polsF_pre s k (m - k)
  rwa [show k + (m - k) = m by omega] at this

set_option maxHeartbeats 1000000 in
theorem policiesIn (n : Nat) (s : Nat → Nat) (w : World) : CallsIn Fence.wide n Tryz.prog 57 #[.agg (setA s)] w fun e w' => e = .returned (.func (.func 97) #[] #[.pointer (some ⟨w.heap.size, 0, none⟩)]) ∧ w' = w.alloc (.cells (setA s) 54) := by
  refine callsIn_of_wp Tryz.func57 rfl trivial ?_ rfl
  simp only [Tryz.ntmps57, List.size_toArray, List.length_cons, List.length_nil, Nat.reduceAdd, Nat.reduceSub, Array.replicate_succ, Array.replicate_zero, List.push_toArray, List.append_toArray, List.nil_append, List.cons_append]
  gi_wp2
  go_ret
  exact ⟨rfl, rfl⟩

theorem ixSet (s : Nat → Nat) {k : Nat} (hk : k < 6) (w : World) : (Instr.index 54 (.agg (setA s)) (.int .i64 k)).run Tryz.prog w = .ok (.int .u64 (s k)) w := by
  have hv := setA_at s hk
  simp [Instr.index, asIntOf, run_underlying Tryz.underlying54, part, go_sem, hv]
  omega

set_option maxRecDepth 100000 in
set_option maxHeartbeats 2000000 in
theorem pol1_in (n l Bs n₀ : Nat) (s : Nat → Nat) (hn : 1 ≤ n) (hs : SetOK s) (hg : 0 < n₀) (Pr : PB → Prop) (hPr : ∀ p ∈ polsF s 6, Pr p) (J Jx : List PB → World → Prop)
    (hY : ∀ pre (x : PB) W, Pr x → J pre W → pre.length < (polsF s 6).length → YieldAt Fence.wide (n - 1) Tryz.prog l #[.agg #[.int .i64 (x.1.1 : Int), .int .u8 (x.1.2 : Int)]] W fun e W' =>
      (e = .returned (.bool true) ∧ J (pre ++ [x]) W' ∧ Below n₀ W W') ∨ (e = .returned (.bool false) ∧ Jx (pre ++ [x]) W'))
    (W : World) (hB : SetAt W Bs s) (hT : TzTab W) (h0 : J [] W) :
    CallsIn Fence.wide n Tryz.prog 97 #[.func (.yield l) #[] #[], .pointer (some ⟨Bs, 0, none⟩)] W fun e W' => (∃ v, e = .returned v) ∧
      ((∃ ys, ys = polsF s 6 ∧ J ys W') ∨ (∃ pre, pre <+: polsF s 6 ∧ Jx pre W')) := by
  have c0 := hB.cell (i := 0) (by omega)
  have c1 := hB.cell (i := 1) (by omega)
  have c2 := hB.cell (i := 2) (by omega)
  have c3 := hB.cell (i := 3) (by omega)
  have c4 := hB.cell (i := 4) (by omega)
  have c5 := hB.cell (i := 5) (by omega)
  have HIX : Hid (∀ k : Nat, k < 6 → ∀ w, (Instr.index 54 (.agg (setA s)) (.int .i64 k)).run Tryz.prog w = .ok (.int .u64 (s k)) w) := fun k hk w => ixSet s hk w
  have HA : Hid (setA s = #[.int .u64 (s 0), .int .u64 (s 1), .int .u64 (s 2), .int .u64 (s 3), .int .u64 (s 4), .int .u64 (s 5)]) := rfl
  have HS : Hid (SetOK s) := hs
  have HT : Hid (TzTab W) := hT
  have HPR : Hid (∀ p ∈ polsF s 6, Pr p) := hPr
  have HY : Hid (∀ pre (x : PB) W, Pr x → J pre W → pre.length < (polsF s 6).length → YieldAt Fence.wide (n - 1) Tryz.prog l #[.agg #[.int .i64 (x.1.1 : Int), .int .u8 (x.1.2 : Int)]] W fun e W' =>
      (e = .returned (.bool true) ∧ J (pre ++ [x]) W' ∧ Below n₀ W W') ∨ (e = .returned (.bool false) ∧ Jx (pre ++ [x]) W')) := hY
  have HG : Hid (0 < n₀) := hg
  have HB0 : Hid (Below n₀ W W) := Below.refl _ _
  clear hB hs hT hY hg hPr
  refine callsIn_of_wp Tryz.func97 rfl trivial ?_ rfl
  simp only [Tryz.ntmps97, List.size_toArray, List.length_cons, List.length_nil, Nat.reduceAdd, Nat.reduceSub, Array.replicate_succ, Array.replicate_zero, List.push_toArray, List.append_toArray, List.nil_append, List.cons_append]
  gi_wp2
  rw [← HA.out]
  obtain ⟨AA, hAA⟩ : ∃ AA, AA = setA s := ⟨_, rfl⟩
  rw [← hAA] at HIX ⊢
  clear hAA HA c0 c1 c2 c3 c4 c5
  gi_loopw [6] (fun i wr => ∃ k : Nat, k ≤ 6 ∧ i = .int .i64 k ∧ J (polsF s k) wr ∧ Hid (Below n₀ W wr)) (fun i _ => 6 - (intOf i).toNat)
  case atStart => exact ⟨0, Nat.zero_le _, rfl, h0, HB0⟩
  case round =>
    clear h0 HB0
    obtain ⟨k, hk, rfl, hJ, HBr⟩ := hrel
    by_cases hlt : k < 6
    · have hix := HIX.out k hlt
      have i1 : (k : Int) < 6 := by omega
      have hsk := HS.out k
      have HPS : Hid (polsF s k ++ restAt (s k) k hlt = polsF s (k + 1)) := (polsF_step s hlt).symm
      obtain ⟨sk, hsk'⟩ : ∃ sk, sk = s k := ⟨_, rfl⟩
      rw [← hsk'] at hix hsk HPS
      clear hsk'
      gi_wp2
      clear hix
      gi_loopw [4] (fun v wq => ∃ (x : Nat) (pre : List PB), v = .int .u64 (x : Int) ∧ x < 18446744073709551616 ∧ Hid (pre ++ restAt x k hlt = polsF s (k + 1)) ∧ J pre wq ∧ Hid (Below n₀ W wq)) (fun v _ => (intOf v).toNat)
      case atStart => exact ⟨sk, _, rfl, hsk, HPS, hJ, HBr⟩
      case round =>
        clear hJ HBr HPS hsk
        obtain ⟨x, pre, rfl, hx, HP, hJ, HBq⟩ := hrel
        by_cases hx0 : x = 0
        · subst hx0
          have HP' : Hid (pre = polsF s (k + 1)) := by
            have := HP.out
            rw [restAt_zero, List.append_nil] at this
            exact this
          gi_wp2
          exact ⟨⟨k + 1, by omega, by go_num, by rw [← HP'.out]; exact hJ, HBq⟩, by simp [intOf]; omega⟩
        · have hc := ctz_lt hx0 hx
          obtain ⟨p, hp⟩ : ∃ p : PB, p = ⟨(k, Lib.ctz 64 x), hlt, ctz_lt hx0 hx⟩ := ⟨_, rfl⟩
          have hp1 : p.1.1 = k := by rw [hp]
          have hp2 : p.1.2 = Lib.ctz 64 x := by rw [hp]
          have HP1 : Hid (pre ++ p :: restAt (x &&& (x - 1)) k hlt = polsF s (k + 1)) := by
            have := HP.out
            rw [restAt_step hlt hx0 hx, ← hp] at this
            exact this
          have hlen : pre.length < (polsF s 6).length := by
            have h1 := (polsF_le s (k := k + 1) (m := 6) (by omega)).length_le
            rw [← HP1.out, List.length_append, List.length_cons] at h1
            omega
          have htr := trailC x hx wr (HT.out.below HG.out HBq.out)
          have hlow := low64 hx0 hx
          have hles := low_less hx0
          have hpp : Pr p := HPR.out p ((polsF_le s (k := k + 1) (m := 6) (by omega)).subset (by rw [← HP1.out]; simp))
          obtain ⟨fn, tmps, assign, body, hy, hR⟩ := HY.out pre p wr hpp hJ hlen
          rw [hp1] at hy
          rw [← hp2] at hc htr
          obtain ⟨c, hcc⟩ : ∃ c, c = p.1.2 := ⟨_, rfl⟩
          rw [← hcc] at hc htr hy
          clear hcc hp hp1 hp2 hlen HP
          obtain ⟨y, hyy⟩ : ∃ y, y = x &&& (x - 1) := ⟨_, rfl⟩
          rw [← hyy] at HP1 hlow hles
          clear hyy
          have w8 : IntKind.u8.wrap (c : Int) = (c : Int) := wraps_u8 _ (by omega) (by omega)
          have hlow' : bits BinOp.and IntKind.u64 (x : Int) ((x : Int) - 1) = (y : Int) := by
            rw [← hlow]
            congr 1
            rw [IntKind.wrap_u64]; omega
          clear hlow
          have n1 : ((x : Int) != 0) = true := by simp; omega
          gi_wp2
          refine ⟨trivial, (callsIn_wide.2 htr).mono ?_⟩
          rintro e w1 ⟨rfl, hw⟩
          have hw' := hw.symm
          subst hw'
          gi_wp2
          refine hR.mono ?_
          rintro e W3 (⟨rfl, hJ3, hk3⟩ | ⟨rfl, hJx3⟩)
          · gi_wp2
            exact ⟨⟨y, pre ++ [p], rfl, by omega, by show _ = _; rw [List.append_assoc]; exact HP1.out, hJ3, HBq.out.trans hk3⟩, by simp [intOf]; omega⟩
          · gi_wp2
            refine bodyPost_ret (results_none rfl _ _ _) rfl ?_
            refine ⟨⟨_, rfl⟩, .inr ⟨pre ++ [p], ?_, hJx3⟩⟩
            refine List.IsPrefix.trans ?_ (polsF_le s (k := k + 1) (m := 6) (by omega))
            rw [← HP1.out]
            exact ⟨restAt y k hlt, by simp⟩
    · have h6 : k = 6 := by omega
      subst h6
      gi_wp2
      go_end0
      exact ⟨⟨_, rfl⟩, .inl ⟨_, rfl, hJ⟩⟩

/- What policies hands back: all of a set's policies in their order, or a part of them. -/
theorem pol_stops (n Bs n₀ : Nat) (s : Nat → Nat) (hn : 1 ≤ n) (hs : SetOK s) (hg : 0 < n₀) (w : World) (hB : SetAt w Bs s) (hT : TzTab w) :
    SeqStopsK Fence.wide n Tryz.prog 97 #[.pointer (some ⟨Bs, 0, none⟩)] (fun x : PB => #[Value.agg #[.int .i64 (x.1.1 : Int), .int .u8 (x.1.2 : Int)]]) (Below n₀) (fun ys => ys = polsF s 6) (fun pre => pre <+: polsF s 6) (polsF s 6).length w := fun l J Jx W hW _ _ hY h0 =>
  pol1_in n l Bs n₀ s hn hs hg (fun _ => True) (fun _ _ => trivial) J Jx (fun pre x W _ => hY pre x W) W (hB.later hW) (hT.later hW) h0
/- The same, where something is known of each policy of the set. -/
theorem pol_stopsP (n Bs n₀ : Nat) (s : Nat → Nat) (hn : 1 ≤ n) (hs : SetOK s) (hg : 0 < n₀) (Pr : PB → Prop) (hPr : ∀ p ∈ polsF s 6, Pr p) (w : World) (hB : SetAt w Bs s) (hT : TzTab w) :
    SeqStopsK Fence.wide n Tryz.prog 97 #[.pointer (some ⟨Bs, 0, none⟩)] (fun x : { p : PB // Pr p } => #[Value.agg #[.int .i64 (x.1.1.1 : Int), .int .u8 (x.1.1.2 : Int)]]) (Below n₀) (fun ys => ys.map (·.1) = polsF s 6) (fun pre => pre.map (·.1) <+: polsF s 6) (polsF s 6).length w := fun l J Jx W hW _ _ hY h0 => by
  refine (pol1_in n l Bs n₀ s hn hs hg Pr hPr (fun pre W => ∃ pre' : List { p : PB // Pr p }, pre'.map (·.1) = pre ∧ J pre' W) (fun pre W => ∃ pre' : List { p : PB // Pr p }, pre'.map (·.1) = pre ∧ Jx pre' W) ?_ W (hB.later hW) (hT.later hW) ⟨[], rfl, h0⟩).mono ?_
  · rintro pre x W1 hx ⟨pre', rfl, hJ⟩ hlen
    refine (hY pre' ⟨x, hx⟩ W1 hJ (by simpa using hlen)).mono ?_
    rintro e W' (⟨h1, h2, h3⟩ | ⟨h1, h2⟩)
    · exact .inl ⟨h1, ⟨pre' ++ [⟨x, hx⟩], by simp, h2⟩, h3⟩
    · exact .inr ⟨h1, pre' ++ [⟨x, hx⟩], by simp, h2⟩
  · rintro e W' ⟨h1, ⟨ys, rfl, ys', h2, h3⟩ | ⟨pre, h2, pre', rfl, h3⟩⟩
    · exact ⟨h1, .inl ⟨ys', h2, h3⟩⟩
    · exact ⟨h1, .inr ⟨pre', h2, h3⟩⟩
end Go.Proofs.YtpbknhhjfhpkmaaGreatDoor
