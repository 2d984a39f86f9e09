/- Contract of chief.For. -/
import Derived.Test.YtpbknhhjfhpkmaaGreatDoorActsC
import Derived.Test.YtpbknhhjfhpkmaaGreatDoorShelf
import Derived.OwnWalk
namespace Go.Proofs.YtpbknhhjfhpkmaaGreatDoor
open Go.RowKit

theorem Tryz.infoStr : (Tryz.prog.info? 9).map (fun i => (i.zero, i.size, i.bytes)) = some (some (.string ⟨#[]⟩), 1, 16) := by kernel_rfl
theorem Tryz.infoTab : (Tryz.prog.info? 154).map (·.size) = some 36 := by kernel_rfl
theorem cloneC (s : ByteArray) (w : World) (hs : s.size ≤ 100000) :
    Calls Tryz.prog 86 #[.string s] w fun e w' => e = .returned (.string s) ∧ Below w.heap.size w w' := by
  go_enter Tryz.func86, Tryz.ntmps86
  go_wp2_with (go_at_call 133; refine (Tryz.stringslite_Clone _ _ (by omega)).mono ?_; rintro e w' ⟨rfl, hb⟩)
  go_ret
  exact ⟨rfl, hb⟩
theorem slice_of {w : World} {base e size n : Nat} {v : Value} {xs : List Value} (h : w.ownsRow base e size v n xs) : ∃ ao cap, v = .slice ao n cap := by
  rcases h.2 with ⟨rfl, rfl⟩ | ⟨g, cap, cur, rfl, _⟩
  · exact ⟨none, 0, rfl⟩
  · exact ⟨_, cap, rfl⟩
theorem ownsRow_le' {w : World} {B base e size n : Nat} {v : Value} {xs : List Value} (h : w.ownsRow base e size v n xs) (hB : B ≤ base) : w.ownsRow B e size v n xs := by
  obtain ⟨h1, h2⟩ := h
  rcases h2 with h2 | ⟨g, cap, cur, hv, hg, r⟩
  · exact ⟨h1, .inl h2⟩
  · exact ⟨h1, .inr ⟨g, cap, cur, hv, by omega, r⟩⟩
theorem own_below {w w' : World} {base e size n : Nat} {v : Value} {xs : List Value} (h : w.ownsRow base e size v n xs) (hb : Below w.heap.size w w') : w'.ownsRow base e size v n xs :=
  h.kept (row := none) ⟨hb.os, hb.tape, hb.output, hb.size, fun k hk _ => hb.block k hk⟩ (by by_cases hv : v.ownBlock = none; exact .inl hv; exact .inr hv)

def strC (l : List ByteArray) : List Value := l.map Value.string
/- What For's loop holds. -/
structure ForSt (w wr : World) (v : Value) (T : Nat → Nat → Bool) (l : List ByteArray) (B : Nat) : Prop where
  bel : Below w.heap.size w wr
  tab : TabAt wr B T
  low : w.heap.size ≤ B
  own : wr.ownsRow (B + 1) 9 1 v l.length (strC l)
  big : B + 1 ≤ wr.heap.size
theorem ForSt.step {w wr w1 w2 : World} {v v' : Value} {T : Nat → Nat → Bool} {l : List ByteArray} {B : Nat} {s : ByteArray} {o : Obj} (h : ForSt w wr v T l B) (hb : Below wr.heap.size wr w1) (hown : w2.ownsRow (B + 1) 9 1 v' (l.length + 1) (strC l ++ [.string s])) (hgr : (w1.alloc o).grownBy w2 v.ownBlock) : ForSt w w2 v' T (l ++ [s]) B := by
  have hz : (w1.alloc o).heap.size = w1.heap.size + 1 := by simp
  have h1 := hb.size
  have h2 := hgr.size
  have h3 := h.big
  have hlow : ∀ b x, b < B + 1 → w1.heap[b]? = some x → w2.heap[b]? = some x := fun b x hlt hx => by
    rw [hgr.block b (by omega) ?_]
    · exact heap_past_alloc hx
    · intro he
      have := (h.own.lt _ he.symm).1
      omega
  refine ⟨?_, hlow _ _ (by omega) ((hb.block _ (by omega)).trans h.tab), h.low, ?_, by omega⟩
  · exact ((h.bel.trans (hb.mono (by have := h.bel.size; omega))).alloc (by have := h.bel.size; omega) _).grown hgr (by have := h.low; omega) (fun k he => by have := (h.own.lt _ he).1; have := h.low; omega)
  · simpa [strC] using hown

theorem one_new (w : World) (a : Value) (e : TypeId) : ∀ j u, [a][j]? = some u → (w.alloc (.cells #[a] e)).cell? ((⟨w.heap.size, 0, none⟩ : Addr).add j) = some u := by
  intro j u hj
  have e0 : (w.alloc (.cells #[a] e)).cell? ⟨w.heap.size, j, none⟩ = (#[a] : Array Value)[j]? := World.cell?_alloc_at _ _ _ _ (by simp)
  have e1 : (⟨w.heap.size, 0, none⟩ : Addr).add j = ⟨w.heap.size, j, none⟩ := by simp [Addr.add]; intro h; exact h.symm
  rw [e1, e0]; simpa using hj
theorem name_short {s : ByteArray} (h : Lex.nameF s.data.toList = true) : s.size ≤ 12 := by
  rw [← Lex.len_of]
  by_cases hl : s.data.toList.length ≤ 12
  · exact hl
  · rw [Lex.nameF_long hl] at h; cases h
theorem filt_step {ls : List ByteArray} {ps : List (ByteArray × ByteArray)} (hr : Act.Right ls ps) {k : Nat} (hk : k < ls.length) (y : ByteArray) : (ls.take (k + 1)).filter (fun a => Act.acts ls ps a y) = (ls.take k).filter (fun a => Act.acts ls ps a y) ++ (if Act.whole ls ps k (Act.pos ls y) = true then [ls[k]] else []) := by
  rw [List.take_succ_eq_append_getElem hk, List.filter_append]
  congr 1
  have e : Act.acts ls ps ls[k] y = Act.whole ls ps k (Act.pos ls y) := by unfold Act.acts; rw [Act.pos_at hr.nd hk]
  cases hv : Act.whole ls ps k (Act.pos ls y) <;> simp [e, hv]

def forE (ls : List ByteArray) (ps : List (ByteArray × ByteArray)) (y : ByteArray) : Int := if checkF ls ps = 0 then (if Act.has ls y = true then 0 else 5) else checkF ls ps
def forV (ls : List ByteArray) (ps : List (ByteArray × ByteArray)) (y : ByteArray) : List ByteArray := if forE ls ps y = 0 then Act.forF ls ps y else []

set_option maxHeartbeats 1000000 in
theorem for_any (ao po : Option Addr) (b off b' off' n m c d : Nat) (ls : List ByteArray) (ps : List (ByteArray × ByteArray)) (y : ByteArray) (w : World) (hc : Chiefs w ao po b off b' off' n m c ls ps) :
    Calls Tryz.prog 46 #[.slice ao n c, .slice po m d, .string y] w fun e w' => ∃ v, e = .returned (.tuple #[v, .int .i64 (forE ls ps y)]) ∧ w'.ownsRow w.heap.size 9 1 v (forV ls ps y).length (strC (forV ls ps y)) ∧ Below w.heap.size w w' := by
  have HC : Hid (Chiefs w ao po b off b' off' n m c ls ps) := hc
  clear hc
  by_cases h0 : checkF ls ps = 0
  · obtain ⟨g1, g2, g3, g4⟩ := right_of h0
    have HZ : Hid (checkF ls ps = 0) := h0
    clear h0
    by_cases hy : y ∈ ls
    · have HE : Hid (forE ls ps y = 0) := by show _ = _; simp [forE, HZ.out, Act.has_iff.2 hy]
      have HV : Hid (forV ls ps y = Act.forF ls ps y) := by show _ = _; simp [forV, HE.out]
      have b2 := Act.pos_lt hy
      obtain ⟨q, hq⟩ : ∃ q, q = Act.pos ls y := ⟨_, rfl⟩
      have P2 : Hid (Act.posI ls y = (q : Int)) := by show _ = _; rw [Act.posI_mem hy, hq]
      have HQ : Hid (q = Act.pos ls y) := hq
      have HR : Hid (Act.Right ls ps) := g3
      have HNM : Hid (∀ s ∈ ls, Lex.nameF s.data.toList = true) := g4
      rw [← hq] at b2
      have q6 : q < 6 := by omega
      have hn6 : n ≤ 6 := by have := HC.out.ln; omega
      rw [HE.out, HV.out]
      clear g1 g2 g3 g4 hq hy b2 HV HE
      go_enter Tryz.func46, Tryz.ntmps46
      go_wp2_with fail
      refine (check_of HC).mono ?_
      rintro e w1 ⟨rfl, hb1⟩
      rw [HZ.out]
      have HC1 : Hid (Chiefs w1 ao po b off b' off' n m c ls ps) := HC.out.later hb1
      go_wp2_with fail
      refine (index_of HC1 y).mono ?_
      rintro e w2 ⟨rfl, hw⟩
      have hw' := hw.symm
      subst hw'
      rw [P2.out]
      go_wp2_with fail
      refine (whole_of HC1 HZ).mono ?_
      rintro e w2 ⟨rfl, hb2⟩
      have i2 : (q : Int) < 6 := by omega
      obtain ⟨TT, hTT⟩ : ∃ TT, TT = tabC (Act.whole ls ps) := ⟨_, rfl⟩
      rw [← hTT]
      have e1 := run_storeCells_new (P := Tryz.prog) w2 154 (tabC fun _ _ => false) TT (by rw [Tryz.infoTab, hTT, tabC_size]) (by rw [hTT, tabC_size, tabC_size]) (by rw [hTT]; exact tabC_one _)
      rw [tabC_none] at e1
      have hsz : TT.size = 36 := by rw [hTT, tabC_size]
      have HTT : Hid (TT = tabC (Act.whole ls ps)) := hTT
      clear hTT
      have HS : Hid (ForSt w (w2.alloc (.cells TT 154)) (.slice none 0 0) (Act.whole ls ps) [] w2.heap.size) := by
        have h1 := hb1.size
        have h2 := hb2.size
        have hbb := hb1.trans (hb2.mono h1)
        exact ⟨hbb.alloc (by omega) _, by rw [HTT.out]; exact heap_at_alloc _ _ _ rfl, by omega, World.ownsRow_nil _ _ _ _, by simp⟩
      obtain ⟨B, hB⟩ : ∃ B, B = w2.heap.size := ⟨_, rfl⟩
      go_wp2_with fail
      rw [← hB] at HS ⊢
      obtain ⟨wz, hwz⟩ : ∃ wz, wz = w2.alloc (.cells TT 154) := ⟨_, rfl⟩
      rw [← hwz] at HS ⊢
      clear e1 hwz hB hb1 hb2 HC1 HTT hsz
      go_loopw [11, 30] (fun v i wr => ∃ k : Nat, k ≤ n ∧ i = .int .i64 k ∧ Hid (ForSt w wr v (Act.whole ls ps) ((ls.take k).filter fun a => Act.acts ls ps a y) B)) (fun _ i _ => n - (intOf i).toNat)
      case atStart => exact ⟨0, Nat.zero_le _, rfl, HS⟩
      case round =>
        clear HS
        obtain ⟨k, hk, rfl, HS⟩ := hrel
        by_cases hlt : k < n
        · have hl0 := HC.out.ln
          have hkl : k < ls.length := by omega
          have hao := HC.out.strs.adr (by omega)
          have f0 := (HC.out.strs.later HS.out.bel).cell k hkl
          have f1 := HS.out.tab.cell (x := k) (y := q) (by omega) q6
          have l0 := lt_of_block HS.out.tab
          have hst := filt_step HR.out hkl y
          rw [← HQ.out] at hst
          have hx12 := name_short (HNM.out _ (List.getElem_mem hkl))
          obtain ⟨x, hx⟩ : ∃ x, x = ls[k] := ⟨_, rfl⟩
          rw [← hx] at f0 hst hx12
          have i1 : (k : Int) < 6 := by omega
          obtain ⟨l, hl⟩ : ∃ l, l = (ls.take k).filter fun a => Act.acts ls ps a y := ⟨_, rfl⟩
          rw [← hl] at HS hst
          have hll : l.length ≤ 6 := by
            rw [hl]
            have h1 := List.length_filter_le (fun a => Act.acts ls ps a y) (ls.take k)
            have h2 := List.length_take (i := k) (l := ls)
            omega
          obtain ⟨ao', cap', hv⟩ := slice_of HS.out.own
          subst hv
          clear hl hx hl0
          cases hvv : Act.whole ls ps k q
          · rw [hvv] at f1 hst
            simp only [Bool.false_eq_true, if_false, List.append_nil] at hst
            have HST : Hid ((ls.take (k + 1)).filter (fun a => Act.acts ls ps a y) = l) := hst
            clear hst hvv
            subst hao
            go_wp2
            go_roundw
            case rel => exact ⟨k + 1, by omega, by go_num, by rw [HST.out]; exact HS⟩
            case measure => simp [intOf]; omega
          · rw [hvv] at f1 hst
            simp only [if_true] at hst
            have HST : Hid ((ls.take (k + 1)).filter (fun a => Act.acts ls ps a y) = l ++ [x]) := hst
            clear hst hvv
            subst hao
            obtain ⟨i0, hi, hz0, hz1, hz2⟩ := info_parts Tryz.infoStr
            go_wp2_with fail
            refine (cloneC x _ (by omega)).mono ?_
            rintro e w3 ⟨rfl, hb3⟩
            have HO : Hid (w3.ownsRow (B + 1) 9 1 (.slice ao' l.length cap') l.length (strC l)) := own_below HS.out.own hb3
            have hbig : B + 1 ≤ w3.heap.size := Nat.le_trans HS.out.big hb3.size
            have HB3 : Hid (Below wr.heap.size wr w3) := hb3
            clear hb3
            go_wp2_with (at_builtin; refine wpList_append_own _ rfl _ _ 22 rfl (B + 1) 9 i0 (.string ⟨#[]⟩) 1 16 Tryz.underlying22 hi hz0 hz1 hz2 rfl (by decide) _ _ _ rfl (World.ownsRow.alloc HO.out _) ⟨w3.heap.size, 0, none⟩ 1 1 [.string x] rfl rfl ?c1 ?c2 ?c3 ?c4 ?c5 ?_)
            case c1 => exact one_new _ _ _
            case c2 => intro u hu; simp at hu; subst hu; rfl
            case c3 => unfold maxLen; omega
            case c4 => omega
            case c5 => simp; omega
            · intro v' w4 hown2 hgrow2 _
              have HN : Hid (ForSt w w4 v' (Act.whole ls ps) (l ++ [x]) B) := HS.out.step HB3.out hown2 hgrow2
              clear hown2 hgrow2
              go_wp2
              go_roundw
              case rel => exact ⟨k + 1, by omega, by go_num, by rw [HST.out]; exact HN⟩
              case measure => simp [intOf]; omega
        · have HF : Hid ((ls.take k).filter (fun a => Act.acts ls ps a y) = Act.forF ls ps y) := by
            show _ = _
            rw [List.take_of_length_le (by have := HC.out.ln; omega)]; rfl
          go_wp2
          go_ret2
          refine ⟨_, rfl, ?_, HS.out.bel⟩
          rw [← HF.out]
          exact ownsRow_le' HS.out.own (by have := HS.out.low; omega)
    · have HE : Hid (forE ls ps y = 5) := by show _ = _; simp [forE, HZ.out, Act.has_not.2 hy]
      have HV : Hid (forV ls ps y = []) := by show _ = _; simp [forV, HE.out]
      have P2 : Hid (Act.posI ls y = -1) := Act.posI_not hy
      rw [HE.out, HV.out]
      clear g1 g2 g3 g4 hy HV HE
      go_enter Tryz.func46, Tryz.ntmps46
      go_wp2_with fail
      refine (check_of HC).mono ?_
      rintro e w1 ⟨rfl, hb1⟩
      rw [HZ.out]
      have HC1 : Hid (Chiefs w1 ao po b off b' off' n m c ls ps) := HC.out.later hb1
      go_wp2_with fail
      refine (index_of HC1 y).mono ?_
      rintro e w2 ⟨rfl, hw⟩
      have hw' := hw.symm
      subst hw'
      rw [P2.out]
      go_wp2
      go_ret2
      exact ⟨_, rfl, World.ownsRow_nil _ _ _ _, hb1⟩
  · have HE : Hid (forE ls ps y = checkF ls ps) := by show _ = _; simp [forE, h0]
    have HV : Hid (forV ls ps y = []) := by show _ = _; simp [forV, HE.out, h0]
    obtain ⟨e0, he0⟩ : ∃ e0, e0 = checkF ls ps := ⟨_, rfl⟩
    have HZ : Hid (checkF ls ps = e0) := he0.symm
    have hb : (e0 == 0) = false := by simp [he0, h0]
    rw [HE.out, HV.out, HZ.out]
    clear HE HV h0 he0
    go_enter Tryz.func46, Tryz.ntmps46
    go_wp2_with fail
    refine (check_of HC).mono ?_
    rintro e w1 ⟨rfl, hb1⟩
    rw [HZ.out]
    go_wp2
    go_ret2
    exact ⟨_, rfl, World.ownsRow_nil _ _ _ _, hb1⟩
end Go.Proofs.YtpbknhhjfhpkmaaGreatDoor
