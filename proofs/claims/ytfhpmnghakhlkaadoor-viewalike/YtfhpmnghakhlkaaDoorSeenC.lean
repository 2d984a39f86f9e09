/- Contract of view.Seen. -/
import Derived.Test.YtfhpmnghakhlkaaDoorEyeC
import Derived.Test.YtfhpmnghakhlkaaDoorBareC
namespace Go.Proofs.YtfhpmnghakhlkaaDoor
open Go.RowKit

def sawE (ls : List ByteArray) (ps : List (ByteArray × ByteArray)) (who : ByteArray) : List Evt → Int
  | [] => 0
  | e :: r => if seesE ls ps who e.2.2 = 0 then sawE ls ps who r else seesE ls ps who e.2.2
def seenE (ls : List ByteArray) (ps : List (ByteArray × ByteArray)) (who : ByteArray) (l : List Evt) : Int := if 3000 < l.length then 2 else if seesE ls ps who [] = 0 then sawE ls ps who l else seesE ls ps who []
def sawF (ls : List ByteArray) (ps : List (ByteArray × ByteArray)) (who : ByteArray) (l : List Evt) : List Ev2 := (l.filter fun e => seesV ls ps who e.2.2).map fun e => (e.1, e.2.1)
def seenV (ls : List ByteArray) (ps : List (ByteArray × ByteArray)) (who : ByteArray) (l : List Evt) : List Ev2 := if seenE ls ps who l = 0 then sawF ls ps who l else []
theorem sawE_step {ls : List ByteArray} {ps : List (ByteArray × ByteArray)} {who : ByteArray} {l : List Evt} {k : Nat} (hk : k < l.length) (h : seesE ls ps who l[k].2.2 = 0) : sawE ls ps who (l.drop k) = sawE ls ps who (l.drop (k + 1)) := by
  rw [List.drop_eq_getElem_cons hk, sawE, if_pos h]
theorem sawE_hit {ls : List ByteArray} {ps : List (ByteArray × ByteArray)} {who : ByteArray} {l : List Evt} {k : Nat} (hk : k < l.length) (h : seesE ls ps who l[k].2.2 ≠ 0) : sawE ls ps who (l.drop k) = seesE ls ps who l[k].2.2 := by
  rw [List.drop_eq_getElem_cons hk, sawE, if_neg h]
theorem sawF_step {ls : List ByteArray} {ps : List (ByteArray × ByteArray)} {who : ByteArray} {l : List Evt} {k : Nat} (hk : k < l.length) : sawF ls ps who (l.take (k + 1)) = sawF ls ps who (l.take k) ++ (if seesV ls ps who l[k].2.2 = true then [(l[k].1, l[k].2.1)] else []) := by
  unfold sawF
  rw [List.take_succ_eq_append_getElem hk, List.filter_append, List.map_append]
  congr 1
  cases hv : seesV ls ps who l[k].2.2 <;> simp [hv]
theorem sawF_len (ls : List ByteArray) (ps : List (ByteArray × ByteArray)) (who : ByteArray) (l : List Evt) : (sawF ls ps who l).length ≤ l.length := by
  unfold sawF
  rw [List.length_map]
  exact List.length_filter_le _ _
theorem EvSt.wide {w w1 wr : World} {v : Value} {l : List Ev2} (h : EvSt w1 wr v l) (hb : Below w.heap.size w w1) : EvSt w wr v l :=
  ⟨hb.trans (h.bel.mono hb.size), ownsRow_le' h.own hb.size⟩

set_option maxRecDepth 100000 in
set_option maxHeartbeats 4000000 in
theorem seenC (ao po lo : Option Addr) (b off b' off' n m c d lb loff ln lc : Nat) (ls : List ByteArray) (ps : List (ByteArray × ByteArray)) (who : ByteArray) (vs : List Ev3) (l : List Evt) (w : World) (hc : Chiefs w ao po b off b' off' n m c ls ps) (hv : EvV w lo lb loff vs) (hl : EvL w vs l) (hn : ln = l.length) (hm : ln ≤ maxLen) :
    Calls Tryd.prog 5 #[.slice ao n c, .slice po m d, .string who, .slice lo ln lc] w fun e w' => ∃ v, e = .returned (.tuple #[v, .int .i64 (seenE ls ps who l)]) ∧ EvSt w w' v (seenV ls ps who l) := by
  have HC : Hid (Chiefs w ao po b off b' off' n m c ls ps) := hc
  have HV : Hid (EvV w lo lb loff vs) := hv
  have HL : Hid (EvL w vs l) := hl
  have HN : Hid (ln = l.length) := hn
  unfold maxLen at hm
  clear hc hv hl hn
  by_cases h3 : 3000 < ln
  · have HE : Hid (seenE ls ps who l = 2) := by show _ = _; unfold seenE; rw [if_pos (by have := HN.out; omega)]
    have HS : Hid (seenV ls ps who l = []) := by show _ = _; unfold seenV; rw [HE.out]; rfl
    rw [HE.out, HS.out]
    go_enter Tryd.func5, Tryd.ntmps5
    go_wp2
    go_ret2
    exact ⟨_, rfl, EvSt.nil w⟩
  · have eg : ∀ args w, (callFunc 33 args).run Tryd.prog w = .ok (.enter 33 args) w := enters_of Tryd.func33 (by kernel_rfl) rfl
    have hcall := eyeC ao po b off b' off' n m c d ls ps who w HC.out
    obtain ⟨e0, he0⟩ : ∃ e0, e0 = seesE ls ps who [] := ⟨_, rfl⟩
    have HE0 : Hid (e0 = seesE ls ps who []) := he0
    clear he0
    by_cases h0 : e0 = 0
    · subst h0
      have HEE : Hid (seenE ls ps who l = sawE ls ps who l) := by show _ = _; unfold seenE; rw [if_neg (by have := HN.out; omega), if_pos HE0.out.symm]
      go_enter Tryd.func5, Tryd.ntmps5
      go_wp2_with fail
      refine hcall.mono ?_
      rintro e w1 ⟨fv, S, M, rfl, hE, hb1⟩
      have hvis := hE.vis
      have hs1 := seesC S M fv ao po none b off b' off' n m c d 0 0 0 0 ls ps who [] w1 (HC.out.later hb1) hE (labAt_nil w1)
      rw [← HE0.out] at hs1
      have HE : Hid (EyeIs w1 fv S M ao po n m c d who (mineF ls ps who)) := hE
      have HB1 : Hid (Below w.heap.size w w1) := hb1
      obtain ⟨t0, ht0⟩ : ∃ t0, t0 = seesV ls ps who [] := ⟨_, rfl⟩
      rw [← ht0] at hs1
      clear hcall hE hb1 ht0
      subst hvis
      go_wp2_with fail
      refine hs1.mono ?_
      rintro e w2 ⟨rfl, hb2⟩
      have HE2 : Hid (EyeIs w2 _ S M ao po n m c d who (mineF ls ps who)) := HE.out.later hb2
      have HB2 : Hid (Below w.heap.size w w2) := HB1.out.trans (hb2.mono HB1.out.size)
      clear hs1 hb2 HE HB1
      go_wp2
      go_loopw [13, 35] (fun v i wr => ∃ k : Nat, k ≤ ln ∧ i = .int .i64 k ∧ Hid (EvSt w2 wr v (sawF ls ps who (l.take k))) ∧ Hid (sawE ls ps who (l.drop k) = sawE ls ps who l)) (fun _ i _ => ln - (intOf i).toNat)
      case atStart => exact ⟨0, Nat.zero_le _, rfl, EvSt.nil w2, by show _ = _; simp⟩
      case round =>
        obtain ⟨k, hk, rfl, HS, HK⟩ := hrel
        by_cases hlt : k < ln
        · have hkl : k < l.length := by have := HN.out; omega
          have hkv : k < vs.length := by have := HL.out.ln; omega
          have HBR : Hid (Below w.heap.size w wr) := HB2.out.trans (HS.out.bel.mono HB2.out.size)
          have hV := HV.out.later HBR.out
          have hL := HL.out.later HBR.out
          have hao := hV.adr (by omega)
          have f0 := hV.c0 k hkv
          have f1 := hV.c1 k hkv
          have f2 := hV.c2 k hkv
          obtain ⟨q0, q1, q2⟩ := hL.at' k hkv hkl
          have hsz := hL.sz _ (List.getElem_mem hkl)
          have hst := sawF_step (ls := ls) (ps := ps) (who := who) hkl
          have hgo := fun h => sawE_step (ls := ls) (ps := ps) (who := who) hkl h
          have hhit := fun h => sawE_hit (ls := ls) (ps := ps) (who := who) hkl h
          rw [q0] at f0
          rw [q1] at f1
          obtain ⟨s, hs⟩ : ∃ s, s = l[k].1 := ⟨_, rfl⟩
          obtain ⟨i, hi⟩ : ∃ i, i = l[k].2.1 := ⟨_, rfl⟩
          obtain ⟨x, hx⟩ : ∃ x, x = l[k].2.2 := ⟨_, rfl⟩
          rw [← hs] at f0 hst hsz
          rw [← hi] at f1 hst
          rw [← hx] at q2 hst hgo hhit
          obtain ⟨go, gb, goff, gn, gc, hgv, hgl⟩ := q2
          rw [hgv] at f2
          obtain ⟨wy, hwy⟩ : ∃ wy, wy = wr.alloc (.cells #[.string s, .int .i64 i, .slice go gn gc] 35) := ⟨_, rfl⟩
          have hby : Below wr.heap.size wr wy := by rw [hwy]; exact (Below.refl _ _).alloc (Nat.le_refl _) _
          have ky : wy.heap[wr.heap.size]? = some (.cells #[.string s, .int .i64 i, .slice go gn gc] 35 (0, 0)) := by rw [hwy]; exact heap_at_alloc _ _ _ rfl
          have hbyw : Below w.heap.size w wy := HBR.out.trans (hby.mono HBR.out.size)
          have hby2 : Below w2.heap.size w2 wy := HS.out.bel.trans (hby.mono HS.out.bel.size)
          have hs1 := seesC S M _ ao po go b off b' off' n m c d gb goff gn gc ls ps who x wy (HC.out.later hbyw) (HE2.out.later hby2) (hgl.later hby)
          have HSY : Hid (EvSt w2 wy _ (sawF ls ps who (l.take k))) := HS.out.later hby
          have HKY : Hid (wy.heap[wr.heap.size]? = some (.cells #[.string s, .int .i64 i, .slice go gn gc] 35 (0, 0))) := ky
          have HWY : Hid (wy = wr.alloc (.cells #[.string s, .int .i64 i, .slice go gn gc] 35)) := hwy
          obtain ⟨e1, he1⟩ : ∃ e1, e1 = seesE ls ps who x := ⟨_, rfl⟩
          obtain ⟨t1, ht1⟩ : ∃ t1, t1 = seesV ls ps who x := ⟨_, rfl⟩
          rw [← he1] at hs1 hgo hhit
          rw [← ht1] at hs1 hst
          obtain ⟨L, hLL⟩ : ∃ L, L = sawF ls ps who (l.take k) := ⟨_, rfl⟩
          have hLn : L.length ≤ 3000 := by
            rw [hLL]
            have h1 := sawF_len ls ps who (l.take k)
            have h2 := List.length_take (i := k) (l := l)
            omega
          rw [← hLL] at HSY hst
          clear hV hL q0 q1 hs hi hx hgv hgl hwy hby ky hbyw hby2 he1 ht1 hLL HS
          obtain ⟨ov, ocap, hov⟩ := slice_of HSY.out.own
          subst hov
          subst hao
          by_cases h1 : e1 = 0
          · subst h1
            have HK' : Hid (sawE ls ps who (l.drop (k + 1)) = sawE ls ps who l) := by show _ = _; rw [← HK.out]; exact (hgo rfl).symm
            clear hgo hhit
            cases t1
            · simp only [Bool.false_eq_true, if_false, List.append_nil] at hst
              have HST : Hid (sawF ls ps who (l.take (k + 1)) = L) := hst
              clear hst
              go_wp2_with fail
              rw [← HWY.out]
              refine hs1.mono ?_
              rintro e w3 ⟨rfl, hb3⟩
              have HS3 : Hid (EvSt w2 w3 (.slice ov L.length ocap) L) := HSY.out.later hb3
              clear hb3 hs1 HWY HSY
              go_wp2
              go_roundw
              case rel => exact ⟨k + 1, by omega, by go_num, by rw [HST.out]; exact HS3, HK'⟩
              case measure => simp [intOf]; omega
            · simp only [if_true] at hst
              have HST : Hid (sawF ls ps who (l.take (k + 1)) = L ++ [(s, i)]) := hst
              clear hst
              go_wp2_with fail
              rw [← HWY.out]
              refine hs1.mono ?_
              rintro e w3 ⟨rfl, hb3⟩
              have HS3 : Hid (EvSt w2 w3 (.slice ov L.length ocap) L) := HSY.out.later hb3
              have k3 := (hb3.block _ (lt_of_block HKY.out)).trans HKY.out
              have y0 : w3.cell? ⟨wr.heap.size, 0, none⟩ = some (.string s) := by simp [World.cell?, k3]
              have y1 : w3.cell? ⟨wr.heap.size, 1, none⟩ = some (.int .i64 i) := by simp [World.cell?, k3]
              have y2 : w3.cell? ⟨wr.heap.size, 2, none⟩ = some (.slice go gn gc) := by simp [World.cell?, k3]
              have l3 : wr.heap.size < w3.heap.size := lt_of_block k3
              clear hb3 hs1 HWY HSY k3
              go_wp2_with fail
              refine (bareC s i go gn gc _ (by omega)).mono ?_
              rintro e w4 ⟨rfl, hb4⟩
              have HS4 : Hid (EvSt w2 w4 (.slice ov L.length ocap) L) := HS3.out.later hb4
              have HO : Hid (w4.ownsRow w2.heap.size 35 3 (.slice ov L.length ocap) L.length (evC (bareV L))) := HS4.out.own
              have hbig : w2.heap.size ≤ w4.heap.size := HS4.out.bel.size
              clear hb4 HS3 y0 y1 y2 l3
              obtain ⟨i0, hi, hz0, hz1, hz2⟩ := info_parts Tryd.infoEv
              go_wp2_with (at_builtin; refine wpList_append_own _ rfl _ _ 24 rfl w2.heap.size 35 i0 (.agg #[.string ⟨#[]⟩, .int .i64 0, .slice none 0 0]) 3 48 Tryd.underlying24 hi hz0 hz1 hz2 rfl (by decide) _ _ _ rfl (World.ownsRow.alloc HO.out _) ⟨w4.heap.size, 0, none⟩ 1 1 [.string s, .int .i64 i, .slice none 0 0] rfl rfl ?c1 ?c2 ?c3 ?c4 ?c5 ?_)
              case c1 => exact three_at _ _ _ _ _
              case c2 => intro u hu; simp at hu; rcases hu with rfl | rfl | rfl <;> rfl
              case c3 => unfold maxLen; omega
              case c4 => omega
              case c5 => simp; omega
              · intro v' w5 hown5 hgrow5 _
                have HNX : Hid (EvSt w2 w5 v' (L ++ [(s, i)])) := HS4.out.step hown5 hgrow5
                clear hown5 hgrow5
                go_wp2
                go_roundw
                case rel => exact ⟨k + 1, by omega, by go_num, by rw [HST.out]; exact HNX, HK'⟩
                case measure => simp [intOf]; omega
          · have HES : Hid (sawE ls ps who l = e1) := by show _ = _; rw [← HK.out]; exact hhit h1
            have HSV : Hid (seenV ls ps who l = []) := by show _ = _; unfold seenV; rw [HEE.out, HES.out, if_neg h1]
            have bn : (e1 == 0) = false := by simp [h1]
            have bb : (e1 != 0) = true := by simp [h1]
            clear hgo hhit h1 hst
            go_wp2_with fail
            rw [← HWY.out]
            refine hs1.mono ?_
            rintro e w3 ⟨rfl, hb3⟩
            have HBE : Hid (Below w.heap.size w w3) := HB2.out.trans ((HSY.out.later hb3).bel.mono HB2.out.size)
            go_wp2
            go_ret2
            rw [HSV.out, HEE.out, HES.out]
            exact ⟨_, rfl, HBE.out, World.ownsRow_nil _ _ _ _⟩
        · have HF : Hid (sawF ls ps who (l.take k) = sawF ls ps who l) := by
            show _ = _
            rw [List.take_of_length_le (by have := HN.out; omega)]
          have HEZ : Hid (sawE ls ps who l = 0) := by
            have e := HK.out
            rw [List.drop_of_length_le (by have := HN.out; omega)] at e
            show _ = _
            rw [← e]; rfl
          have HSV : Hid (seenV ls ps who l = sawF ls ps who l) := by show _ = _; unfold seenV; rw [HEE.out, HEZ.out, if_pos rfl]
          go_wp2
          go_ret2
          rw [HSV.out, HEE.out, HEZ.out, ← HF.out]
          exact ⟨_, rfl, HS.out.wide HB2.out⟩
    · have HEE : Hid (seenE ls ps who l = e0) := by show _ = _; unfold seenE; rw [if_neg (by have := HN.out; omega), ← HE0.out, if_neg h0]
      have HSV : Hid (seenV ls ps who l = []) := by show _ = _; unfold seenV; rw [HEE.out, if_neg h0]
      have bn : (e0 == 0) = false := by simp [h0]
      have bb : (e0 != 0) = true := by simp [h0]
      rw [HEE.out, HSV.out]
      clear h0
      go_enter Tryd.func5, Tryd.ntmps5
      go_wp2_with fail
      refine hcall.mono ?_
      rintro e w1 ⟨fv, S, M, rfl, hE, hb1⟩
      have hvis := hE.vis
      have hs1 := seesC S M fv ao po none b off b' off' n m c d 0 0 0 0 ls ps who [] w1 (HC.out.later hb1) hE (labAt_nil w1)
      rw [← HE0.out] at hs1
      have HB1 : Hid (Below w.heap.size w w1) := hb1
      clear hcall hE hb1
      subst hvis
      go_wp2_with fail
      refine hs1.mono ?_
      rintro e w2 ⟨rfl, hb2⟩
      have HB2 : Hid (Below w.heap.size w w2) := HB1.out.trans (hb2.mono HB1.out.size)
      clear hs1 hb2
      go_wp2
      go_ret2
      exact ⟨_, rfl, HB2.out, World.ownsRow_nil _ _ _ _⟩
end Go.Proofs.YtfhpmnghakhlkaaDoor
