/- ParsePlaces: the law's walk. -/
import Derived.Test.YtikejmokejghcaaGreatDoorTrd
import Derived.Test.YtikejmokejghcaaGreatDoorFnE
import Derived.Test.YtikejmokejghcaaGreatDoorGaPar
import Derived.Test.YtikejmokejghcaaGreatDoorShelfP
import Derived.Laws.EntriesVeiled
namespace Go.Proofs.YtikejmokejghcaaGreatDoor
open Go.RowKit
open Par (Tok Po Tr nx atP isT ba Res)

structure StW (W : World) (sb fb : Nat) (s : ByteArray) : Prop where
  s0 : W.heap[sb]? = some (.cells #[.string s] 9 (0, 0))
  f0 : W.heap[fb]? = some (.cells #[.func (.func 6) #[] #[.pointer (some ⟨sb, 0, none⟩), .pointer (some ⟨fb, 0, none⟩)]] 33 (0, 0))
theorem StW.later {W W' : World} {sb fb : Nat} {s : ByteArray} (h : StW W sb fb s) (hb : Below W.heap.size W W') : StW W' sb fb s := ⟨(hb.block _ (lt_of_block h.s0)).trans h.s0, (hb.block _ (lt_of_block h.f0)).trans h.f0⟩
def StC (sb fb : Nat) (s : ByteArray) (t : Tr) : Prop := ∀ (W : World) (S : Nat → Prop) (cs : List Value), StW W sb fb s → TrIs W S t cs → Calls Tryz.prog 6 (#[.agg cs.toArray] ++ #[.pointer (some ⟨sb, 0, none⟩), .pointer (some ⟨fb, 0, none⟩)]) W fun x w' => x = .returned (.bool true) ∧ Below W.heap.size W w'
theorem enS : ∀ args w, (callFunc 6 args).run Tryz.prog w = .ok (.enter 6 args) w := enters_of Tryz.func6 (by kernel_rfl) rfl
set_option maxRecDepth 100000 in
set_option maxHeartbeats 2000000 in
theorem inner {sb fb : Nat} {s : ByteArray} {t : Tr} (hS : StC sb fb s t) (W : World) (S : Nat → Prop) (cs : List Value) (h : StW W sb fb s) (ht : TrIs W S t cs) :
    Calls Tryz.prog 9 (#[.agg cs.toArray] ++ #[.pointer (some ⟨fb, 0, none⟩)]) W fun x w' => x = .returned (.bool false) ∧ Below W.heap.size W w' := by
  obtain ⟨z0, z1, z2, z3, z4, z5, m5, d5, z6, m6, d6, rfl⟩ := ht.open7
  obtain ⟨w0, hw0⟩ : ∃ w0, w0 = W.alloc (.cells #[.int .i64 z0, .int .i64 z1, .int .i64 z2, .int .i64 z3, .string z4, .slice z5 m5 d5, .slice z6 m6 d6] 26) := ⟨_, rfl⟩
  have hb0 : Below W.heap.size W w0 := by rw [hw0]; exact (Below.refl _ _).alloc (Nat.le_refl _) _
  have hc := hS w0 S _ (h.later hb0) (ht.keeps (Keeps.of_below hb0))
  have HB : Hid (Below W.heap.size W w0) := hb0
  have f0 : W.cell? ⟨fb, 0, none⟩ = some (.func (.func 6) #[] #[.pointer (some ⟨sb, 0, none⟩), .pointer (some ⟨fb, 0, none⟩)]) := by simp [World.cell?, h.f0]
  have fl := lt_of_block h.f0
  have eg := enS
  clear hS h ht hb0
  go_enter Tryz.func9, Tryz.ntmps9
  go_wp2_with fail
  rw [← hw0]
  clear hw0
  refine hc.mono ?_
  rintro x w1 ⟨rfl, hb1⟩
  go_wp2
  go_ret
  exact ⟨rfl, HB.out.trans (hb1.mono HB.out.size)⟩
theorem pre_of {s m : ByteArray} {p : Nat} (h : m.data.toList <+: s.data.toList.drop p) : Lib.hasPrefix (s.extract p s.size).data.toList m.data.toList = true := by
  have e : (s.extract p s.size).data.toList = s.data.toList.drop p := by
    rw [Lib.extract_data, List.take_of_length_le (by rw [List.length_drop, Lex.len_of]; omega)]
  rw [e]
  unfold Lib.hasPrefix
  rw [List.isPrefixOf_iff_prefix]
  exact h
theorem pref_yes (s t : ByteArray) (p : Nat) (w : World) (h : Hid (Lib.hasPrefix (s.extract p s.size).data.toList t.data.toList = true)) :
    Calls Tryz.prog 7 #[.string (s.extract p s.size), .string t] w fun e w' => e = .returned (.bool true) ∧ w' = w := by
  have := Tryz.strings_HasPrefix (s.extract p s.size) t w
  rw [h.out] at this
  exact this
theorem enI : ∀ args w, (callFunc 9 args).run Tryz.prog w = .ok (.enter 9 args) w := enters_of Tryz.func9 (by kernel_rfl) rfl
set_option maxRecDepth 100000 in
set_option maxHeartbeats 4000000 in
theorem standsC {sb fb : Nat} {s : ByteArray} {t : Tr} (h : Par.Stands s.data.toList t) : StC sb fb s t := by
  induction h with
  | @mk k p n ty m l a h0 h1 h2 h3 ih =>
  intro W S cs hW ht
  obtain ⟨pn, rfl⟩ : ∃ pn : Nat, p = (pn : Int) := ⟨p.toNat, by omega⟩
  rw [Int.toNat_natCast] at h2
  have hps : pn < s.size := by rw [← Lex.len_of]; omega
  have htt := ht
  cases ht with
  | @mk _ _ _ _ _ _ _ lv av css hm hl hr hcl hk =>
  obtain ⟨lo, lbb, loff, lc, rfl, _, _, _⟩ := hl.toP
  obtain ⟨ao, ab, aoff, ac, rfl, har⟩ := hr
  obtain ⟨w0, hw0⟩ : ∃ w0, w0 = W.alloc (.cells #[.int .i64 k, .int .i64 (pn : Int), .int .i64 n, .int .i64 ty, .string m, .slice lo l.length lc, .slice ao css.length ac] 26) := ⟨_, rfl⟩
  have hb0 : Below W.heap.size W w0 := by rw [hw0]; exact (Below.refl _ _).alloc (Nat.le_refl _) _
  have hbx : w0.heap[W.heap.size]? = some (.cells #[.int .i64 k, .int .i64 (pn : Int), .int .i64 n, .int .i64 ty, .string m, .slice lo l.length lc, .slice ao css.length ac] 26 (0, 0)) := by rw [hw0]; exact heap_at_alloc _ _ _ rfl
  have HCF : Hid (∀ V, Below w0.heap.size w0 V → Calls Tryz.prog 8 #[.slice ao css.length ac, .func (.func 9) #[] #[.pointer (some ⟨fb, 0, none⟩)]] V fun x w' => x = .returned (.bool false) ∧ Below V.heap.size V w') := by
    intro V hV
    have hVW : Below W.heap.size W V := hb0.trans (hV.mono hb0.size)
    have kS : Keeps S W V := Keeps.of_below hVW
    have := containsFuncE 9 #[.pointer (some ⟨fb, 0, none⟩)] enI (fun _ => false) S ao ab aoff css.length ac css a V hcl (har.keeps kS) hcl (fun i hi hi' => (hk i hi hi').keeps kS) (fun V' i hi hc hV' => inner (ih a[i] (List.getElem_mem hi)) V' S css[i] (hW.later (hVW.trans (hV'.mono hVW.size))) ((hk i hi hc).keeps (Keeps.of_below (hVW.trans (hV'.mono hVW.size)))))
    have e : a.any (fun _ => false) = false := by simp
    rwa [e] at this
  have HB : Hid (Below W.heap.size W w0) := hb0
  obtain ⟨⟨x0, x1, x2, x3, x4, x5, x6⟩, _⟩ := blkE hbx
  have nx := lt_of_block hbx
  have s0 : w0.cell? ⟨sb, 0, none⟩ = some (.string s) := by
    have := (hW.later hb0).s0
    simp [World.cell?, this]
  have sl := lt_of_block (hW.later hb0).s0
  have slW := lt_of_block hW.s0
  have s0W : W.cell? ⟨sb, 0, none⟩ = some (.string s) := by simp [World.cell?, hW.s0]
  have d1 : decide ((pn : Int) < 0) = false := by simp
  have d2 : decide ((s.size : Int) < (pn : Int)) = false := by simp; omega
  have d3 : decide (s.size ≤ pn) = false := by simp; omega
  have hmf : ∀ (fn : Fn) (first cap : Array Value) (w : World), (Instr.makeFunc fn first cap).run Tryz.prog w = .ok (.func fn first cap) w := fun _ _ _ _ => rfl
  clear hb0 hbx har hcl hk hl htt ih h0 h1 h3 hW
  by_cases hkk : k = 2 ∨ k = 4 ∨ k = 3
  · have HP : Hid (Lib.hasPrefix (s.extract pn s.size).data.toList m.data.toList = true) := pre_of (h2 hkk)
    clear h2
    rcases hkk with rfl | rfl | rfl
    · skip
      go_enter Tryz.func6, Tryz.ntmps6
      go_wp2
      rw [← hw0]
      clear hw0
      go_quiet ((go_at_call 7; exact Calls.quiet_of_same (pref_yes s m pn _ HP)))
      have hcf := HCF.out (w0.drewN nq) ⟨rfl, rfl, rfl, Nat.le_refl _, fun _ _ => rfl⟩
      go_wp2_with fail
      refine hcf.mono ?_
      rintro x w1 ⟨rfl, hb1⟩
      go_wp2
      go_ret
      exact ⟨rfl, HB.out.trans (Below.mono ⟨hb1.os, hb1.tape, hb1.output, hb1.size, hb1.block⟩ HB.out.size)⟩
    · skip
      go_enter Tryz.func6, Tryz.ntmps6
      go_wp2
      rw [← hw0]
      clear hw0
      go_quiet ((go_at_call 7; exact Calls.quiet_of_same (pref_yes s m pn _ HP)))
      have hcf := HCF.out (w0.drewN nq) ⟨rfl, rfl, rfl, Nat.le_refl _, fun _ _ => rfl⟩
      go_wp2_with fail
      refine hcf.mono ?_
      rintro x w1 ⟨rfl, hb1⟩
      go_wp2
      go_ret
      exact ⟨rfl, HB.out.trans (Below.mono ⟨hb1.os, hb1.tape, hb1.output, hb1.size, hb1.block⟩ HB.out.size)⟩
    · skip
      go_enter Tryz.func6, Tryz.ntmps6
      go_wp2
      rw [← hw0]
      clear hw0
      go_quiet ((go_at_call 7; exact Calls.quiet_of_same (pref_yes s m pn _ HP)))
      have hcf := HCF.out (w0.drewN nq) ⟨rfl, rfl, rfl, Nat.le_refl _, fun _ _ => rfl⟩
      go_wp2_with fail
      refine hcf.mono ?_
      rintro x w1 ⟨rfl, hb1⟩
      go_wp2
      go_ret
      exact ⟨rfl, HB.out.trans (Below.mono ⟨hb1.os, hb1.tape, hb1.output, hb1.size, hb1.block⟩ HB.out.size)⟩
  · have b2 : (k == 2) = false := by simp; omega
    have b4 : (k == 4) = false := by simp; omega
    have b3 : (k == 3) = false := by simp; omega
    clear h2 hkk
    go_enter Tryz.func6, Tryz.ntmps6
    go_wp2
    rw [← hw0]
    clear hw0
    go_quiet (fail)
    have hcf := HCF.out (w0.drewN nq) ⟨rfl, rfl, rfl, Nat.le_refl _, fun _ _ => rfl⟩
    go_wp2_with fail
    refine hcf.mono ?_
    rintro x w1 ⟨rfl, hb1⟩
    go_wp2
    go_ret
    exact ⟨rfl, HB.out.trans (Below.mono ⟨hb1.os, hb1.tape, hb1.output, hb1.size, hb1.block⟩ HB.out.size)⟩
theorem parse_stands {l : List UInt8} {t : Tr} {r : List Tok} (h : Par.parseE l = .ok t r) : Par.Stands l t := by
  obtain ⟨x, r', h1, h2⟩ := Par.bind_ok h
  have hx : x = t := by
    split at h2
    · injection h2
    · cases h2
  subst hx
  unfold Par.readE Par.wholeF at h1
  split at h1
  · cases h1
  · rename_i hc
    obtain ⟨y, r2, h3, h4⟩ := Par.bind_ok h1
    have hy : y = x := by
      unfold Par.restR at h4
      split at h4
      · injection h4
      · cases h4
    subst hy
    have hsc : Lex.scanAll l = ((Lex.scanAll l).1, 0, (Lex.scanAll l).2.2) := by
      have : (Lex.scanAll l).2.1 = 0 := Decidable.not_not.1 hc
      rw [← this]
    exact Par.expr_stands l _ _ _ (Par.scan_at hsc) _ _ h3
set_option maxRecDepth 100000 in
set_option maxHeartbeats 4000000 in
theorem law_places (s : ByteArray) (w : World) (hs : s.size ≤ maxLen) (hI : ∀ V, Below w.heap.size w V → ItoaC V) (hl : LevAt w w.heap.size) :
    Calls Tryz.prog 3 #[.string s] w fun e w' => e = .returned (.bool true) ∧ Below w.heap.size w w' := by
  have hmf : ∀ (fn : Fn) (first cap : Array Value) (w : World), (Instr.makeFunc fn first cap).run Tryz.prog w = .ok (.func fn first cap) w := fun _ _ _ _ => rfl
  obtain ⟨w0, hw0⟩ : ∃ w0, w0 = w.alloc (.cells #[.string s] 9) := ⟨_, rfl⟩
  have hb0 : Below w.heap.size w w0 := by rw [hw0]; exact (Below.refl _ _).alloc (Nat.le_refl _) _
  have hs0 : w0.heap[w.heap.size]? = some (.cells #[.string s] 9 (0, 0)) := by rw [hw0]; exact heap_at_alloc _ _ _ rfl
  have HL : Hid (∀ V, Below w.heap.size w V → LevAt V V.heap.size) := fun V hV => (hl.keeps hV.size fun b hb => hV.block b hb).mono hV.size
  have HTD : Hid (∀ V, Below w.heap.size w V → Calls Tryz.prog 5 #[] V fun x w' => x = .returned (.bool true) ∧ Below V.heap.size V w') := fun V hV => treedC (fun V' hV' => hI V' (hV.trans (hV'.mono hV.size))) (HL.out V hV)
  have hpa := parseC s w0 hs (HL.out w0 hb0)
  have HB : Hid (Below w.heap.size w w0) := hb0
  have HS0 : Hid (w0.heap[w.heap.size]? = some (.cells #[.string s] 9 (0, 0))) := hs0
  have eg := enS
  clear hI hl hb0 hs0
  go_enter Tryz.func3, Tryz.ntmps3
  go_wp2_with fail
  rw [← hw0]
  clear hw0
  refine hpa.mono ?_
  rintro x W1 ⟨hb1, ⟨t, hr, z0, z1, z2, z3, z4, z5, m5, d5, z6, m6, d6, rfl, ht⟩ | ⟨c, q, hr, rfl⟩⟩
  · obtain ⟨W2, hW2⟩ : ∃ W2, W2 = (W1.alloc (.cells #[.int .i64 z0, .int .i64 z1, .int .i64 z2, .int .i64 z3, .string z4, .slice z5 m5 d5, .slice z6 m6 d6] 26)).alloc (.cells #[.int .i64 0, .int .i64 0] 29) := ⟨_, rfl⟩
    have hb2 : Below W1.heap.size W1 W2 := by rw [hW2]; exact ((Below.refl _ _).alloc (Nat.le_refl _) _).alloc (by simp) _
    have hbw : Below w.heap.size w W2 := (HB.out.trans (hb1.mono HB.out.size)).trans (hb2.mono (HB.out.trans (hb1.mono HB.out.size)).size)
    have ht2 := ht.keeps (Keeps.of_below hb2)
    have hx2 : W2.heap[W1.heap.size]? = some (.cells #[.int .i64 z0, .int .i64 z1, .int .i64 z2, .int .i64 z3, .string z4, .slice z5 m5 d5, .slice z6 m6 d6] 26 (0, 0)) := by rw [hW2]; exact heap_past_alloc (heap_at_alloc _ _ _ rfl)
    have hy2 : W2.heap[W1.heap.size + 1]? = some (.cells #[.int .i64 0, .int .i64 0] 29 (0, 0)) := by rw [hW2]; exact heap_at_alloc _ _ _ (by simp)
    have hsb2 : W2.heap[w.heap.size]? = some (.cells #[.string s] 9 (0, 0)) := (hb2.block _ (Nat.lt_of_lt_of_le (lt_of_block HS0.out) hb1.size)).trans ((hb1.block _ (lt_of_block HS0.out)).trans HS0.out)
    have htd := HTD.out W2 hbw
    have HT : Hid (TrIs W2 (fun b => w0.heap.size ≤ b) t [.int .i64 z0, .int .i64 z1, .int .i64 z2, .int .i64 z3, .string z4, .slice z5 m5 d5, .slice z6 m6 d6]) := ht2
    have HBW : Hid (Below w.heap.size w W2) := hbw
    have HXY : Hid (W2.heap[W1.heap.size]? = some (.cells #[.int .i64 z0, .int .i64 z1, .int .i64 z2, .int .i64 z3, .string z4, .slice z5 m5 d5, .slice z6 m6 d6] 26 (0, 0)) ∧ W2.heap[W1.heap.size + 1]? = some (.cells #[.int .i64 0, .int .i64 0] 29 (0, 0)) ∧ W2.heap[w.heap.size]? = some (.cells #[.string s] 9 (0, 0))) := ⟨hx2, hy2, hsb2⟩
    have HST : Hid (Par.Stands s.data.toList t) := parse_stands hr
    clear hx2 hy2 ht2 ht hb2 hb1 hbw hpa hr hsb2
    go_wp2_with fail
    rw [← hW2]
    clear hW2
    refine htd.mono ?_
    rintro x W3 ⟨rfl, hb3⟩
    have hx3 := (hb3.block _ (lt_of_block HXY.out.1)).trans HXY.out.1
    have hy3 := (hb3.block _ (lt_of_block HXY.out.2.1)).trans HXY.out.2.1
    have hs3 := (hb3.block _ (lt_of_block HXY.out.2.2)).trans HXY.out.2.2
    have HB3 : Hid (Below w.heap.size w W3) := HBW.out.trans (hb3.mono HBW.out.size)
    have HT3 : Hid (TrIs W3 (fun b => w0.heap.size ≤ b) t [.int .i64 z0, .int .i64 z1, .int .i64 z2, .int .i64 z3, .string z4, .slice z5 m5 d5, .slice z6 m6 d6]) := HT.out.keeps (Keeps.of_below hb3)
    have n1 := lt_of_block hx3
    have n2 := lt_of_block hy3
    have n3 := lt_of_block hs3
    obtain ⟨⟨x0, x1, x2, x3, x4, x5, x6⟩, _⟩ := blkE hx3
    have y0 : W3.cell? ⟨W1.heap.size + 1, 0, none⟩ = some (.int .i64 0) := by simp [World.cell?, hy3]
    have HS3 : Hid (W3.heap[w.heap.size]? = some (.cells #[.string s] 9 (0, 0))) := hs3
    clear hx3 hy3 hs3 hb3 htd
    obtain ⟨W4, hW4⟩ : ∃ W4, W4 = W3.alloc (.cells #[.func (.func 6) #[] #[.pointer (some ⟨w.heap.size, 0, none⟩), .pointer (some ⟨W3.heap.size, 0, none⟩)]] 33) := ⟨_, rfl⟩
    have hb4 : Below W3.heap.size W3 W4 := by rw [hW4]; exact (Below.refl _ _).alloc (Nat.le_refl _) _
    have hst := standsC HST.out W4 (fun b => w0.heap.size ≤ b) _ (sb := w.heap.size) (fb := W3.heap.size) ⟨(hb4.block _ (lt_of_block HS3.out)).trans HS3.out, by rw [hW4]; exact heap_at_alloc _ _ _ rfl⟩ (HT3.out.keeps (Keeps.of_below hb4))
    have HB4 : Hid (Below w.heap.size w W4) := HB3.out.trans (hb4.mono HB3.out.size)
    have HW4 : Hid (W4 = W3.alloc (.cells #[.func (.func 6) #[] #[.pointer (some ⟨w.heap.size, 0, none⟩), .pointer (some ⟨W3.heap.size, 0, none⟩)]] 33)) := hW4
    clear hb4 hW4
    go_wp2_with fail
    rw [← HW4.out]
    refine hst.mono ?_
    rintro x W5 ⟨rfl, hb5⟩
    go_wp2
    go_ret
    exact ⟨rfl, HB4.out.trans (hb5.mono HB4.out.size)⟩
  · have hc0 : c ≠ 0 := by
      intro e
      subst e
      rcases Par.bind_no hr with h | ⟨x, r', h1, h2⟩
      · exact Par.whole_bad (fun e => Par.expr_bad e 12) _ h rfl
      · split at h2
        · cases h2
        · cases h2
    have bc : (c == 0) = false := by simp [hc0]
    have bn : (c != 0) = true := by simp [hc0]
    obtain ⟨W2, hW2⟩ : ∃ W2, W2 = (W1.alloc (.cells ZE 26)).alloc (.cells #[.int .i64 c, .int .i64 (q : Int)] 29) := ⟨_, rfl⟩
    have hb2 : Below W1.heap.size W1 W2 := by rw [hW2]; exact ((Below.refl _ _).alloc (Nat.le_refl _) _).alloc (by simp) _
    have hbw : Below w.heap.size w W2 := (HB.out.trans (hb1.mono HB.out.size)).trans (hb2.mono (HB.out.trans (hb1.mono HB.out.size)).size)
    have hy2 : W2.heap[W1.heap.size + 1]? = some (.cells #[.int .i64 c, .int .i64 (q : Int)] 29 (0, 0)) := by rw [hW2]; exact heap_at_alloc _ _ _ (by simp)
    have htd := HTD.out W2 hbw
    have HBW : Hid (Below w.heap.size w W2) := hbw
    have HY : Hid (W2.heap[W1.heap.size + 1]? = some (.cells #[.int .i64 c, .int .i64 (q : Int)] 29 (0, 0))) := hy2
    unfold ZE at hW2 ⊢
    clear hy2 hb2 hb1 hbw hpa hr hc0
    go_wp2_with fail
    rw [← hW2]
    clear hW2
    refine htd.mono ?_
    rintro x W3 ⟨rfl, hb3⟩
    have hy3 := (hb3.block _ (lt_of_block HY.out)).trans HY.out
    have hbw3 : Below w.heap.size w W3 := HBW.out.trans (hb3.mono HBW.out.size)
    have htd2 := HTD.out W3 hbw3
    have HB3 : Hid (Below w.heap.size w W3) := hbw3
    have n2 := lt_of_block hy3
    have y0 : W3.cell? ⟨W1.heap.size + 1, 0, none⟩ = some (.int .i64 c) := by simp [World.cell?, hy3]
    clear hy3 hb3 hbw3 htd
    go_wp2_with fail
    refine htd2.mono ?_
    rintro x W4 ⟨rfl, hb4⟩
    go_wp2
    go_ret
    exact ⟨rfl, HB3.out.trans (hb4.mono HB3.out.size)⟩
end Go.Proofs.YtikejmokejghcaaGreatDoor
