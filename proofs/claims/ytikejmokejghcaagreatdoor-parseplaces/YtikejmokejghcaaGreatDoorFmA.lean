/- Contracts of what tree.Formed asks of numbers, names and labels. -/
import Derived.Test.YtikejmokejghcaaGreatDoorFrm
import Derived.Test.YtikejmokejghcaaGreatDoorMem
import Derived.Test.YtikejmokejghcaaGreatDoorLabP
import Derived.Test.YtikejmokejghcaaGreatDoorNameC
import Derived.WalkKit
import Derived.ProofKit
namespace Go.Proofs.YtikejmokejghcaaGreatDoor
open Go.RowKit
open Par (Tok Po Tr nx atP isT ba Res)

set_option maxRecDepth 100000 in
set_option maxHeartbeats 4000000 in
theorem numC (t n : Int) (w : World) : Calls Tryz.prog 44 #[.int .i64 t, .int .i64 n] w fun x w' => x = .returned (.bool (Par.numOK t n)) ∧ w' = w := by
  obtain ⟨r, hr⟩ : ∃ r, r = Par.numOK t n := ⟨_, rfl⟩
  rw [← hr]
  have HR : Hid (r = Par.numOK t n) := hr
  clear hr
  obtain ⟨b1, h1⟩ : ∃ b, (t == 1) = b := ⟨_, rfl⟩
  obtain ⟨b2, h2⟩ : ∃ b, decide (0 ≤ n) = b := ⟨_, rfl⟩
  obtain ⟨b3, h3⟩ : ∃ b, decide (n ≤ 999999999) = b := ⟨_, rfl⟩
  obtain ⟨b4, h4⟩ : ∃ b, (t == 2) = b := ⟨_, rfl⟩
  obtain ⟨b5, h5⟩ : ∃ b, (n == 0) = b := ⟨_, rfl⟩
  obtain ⟨b6, h6⟩ : ∃ b, (n == 1) = b := ⟨_, rfl⟩
  have HE : Hid (r = ((b1 && (b2 && b3)) || (b4 && (b5 || b6)))) := by show _ = _; rw [HR.out, ← h1, ← h2, ← h3, ← h4, ← h5, ← h6]; rfl
  clear HR
  cases b1 <;> cases b2 <;> cases b3 <;> cases b4 <;> cases b5 <;> cases b6 <;>
  · go_enter Tryz.func44, Tryz.ntmps44
    go_wp2
    go_ret
    exact ⟨by rw [HE.out]; rfl, rfl⟩

theorem names1 (s : ByteArray) (w : World) (hs : s.size ≤ maxLen) : Calls Tryz.prog 93 #[.string s] w fun x w' => x = .returned (.bool (!Par.nameOK s)) ∧ Below w.heap.size w w' := by
  have hn := scanName_any s w (by unfold maxLen at hs; omega)
  have HE : Hid (Par.nameOK s = Lex.nameF s.data.toList) := rfl
  rw [HE.out]
  go_enter Tryz.func93, Tryz.ntmps93
  go_wp2_with fail
  refine hn.mono ?_
  rintro x w1 ⟨rfl, hw⟩
  subst hw
  go_wp2
  go_ret
  exact ⟨rfl, Below.refl _ _⟩
theorem all_any (l : List ByteArray) : Par.namesOK l = !l.any fun s => !Par.nameOK s := by
  unfold Par.namesOK
  induction l with
  | nil => rfl
  | cons a r ih => simp [ih]
theorem namesC (ao : Option Addr) (b off n c : Nat) (ls : List ByteArray) (w : World) (hn : n = ls.length) (hm : n ≤ 1000) (ht : Strs w ao b off ls) (hz : ∀ s ∈ ls, s.size ≤ maxLen) :
    Calls Tryz.prog 75 #[.slice ao n c] w fun x w' => x = .returned (.bool (Par.namesOK ls)) ∧ Below w.heap.size w w' := by
  have hcf := containsFuncS 93 #[] (enters_of Tryz.func93 (by kernel_rfl) rfl) (fun s => !Par.nameOK s) ao b off n c ls w hn hm ht (fun W s hs _ => names1 s W (hz s hs))
  rw [all_any]
  clear hn ht hz
  go_enter Tryz.func75, Tryz.ntmps75
  go_wp2_with fail
  refine hcf.mono ?_
  rintro x w1 ⟨rfl, hb1⟩
  go_wp2
  go_ret
  exact ⟨rfl, hb1⟩
set_option maxRecDepth 100000 in
set_option maxHeartbeats 1000000 in
theorem lab1 (p : Po) (v : Value) (w : World) (hv : ReadersAt w v p.2) (h6 : p.2.length ≤ 6) (h1 : p.1.size ≤ maxLen) (h2 : ∀ s ∈ p.2, s.size ≤ maxLen) :
    Calls Tryz.prog 74 #[.agg #[.string p.1, v]] w fun x w' => x = .returned (.bool (Par.polBad p)) ∧ Below w.heap.size w w' := by
  obtain ⟨o, rs⟩ := p
  obtain ⟨ro, rb, roff, rc, hv1, hv2, hv3, hv4⟩ := hv
  subst hv1
  simp only at hv2 hv4 h6 h1 h2 ⊢
  obtain ⟨wz, hwz⟩ : ∃ wz, wz = w.alloc (.cells #[.string o, .slice ro rs.length rc] 112) := ⟨_, rfl⟩
  have hbz : Below w.heap.size w wz := by rw [hwz]; exact (Below.refl _ _).alloc (Nat.le_refl _) _
  have hn := scanName_any o wz (by unfold maxLen at h1; omega)
  have hk := namesC ro rb roff rs.length rc rs wz rfl (by omega) (hv4.later hbz) h2
  have HB : Hid (Below w.heap.size w wz) := hbz
  have HE : Hid (Par.polBad (o, rs) = (!Lex.nameF o.data.toList || !Par.namesOK rs)) := rfl
  rw [HE.out]
  clear hv4 h2 hbz HE
  obtain ⟨t1, e1⟩ : ∃ t, t = Lex.nameF o.data.toList := ⟨_, rfl⟩
  obtain ⟨t2, e2⟩ : ∃ t, t = Par.namesOK rs := ⟨_, rfl⟩
  rw [← e1] at hn ⊢
  rw [← e2] at hk ⊢
  clear e1 e2
  cases t1 with
  | false =>
    go_enter Tryz.func74, Tryz.ntmps74
    go_wp2_with fail
    rw [← hwz]
    clear hwz
    refine hn.mono ?_
    rintro x w1 ⟨rfl, hw⟩
    subst hw
    go_wp2
    go_ret
    exact ⟨rfl, HB.out⟩
  | true =>
    have k0 : wz.heap[w.heap.size]? = some (.cells #[.string o, .slice ro rs.length rc] 112 (0, 0)) := by rw [hwz]; exact heap_at_alloc _ _ _ rfl
    have kl := lt_of_block k0
    have k1 : wz.cell? ⟨w.heap.size, 1, none⟩ = some (.slice ro rs.length rc) := by simp [World.cell?, k0]
    clear k0
    go_enter Tryz.func74, Tryz.ntmps74
    go_wp2_with fail
    rw [← hwz]
    clear hwz
    refine hn.mono ?_
    rintro x w1 ⟨rfl, hw⟩
    subst hw
    go_wp2_with fail
    refine hk.mono ?_
    rintro x w2 ⟨rfl, hb2⟩
    go_wp2
    go_ret
    exact ⟨rfl, HB.out.trans (hb2.mono HB.out.size)⟩
theorem StrsV.toR {w : World} {S : Nat → Prop} {v : Value} {l : List ByteArray} (h : StrsV w S v l) : ReadersAt w v l := by
  obtain ⟨⟨ao, b, off, c, hv, hr⟩, hz⟩ := h
  have hl : (strCs l).length = l.length := by simp [strCs]
  rw [hl] at hv hr
  have hc := hr.cap
  refine ⟨ao, b, off, c, hv, hc, hr.mx, ⟨fun hp => hr.adr (by omega), fun k hk => ?_, fun hp => hr.lt (by omega)⟩⟩
  have := hr.cell k (by omega) 0 (.string l[k]) (by simp [strCs])
  simpa using this
theorem LabV.toP {w : World} {S : Nat → Prop} {v : Value} {l : List Po} (h : LabV w S v l) : ∃ ao b off c, v = .slice ao l.length c ∧ l.length ≤ c ∧ c ≤ maxLen ∧ LabP w ao b off l.length c l := by
  obtain ⟨⟨vs, h1, ⟨ao, b, off, c, hv, hr⟩, h3⟩, h4⟩ := h
  obtain ⟨a1, a2⟩ := polCs_at h1
  rw [a1] at hv hr
  have hc := hr.cap
  have hm := hr.mx
  refine ⟨ao, b, off, c, hv, hc, hm, ⟨rfl, by omega, ⟨fun hp => hr.adr (by omega), fun k hk => ?_, fun k hk => ?_, fun hp => hr.lt (by omega)⟩⟩⟩
  · have := hr.cell k (by omega) 0 (.string l[k].1) (by rw [a2 k hk (by omega) (by omega)]; rfl)
    simpa using this
  · exact ⟨vs[k], hr.cell k (by omega) 1 vs[k] (by rw [a2 k hk (by omega) (by omega)]; rfl), (h3 k hk (by omega)).toR⟩
theorem LabV.rsz {w : World} {S : Nat → Prop} {v : Value} {l : List Po} (h : LabV w S v l) : ∀ p ∈ l, ∀ s ∈ p.2, s.size ≤ maxLen := by
  obtain ⟨⟨vs, h1, _, h3⟩, h4⟩ := h
  intro p hp s hs
  obtain ⟨i, hi, rfl⟩ := List.mem_iff_getElem.1 hp
  exact (h3 i hi (by omega)).sz s hs
theorem printE_cases (l : List Po) : (printE l = 0 ∧ l.length ≤ 200 ∧ ∀ p ∈ l, longB p = false) ∨ printE l = 2 := by
  by_cases h : 200 < l.length ∨ l.any longB = true
  · exact .inr (by unfold printE; rw [if_pos h])
  · refine .inl ⟨by unfold printE; rw [if_neg h], by omega, fun p hp => ?_⟩
    have : ¬ l.any longB = true := fun hh => h (.inr hh)
    cases hl : longB p with
    | false => rfl
    | true => exact absurd (List.any_eq_true.2 ⟨p, hp, hl⟩) this
set_option maxRecDepth 100000 in
set_option maxHeartbeats 1000000 in
theorem labFC {w : World} {S : Nat → Prop} {v : Value} {l : List Po} (h : LabV w S v l) :
    Calls Tryz.prog 46 #[v] w fun x w' => x = .returned (.bool (Par.labOK l)) ∧ Below w.heap.size w w' := by
  obtain ⟨ao, b, off, c, rfl, hc, hm, hp⟩ := h.toP
  have hpr := printC ao b off l.length c l w hp
  unfold maxLen at hm
  rcases printE_cases l with ⟨e0, h200, hl⟩ | e2
  · rw [e0] at hpr
    have HCF : Hid (∀ W, Below w.heap.size w W → Calls Tryz.prog 73 #[.slice ao l.length c, .func (.func 74) #[] #[]] W fun x w' => x = .returned (.bool (l.any Par.polBad)) ∧ Below W.heap.size W w') := fun W hW =>
      containsFuncP 74 #[] (enters_of Tryz.func74 (by kernel_rfl) rfl) Par.polBad ao b off l.length c l W rfl (by omega) (hp.pols.later hW) (fun W' p v' hpm hv' _ => lab1 p v' W' hv' (short_of (hl p hpm)).1 (h.sz p hpm) (h.rsz p hpm))
    have HE : Hid (Par.labOK l = !l.any Par.polBad) := by show _ = _; unfold Par.labOK; simp [e0]
    rw [HE.out]
    clear HE e0 hl hp h
    go_enter Tryz.func46, Tryz.ntmps46
    go_wp2_with fail
    refine hpr.mono ?_
    rintro x w1 ⟨rfl, hb1⟩
    have hcf := HCF.out w1 hb1
    go_wp2_with fail
    refine hcf.mono ?_
    rintro x w2 ⟨rfl, hb2⟩
    go_wp2
    go_ret
    exact ⟨rfl, hb1.trans (hb2.mono hb1.size)⟩
  · rw [e2] at hpr
    have HE : Hid (Par.labOK l = false) := by show _ = _; unfold Par.labOK; simp [e2]
    rw [HE.out]
    clear HE e2 hp h
    go_enter Tryz.func46, Tryz.ntmps46
    go_wp2_with fail
    refine hpr.mono ?_
    rintro x w1 ⟨rfl, hb1⟩
    go_wp2
    go_ret
    exact ⟨rfl, hb1⟩
end Go.Proofs.YtikejmokejghcaaGreatDoor
