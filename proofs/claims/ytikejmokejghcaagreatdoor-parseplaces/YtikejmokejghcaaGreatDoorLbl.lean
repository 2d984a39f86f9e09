/- Contracts of (*reader).policy and (*reader).label. -/
import Derived.Test.YtikejmokejghcaaGreatDoorRlS
import Derived.Test.YtikejmokejghcaaGreatDoorRlP
namespace Go.Proofs.YtikejmokejghcaaGreatDoor
open Go.RowKit
open Par (Tok Po Tr nx atP isT ba Res)

theorem Post.imp {α : Type} {w : World} {rb e : Nat} {bl pr : Int} {res : Res α} {V V' : World → α → Value → Prop} {x : Ending} {w' : World} (h : Post w rb e bl pr res V x w') (k : ∀ a u, V w' a u → V' w' a u) : Post w rb e bl pr res V' x w' := by
  obtain ⟨hg, ⟨a, r, h1, u, v', h2, h3, h4⟩ | h⟩ := h
  · exact ⟨hg, .inl ⟨a, r, h1, u, v', h2, k a u h3, h4⟩⟩
  · exact ⟨hg, .inr h⟩
theorem blk2 {w : World} {b : Nat} {x y : Value} {e : TypeId} (h : w.heap[b]? = some (.cells #[x, y] e (0, 0))) :
    (w.cell? ⟨b, 0, none⟩ = some x ∧ w.cell? ⟨b, 1, none⟩ = some y) ∧ w.frozen? ⟨b, 0, none⟩ = false ∧ w.frozen? ⟨b, 1, none⟩ = false := by
  refine ⟨⟨?_, ?_⟩, ?_, ?_⟩ <;> simp [World.cell?, World.frozen?, h]
theorem nameS {w : World} {rb e : Nat} {bl pr : Int} {ts : List Tok} {v : Value} (h : Rd w rb e bl pr ts v) :
    Calls Tryz.prog 66 (#[.pointer (some ⟨rb, 0, none⟩)] ++ #[]) w (Post w rb e bl pr (Par.nameR e ts) (VS w.heap.size)) :=
  (rName_any h).mono fun _ _ hp => hp.imp fun a _ hu => ⟨a, hu.1, rfl, hu.2⟩
set_option maxRecDepth 100000 in
set_option maxHeartbeats 4000000 in
theorem policyC {w : World} {rb e : Nat} {bl pr : Int} {ts : List Tok} {v : Value} (h : Rd w rb e bl pr ts v) :
    Calls Tryz.prog 87 #[.pointer (some ⟨rb, 0, none⟩)] w (Post w rb e bl pr (Par.policyR e ts) (VP w.heap.size)) := by
  have hmf : ∀ (fn : Fn) (first cap : Array Value) (w : World), (Instr.makeFunc fn first cap).run Tryz.prog w = .ok (.func fn first cap) w := fun _ _ _ _ => rfl
  have f0 := fTok0
  have hrl := h.lt
  obtain ⟨w0, hw0⟩ : ∃ w0, w0 = w.alloc (.cells #[.string ⟨#[]⟩, .slice none 0 0] 112) := ⟨_, rfl⟩
  have hbel : Below w.heap.size w w0 := by rw [hw0]; exact (Below.refl _ _).alloc (Nat.le_refl _) _
  have hs0 : w0.heap.size = w.heap.size + 1 := by rw [hw0]; simp
  have hres : w0.heap[w.heap.size]? = some (.cells #[.string ⟨#[]⟩, .slice none 0 0] 112 (0, 0)) := by rw [hw0]; exact heap_at_alloc _ _ _ rfl
  have H : Hid (Rd w0 rb e bl pr ts v) := h.keeps hbel h.lt
  have HE : Hid (Par.policyR e ts = (Par.nameR e ts).bind fun o r => (Par.must e [58] r).bind fun _ r2 => if (nx r2).1 = 1 then (Par.listR e [44] 6 (Par.nameR e) r2).bind fun l r3 => .ok (o, l) r3 else .ok (o, []) r2) := rfl
  clear h
  go_enter Tryz.func87, Tryz.ntmps87
  go_wp2_with fail
  rw [← hw0]
  refine (rName_any H.out).mono ?_
  rintro x w1 ⟨hg1, ⟨o, r1, hr1, u1, v1, rfl, ⟨rfl, hoz⟩, h1⟩ | ⟨c1, q1, hr1, rfl, r1, v1, h1⟩⟩
  · have HE1 : Hid (Par.policyR e ts = (Par.must e [58] r1).bind fun _ r2 => if (nx r2).1 = 1 then (Par.listR e [44] 6 (Par.nameR e) r2).bind fun l r3 => .ok (o, l) r3 else .ok (o, []) r2) := by show _ = _; rw [HE.out, hr1]; rfl
    have HG1 : Hid (w.grownBy w1 (some rb)) := grown_trans (grown_of_below _ hbel) hg1
    have hz1 := hg1.size
    have hres1 : w1.heap[w.heap.size]? = some (.cells #[.string ⟨#[]⟩, .slice none 0 0] 112 (0, 0)) := (hg1.block _ (by omega) (by simp; omega)).trans hres
    obtain ⟨w1', hw1'⟩ : ∃ w1', w1' = w1.alloc (.cells #[.string o, .slice none 0 0] 112) := ⟨_, rfl⟩
    have hbel1 : Below w1.heap.size w1 w1' := by rw [hw1']; exact (Below.refl _ _).alloc (Nat.le_refl _) _
    have hs1 : w1'.heap.size = w1.heap.size + 1 := by rw [hw1']; simp
    have hp1 : w1'.heap[w1.heap.size]? = some (.cells #[.string o, .slice none 0 0] 112 (0, 0)) := by rw [hw1']; exact heap_at_alloc _ _ _ rfl
    have H1 : Hid (Rd w1' rb e bl pr r1 v1) := h1.keeps hbel1 h1.lt
    have hres1' : w1'.heap[w.heap.size]? = some (.cells #[.string ⟨#[]⟩, .slice none 0 0] 112 (0, 0)) := (hbel1.block _ (by omega)).trans hres1
    have HR1 : Hid (w1'.heap[w.heap.size]? = some (.cells #[.string ⟨#[]⟩, .slice none 0 0] 112 (0, 0))) := hres1'
    have HP1 : Hid (w1'.heap[w1.heap.size]? = some (.cells #[.string o, .slice none 0 0] 112 (0, 0))) := hp1
    have HG1' : Hid (w.grownBy w1' (some rb)) := grown_below HG1.out hbel1
    clear hg1 h1 hr1 hres1 hres1' hp1 hbel1
    go_wp2_with fail
    rw [← hw1']
    refine (rMust_any _ (by decide) H1.out).mono ?_
    rintro x w2 ⟨hg2, ⟨a2, r2, hr2, u2, v2, rfl, rfl, h2⟩ | ⟨c2, q2, hr2, rfl, r2, v2, h2⟩⟩
    · have HE2 : Hid (Par.policyR e ts = if (nx r2).1 = 1 then (Par.listR e [44] 6 (Par.nameR e) r2).bind fun l r3 => .ok (o, l) r3 else .ok (o, []) r2) := by show _ = _; rw [HE1.out, show ([58] : List UInt8) = (⟨#[58]⟩ : ByteArray).data.toList from rfl, hr2]; rfl
      have HG2 : Hid (w.grownBy w2 (some rb)) := grown_trans HG1'.out hg2
      have hz2 := hg2.size
      have HR2 : Hid (w2.heap[w.heap.size]? = some (.cells #[.string ⟨#[]⟩, .slice none 0 0] 112 (0, 0))) := (hg2.block _ (by omega) (by simp; omega)).trans HR1.out
      have HP2 : Hid (w2.heap[w1.heap.size]? = some (.cells #[.string o, .slice none 0 0] 112 (0, 0))) := (hg2.block _ (by omega) (by simp; omega)).trans HP1.out
      have H2 : Hid (Rd w2 rb e bl pr r2 v2) := h2
      clear hg2 h2 hr2
      go_wp2_with fail
      refine (rNext_any H2.out).mono ?_
      rintro x w3 ⟨rfl, hb3⟩
      have hz3 := hb3.size
      have HG3 : Hid (w.grownBy w3 (some rb)) := grown_below HG2.out hb3
      have hres3 : w3.heap[w.heap.size]? = some (.cells #[.string ⟨#[]⟩, .slice none 0 0] 112 (0, 0)) := (hb3.block _ (by omega)).trans HR2.out
      have hp3 : w3.heap[w1.heap.size]? = some (.cells #[.string o, .slice none 0 0] 112 (0, 0)) := (hb3.block _ (by omega)).trans HP2.out
      have H3 : Hid (Rd w3 rb e bl pr r2 v2) := H2.out.keeps hb3 H2.out.lt
      clear hb3
      by_cases hk : (nx r2).1 = 1
      · have hkb : ((nx r2).1 == 1) = true := by simp [hk]
        have HE3 : Hid (Par.policyR e ts = (Par.listR e [44] 6 (Par.nameR e) r2).bind fun l r3 => .ok (o, l) r3) := by show _ = _; rw [HE2.out, if_pos hk]
        have HL := listS H3.out ⟨#[44]⟩ (by decide) 6 (by omega) (by omega) 66 #[.pointer (some ⟨rb, 0, none⟩)] #[] (enters_of Tryz.func66 (by kernel_rfl) rfl) (Par.nameR e) (fun w' ts' v' _ hr => nameS hr)
        have HR3 : Hid (w3.heap[w.heap.size]? = some (.cells #[.string ⟨#[]⟩, .slice none 0 0] 112 (0, 0))) := hres3
        have HP3 : Hid (w3.heap[w1.heap.size]? = some (.cells #[.string o, .slice none 0 0] 112 (0, 0))) := hp3
        clear hres3 hp3 hk
        go_wp2_with fail
        refine HL.mono ?_
        rintro x w4 ⟨hg4, ⟨l, r4, hr4, u4, v4, rfl, ho4, h4⟩ | ⟨c4, q4, hr4, rfl, r4, v4, h4⟩⟩
        · obtain ⟨ro, rc, rfl⟩ := ho4.slice
          have HF : Hid (Par.policyR e ts = .ok (o, l) r4) := by show _ = _; rw [HE3.out, show ([44] : List UInt8) = (⟨#[44]⟩ : ByteArray).data.toList from rfl, hr4]; rfl
          have hz4 := hg4.size
          have hres4 : w4.heap[w.heap.size]? = some (.cells #[.string ⟨#[]⟩, .slice none 0 0] 112 (0, 0)) := (hg4.block _ (by omega) (by simp; omega)).trans HR3.out
          have hp4 : w4.heap[w1.heap.size]? = some (.cells #[.string o, .slice none 0 0] 112 (0, 0)) := (hg4.block _ (by omega) (by simp; omega)).trans HP3.out
          obtain ⟨⟨e0, e1⟩, g0, g1⟩ := blk2 hres4
          obtain ⟨⟨i0, i1⟩, j0, j1⟩ := blk2 hp4
          obtain ⟨wf, hwf⟩ : ∃ wf, wf = ((w4.setCell ⟨w1.heap.size, 1, none⟩ (.slice ro l.length rc)).setCell ⟨w.heap.size, 0, none⟩ (.string o)).setCell ⟨w.heap.size, 1, none⟩ (.slice ro l.length rc) := ⟨_, rfl⟩
          have hkb4 : ∀ k, k ≠ w1.heap.size → k ≠ w.heap.size → wf.heap[k]? = w4.heap[k]? := fun k h1 h2 => by rw [hwf, Below.heap_setCell _ _ _ _ h2, Below.heap_setCell _ _ _ _ h2, Below.heap_setCell _ _ _ _ h1]
          have hb4 : Below w.heap.size w4 wf := ⟨by rw [hwf]; rfl, by rw [hwf]; rfl, by rw [hwf]; rfl, by rw [hwf]; simp [World.setCell], fun k hk => hkb4 k (by omega) (by omega)⟩
          have HV : Hid (ElP wf (fun b => w.heap.size ≤ b) (o, l) [.string o, .slice ro l.length rc]) := ⟨_, rfl, hoz, (ho4.strs.keeps ⟨hb4.size, fun b hb _ => hkb4 b (by omega) (by omega)⟩).mono fun b hb _ => by omega⟩
          have HGF : Hid (w.grownBy wf (some rb)) := ((Fr.of_grown (grown_trans HG3.out hg4) (Nat.le_refl _)).trans (Fr.of_below hb4)).grown
          have HRF : Hid (Rd wf rb e bl pr r4 v4) := h4.keeps hb4 (by omega)
          have HWF : Hid (wf = ((w4.setCell ⟨w1.heap.size, 1, none⟩ (.slice ro l.length rc)).setCell ⟨w.heap.size, 0, none⟩ (.string o)).setCell ⟨w.heap.size, 1, none⟩ (.slice ro l.length rc)) := hwf
          have hne : ¬ w1.heap.size = w.heap.size := by omega
          have hne' : ¬ w.heap.size = w1.heap.size := by omega
          clear hg4 ho4 h4 hr4 hres4 hp4 hkb4 hb4 hwf HL
          go_wp2
          refine bodyPost_ret (v := .agg #[.string o, .slice ro l.length rc]) (by simp [results, Tryz.results87, go_sem, e0, e1]) rfl ?_
          rw [← HWF.out]
          exact ⟨HGF.out, .inl ⟨_, _, HF.out, _, _, rfl, ⟨_, _, _, _, rfl, HV.out⟩, HRF.out⟩⟩
        · have HF : Par.policyR e ts = .no c4 q4 := by rw [HE3.out, show ([44] : List UInt8) = (⟨#[44]⟩ : ByteArray).data.toList from rfl, hr4]; rfl
          exact ⟨rfl, grown_trans HG3.out hg4, .inr ⟨_, _, HF, rfl, _, _, h4⟩⟩
      · have hkb : ((nx r2).1 == 1) = false := by simp [hk]
        have HF : Hid (Par.policyR e ts = .ok (o, []) r2) := by show _ = _; rw [HE2.out, if_neg hk]
        obtain ⟨⟨e0, e1⟩, g0, g1⟩ := blk2 hres3
        obtain ⟨⟨i0, i1⟩, j0, j1⟩ := blk2 hp3
        obtain ⟨wf, hwf⟩ : ∃ wf, wf = (w3.setCell ⟨w.heap.size, 0, none⟩ (.string o)).setCell ⟨w.heap.size, 1, none⟩ (.slice none 0 0) := ⟨_, rfl⟩
        have hb3 : Below w.heap.size w3 wf := ⟨by rw [hwf]; rfl, by rw [hwf]; rfl, by rw [hwf]; rfl, by rw [hwf]; simp [World.setCell], fun k hk => by rw [hwf, Below.heap_setCell _ _ _ _ (by show k ≠ w.heap.size; omega), Below.heap_setCell _ _ _ _ (by show k ≠ w.heap.size; omega)]⟩
        have HV : Hid (ElP wf (fun b => w.heap.size ≤ b) (o, []) [.string o, .slice none 0 0]) := ⟨_, rfl, hoz, ⟨RowV.none _ _ _ _, fun s hs => by cases hs⟩⟩
        have HGF : Hid (w.grownBy wf (some rb)) := ((Fr.of_grown HG3.out (Nat.le_refl _)).trans (Fr.of_below hb3)).grown
        have HRF : Hid (Rd wf rb e bl pr r2 v2) := H3.out.keeps hb3 (by omega)
        have HWF : Hid (wf = (w3.setCell ⟨w.heap.size, 0, none⟩ (.string o)).setCell ⟨w.heap.size, 1, none⟩ (.slice none 0 0)) := hwf
        have hne : ¬ w1.heap.size = w.heap.size := by omega
        have hne' : ¬ w.heap.size = w1.heap.size := by omega
        clear hres3 hp3 hb3 hwf hk
        go_wp2
        refine bodyPost_ret (v := .agg #[.string o, .slice none 0 0]) (by simp [results, Tryz.results87, go_sem, e0, e1]) rfl ?_
        rw [← HWF.out]
        exact ⟨HGF.out, .inl ⟨_, _, HF.out, _, _, rfl, ⟨_, _, _, _, rfl, HV.out⟩, HRF.out⟩⟩
    · have HF : Par.policyR e ts = .no c2 q2 := by rw [HE1.out, show ([58] : List UInt8) = (⟨#[58]⟩ : ByteArray).data.toList from rfl, hr2]; rfl
      exact ⟨rfl, grown_trans HG1'.out hg2, .inr ⟨_, _, HF, rfl, _, _, h2⟩⟩
  · have HF : Par.policyR e ts = .no c1 q1 := by rw [HE.out, hr1]; rfl
    exact ⟨rfl, grown_trans (grown_of_below _ hbel) hg1, .inr ⟨_, _, HF, rfl, _, _, h1⟩⟩
theorem policyP {w : World} {rb e : Nat} {bl pr : Int} {ts : List Tok} {v : Value} (h : Rd w rb e bl pr ts v) :
    Calls Tryz.prog 87 (#[.pointer (some ⟨rb, 0, none⟩)] ++ #[]) w (Post w rb e bl pr (Par.policyR e ts) (VP w.heap.size)) := policyC h
def VLab (B : Nat) (w' : World) (a : List Po) (u : Value) : Prop := ∃ (ao : Option Addr) (n c : Nat), u = .slice ao n c ∧ LabV w' (fun b => B ≤ b) u a
set_option maxRecDepth 100000 in
set_option maxHeartbeats 4000000 in
theorem labelC {w : World} {rb e : Nat} {bl pr : Int} {ts : List Tok} {v : Value} (h : Rd w rb e bl pr ts v) :
    Calls Tryz.prog 69 #[.pointer (some ⟨rb, 0, none⟩)] w (Post w rb e bl pr (Par.labelR e ts) (VLab w.heap.size)) := by
  have hmf : ∀ (fn : Fn) (first cap : Array Value) (w : World), (Instr.makeFunc fn first cap).run Tryz.prog w = .ok (.func fn first cap) w := fun _ _ _ _ => rfl
  have HL := enclP h ⟨#[123]⟩ ⟨#[59]⟩ ⟨#[125]⟩ (by decide) (by decide) (by decide) 200 (by omega) (by omega) 87 #[.pointer (some ⟨rb, 0, none⟩)] #[] (enters_of Tryz.func87 (by kernel_rfl) rfl) (Par.policyR e) (fun w' ts' v' _ hr => policyP hr)
  clear h
  go_enter Tryz.func69, Tryz.ntmps69
  go_wp2_with fail
  refine HL.mono ?_
  rintro x w1 ⟨hg1, ⟨l, r1, hr1, u1, v1, rfl, ⟨B, hB, ho1⟩, h1⟩ | ⟨c1, q1, hr1, rfl, r1, v1, h1⟩⟩
  · obtain ⟨ao, c, rfl⟩ := ho1.slice
    have HG : Hid (w.grownBy w1 (some rb)) := hg1
    have HR : Hid (Par.labelR e ts = .ok l r1) := hr1
    have HV : Hid (LabV w1 (fun b => w.heap.size ≤ b) (.slice ao l.length c) l) := ho1.label.mono fun b hb _ => by omega
    have H1 : Hid (Rd w1 rb e bl pr r1 v1) := h1
    clear hg1 hr1 ho1 h1 HL
    go_wp2
    go_ret
    exact ⟨HG.out, .inl ⟨_, _, HR.out, _, _, rfl, ⟨_, _, _, rfl, HV.out⟩, H1.out⟩⟩
  · exact ⟨rfl, hg1, .inr ⟨_, _, hr1, rfl, _, _, h1⟩⟩
end Go.Proofs.YtikejmokejghcaaGreatDoor
