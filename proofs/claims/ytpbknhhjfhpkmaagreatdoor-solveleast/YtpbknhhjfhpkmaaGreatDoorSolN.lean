/- What goes along ways by bits, in plain words: how many policies a set has, what may go where, the rounds. -/
import Derived.Test.YtpbknhhjfhpkmaaGreatDoorGaBit
import Derived.Test.YtpbknhhjfhpkmaaGreatDoorGaSolP
namespace Go.Proofs.YtpbknhhjfhpkmaaGreatDoor
open Sol (plus lessS labS names grp IsSet IsStrike IsLets Acting go fs putF Has Bnd)

/- No policy names its owner; owners and readers are among the first n. -/
def Fit (n : Nat) (s : Nat → Nat) : Prop := ∀ o g, (s o).testBit g = true → o < n ∧ g < 2 ^ n ∧ g.testBit o = false
theorem Fit.none (n : Nat) : Fit n (fun _ => 0) := fun o g h => by simp at h
theorem Fit.plus {n : Nat} {s t : Nat → Nat} (h : Fit n s) (k : Fit n t) : Fit n (plus s t) := fun o g hb => by
  unfold Sol.plus at hb
  rw [Nat.testBit_or, Bool.or_eq_true] at hb
  exact hb.elim (h o g) (k o g)
theorem Fit.less {n : Nat} {s : Nat → Nat} (h : Fit n s) (free : Nat) : Fit n (lessS s free) := fun o g hb => by
  unfold Sol.lessS at hb
  split at hb
  · simp at hb
  · exact h o g hb
theorem half_bits : ∀ o, o < 6 → ((List.range 64).filter fun g => !g.testBit o).length = 32 := by decide
theorem polsAt_len (s : Nat → Nat) (o : Nat) (h : o < 6) : (polsAt s o h).length = (bitsOf (s o)).length := by simp [polsAt]
theorem pols_len {n : Nat} {s : Nat → Nat} (h : Fit n s) : ∀ k, (polsF s k).length ≤ 32 * k
  | 0 => by simp [polsF]
  | k + 1 => by
    have ih := pols_len h k
    rw [polsF, List.length_append]
    by_cases hk : k < 6
    · rw [dif_pos hk, polsAt_len]
      have : (bitsOf (s k)).length ≤ 32 := by
        rw [← half_bits k hk]
        exact Sol.filter_len_mono fun g _ hg => by rw [(h k g hg).2.2]; rfl
      omega
    · rw [dif_neg hk]
      simp only [List.length_nil]
      omega
theorem pols_few {n : Nat} {s : Nat → Nat} (h : Fit n s) : (polsF s 6).length ≤ 192 := pols_len h 6

/- Does the one policy cover the other? -/
def covB (A : Nat → Nat) (L : Nat → Nat → Nat) (p q : PB) : Bool := (A p.1.1).testBit q.1.1 && decide (strike q.1.2 (L p.1.1 p.1.2) = 0)
def coveredF (A : Nat → Nat) (L : Nat → Nat → Nat) (p : PB) (b : Nat → Nat) : Bool := (polsF b 6).any (covB A L p)
def flowsF (A : Nat → Nat) (L : Nat → Nat → Nat) (a b : Nat → Nat) : Bool := (polsF a 6).all fun p => coveredF A L p b
theorem strike_zero {a b : Nat} : strike a b = 0 ↔ ∀ j, a.testBit j = true → b.testBit j = true := by
  constructor
  · intro h j hj
    have := strike_bit a b j
    rw [h, Nat.zero_testBit, hj, Bool.true_and] at this
    cases hb : b.testBit j with
    | true => rfl
    | false => rw [hb] at this; cases this
  · intro h
    apply Nat.eq_of_testBit_eq
    intro j
    rw [strike_bit, Nat.zero_testBit]
    cases ha : a.testBit j with
    | true => rw [h j ha]; rfl
    | false => rfl
theorem flowsF_go {ls : List ByteArray} {ps : List (ByteArray × ByteArray)} {A : Nat → Nat} {L : Nat → Nat → Nat} {a b : Nat → Nat} (hn : ls.Nodup) (h6 : ls.length ≤ 6) (hA : Acting ls ps A) (hL : ∀ o g, o < ls.length → g < 2 ^ ls.length → IsLets ls A o g (L o g)) (ha : Fit ls.length a) (hb : Fit ls.length b) :
    flowsF A L a b = true ↔ go ps (labS ls a) (labS ls b) := by
  have h64 : 2 ^ ls.length ≤ 64 := Nat.pow_le_pow_right (n := 2) (by omega) h6
  unfold flowsF coveredF
  rw [List.all_eq_true]
  constructor
  · rintro h q ⟨o, ho, g, hg, rfl⟩
    obtain ⟨_, hg2, _⟩ := ha o g hg
    have := h ⟨(o, g), by omega, by omega⟩ (polsF_mem.2 ⟨by show o < 6; omega, hg⟩)
    obtain ⟨⟨⟨o', g'⟩, p1, p2⟩, hq, hc⟩ := List.any_eq_true.1 this
    obtain ⟨_, hq2⟩ := polsF_mem.1 hq
    obtain ⟨f1, f2, _⟩ := hb o' g' hq2
    unfold covB at hc
    rw [Bool.and_eq_true, decide_eq_true_eq] at hc
    exact ⟨(ls[o'], names ls g'), ⟨o', f1, g', hq2, rfl⟩, (Sol.covers_bit hn hA ho (hL o g ho hg2) f1 f2).1 ⟨hc.1, strike_zero.1 hc.2⟩⟩
  · rintro h ⟨⟨o, g⟩, p1, p2⟩ hp
    obtain ⟨_, hp2⟩ := polsF_mem.1 hp
    obtain ⟨f1, f2, _⟩ := ha o g hp2
    obtain ⟨_, ⟨o', ho', g', hg', rfl⟩, hc⟩ := h (ls[o], names ls g) ⟨o, f1, g, hp2, rfl⟩
    obtain ⟨_, f4, _⟩ := hb o' g' hg'
    obtain ⟨c1, c2⟩ := (Sol.covers_bit hn hA f1 (hL o g f1 f2) ho' f4).2 hc
    refine List.any_eq_true.2 ⟨⟨(o', g'), by omega, by omega⟩, polsF_mem.2 ⟨by show o' < 6; omega, hg'⟩, ?_⟩
    unfold covB
    rw [Bool.and_eq_true, decide_eq_true_eq]
    exact ⟨c1, strike_zero.2 c2⟩
theorem lt_of_bits {g n : Nat} (h : ∀ i, g.testBit i = true → i < n) : g < 2 ^ n := by
  apply Nat.lt_pow_two_of_testBit
  intro i hi
  cases hb : g.testBit i with
  | false => rfl
  | true => have := h i hb; omega
theorem set_fit {ls : List ByteArray} {x : List (ByteArray × List ByteArray)} {s : Nat → Nat} (hs : IsSet ls x s) (hx : Lab.OfL ls x) : Fit ls.length s := fun o g hb => by
  obtain ⟨p, hp, h1, h2⟩ := (hs o g).1 hb
  refine ⟨by rw [← h1]; exact Act.pos_lt (hx p hp).1, lt_of_bits fun i hi => ?_, ?_⟩
  · obtain ⟨r, hr, h3⟩ := (Sol.grp_bit ls i p.2).1 ((h2 i).1 hi).1
    rw [← h3]; exact Act.pos_lt ((hx p hp).2 r hr)
  · cases hg : g.testBit o with
    | false => rfl
    | true => exact absurd rfl ((h2 o).1 hg).2
/- The policies of a set as a label. -/
def labF (ls : List ByteArray) (s : Nat → Nat) : List (ByteArray × List ByteArray) := (polsF s 6).map fun p => (ls.getD p.1.1 ⟨#[]⟩, names ls p.1.2)
theorem labF_mem {ls : List ByteArray} {s : Nat → Nat} (h6 : ls.length ≤ 6) (h : Fit ls.length s) (p : ByteArray × List ByteArray) : p ∈ labF ls s ↔ labS ls s p := by
  have h64 : 2 ^ ls.length ≤ 64 := Nat.pow_le_pow_right (n := 2) (by omega) h6
  unfold labF
  rw [List.mem_map]
  constructor
  · rintro ⟨⟨⟨o, g⟩, p1, p2⟩, hp, rfl⟩
    obtain ⟨_, hp2⟩ := polsF_mem.1 hp
    obtain ⟨f1, _, _⟩ := h o g hp2
    exact ⟨o, f1, g, hp2, by simp [List.getD, f1]⟩
  · rintro ⟨o, ho, g, hg, rfl⟩
    obtain ⟨_, f2, _⟩ := h o g hg
    exact ⟨⟨(o, g), by omega, by omega⟩, polsF_mem.2 ⟨by show o < 6; omega, hg⟩, by simp [List.getD, ho]⟩
theorem labF_len {ls : List ByteArray} {s : Nat → Nat} (h : Fit ls.length s) : (labF ls s).length ≤ 192 := by
  unfold labF
  rw [List.length_map]
  exact pols_few h
theorem labF_of {ls : List ByteArray} {s : Nat → Nat} (h6 : ls.length ≤ 6) (h : Fit ls.length s) : Lab.OfL ls (labF ls s) := by
  intro p hp
  obtain ⟨o, ho, g, _, rfl⟩ := (labF_mem h6 h p).1 hp
  exact ⟨List.getElem_mem ho, fun r hr => (Sol.names_mem.1 hr).1⟩

/- A way: from where, what is told, to where, whose policies are left out. -/
structure WayV where
  src : List Nat
  told : Nat → Nat
  dst : Int
  into : Nat → Nat
  free : Nat
def plusAll (f : Nat → Nat → Nat) (s : Nat → Nat) (l : List Nat) : Nat → Nat := l.foldl (fun s i => plus s (f i)) s
def bringsV (f : Nat → Nat → Nat) (v : WayV) : Nat → Nat := lessS (plusAll f v.told v.src) v.free
def goalV (f : Nat → Nat → Nat) (v : WayV) : Nat → Nat := if v.dst = -1 then v.into else f v.dst.toNat
theorem plusAll_mem {ls : List ByteArray} {f : Nat → Nat → Nat} {p : ByteArray × List ByteArray} : ∀ {l : List Nat} {s : Nat → Nat}, labS ls (plusAll f s l) p ↔ labS ls s p ∨ ∃ i ∈ l, fs ls f i p
  | [], s => by simp [plusAll]
  | a :: r, s => by
    show labS ls (plusAll f (plus s (f a)) r) p ↔ _
    rw [plusAll_mem, Sol.labS_plus]
    constructor
    · rintro ((h | h) | ⟨i, hi, h⟩)
      · exact .inl h
      · exact .inr ⟨a, List.mem_cons_self, h⟩
      · exact .inr ⟨i, List.mem_cons_of_mem _ hi, h⟩
    · rintro (h | ⟨i, hi, h⟩)
      · exact .inl (.inl h)
      · rcases List.mem_cons.1 hi with rfl | hi
        · exact .inl (.inr h)
        · exact .inr ⟨i, hi, h⟩
theorem plusAll_fit {n : Nat} {f : Nat → Nat → Nat} (hf : ∀ k, Fit n (f k)) : ∀ {l : List Nat} {s : Nat → Nat}, Fit n s → Fit n (plusAll f s l)
  | [], _, h => h
  | a :: r, _, h => plusAll_fit (l := r) hf (Fit.plus h (hf a))
/- A way stands for a bound. -/
structure IsWay (ls : List ByteArray) (ps : List (ByteArray × ByteArray)) (b : Bnd ByteArray) (v : WayV) : Prop where
  src : ∀ i, i ∈ v.src ↔ i ∈ b.src
  told : IsSet ls b.lab v.told
  dst : v.dst = b.dst
  into : IsSet ls b.into v.into
  free : ∀ o (h : o < ls.length), v.free.testBit o = true ↔ ∃ s ∈ b.by_, Act.Way ps s ls[o]
  ofL : Lab.OfL ls b.lab
  ofI : Lab.OfL ls b.into
theorem IsWay.brings {ls : List ByteArray} {ps : List (ByteArray × ByteArray)} {b : Bnd ByteArray} {v : WayV} (h : IsWay ls ps b v) (f : Nat → Nat → Nat) : go ps (labS ls (bringsV f v)) (Sol.brings ps b (fs ls f)) ∧ go ps (Sol.brings ps b (fs ls f)) (labS ls (bringsV f v)) := by
  obtain ⟨h1, h2⟩ := Sol.set_same ps h.ofL h.told
  refine Sol.bits_brings h1 h2 (fun p => ?_) h.free
  rw [plusAll_mem]
  constructor
  · rintro (g | ⟨i, hi, g⟩)
    · exact .inl g
    · exact .inr ⟨i, (h.src i).1 hi, g⟩
  · rintro (g | ⟨i, hi, g⟩)
    · exact .inl g
    · exact .inr ⟨i, (h.src i).2 hi, g⟩
theorem IsWay.goal {ls : List ByteArray} {ps : List (ByteArray × ByteArray)} {b : Bnd ByteArray} {v : WayV} (h : IsWay ls ps b v) (f : Nat → Nat → Nat) : go ps (labS ls (goalV f v)) (Sol.goal b (fs ls f)) ∧ go ps (Sol.goal b (fs ls f)) (labS ls (goalV f v)) := by
  unfold goalV Sol.goal
  rw [h.dst]
  split
  · obtain ⟨h1, h2⟩ := Sol.set_same ps h.ofI h.into
    exact ⟨h2, h1⟩
  · exact ⟨Sol.go_refl ps _, Sol.go_refl ps _⟩
theorem IsWay.fit {ls : List ByteArray} {ps : List (ByteArray × ByteArray)} {b : Bnd ByteArray} {v : WayV} (h : IsWay ls ps b v) {f : Nat → Nat → Nat} (hf : ∀ k, Fit ls.length (f k)) : Fit ls.length (bringsV f v) := Fit.less (plusAll_fit hf (set_fit h.told h.ofL)) _
theorem IsWay.fitG {ls : List ByteArray} {ps : List (ByteArray × ByteArray)} {b : Bnd ByteArray} {v : WayV} (h : IsWay ls ps b v) {f : Nat → Nat → Nat} (hf : ∀ k, Fit ls.length (f k)) : Fit ls.length (goalV f v) := by
  unfold goalV
  split
  · exact set_fit h.into h.ofI
  · exact hf _
/- Does a bound hold, by bits? -/
theorem IsWay.holds {ls : List ByteArray} {ps : List (ByteArray × ByteArray)} {A : Nat → Nat} {L : Nat → Nat → Nat} {b : Bnd ByteArray} {v : WayV} (h : IsWay ls ps b v) (hn : ls.Nodup) (h6 : ls.length ≤ 6) (hA : Acting ls ps A) (hL : ∀ o g, o < ls.length → g < 2 ^ ls.length → IsLets ls A o g (L o g)) {f : Nat → Nat → Nat} (hf : ∀ k, Fit ls.length (f k)) :
    flowsF A L (bringsV f v) (goalV f v) = true ↔ Sol.holds ps b (fs ls f) := by
  rw [flowsF_go hn h6 hA hL (h.fit hf) (h.fitG hf)]
  exact ⟨fun g => Sol.go_trans (Sol.go_trans (h.brings f).2 g) (h.goal f).1, fun g => Sol.go_trans (Sol.go_trans (h.brings f).1 g) (h.goal f).2⟩

/- What the rounds come by: from nothing, by joining in what a way brings. -/
inductive Come (l : List WayV) : (Nat → Nat → Nat) → Prop
  | none : Come l (fun _ _ => 0)
  | put (f : Nat → Nat → Nat) (v : WayV) : Come l f → v ∈ l → v.dst ≠ -1 → Come l (putF f v.dst.toNat (plus (bringsV f v) (f v.dst.toNat)))
def Ways (ls : List ByteArray) (ps : List (ByteArray × ByteArray)) (l : List (Bnd ByteArray)) (vs : List WayV) : Prop := vs.length = l.length ∧ ∀ k (h : k < l.length) (h' : k < vs.length), IsWay ls ps l[k] vs[k]
theorem Ways.has {ls : List ByteArray} {ps : List (ByteArray × ByteArray)} {l : List (Bnd ByteArray)} {vs : List WayV} (h : Ways ls ps l vs) {v : WayV} (hv : v ∈ vs) : ∃ b ∈ l, IsWay ls ps b v := by
  obtain ⟨k, hk, rfl⟩ := List.mem_iff_getElem.1 hv
  have hk' : k < l.length := by rw [← h.1]; exact hk
  exact ⟨l[k], List.getElem_mem _, h.2 k hk' hk⟩
theorem Ways.back {ls : List ByteArray} {ps : List (ByteArray × ByteArray)} {l : List (Bnd ByteArray)} {vs : List WayV} (h : Ways ls ps l vs) {b : Bnd ByteArray} (hb : b ∈ l) : ∃ v ∈ vs, IsWay ls ps b v := by
  obtain ⟨k, hk, rfl⟩ := List.mem_iff_getElem.1 hb
  have hk' : k < vs.length := by rw [h.1]; exact hk
  exact ⟨vs[k], List.getElem_mem _, h.2 k hk hk'⟩
theorem Come.fit {ls : List ByteArray} {ps : List (ByteArray × ByteArray)} {l : List (Bnd ByteArray)} {vs : List WayV} (h : Ways ls ps l vs) {f : Nat → Nat → Nat} (hc : Come vs f) : ∀ k, Fit ls.length (f k) := by
  induction hc with
  | none => exact fun _ => Fit.none _
  | put f v _ hv _ ih =>
    obtain ⟨b, _, hw⟩ := h.has hv
    intro k
    unfold Sol.putF
    split
    · exact Fit.plus (hw.fit ih) (ih _)
    · exact ih k
theorem Come.low {ls : List ByteArray} {ps : List (ByteArray × ByteArray)} {l : List (Bnd ByteArray)} {vs : List WayV} (h : Ways ls ps l vs) {f : Nat → Nat → Nat} (hc : Come vs f) : Sol.Below ps l (fs ls f) := by
  induction hc with
  | none =>
    intro h' _ k q hq
    exact absurd hq (Sol.labS_none ls q)
  | put f v _ hv hd ih =>
    obtain ⟨b, hb, hw⟩ := h.has hv
    rw [hw.dst] at hd ⊢
    exact Sol.bits_put hb hd ih (hw.brings f).1
/- Where nothing is new to any way the sets are the least ones. -/
def Stable (vs : List WayV) (f : Nat → Nat → Nat) : Prop := ∀ v ∈ vs, v.dst ≠ -1 → ∀ o, o < 6 → plus (bringsV f v) (f v.dst.toNat) o = f v.dst.toNat o
theorem come_least {ls : List ByteArray} {ps : List (ByteArray × ByteArray)} {l : List (Bnd ByteArray)} {vs : List WayV} (h : Ways ls ps l vs) (h6 : ls.length ≤ 6) {f : Nat → Nat → Nat} (hc : Come vs f) (hs : Stable vs f) : Sol.Least ps l (fs ls f) := by
  refine Sol.least_of (hc.low h) fun b hb hd => ?_
  obtain ⟨v, hv, hw⟩ := h.back hb
  have hs' := hs v hv (by rw [hw.dst]; exact hd)
  rw [hw.dst] at hs'
  exact Sol.bits_holds (hw.brings f).2 fun o ho => hs' o (by omega)
end Go.Proofs.YtpbknhhjfhpkmaaGreatDoor
