/- tree.writer writes an expression as in plain words. Contract of tree.Text. -/
import Derived.Test.YtcdeicfegfedfaaGreatDoorGaTxD
import Derived.Test.YtcdeicfegfedfaaGreatDoorGaFm
namespace Go.Proofs.YtcdeicfegfedfaaGreatDoor
open Go.RowKit
open Par (Tok Po Tr nx atP isT ba Res)

theorem dataL (l : List UInt8) : (⟨l.toArray⟩ : ByteArray).data.toList = l := by simp
theorem sizeL (l : List UInt8) : (⟨l.toArray⟩ : ByteArray).size = l.length := by simp [ByteArray.size]
theorem join_take {a : List Tr} {m k : Nat} (hk : k < a.length) : Lib.join ((a.take (k + 1)).map (Par.txt m)) [44, 32] = (if k = 0 then [] else Lib.join ((a.take k).map (Par.txt m)) [44, 32] ++ [44, 32]) ++ Par.txt m a[k] := by
  rw [List.take_succ_eq_append_getElem hk, List.map_append, List.map_cons, List.map_nil, join_snoc]
  congr 1
  by_cases h : k = 0
  · subst h; simp
  · rw [if_neg h, if_neg]
    intro e
    have := congrArg List.length e
    rw [List.length_map, List.length_take, List.length_nil] at this
    omega
set_option maxRecDepth 100000 in
set_option maxHeartbeats 8000000 in
theorem expr_step {wq : World} {wb m : Nat} (hI : ItoaC wq) (hlv : LevAt wq wq.heap.size) (ih : ∀ t, Par.formD m t = true → WxC wq wb m t) (t : Tr) (hf : Par.formD (m + 1) t = true) : WxC wq wb (m + 1) t := by
  intro wr l b off cs h hx ht hl
  obtain ⟨k, p, n, ty, s, lb, a⟩ := t
  obtain ⟨h1, h2⟩ := Par.form_parts hf
  have hbs := Par.Bd_succ m
  have hbp := Par.Bd_pos m
  rcases Par.alone_cases h1 with ⟨rfl, hn, rfl⟩ | ⟨rfl, hn, rfl⟩ | ⟨rfl, hal, hv⟩ | ⟨rfl, hal, hv⟩ | ⟨rfl, hn, hal⟩ | ⟨rfl, hn, hal⟩
  · rw [Par.txt1]
    have hnl := (Par.num_len hn).1
    cases ht with
    | @mk _ _ _ _ _ _ _ lv av css hs hlb hr hcl hk =>
    obtain ⟨c0, c1, c2, c3, c4, c5, c6⟩ := (h.ex hx).all
    have hlt := (h.ex hx).lt
    have hnum := numberC hI (h.drewS).bel hn
    obtain ⟨T, hT⟩ : ∃ T, T = Par.numT ty n := ⟨_, rfl⟩
    rw [← hT] at hnum hnl ⊢
    have HNU : Hid (Calls Tryz.prog 111 #[.int .i64 ty, .int .i64 n] wr.drew fun x w' => x = .returned (.string ⟨T.toArray⟩) ∧ Below wr.drew.heap.size wr.drew w') := hnum
    have HS : Hid (WS wq wr wb l) := h
    have HW : Hid (∀ W, WS wq W wb l → Calls Tryz.prog 110 #[.pointer (some ⟨wb, 0, none⟩), .string ⟨T.toArray⟩] W fun e w' => e = .returned (.tuple #[.int .i64 T.length, .nilIface]) ∧ WS wq w' wb (l ++ T)) := fun W hW => by
      have := hW.str ⟨T.toArray⟩ (by rw [sizeL]; omega)
      rw [dataL, sizeL] at this
      exact this.mono fun e w' ⟨e1, e2, _⟩ => ⟨e1, e2⟩
    have HX : Hid (∀ W, WS wq W wb l → W.cell? ⟨b, off + 3, none⟩ = some (.int .i64 ty) ∧ W.cell? ⟨b, off + 2, none⟩ = some (.int .i64 n)) := fun W hW => ⟨(hW.ex hx).all.2.2.2.1, (hW.ex hx).all.2.2.1⟩
    have HX2 : Hid (∀ W, WS wq W wb (l ++ T) → W.cell? ⟨b, off + 3, none⟩ = some (.int .i64 ty) ∧ W.cell? ⟨b, off + 2, none⟩ = some (.int .i64 n)) := fun W hW => ⟨(hW.ex hx).all.2.2.2.1, (hW.ex hx).all.2.2.1⟩
    clear hnum h hx hT hlb hr hcl hk hn h1 h2 hf
    go_enter Tryz.func75, Tryz.ntmps75
    go_wp2
    go_region_held3 (fun w' => w'.cell? ⟨b, off + 3, none⟩ = some (.int .i64 ty) ∧ w'.cell? ⟨b, off + 2, none⟩ = some (.int .i64 n)) (go_keep)
      (first
        | (go_at_call 111; refine (HNU.out).mono ?_; rintro y w1 ⟨rfl, hb1⟩; have H1 : Hid (WS wq w1 wb l) := HS.out.drewS.later hb1; obtain ⟨q0, q1⟩ := HX.out w1 H1.out; clear hb1)
        | (go_at_call 110; refine (HW.out _ H1.out).mono ?_; rintro y w2 ⟨rfl, h2⟩; have H2 : Hid (WS wq w2 wb (l ++ T)) := h2; obtain ⟨q2, q3⟩ := HX2.out w2 h2; clear h2))
    go_wp2
    go_end0
    exact ⟨rfl, H2.out⟩
  · rw [Par.txt2]
    have hnl := (Par.name_size hn).1
    cases ht with
    | @mk _ _ _ _ _ _ _ lv av css hs hlb hr hcl hk =>
    obtain ⟨c0, c1, c2, c3, c4, c5, c6⟩ := (h.ex hx).all
    have hlt := (h.ex hx).lt
    have hst := (h.drewS).str s (by omega)
    have HST : Hid (Calls Tryz.prog 110 #[.pointer (some ⟨wb, 0, none⟩), .string s] wr.drew fun e w' => e = .returned (.tuple #[.int .i64 s.size, .nilIface]) ∧ WS wq w' wb (l ++ s.data.toList) ∧ Lib.OthersKept 5 (some wb) wr.drew w') := hst
    have HX2 : Hid (∀ W, WS wq W wb (l ++ s.data.toList) → W.cell? ⟨b, off + 4, none⟩ = some (.string s)) := fun W hW => (hW.ex hx).all.2.2.2.2.1
    clear hst h hx hlb hr hcl hk hn h1 h2 hf
    go_enter Tryz.func75, Tryz.ntmps75
    go_wp2
    go_region_held3 (fun w' => w'.cell? ⟨b, off + 4, none⟩ = some (.string s)) (go_keep)
      (first
        | (go_at_call 110; refine (HST.out).mono ?_; rintro y w2 ⟨rfl, h2, _⟩; have H2 : Hid (WS wq w2 wb (l ++ s.data.toList)) := h2; have q2 := HX2.out w2 h2; clear h2))
    go_wp2
    go_end0
    exact ⟨rfl, H2.out⟩
  · obtain ⟨x, y, rfl⟩ := Par.two_of hal
    rw [Par.txt3b]
    have hsz : s.size ≤ 2 := by rw [← bsize]; exact (Par.lev_size hv).1
    have fx := h2 x (by simp)
    have fy := h2 y (by simp)
    have hop := op2C hlv hsz fx (boundC hlv fx (ih x fx)) (boundC hlv fy (ih y fy)) wr l b off cs h hx ht hl
    obtain ⟨T, hT⟩ : ∃ T, T = l ++ (Par.wrapT (Par.lessB (Par.levF s.data.toList) x) (Par.txt m x) ++ (32 :: (s.data.toList ++ (32 :: Par.wrapT (Par.lessB (Par.levF s.data.toList + 1) y) (Par.txt m y))))) := ⟨_, rfl⟩
    rw [← hT] at hop ⊢
    cases ht with
    | @mk _ _ _ _ _ _ _ lv av css hs hlb hr hcl hk =>
    obtain ⟨c0, c1, c2, c3, c4, c5, c6⟩ := (h.ex hx).all
    have hlt := (h.ex hx).lt
    clear h hx hlb hr hcl hk h1 h2 hf hT ih fx fy
    go_enter Tryz.func75, Tryz.ntmps75
    go_wp2_with fail
    refine hop.mono ?_
    rintro z w1 ⟨rfl, h1⟩
    go_wp2
    go_end0
    exact ⟨rfl, h1⟩
  · obtain ⟨x, rfl⟩ := Par.one_of hal
    rw [Par.txt3a]
    have hsz : s.size ≤ 2 := by rw [← bsize]; rcases hv with h | h <;> rw [h] <;> simp
    have fx := h2 x (by simp)
    have hop := op1C hlv hsz (boundC hlv fx (ih x fx)) wr l b off cs h hx ht hl
    obtain ⟨T, hT⟩ : ∃ T, T = l ++ (s.data.toList ++ Par.wrapT (Par.lessB 6 x) (Par.txt m x)) := ⟨_, rfl⟩
    rw [← hT] at hop ⊢
    cases ht with
    | @mk _ _ _ _ _ _ _ lv av css hs hlb hr hcl hk =>
    obtain ⟨c0, c1, c2, c3, c4, c5, c6⟩ := (h.ex hx).all
    have hlt := (h.ex hx).lt
    clear h hx hlb hr hcl hk h1 h2 hf hT ih fx
    go_enter Tryz.func75, Tryz.ntmps75
    go_wp2_with fail
    refine hop.mono ?_
    rintro z w1 ⟨rfl, h1⟩
    go_wp2
    go_end0
    exact ⟨rfl, h1⟩
  · rw [Par.txt4]
    have hnl := (Par.name_size hn).1
    have htl : ∀ x ∈ a, (Par.txt m x).length ≤ Par.Bd m := fun x hx => (Par.txt_len m x (h2 x hx)).1
    cases ht with
    | @mk _ _ _ _ _ _ _ lv av css hs hlb hr hcl hk =>
    obtain ⟨ao, ab, aoff, ac, rfl, har⟩ := hr
    have hac := har.cap
    have ham := har.mx
    obtain ⟨c0, c1, c2, c3, c4, c5, c6⟩ := (h.ex hx).all
    have hlt := (h.ex hx).lt
    have hsz := bsize s
    have HK : Hid (∀ (k : Nat) (hka : k < a.length) (W : World) (l : List UInt8), WS wq W wb l → l.length + Par.Bd m ≤ 90000000000000 → Calls Tryz.prog 75 #[.pointer (some ⟨wb, 0, none⟩), .pointer (some ⟨ab, aoff + k * 7, none⟩)] W fun y w' => y = .returned (.tuple #[]) ∧ WS wq w' wb (l ++ Par.txt m a[k])) := fun k hka W l hW hl => by
      have hao := har.adr (by omega)
      subst hao
      exact ih a[k] (h2 _ (List.getElem_mem hka)) W l ab (aoff + k * 7) (css[k]'(by omega)) hW (kid_at har (by omega)) (hk k hka (by omega)) hl
    have HAO : Hid (0 < a.length → ao = some ⟨ab, aoff, none⟩) := fun h => har.adr (by omega)
    have HTL : Hid (∀ k, k ≤ a.length → (Lib.join ((a.take k).map (Par.txt m)) [44, 32]).length ≤ k * (Par.Bd m + 2)) := fun k hk => by
      have := Par.kids_len (m := m) (a := a.take k) fun x hx => htl x (List.mem_of_mem_take hx)
      rwa [List.length_take, Nat.min_eq_left hk] at this
    have HAB : Hid (0 < a.length → ab < wq.heap.size) := fun h => har.lt (by omega)
    obtain ⟨an, han⟩ : ∃ an, an = css.length := ⟨_, rfl⟩
    have HAN : Hid (an = a.length) := by show _ = _; omega
    rw [← han] at c6 hac
    have HX : Hid (ExAt wq b off [.int .i64 4, .int .i64 p, .int .i64 n, .int .i64 ty, .string s, lv, .slice ao an ac]) := by rw [← han] at hx; exact hx
    have ha4 : an ≤ 4 := by omega
    have HS : Hid (WS wq wr wb l) := h
    unfold maxLen at ham
    obtain ⟨w1, hw1⟩ : ∃ w1, w1 = wr.alloc (.cells #[.string s, .string ⟨#[40]⟩] 9) := ⟨_, rfl⟩
    have hb1 : Below wr.heap.size wr w1 := by rw [hw1]; exact (Below.refl _ _).alloc (Nat.le_refl _) _
    have h1' := h.later hb1
    have hp1 : w1.heap[wr.heap.size]? = some (.cells #[.string s, .string ⟨#[40]⟩] 9 (0, 0)) := by rw [hw1]; exact heap_at_alloc _ _ _ rfl
    have hfl : flatB [s, ⟨#[40]⟩] = s.data.toList ++ [40] := by simp [flatB]
    have hpt := partsC (n := 2) [s, ⟨#[40]⟩] #[.string s, .string ⟨#[40]⟩] rfl (by omega) (fun k hk => by
      match k, hk with
      | 0, _ => rfl
      | 1, _ => rfl) h1' hp1 (by have := h.lt; omega) (by rw [hfl]; simp only [List.length_append, List.length_cons, List.length_nil]; omega)
    rw [hfl] at hpt
    clear hfl h1' hp1 hb1 h hx hlb har hcl hk h1 h2 hf ih hn htl han
    go_enter Tryz.func75, Tryz.ntmps75
    go_wp2_with fail
    rw [← hw1]
    clear hw1
    refine hpt.mono ?_
    rintro z w2 ⟨rfl, h2⟩
    obtain ⟨_, _, _, _, _, _, d6⟩ := (h2.ex HX.out).all
    have hlt2 := (h2.ex HX.out).lt
    have H2 : Hid (WS wq w2 wb (l ++ (s.data.toList ++ (40 :: Lib.join ((a.take 0).map (Par.txt m)) [44, 32])))) := h2
    clear h2 hpt c0 c1 c2 c3 c4 c5 c6
    go_wp2
    go_loopw [53] (fun i wz => ∃ k : Nat, k ≤ an ∧ i = .int .i64 k ∧ Hid (WS wq wz wb (l ++ (s.data.toList ++ (40 :: Lib.join ((a.take k).map (Par.txt m)) [44, 32]))))) (fun i _ => an - (intOf i).toNat)
    case atStart => exact ⟨0, Nat.zero_le _, rfl, H2⟩
    case round =>
      obtain ⟨k, hk, rfl, HK0⟩ := hrel
      obtain ⟨_, _, _, _, _, _, e6⟩ := (HK0.out.ex HX.out).all
      have hltk := (HK0.out.ex HX.out).lt
      have hjl := HTL.out k (by have := HAN.out; omega)
      have hk4 : k * (Par.Bd m + 2) ≤ 4 * (Par.Bd m + 2) := Nat.mul_le_mul_right _ (by omega)
      by_cases hkn : k < an
      · have hka : k < a.length := by have := HAN.out; omega
        have hk3 : k * (Par.Bd m + 2) ≤ 3 * (Par.Bd m + 2) := Nat.mul_le_mul_right _ (by omega)
        have hao := HAO.out (by omega)
        subst hao
        have habl := HAB.out (by omega)
        have HJ : Hid (Lib.join ((a.take (k + 1)).map (Par.txt m)) [44, 32] = (if k = 0 then [] else Lib.join ((a.take k).map (Par.txt m)) [44, 32] ++ [44, 32]) ++ Par.txt m a[k]) := join_take hka
        by_cases k0 : k = 0
        · subst k0
          have hcl := HK.out 0 hka wr _ HK0.out (by simp only [List.length_append, List.length_cons]; omega)
          have HE : Hid (l ++ (s.data.toList ++ (40 :: Lib.join ((a.take 0).map (Par.txt m)) [44, 32])) ++ Par.txt m a[0] = l ++ (s.data.toList ++ (40 :: Lib.join ((a.take (0 + 1)).map (Par.txt m)) [44, 32]))) := by
            show _ = _
            rw [HJ.out, if_pos rfl]; simp [Lib.join]
          rw [HE.out] at hcl
          clear HE HJ hjl hk4 hk3
          go_wp2_with fail
          refine hcl.mono ?_
          rintro z w3 ⟨rfl, h3⟩
          have H3 : Hid (WS wq w3 wb (l ++ (s.data.toList ++ (40 :: Lib.join ((a.take (0 + 1)).map (Par.txt m)) [44, 32])))) := h3
          clear h3 hcl
          go_wp2
          go_roundw
          case rel => exact ⟨0 + 1, by omega, by go_num, H3⟩
          case measure => simp [intOf]; omega
        · have hsep := HK0.out.str ⟨#[44, 32]⟩ (by show _ + 2 ≤ _; simp only [List.length_append, List.length_cons]; omega)
          have kp : 0 < k := by omega
          have HE : Hid (l ++ (s.data.toList ++ (40 :: Lib.join ((a.take k).map (Par.txt m)) [44, 32])) ++ [44, 32] ++ Par.txt m a[k] = l ++ (s.data.toList ++ (40 :: Lib.join ((a.take (k + 1)).map (Par.txt m)) [44, 32]))) := by
            show _ = _
            rw [HJ.out, if_neg k0]; simp
          clear HJ k0
          go_wp2_with fail
          refine hsep.mono ?_
          rintro z w3 ⟨rfl, h3, _⟩
          have h3' : WS wq w3 wb (l ++ (s.data.toList ++ (40 :: Lib.join ((a.take k).map (Par.txt m)) [44, 32])) ++ [44, 32]) := h3
          have hcl := HK.out k hka w3 _ h3' (by simp only [List.length_append, List.length_cons, List.length_nil]; omega)
          rw [HE.out] at hcl
          obtain ⟨_, _, _, _, _, _, g6⟩ := (h3'.ex HX.out).all
          have hlt3 := (h3'.ex HX.out).lt
          clear h3 h3' HE hsep hjl hk4 hk3 e6
          go_wp2_with fail
          refine hcl.mono ?_
          rintro z w4 ⟨rfl, h4⟩
          have H4 : Hid (WS wq w4 wb (l ++ (s.data.toList ++ (40 :: Lib.join ((a.take (k + 1)).map (Par.txt m)) [44, 32])))) := h4
          clear h4 hcl
          go_wp2
          go_roundw
          case rel => exact ⟨k + 1, by omega, by go_num, H4⟩
          case measure => simp [intOf]; omega
      · have HE : Hid (l ++ (s.data.toList ++ (40 :: Lib.join ((a.take k).map (Par.txt m)) [44, 32])) ++ [41] = l ++ (s.data.toList ++ (40 :: (Lib.join (a.map (Par.txt m)) [44, 32] ++ [41])))) := by
          show _ = _
          rw [List.take_of_length_le (by have := HAN.out; omega)]; simp
        have hend := HK0.out.str ⟨#[41]⟩ (by show _ + 1 ≤ _; simp only [List.length_append, List.length_cons]; omega)
        have hend2 := hend.mono (R' := fun e w' => e = .returned (.tuple #[.int .i64 ((⟨#[41]⟩ : ByteArray).size : Int), .nilIface]) ∧ WS wq w' wb (l ++ (s.data.toList ++ (40 :: (Lib.join (a.map (Par.txt m)) [44, 32] ++ [41]))))) fun e w' ⟨e1, e2, _⟩ => ⟨e1, by rw [← HE.out]; exact e2⟩
        clear HE hend hjl hk4
        go_wp2_with fail
        refine hend2.mono ?_
        rintro z w3 ⟨rfl, h3⟩
        go_wp2
        go_end0
        exact ⟨rfl, h3⟩
  · obtain ⟨x, rfl⟩ := Par.one_of hal
    rw [Par.txt5]
    have hll := (Par.lab_len hn).1
    have fx := h2 x (by simp)
    have htl := (Par.txt_len m x fx).1
    cases ht with
    | @mk _ _ _ _ _ _ _ lv av css hs hlb hr hcl hk =>
    obtain ⟨ao, ab, aoff, ac, rfl, har⟩ := hr
    have hn1 : css.length = 1 := hcl
    have hao := har.adr (by omega)
    subst hao
    have hac := har.cap
    have ham := har.mx
    have habl := har.lt (by omega)
    obtain ⟨lo, lbb, loff, lc, rfl, _, _, _⟩ := hlb.toP
    obtain ⟨c0, c1, c2, c3, c4, c5, c6⟩ := (h.ex hx).all
    have hlt := (h.ex hx).lt
    have HK : Hid (∀ (W : World) (l : List UInt8), WS wq W wb l → l.length + Par.Bd m ≤ 90000000000000 → Calls Tryz.prog 75 #[.pointer (some ⟨wb, 0, none⟩), .pointer (some ⟨ab, aoff, none⟩)] W fun y w' => y = .returned (.tuple #[]) ∧ WS wq w' wb (l ++ Par.txt m x)) := fun W l hW hl => ih x fx W l ab aoff css[0] hW (kid0 (kid_at har (by omega))) (hk 0 (by simp) (by omega)) hl
    have HLT : Hid (∀ W l, WS wq W wb l → Calls Tryz.prog 114 #[.slice lo lb.length lc] W fun x w' => x = .returned (.string ⟨(labelT lb).toArray⟩) ∧ Below W.heap.size W w') := fun W l hW => labTC (hlb.keeps ⟨hW.bel.size, fun b hb _ => hW.bel.block b hb⟩) hn
    rw [hn1] at c6 hac
    have HX : Hid (ExAt wq b off [.int .i64 5, .int .i64 p, .int .i64 n, .int .i64 ty, .string s, .slice lo lb.length lc, .slice (some ⟨ab, aoff, none⟩) 1 ac]) := by rw [hn1] at hx; exact hx
    have hop := h.str ⟨#[114, 101, 108, 101, 97, 115, 101, 40]⟩ (by show l.length + 8 ≤ _; omega)
    obtain ⟨T, hT⟩ : ∃ T, T = Par.txt m x := ⟨_, rfl⟩
    obtain ⟨L, hL⟩ : ∃ L, L = labelT lb := ⟨_, rfl⟩
    rw [← hT] at HK htl ⊢
    rw [← hL] at HLT hll ⊢
    unfold maxLen at ham
    clear h hx hlb har hcl hk h1 h2 hf ih fx hn1 hn hT hL
    go_enter Tryz.func75, Tryz.ntmps75
    go_wp2_with fail
    refine hop.mono ?_
    rintro z w1 ⟨rfl, h1, _⟩
    have h1' : WS wq w1 wb (l ++ [114, 101, 108, 101, 97, 115, 101, 40]) := h1
    obtain ⟨_, _, _, _, _, _, d6⟩ := (h1'.ex HX.out).all
    have hlt1 := (h1'.ex HX.out).lt
    have hk0 := HK.out w1 _ h1' (by simp only [List.length_append, List.length_cons, List.length_nil]; omega)
    clear h1 h1' hop c0 c1 c2 c3 c4 c5 c6
    go_wp2_with fail
    refine hk0.mono ?_
    rintro z w2 ⟨rfl, h2⟩
    obtain ⟨_, _, _, _, _, e5, _⟩ := (h2.ex HX.out).all
    have hlt2 := (h2.ex HX.out).lt
    have hlab := HLT.out w2 _ h2
    have H2 : Hid (WS wq w2 wb (l ++ [114, 101, 108, 101, 97, 115, 101, 40] ++ T)) := h2
    clear h2 hk0 d6
    go_wp2_with fail
    refine hlab.mono ?_
    rintro z w3 ⟨rfl, hb3⟩
    have h3 := H2.out.later hb3
    obtain ⟨w4, hw4⟩ : ∃ w4, w4 = w3.alloc (.cells #[.string ⟨#[32, 116, 111, 32]⟩, .string ⟨L.toArray⟩, .string ⟨#[41]⟩] 9) := ⟨_, rfl⟩
    have hb4 : Below w3.heap.size w3 w4 := by rw [hw4]; exact (Below.refl _ _).alloc (Nat.le_refl _) _
    have h4 := h3.later hb4
    have hp4 : w4.heap[w3.heap.size]? = some (.cells #[.string ⟨#[32, 116, 111, 32]⟩, .string ⟨L.toArray⟩, .string ⟨#[41]⟩] 9 (0, 0)) := by rw [hw4]; exact heap_at_alloc _ _ _ rfl
    have hfl : flatB [⟨#[32, 116, 111, 32]⟩, ⟨L.toArray⟩, ⟨#[41]⟩] = [32, 116, 111, 32] ++ (L ++ [41]) := by simp [flatB]
    have hpt := partsC (n := 3) [⟨#[32, 116, 111, 32]⟩, ⟨L.toArray⟩, ⟨#[41]⟩] #[.string ⟨#[32, 116, 111, 32]⟩, .string ⟨L.toArray⟩, .string ⟨#[41]⟩] rfl (by omega) (fun k hk => by
      match k, hk with
      | 0, _ => rfl
      | 1, _ => rfl
      | 2, _ => rfl) h4 hp4 (by have := h3.lt; omega) (by rw [hfl]; simp only [List.length_append, List.length_cons, List.length_nil]; omega)
    rw [hfl] at hpt
    have HE : Hid (l ++ [114, 101, 108, 101, 97, 115, 101, 40] ++ T ++ ([32, 116, 111, 32] ++ (L ++ [41])) = l ++ ([114, 101, 108, 101, 97, 115, 101, 40] ++ (T ++ ([32, 116, 111, 32] ++ (L ++ [41]))))) := by show _ = _; simp
    rw [HE.out] at hpt
    clear hfl h3 h4 hp4 hb4 hb3 hlab e5
    go_wp2_with fail
    rw [← hw4]
    clear hw4
    refine hpt.mono ?_
    rintro z w5 ⟨rfl, h5⟩
    go_wp2
    go_end0
    exact ⟨rfl, h5⟩
theorem wexpr_all {wq : World} {wb : Nat} (hI : ItoaC wq) (hlv : LevAt wq wq.heap.size) : ∀ m t, Par.formD m t = true → WxC wq wb m t := by
  intro m
  induction m with
  | zero => intro t h; cases h
  | succ m ih => exact fun t h => expr_step hI hlv ih t h
end Go.Proofs.YtcdeicfegfedfaaGreatDoor

namespace Go.Proofs.YtcdeicfegfedfaaGreatDoor
open Go.RowKit
open Par (Tok Po Tr nx atP isT ba Res)

set_option maxRecDepth 100000 in
set_option maxHeartbeats 2000000 in
theorem textC {w : World} {b off : Nat} {t : Tr} {cs : List Value} (hI : ItoaC w) (hlv : LevAt w w.heap.size) (hx : ExAt w b off cs) (ht : TrIs w (fun b => b < w.heap.size) t cs) (hf : Par.formD 12 t = true) :
    Calls Tryz.prog 48 #[.pointer (some ⟨b, off, none⟩)] w fun x w' => x = .returned (.string ⟨(Par.txt 12 t).toArray⟩) ∧ Below w.heap.size w w' := by
  obtain ⟨w0, hw0⟩ : ∃ w0, w0 = w.alloc (.cells #[.pointer none, .slice none 0 0] 114) := ⟨_, rfl⟩
  have hws : WS w w0 w.heap.size [] := ⟨by rw [hw0]; exact (Below.refl _ _).alloc (Nat.le_refl _) _, by rw [hw0]; exact Lib.fresh_isBuilder _ _ _⟩
  have hwr := wexpr_all hI hlv 12 t hf w0 [] b off cs hws hx ht (by rw [Par.Bd_12]; simp)
  have hne := (Par.txt_len 12 t hf).2
  obtain ⟨T, hT⟩ : ∃ T, T = Par.txt 12 t := ⟨_, rfl⟩
  rw [← hT] at hwr hne ⊢
  rw [List.nil_append] at hwr
  have HNE : Hid (T ≠ []) := hne
  clear hT hne hws hx ht hf hI hlv
  go_enter Tryz.func48, Tryz.ntmps48
  go_wp2_with fail
  rw [← hw0]
  clear hw0
  refine hwr.mono ?_
  rintro x w1 ⟨rfl, h1⟩
  have hst := wString w.heap.size w.heap.size T w1 h1.bld HNE.out
  have HB : Hid (Below w.heap.size w w1) := h1.bel
  clear h1 hwr
  go_wp2_with fail
  refine hst.mono ?_
  rintro x w2 ⟨rfl, hb2⟩
  go_wp2
  go_ret
  exact ⟨rfl, HB.out.trans hb2⟩
set_option maxRecDepth 100000 in
set_option maxHeartbeats 4000000 in
theorem treeTextC {w : World} {S : Nat → Prop} {t : Tr} {z0 z1 z2 z3 : Int} {z4 : ByteArray} {z5 : Option Addr} {m5 d5 : Nat} {z6 : Option Addr} {m6 d6 : Nat} (hI : ∀ V, Below w.heap.size w V → ItoaC V) (ht : TrIs w S t [.int .i64 z0, .int .i64 z1, .int .i64 z2, .int .i64 z3, .string z4, .slice z5 m5 d5, .slice z6 m6 d6]) (hlv : LevAt w w.heap.size) :
    Calls Tryz.prog 22 #[.agg #[.int .i64 z0, .int .i64 z1, .int .i64 z2, .int .i64 z3, .string z4, .slice z5 m5 d5, .slice z6 m6 d6]] w fun x w' => x = .returned (.tuple #[.string ⟨(if Par.formD 12 t = true then Par.txt 12 t else []).toArray⟩, .int .i64 (if Par.formD 12 t = true then 0 else 4)]) ∧ Below w.heap.size w w' := by
  obtain ⟨w0, hw0⟩ : ∃ w0, w0 = w.alloc (.cells #[.int .i64 z0, .int .i64 z1, .int .i64 z2, .int .i64 z3, .string z4, .slice z5 m5 d5, .slice z6 m6 d6] 26) := ⟨_, rfl⟩
  have hb0 : Below w.heap.size w w0 := by rw [hw0]; exact (Below.refl _ _).alloc (Nat.le_refl _) _
  have hz0 : w0.heap.size = w.heap.size + 1 := by rw [hw0]; simp
  have hbx : w0.heap[w.heap.size]? = some (.cells #[.int .i64 z0, .int .i64 z1, .int .i64 z2, .int .i64 z3, .string z4, .slice z5 m5 d5, .slice z6 m6 d6] 26 (0, 0)) := by rw [hw0]; exact heap_at_alloc _ _ _ rfl
  have hx : ExAt w0 w.heap.size 0 [.int .i64 z0, .int .i64 z1, .int .i64 z2, .int .i64 z3, .string z4, .slice z5 m5 d5, .slice z6 m6 d6] := ⟨by omega, fun j u hu => by
    simp only [World.cell?, hbx]
    simpa using hu⟩
  have ht0 : TrIs w0 (fun b => b < w0.heap.size) t [.int .i64 z0, .int .i64 z1, .int .i64 z2, .int .i64 z3, .string z4, .slice z5 m5 d5, .slice z6 m6 d6] := (ht.keeps (Keeps.of_below hb0)).mono fun b _ h => h
  have hlv0 : LevAt w0 w0.heap.size := (hlv.keeps hb0.size fun b hb => hb0.block b hb).mono (by omega)
  have hfo := formedC ht0 hlv0
  have HTX : Hid (∀ V, Below w0.heap.size w0 V → Par.formD 12 t = true → Calls Tryz.prog 48 #[.pointer (some ⟨w.heap.size, 0, none⟩)] V fun x w' => x = .returned (.string ⟨(Par.txt 12 t).toArray⟩) ∧ Below V.heap.size V w') := fun V hV hf =>
    textC (hI V (hb0.trans (hV.mono (by omega)))) ((hlv0.keeps hV.size fun b hb => hV.block b hb).mono hV.size) (hx.keeps hV.size (hV.block _ hx.lt)) ((ht0.keeps ⟨hV.size, fun b hb _ => hV.block b hb⟩).mono fun b _ h => h) hf
  have HB : Hid (Below w.heap.size w w0) := hb0
  obtain ⟨⟨e0, e1, e2, e3, e4, e5, e6⟩, _⟩ : (w0.cell? ⟨w.heap.size, 0, none⟩ = some (.int .i64 z0) ∧ w0.cell? ⟨w.heap.size, 1, none⟩ = some (.int .i64 z1) ∧ w0.cell? ⟨w.heap.size, 2, none⟩ = some (.int .i64 z2) ∧ w0.cell? ⟨w.heap.size, 3, none⟩ = some (.int .i64 z3) ∧ w0.cell? ⟨w.heap.size, 4, none⟩ = some (.string z4) ∧ w0.cell? ⟨w.heap.size, 5, none⟩ = some (.slice z5 m5 d5) ∧ w0.cell? ⟨w.heap.size, 6, none⟩ = some (.slice z6 m6 d6)) ∧ True := ⟨by refine ⟨?_, ?_, ?_, ?_, ?_, ?_, ?_⟩ <;> simp [World.cell?, hbx], trivial⟩
  have hl0 : w.heap.size < w0.heap.size := by omega
  clear hx ht0 hlv0 hb0 ht hlv hbx hz0 hI
  cases hq : Par.formD 12 t with
  | true =>
    rw [hq] at hfo
    rw [if_pos rfl, if_pos rfl]
    obtain ⟨T, hT⟩ : ∃ T, T = Par.txt 12 t := ⟨_, rfl⟩
    rw [← hT] at HTX ⊢
    have HT2 : Hid (∀ V, Below w0.heap.size w0 V → Calls Tryz.prog 48 #[.pointer (some ⟨w.heap.size, 0, none⟩)] V fun x w' => x = .returned (.string ⟨T.toArray⟩) ∧ Below V.heap.size V w') := fun V hV => HTX.out V hV hq
    clear HTX hq hT
    go_enter Tryz.func22, Tryz.ntmps22
    go_wp2_with fail
    rw [← hw0]
    clear hw0
    refine hfo.mono ?_
    rintro x w1 ⟨rfl, hb1⟩
    have htx := HT2.out w1 hb1
    have HB1 : Hid (Below w0.heap.size w0 w1) := hb1
    clear hb1
    go_wp2_with fail
    refine htx.mono ?_
    rintro x w2 ⟨rfl, hb2⟩
    go_wp2
    go_ret2
    have hb := HB.out.trans (HB1.out.mono HB.out.size)
    exact ⟨rfl, hb.trans (hb2.mono hb.size)⟩
  | false =>
    rw [hq] at hfo
    rw [if_neg (by simp), if_neg (by simp)]
    clear HTX hq
    go_enter Tryz.func22, Tryz.ntmps22
    go_wp2_with fail
    rw [← hw0]
    clear hw0
    refine hfo.mono ?_
    rintro x w1 ⟨rfl, hb1⟩
    have HB1 : Hid (Below w0.heap.size w0 w1) := hb1
    clear hb1
    go_wp2
    go_ret2
    exact ⟨rfl, HB.out.trans (HB1.out.mono HB.out.size)⟩
end Go.Proofs.YtcdeicfegfedfaaGreatDoor
