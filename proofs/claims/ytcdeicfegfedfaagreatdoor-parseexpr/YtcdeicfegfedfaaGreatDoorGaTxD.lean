/- How tree.writer writes an expression: bound and op. How tree.writer writes a sign with what stands with it. -/
import Derived.Test.YtcdeicfegfedfaaGreatDoorGaTxB
import Derived.Test.YtcdeicfegfedfaaGreatDoorGaFm
namespace Go.Proofs.YtcdeicfegfedfaaGreatDoor
open Go.RowKit
open Par (Tok Po Tr nx atP isT ba Res)

theorem WS.ex {wq wr : World} {wb b off : Nat} {l : List UInt8} {cs : List Value} (h : WS wq wr wb l) (hx : ExAt wq b off cs) : ExAt wr b off cs := hx.keeps h.bel.size (h.bel.block _ hx.lt)
theorem WS.lev {wq wr : World} {wb : Nat} {l : List UInt8} (h : WS wq wr wb l) (hv : LevAt wq wq.heap.size) : LevAt wr wq.heap.size := hv.keeps h.bel.size fun b hb => h.bel.block b hb
theorem WS.drewS {wq wr : World} {wb : Nat} {l : List UInt8} (h : WS wq wr wb l) : WS wq wr.drew wb l := h.later ⟨rfl, rfl, rfl, Nat.le_refl _, fun _ _ => rfl⟩
def WxC (wq : World) (wb m : Nat) (t : Tr) : Prop := ∀ (wr : World) (l : List UInt8) (b off : Nat) (cs : List Value), WS wq wr wb l → ExAt wq b off cs → TrIs wq (fun b => b < wq.heap.size) t cs → l.length + Par.Bd m ≤ 90000000000000 →
  Calls Tryz.prog 75 #[.pointer (some ⟨wb, 0, none⟩), .pointer (some ⟨b, off, none⟩)] wr fun x w' => x = .returned (.tuple #[]) ∧ WS wq w' wb (l ++ Par.txt m t)
def WbC (wq : World) (wb m : Nat) (t : Tr) : Prop := ∀ (wr : World) (l : List UInt8) (b off : Nat) (cs : List Value) (least : Nat), WS wq wr wb l → ExAt wq b off cs → TrIs wq (fun b => b < wq.heap.size) t cs → l.length + Par.Bd m + 2 ≤ 90000000000000 →
  Calls Tryz.prog 152 #[.pointer (some ⟨wb, 0, none⟩), .pointer (some ⟨b, off, none⟩), .int .i64 (least : Int)] wr fun x w' => x = .returned (.tuple #[]) ∧ WS wq w' wb (l ++ Par.wrapT (Par.lessB least t) (Par.txt m t))
set_option maxRecDepth 100000 in
set_option maxHeartbeats 4000000 in
theorem boundC {wq : World} {wb m : Nat} {t : Tr} (hlv : LevAt wq wq.heap.size) (hf : Par.formD m t = true) (hE : WxC wq wb m t) : WbC wq wb m t := by
  intro wr l b off cs least h hx ht hl
  have hlen := (Par.txt_len m t hf).1
  have hxe := hx
  have hte := ht
  cases ht with
  | @mk k p n ty s lb a lv av css hs hlb hr hcl hk =>
  obtain ⟨ao, ab, aoff, ac, rfl, har⟩ := hr
  have hac := har.cap
  have ham := har.mx
  obtain ⟨c0, c1, c2, c3, c4, c5, c6⟩ := (h.ex hx).all
  have hlt := (h.ex hx).lt
  have hlev := levelC (h.lev hlv) s
  obtain ⟨lev, hlevd⟩ : ∃ lev, lev = Par.levF s.data.toList := ⟨_, rfl⟩
  rw [← hlevd] at hlev
  obtain ⟨an, han⟩ : ∃ an, an = css.length := ⟨_, rfl⟩
  rw [← han] at c6 hac
  obtain ⟨T, hT⟩ : ∃ T, T = Par.txt m (.mk k p n ty s lb a) := ⟨_, rfl⟩
  rw [← hT] at hlen
  have HE : Hid (∀ (wr : World) (l : List UInt8), WS wq wr wb l → l.length + Par.Bd m ≤ 90000000000000 → Calls Tryz.prog 75 #[.pointer (some ⟨wb, 0, none⟩), .pointer (some ⟨b, off, none⟩)] wr fun x w' => x = .returned (.tuple #[]) ∧ WS wq w' wb (l ++ T)) := fun wr l h hl => by rw [hT]; exact hE wr l b off _ h hxe hte hl
  obtain ⟨q, hq⟩ : ∃ q, q = Par.lessB least (.mk k p n ty s lb a) := ⟨_, rfl⟩
  have HQ : Hid (q = (k == 3 && (an == 2 && decide (lev < least)))) := by show _ = _; rw [hq, han, hcl, hlevd]; rfl
  rw [← hq, ← hT]
  have HS : Hid (WS wq wr wb l) := h
  unfold maxLen at ham
  clear hq hT hlevd har hcl hk hlb h hx hxe hte hE hf han
  have no : q = false → Calls Tryz.prog 152 #[.pointer (some ⟨wb, 0, none⟩), .pointer (some ⟨b, off, none⟩), .int .i64 (least : Int)] wr fun x w' => x = .returned (.tuple #[]) ∧ WS wq w' wb (l ++ Par.wrapT q T) := by
    intro hq
    have HW : Hid (Par.wrapT q T = T) := by show _ = _; rw [hq]; rfl
    have hc := HE.out wr l HS.out (by omega)
    rw [HW.out]
    rw [hq] at HQ
    by_cases k3 : k = 3
    · subst k3
      by_cases a2 : an = 2
      · subst a2
        have hll : ¬ lev < least := by
          have := HQ.out
          simp at this; omega
        have hd : decide (lev < least) = false := by simp; omega
        clear HQ hq HW hll
        go_enter Tryz.func152, Tryz.ntmps152
        go_wp2_with fail
        refine hlev.mono ?_
        rintro x w1 ⟨rfl, hw⟩
        have hw' := hw.symm
        subst hw'
        go_wp2_with fail
        refine hc.mono ?_
        rintro x w2 ⟨rfl, h2⟩
        go_wp2
        go_end0
        exact ⟨rfl, h2⟩
      · have b2 : ((an : Int) == 2) = false := by rw [beq2]; simp [a2]
        clear HQ hq HW a2
        go_enter Tryz.func152, Tryz.ntmps152
        go_wp2_with fail
        refine hc.mono ?_
        rintro x w2 ⟨rfl, h2⟩
        go_wp2
        go_end0
        exact ⟨rfl, h2⟩
    · have b3 : (k == 3) = false := by simp [k3]
      clear HQ hq HW k3
      go_enter Tryz.func152, Tryz.ntmps152
      go_wp2_with fail
      refine hc.mono ?_
      rintro x w2 ⟨rfl, h2⟩
      go_wp2
      go_end0
      exact ⟨rfl, h2⟩
  cases hqq : q with
  | false => have := no hqq; rwa [hqq] at this
  | true =>
    clear no
    have hh := HQ.out
    rw [hqq] at hh
    simp only [Bool.true_eq, Bool.and_eq_true, beq_iff_eq, decide_eq_true_eq] at hh
    obtain ⟨rfl, rfl, hll⟩ := hh
    have hd : decide (lev < least) = true := by simp; omega
    have HW : Hid (l ++ Par.wrapT true T = ((l ++ [40]) ++ T) ++ [41]) := by show _ = _; unfold Par.wrapT; simp
    rw [HW.out]
    have hop := HS.out.str ⟨#[40]⟩ (by show l.length + 1 ≤ _; omega)
    clear HQ hqq HW hll
    go_enter Tryz.func152, Tryz.ntmps152
    go_wp2_with fail
    refine hlev.mono ?_
    rintro x w1 ⟨rfl, hw⟩
    have hw' := hw.symm
    subst hw'
    go_wp2_with fail
    refine hop.mono ?_
    rintro x w2 ⟨rfl, h2, _⟩
    have hc := HE.out w2 (l ++ [40]) h2 (by simp; omega)
    clear h2 hop
    go_wp2_with fail
    refine hc.mono ?_
    rintro x w3 ⟨rfl, h3⟩
    have hcl := h3.str ⟨#[41]⟩ (by show _ + 1 ≤ _; simp; omega)
    clear h3 hc
    go_wp2_with fail
    refine hcl.mono ?_
    rintro x w4 ⟨rfl, h4, _⟩
    go_wp2
    exact bodyPost_ret (v := .tuple #[]) (by simp [results, Tryz.results152, go_sem]) rfl ⟨rfl, h4⟩
end Go.Proofs.YtcdeicfegfedfaaGreatDoor

namespace Go.Proofs.YtcdeicfegfedfaaGreatDoor
open Go.RowKit
open Par (Tok Po Tr nx atP isT ba Res)

theorem lev_le (s : List UInt8) : Par.levF s ≤ 5 := by
  unfold Par.levF
  split
  · omega
  split
  · omega
  split
  · omega
  split
  · omega
  split
  · omega
  · omega
theorem kid0 {w : World} {b off : Nat} {cs : List Value} (h : ExAt w b (off + 0 * 7) cs) : ExAt w b off cs := by simpa using h
theorem kid1 {w : World} {b off : Nat} {cs : List Value} (h : ExAt w b (off + 1 * 7) cs) : ExAt w b (off + 7) cs := by simpa using h
set_option maxRecDepth 100000 in
set_option maxHeartbeats 4000000 in
theorem op1C {wq : World} {wb m : Nat} {p n ty : Int} {s : ByteArray} {lb : List Po} {x : Tr} (hlv : LevAt wq wq.heap.size) (hs2 : s.size ≤ 2) (hB : WbC wq wb m x) (wr : World) (l : List UInt8) (b off : Nat) (cs : List Value) (h : WS wq wr wb l) (hx : ExAt wq b off cs) (ht : TrIs wq (fun b => b < wq.heap.size) (.mk 3 p n ty s lb [x]) cs) (hl : l.length + Par.Bd (m + 1) ≤ 90000000000000) :
    Calls Tryz.prog 112 #[.pointer (some ⟨wb, 0, none⟩), .pointer (some ⟨b, off, none⟩)] wr fun y w' => y = .returned (.tuple #[]) ∧ WS wq w' wb (l ++ (s.data.toList ++ Par.wrapT (Par.lessB 6 x) (Par.txt m x))) := by
  have hbs := Par.Bd_succ m
  have hbp := Par.Bd_pos m
  cases ht with
  | @mk _ _ _ _ _ _ _ lv av css hs hlb hr hcl hk =>
  obtain ⟨ao, ab, aoff, ac, rfl, har⟩ := hr
  have hn1 : css.length = 1 := hcl
  have hao := har.adr (by omega)
  subst hao
  have hac := har.cap
  have ham := har.mx
  have habl := har.lt (by omega)
  obtain ⟨c0, c1, c2, c3, c4, c5, c6⟩ := (h.ex hx).all
  have hlt := (h.ex hx).lt
  have hlev := levelC (h.lev hlv) s
  obtain ⟨lev, hlevd⟩ : ∃ lev, lev = Par.levF s.data.toList := ⟨_, rfl⟩
  rw [← hlevd] at hlev
  have HK : Hid (∀ (W : World) (l : List UInt8), WS wq W wb l → l.length + Par.Bd m + 2 ≤ 90000000000000 → Calls Tryz.prog 152 #[.pointer (some ⟨wb, 0, none⟩), .pointer (some ⟨ab, aoff, none⟩), .int .i64 ((6 : Nat) : Int)] W fun y w' => y = .returned (.tuple #[]) ∧ WS wq w' wb (l ++ Par.wrapT (Par.lessB 6 x) (Par.txt m x))) := fun W l hW hl => hB W l ab aoff css[0] 6 hW (kid0 (kid_at har (by omega))) (hk 0 (by simp) (by omega)) hl
  rw [hn1] at c6 hac
  have hst := (h.drewS).str s (by omega)
  have HST : Hid (Calls Tryz.prog 110 #[.pointer (some ⟨wb, 0, none⟩), .string s] wr.drew fun e w' => e = .returned (.tuple #[.int .i64 s.size, .nilIface]) ∧ WS wq w' wb (l ++ s.data.toList) ∧ Lib.OthersKept 5 (some wb) wr.drew w') := hst
  have HX : Hid (ExAt wq b off [.int .i64 3, .int .i64 p, .int .i64 n, .int .i64 ty, .string s, lv, .slice (some ⟨ab, aoff, none⟩) 1 ac]) := by rw [hn1] at hx; exact hx
  have hsz := bsize s
  unfold maxLen at ham
  clear hst hlevd har hcl hk hlb h hx hB hn1
  go_enter Tryz.func112, Tryz.ntmps112
  go_wp2_with fail
  refine hlev.mono ?_
  rintro y w1 ⟨rfl, hw⟩
  have hw' := hw.symm
  subst hw'
  go_wp2
  go_region_held3 (fun w' => w'.cell? ⟨b, off + 4, none⟩ = some (.string s)) (go_keep)
    (first
      | (go_at_call 110; refine (HST.out).mono ?_; rintro y w2 ⟨rfl, h2, _⟩; have H2 : Hid (WS wq w2 wb (l ++ s.data.toList)) := h2; have q4 : w2.cell? ⟨b, off + 4, none⟩ = some (.string s) := (h2.ex HX.out).all.2.2.2.2.1; clear h2))
  obtain ⟨_, _, _, _, _, _, e6⟩ := (H2.out.ex HX.out).all
  have hlt2 := (H2.out.ex HX.out).lt
  have hkd := HK.out w2 (l ++ s.data.toList) H2.out (by rw [List.length_append]; omega)
  rw [List.append_assoc] at hkd
  go_wp2_with fail
  refine hkd.mono ?_
  rintro y w3 ⟨rfl, h3⟩
  go_wp2
  exact bodyPost_ret (v := .tuple #[]) (by simp [results, Tryz.results112, go_sem]) rfl ⟨rfl, h3⟩
set_option maxRecDepth 100000 in
set_option maxHeartbeats 4000000 in
theorem op2C {wq : World} {wb m : Nat} {p n ty : Int} {s : ByteArray} {lb : List Po} {x y : Tr} (hlv : LevAt wq wq.heap.size) (hs2 : s.size ≤ 2) (hfx : Par.formD m x = true) (hBx : WbC wq wb m x) (hBy : WbC wq wb m y) (wr : World) (l : List UInt8) (b off : Nat) (cs : List Value) (h : WS wq wr wb l) (hx : ExAt wq b off cs) (ht : TrIs wq (fun b => b < wq.heap.size) (.mk 3 p n ty s lb [x, y]) cs) (hl : l.length + Par.Bd (m + 1) ≤ 90000000000000) :
    Calls Tryz.prog 112 #[.pointer (some ⟨wb, 0, none⟩), .pointer (some ⟨b, off, none⟩)] wr fun z w' => z = .returned (.tuple #[]) ∧ WS wq w' wb (l ++ (Par.wrapT (Par.lessB (Par.levF s.data.toList) x) (Par.txt m x) ++ (32 :: (s.data.toList ++ (32 :: Par.wrapT (Par.lessB (Par.levF s.data.toList + 1) y) (Par.txt m y)))))) := by
  have hbs := Par.Bd_succ m
  have hbp := Par.Bd_pos m
  have hlx := (Par.txt_len m x hfx).1
  have hwx := Par.wrap_len (Par.lessB (Par.levF s.data.toList) x) (Par.txt m x)
  cases ht with
  | @mk _ _ _ _ _ _ _ lv av css hs hlb hr hcl hk =>
  obtain ⟨ao, ab, aoff, ac, rfl, har⟩ := hr
  have hn2 : css.length = 2 := hcl
  have hao := har.adr (by omega)
  subst hao
  have hac := har.cap
  have ham := har.mx
  have habl := har.lt (by omega)
  obtain ⟨c0, c1, c2, c3, c4, c5, c6⟩ := (h.ex hx).all
  have hlt := (h.ex hx).lt
  have hlev := levelC (h.lev hlv) s
  have hl5 : Par.levF s.data.toList ≤ 5 := lev_le _
  obtain ⟨lev, hlevd⟩ : ∃ lev, lev = Par.levF s.data.toList := ⟨_, rfl⟩
  rw [← hlevd] at hlev hl5 hwx ⊢
  have HK0 : Hid (∀ (W : World) (l : List UInt8), WS wq W wb l → l.length + Par.Bd m + 2 ≤ 90000000000000 → Calls Tryz.prog 152 #[.pointer (some ⟨wb, 0, none⟩), .pointer (some ⟨ab, aoff, none⟩), .int .i64 (lev : Int)] W fun z w' => z = .returned (.tuple #[]) ∧ WS wq w' wb (l ++ Par.wrapT (Par.lessB lev x) (Par.txt m x))) := fun W l hW hl => hBx W l ab aoff css[0] lev hW (kid0 (kid_at har (by omega))) (hk 0 (by simp) (by omega)) hl
  have HK1 : Hid (∀ (W : World) (l : List UInt8), WS wq W wb l → l.length + Par.Bd m + 2 ≤ 90000000000000 → Calls Tryz.prog 152 #[.pointer (some ⟨wb, 0, none⟩), .pointer (some ⟨ab, aoff + 7, none⟩), .int .i64 ((lev + 1 : Nat) : Int)] W fun z w' => z = .returned (.tuple #[]) ∧ WS wq w' wb (l ++ Par.wrapT (Par.lessB (lev + 1) y) (Par.txt m y))) := fun W l hW hl => hBy W l ab (aoff + 7) css[1] (lev + 1) hW (kid1 (kid_at har (by omega))) (hk 1 (by simp) (by omega)) hl
  rw [hn2] at c6 hac
  have HX : Hid (ExAt wq b off [.int .i64 3, .int .i64 p, .int .i64 n, .int .i64 ty, .string s, lv, .slice (some ⟨ab, aoff, none⟩) 2 ac]) := by rw [hn2] at hx; exact hx
  have hsz := bsize s
  obtain ⟨X, hX⟩ : ∃ X, X = Par.wrapT (Par.lessB lev x) (Par.txt m x) := ⟨_, rfl⟩
  obtain ⟨Y, hY⟩ : ∃ Y, Y = Par.wrapT (Par.lessB (lev + 1) y) (Par.txt m y) := ⟨_, rfl⟩
  rw [← hX] at HK0 hwx ⊢
  rw [← hY] at HK1 ⊢
  have HS : Hid (WS wq wr wb l) := h
  unfold maxLen at ham
  have hk0 := HK0.out wr l h (by omega)
  clear hlevd har hcl hk hlb h hx hBx hBy hn2 hX hY hfx
  go_enter Tryz.func112, Tryz.ntmps112
  go_wp2_with fail
  refine hlev.mono ?_
  rintro z w1 ⟨rfl, hw⟩
  have hw' := hw.symm
  subst hw'
  go_wp2_with fail
  refine hk0.mono ?_
  rintro z w2 ⟨rfl, h2⟩
  have H2 : Hid (WS wq w2 wb (l ++ X)) := h2
  obtain ⟨_, _, _, _, e4, _, e6⟩ := (h2.ex HX.out).all
  have hlt2 := (h2.ex HX.out).lt
  clear h2 hk0 hlev c0 c1 c2 c3 c4 c5 c6
  obtain ⟨w3, hw3⟩ : ∃ w3, w3 = w2.alloc (.cells #[.string ⟨#[32]⟩, .string s, .string ⟨#[32]⟩] 9) := ⟨_, rfl⟩
  have hb3 : Below w2.heap.size w2 w3 := by rw [hw3]; exact (Below.refl _ _).alloc (Nat.le_refl _) _
  have h3 := H2.out.later hb3
  have hp3 : w3.heap[w2.heap.size]? = some (.cells #[.string ⟨#[32]⟩, .string s, .string ⟨#[32]⟩] 9 (0, 0)) := by rw [hw3]; exact heap_at_alloc _ _ _ rfl
  have hfl : flatB [⟨#[32]⟩, s, ⟨#[32]⟩] = 32 :: (s.data.toList ++ [32]) := by simp [flatB]
  have hpt := partsC (n := 3) [⟨#[32]⟩, s, ⟨#[32]⟩] #[.string ⟨#[32]⟩, .string s, .string ⟨#[32]⟩] rfl (by omega) (fun k hk => by
    match k, hk with
    | 0, _ => rfl
    | 1, _ => rfl
    | 2, _ => rfl) h3 hp3 (by have := H2.out.lt; omega) (by rw [hfl]; simp only [List.length_append, List.length_cons, List.length_nil]; omega)
  rw [hfl] at hpt
  clear hfl h3 hp3 hb3
  go_wp2_with fail
  rw [← hw3]
  clear hw3
  refine hpt.mono ?_
  rintro z w4 ⟨rfl, h4⟩
  obtain ⟨_, _, _, _, _, _, d6⟩ := (h4.ex HX.out).all
  have hlt4 := (h4.ex HX.out).lt
  have hk1 := HK1.out w4 _ h4 (by simp only [List.length_append, List.length_cons, List.length_nil]; omega)
  have HE : Hid ((l ++ X) ++ (32 :: (s.data.toList ++ [32])) ++ Y = l ++ (X ++ (32 :: (s.data.toList ++ (32 :: Y))))) := by show _ = _; simp
  rw [HE.out] at hk1
  clear h4 hpt HE e4 e6
  go_wp2_with fail
  refine hk1.mono ?_
  rintro z w5 ⟨rfl, h5⟩
  go_wp2
  go_end0
  exact ⟨rfl, h5⟩
end Go.Proofs.YtcdeicfegfedfaaGreatDoor
