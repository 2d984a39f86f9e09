/- Contract of scan.Scan. -/
import Derived.Test.YtilapnfdijjobaaDoorNext
import Derived.Test.YtilapnfdijjobaaDoorLexE
import Derived.OwnWalk
namespace Go.Proofs.YtilapnfdijjobaaDoor
open Go.RowKit

theorem Tryd.infoTok : (Tryd.prog.info? 31).map (fun i => (i.zero, i.size, i.bytes)) = some (some (.agg #[.int .i64 0, .int .i64 0, .string ⟨#[]⟩]), 3, 32) := by kernel_rfl

theorem reader_any (s : ByteArray) (w : World) :
    Calls Tryd.prog 27 #[.string s] w fun e w' => e = .returned (.func (.func 44) #[] #[.pointer (some ⟨w.heap.size + 1, 0, none⟩), .pointer (some ⟨w.heap.size, 0, none⟩)]) ∧ w' = (w.alloc (.cells #[.string s] 9)).alloc (.cells #[.int .i64 0] 3) := by
  go_enter Tryd.func27, Tryd.ntmps27
  go_wp2
  go_ret
  exact ⟨rfl, rfl⟩

/- What the loop holds: the tokens gathered, the place, and that nothing old has turned. -/
structure Loop (s : ByteArray) (w wr : World) (v : Value) (p f : Nat) (acc : List Lex.Tok) : Prop where
  own : wr.ownsRow (w.heap.size + 3) 31 3 v acc.length (Lex.cellsOf acc)
  res : wr.heap[w.heap.size]? = some (.cells #[.int .i64 0, .int .i64 0] 25 (0, 0))
  str : wr.heap[w.heap.size + 1]? = some (.cells #[.string s] 9 (0, 0))
  plc : wr.heap[w.heap.size + 2]? = some (.cells #[.int .i64 (p : Int)] 3 (0, 0))
  bel : Below w.heap.size w wr
  big : w.heap.size + 3 ≤ wr.heap.size
  len : acc.length ≤ 600
  plt : p ≤ s.size
  all : Lex.scanAll s.data.toList = Lex.scanF s.data.toList f p acc
  fuel : s.size < p + f

theorem loop_start (s : ByteArray) (w : World) (H : Lex.scanAll s.data.toList = Lex.scanF s.data.toList (s.size + 1) 0 []) :
    Loop s w (((w.alloc (.cells #[.int .i64 0, .int .i64 0] 25)).alloc (.cells #[.string s] 9)).alloc (.cells #[.int .i64 0] 3)) (.slice none 0 0) 0 (s.size + 1) [] :=
  ⟨World.ownsRow_nil _ _ _ _, heap_past_alloc (heap_past_alloc (heap_at_alloc _ _ _ rfl)), heap_past_alloc (heap_at_alloc _ _ _ (by simp)), heap_at_alloc _ _ _ (by simp), (((Below.refl _ _).alloc (Nat.le_refl _) _).alloc (by simp) _).alloc (by simp; omega) _, by simp, by simp, by simp, H, by omega⟩
theorem slice_of {w : World} {base e size n : Nat} {v : Value} {xs : List Value} (h : w.ownsRow base e size v n xs) : ∃ ao cap, v = .slice ao n cap := by
  rcases h.2 with ⟨rfl, rfl⟩ | ⟨g, cap, cur, rfl, _⟩
  · exact ⟨none, 0, rfl⟩
  · exact ⟨_, cap, rfl⟩

theorem ownsRow_le' {w : World} {B base e size n : Nat} {v : Value} {xs : List Value} (h : w.ownsRow base e size v n xs) (hB : B ≤ base) : w.ownsRow B e size v n xs := by
  obtain ⟨h1, h2⟩ := h
  rcases h2 with h2 | ⟨g, cap, cur, hv, hg, r⟩
  · exact ⟨h1, .inl h2⟩
  · exact ⟨h1, .inr ⟨g, cap, cur, hv, by omega, r⟩⟩
theorem own_next {s : ByteArray} {w wr w1 : World} {v : Value} {p f : Nat} {acc : List Lex.Tok} (h : Loop s w wr v p f acc) (hg : wr.grownBy w1 (some (w.heap.size + 2))) : w1.ownsRow (w.heap.size + 3) 31 3 v acc.length (Lex.cellsOf acc) := by
  refine h.own.kept hg ?_
  right
  intro he
  have := (h.own.lt _ he).1
  omega
theorem bel_next {s : ByteArray} {w wr w1 : World} {v : Value} {p f : Nat} {acc : List Lex.Tok} (h : Loop s w wr v p f acc) (hg : wr.grownBy w1 (some (w.heap.size + 2))) : Below w.heap.size w w1 :=
  h.bel.grown hg (by have := h.big; omega) (by intro k hk; simp at hk; omega)
theorem three_new (w : World) (o : Obj) (a b c : Value) (e : TypeId) : ∀ j u, [a, b, c][j]? = some u → ((w.alloc o).alloc (.cells #[a, b, c] e)).cell? ((⟨w.heap.size + 1, 0, none⟩ : Addr).add j) = some u := by
  intro j u hj
  have e0 : ((w.alloc o).alloc (.cells #[a, b, c] e)).cell? ⟨w.heap.size + 1, j, none⟩ = (#[a, b, c] : Array Value)[j]? := World.cell?_alloc_at _ _ _ _ (by simp)
  have e1 : (⟨w.heap.size + 1, 0, none⟩ : Addr).add j = ⟨w.heap.size + 1, j, none⟩ := by simp [Addr.add]; intro h; exact h.symm
  rw [e1, e0]; simpa using hj
theorem loop_next {s t : ByteArray} {w wr w1 w2 : World} {v v' : Value} {o1 o2 : Obj} {p f n q : Nat} {k : Int} {acc : List Lex.Tok} (h : Loop s w wr v p (f + 1) acc) (hg : wr.grownBy w1 (some (w.heap.size + 2)))
    (hpl : w1.heap[w.heap.size + 2]? = some (.cells #[.int .i64 (n : Int)] 3 (0, 0))) (hn : n ≤ s.size) (hk : k ≠ 0) (hpn : p < n) (hst : Lex.stepF s.data.toList p = (k, q, t.data.toList, 0, n)) (hf : ¬ acc.length = 600)
    (hown : w2.ownsRow (w.heap.size + 3) 31 3 v' (acc.length + 1) (Lex.cellsOf acc ++ [.int .i64 k, .int .i64 (q : Int), .string t])) (hgr : ((w1.alloc o1).alloc o2).grownBy w2 v.ownBlock) :
    Loop s w w2 v' n f (acc ++ [(k, q, t.data.toList)]) := by
  have hb := h.big
  have hz : ((w1.alloc o1).alloc o2).heap.size = w1.heap.size + 2 := by simp
  have h1 := hg.size
  have h2 := hgr.size
  have low : ∀ b x, b < w.heap.size + 3 → w1.heap[b]? = some x → w2.heap[b]? = some x := fun b x hlt hx => by
    rw [hgr.block b (by omega) ?_]
    · exact heap_past_alloc (heap_past_alloc hx)
    · intro he
      have := (h.own.lt _ he.symm).1
      omega
  have old : ∀ b x, b < w.heap.size + 2 → wr.heap[b]? = some x → w2.heap[b]? = some x := fun b x hlt hx => low b x (by omega) ((hg.block b (lt_of_block hx) (by simp; omega)).trans hx)
  refine ⟨?_, old _ _ (by omega) h.res, old _ _ (by omega) h.str, low _ _ (by omega) hpl, ?_, by omega, by have := h.len; simp; omega, hn, h.all.trans (Lex.scan_on hst hk hf), by have := h.fuel; omega⟩
  · rw [Lex.cellsOf_snoc]
    simpa using hown
  · exact (((bel_next h hg).alloc (by omega) _).alloc (by simp; omega) _).grown hgr (by omega) (fun k he => by have := (h.own.lt _ he).1; omega)

set_option maxHeartbeats 2000000 in
theorem scan_any (s : ByteArray) (w : World) (hsz : s.size ≤ maxLen) :
    Calls Tryd.prog 6 #[.string s] w fun e w' => ∃ (v : Value) (l : List Lex.Tok) (c : Int) (q : Nat), e = .returned (.tuple #[v, .agg #[.int .i64 c, .int .i64 (q : Int)]]) ∧ Lex.scanAll s.data.toList = (l, c, q) ∧ w'.ownsRow w.heap.size 31 3 v l.length (Lex.cellsOf l) ∧ Below w.heap.size w w' := by
  unfold maxLen at hsz
  by_cases hbig : 4000 < s.size
  · have H : Hid (Lex.scanAll s.data.toList = ([], 2, 0)) := Lex.scan_many (by rw [Lex.len_of]; exact hbig)
    go_enter Tryd.func6, Tryd.ntmps6
    go_wp2
    exact bodyPost_ret (v := .tuple #[.slice none 0 0, .agg #[.int .i64 2, .int .i64 0]]) (by simp [results, Tryd.results6, go_sem]) rfl ⟨_, [], 2, 0, rfl, H.out, World.ownsRow_nil _ _ _ _, (Below.refl _ _).alloc (Nat.le_refl _) _⟩
  · have HB : Hid (Lex.scanAll s.data.toList = Lex.scanF s.data.toList (s.size + 1) 0 []) := by
      have := Lex.scan_begin (l := s.data.toList) (by rw [Lex.len_of]; exact hbig)
      rwa [Lex.len_of] at this
    have hs : s.size ≤ 4000 := by omega
    go_enter Tryd.func6, Tryd.ntmps6
    go_wp2_with (go_at_call 27; refine (reader_any _ _).mono ?_; rintro e w' ⟨rfl, rfl⟩)
    go_loopw [4] (fun v wr => ∃ p f acc, Loop s w wr v p f acc) (fun _ wr => s.size - Lex.placeOf wr (w.heap.size + 2))
    case atStart => exact ⟨0, s.size + 1, [], loop_start s w HB.out⟩
    case round =>
      obtain ⟨p, f0, acc, HL0⟩ := hrel
      obtain ⟨f, rfl⟩ : ∃ f, f0 = f + 1 := ⟨f0 - 1, by have := HL0.fuel; have := HL0.plt; omega⟩
      obtain ⟨i0, hi, hz0, hz1, hz2⟩ := info_parts Tryd.infoTok
      have HL : Hid (Loop s w wr u4 p (f + 1) acc) := HL0
      obtain ⟨ao, cap, hv⟩ := slice_of HL0.own
      subst hv
      clear HL0 HB
      go_wp2_with fail
      refine (next_any s p (w.heap.size + 1 + 1) (w.heap.size + 1) wr hs HL.out.plt HL.out.plc HL.out.str).mono ?_
      rintro e w1 ⟨k, q, t, c, n, rfl, HST, hgr, hpl, hq, hn, hprog⟩
      have hR : w1.heap[w.heap.size]? = some (.cells #[.int .i64 0, .int .i64 0] 25 (0, 0)) := (hgr.block _ (lt_of_block HL.out.res) (by simp; omega)).trans HL.out.res
      have lR := lt_of_block hR
      have r0 : w1.cell? ⟨w.heap.size, 0, none⟩ = some (.int .i64 0) := by simp [World.cell?, hR]
      have r1 : w1.cell? ⟨w.heap.size, 1, none⟩ = some (.int .i64 0) := by simp [World.cell?, hR]
      have z0 : w1.frozen? ⟨w.heap.size, 0, none⟩ = false := by simp [World.frozen?, hR]
      have z1 : w1.frozen? ⟨w.heap.size, 1, none⟩ = false := by simp [World.frozen?, hR]
      have HGR : Hid (wr.grownBy w1 (some (w.heap.size + 2))) := hgr
      have HPL : Hid (w1.heap[w.heap.size + 2]? = some (.cells #[.int .i64 (n : Int)] 3 (0, 0))) := hpl
      have HRR : Hid (w1.heap[w.heap.size]? = some (.cells #[.int .i64 0, .int .i64 0] 25 (0, 0))) := hR
      have HPG : Hid (k ≠ 0 → p < n) := hprog
      clear hgr hpl hR hprog
      by_cases hc : c = 0
      · subst hc
        by_cases hk : k = 0
        · subst hk
          have hO := own_next HL.out HGR.out
          have hB := bel_next HL.out HGR.out
          have HO : Hid (w1.ownsRow (w.heap.size + 3) 31 3 (.slice ao acc.length cap) acc.length (Lex.cellsOf acc)) := hO
          have HB : Hid (Below w.heap.size w w1) := hB
          clear hO hB
          go_wp2
          exact bodyPost_ret (v := .tuple #[.slice ao acc.length cap, .agg #[.int .i64 0, .int .i64 0]]) (by simp [results, Tryd.results6, go_sem, r0, r1, lR]) rfl ⟨_, acc, 0, 0, rfl, HL.out.all.trans (Lex.scan_end HST.out), ownsRow_le' (World.ownsRow.alloc (ownsRow_setCell_below (ownsRow_setCell_below HO.out (by show w.heap.size < _; omega) _) (by show w.heap.size < _; omega) _) _) (by omega), ((HB.out.setCell (Nat.le_refl _) _).setCell (Nat.le_refl _) _).alloc (by simp [World.setCell]; omega) _⟩
        · have bk : (k == 0) = false := by simp [hk]
          have HK : Hid (k ≠ 0) := hk
          clear hk
          by_cases hf : acc.length = 600
          · have bf : ((acc.length : Int) == 600) = true := by simp [hf]
            have HF : Hid (acc.length = 600) := hf
            clear hf
            have HB : Hid (Below w.heap.size w w1) := bel_next HL.out HGR.out
            go_wp2
            go_region
            all_goals (try go_wp2)
            all_goals exact bodyPost_ret (v := .tuple #[.slice none 0 0, .agg #[.int .i64 2, .int .i64 (q : Int)]]) (by simp [results, Tryd.results6, go_sem, r0, r1, lR]) rfl ⟨_, [], 2, q, rfl, HL.out.all.trans (Lex.scan_full HST.out HK.out HF.out), World.ownsRow_nil _ _ _ _, (((HB.out.setCell (Nat.le_refl _) _).setCell (Nat.le_refl _) _).alloc (by simp [World.setCell]; omega) _).drew⟩
          · have bf : ((acc.length : Int) == 600) = false := by simp; omega
            have HO : Hid (w1.ownsRow (w.heap.size + 3) 31 3 (.slice ao acc.length cap) acc.length (Lex.cellsOf acc)) := own_next HL.out HGR.out
            have hlen := HL.out.len
            have hsz1 : w.heap.size + 3 ≤ w1.heap.size := Nat.le_trans HL.out.big HGR.out.size
            have HF : Hid (¬ acc.length = 600) := hf
            clear hf
            go_wp2_with (at_builtin; refine wpList_append_own _ rfl _ _ 22 rfl (w.heap.size + 3) 31 i0 (.agg #[.int .i64 0, .int .i64 0, .string ⟨#[]⟩]) 3 32 Tryd.underlying22 hi hz0 hz1 hz2 rfl (by decide) _ _ _ rfl (World.ownsRow.alloc (World.ownsRow.alloc HO.out _) _) ⟨w1.heap.size + 1, 0, none⟩ 1 1 [.int .i64 k, .int .i64 (q : Int), .string t] rfl rfl ?c1 ?c2 ?c3 ?c4 ?c5 ?_)
            case c1 => exact three_new _ _ _ _ _ _
            case c2 => intro u hu; simp at hu; rcases hu with rfl | rfl | rfl <;> rfl
            case c3 => unfold maxLen; omega
            case c4 => omega
            case c5 => simp; omega
            · intro v' w2 hown2 hgrow2 _
              have HN : Hid (Loop s w w2 v' n f (acc ++ [(k, q, t.data.toList)])) := loop_next HL.out HGR.out HPL.out hn HK.out (HPG.out HK.out) HST.out HF.out hown2 hgrow2
              have HM : Hid (s.size - Lex.placeOf w2 (w.heap.size + 2) < s.size - Lex.placeOf wr (w.heap.size + 2)) := by
                have := HPG.out HK.out; have := HL.out.plt
                show _ < _; rw [Lex.placeOf_of HN.out.plc, Lex.placeOf_of HL.out.plc]; omega
              clear hown2 hgrow2
              go_wp2
              go_roundw
              case rel => exact ⟨n, f, _, HN.out⟩
              case measure => exact HM.out
      · have bc : (c == 0) = false := by simp [hc]
        have bn : (c != 0) = true := by simp [hc]
        have HC : Hid (c ≠ 0) := hc
        clear hc
        have HB : Hid (Below w.heap.size w w1) := bel_next HL.out HGR.out
        go_wp2
        go_region
        all_goals (try go_wp2)
        all_goals exact bodyPost_ret (v := .tuple #[.slice none 0 0, .agg #[.int .i64 c, .int .i64 (q : Int)]]) (by simp [results, Tryd.results6, go_sem, r0, r1, lR]) rfl ⟨_, [], c, q, rfl, HL.out.all.trans (Lex.scan_bad HST.out HC.out), World.ownsRow_nil _ _ _ _, (((HB.out.setCell (Nat.le_refl _) _).setCell (Nat.le_refl _) _).alloc (by simp [World.setCell]; omega) _).drew⟩
end Go.Proofs.YtilapnfdijjobaaDoor
