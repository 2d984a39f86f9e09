/- Contracts of label.long and label.Print. And more of the same. -/
import Derived.Test.YtepkhlpjgnckkaaGreatDoorZB1
import Derived.Test.YtepkhlpjgnckkaaGreatDoorZShelfB
import Derived.Test.YtepkhlpjgnckkaaGreatDoorZShelfJ
import Derived.Lib.OthersKept
import Derived.Carry
namespace Go.Proofs.YtepkhlpjgnckkaaGreatDoor
set_option maxRecDepth 100000
set_option maxHeartbeats 8000000
open Go.RowKit
theorem tooLong_any (s:ByteArray)(w:World):
 Calls Tryz.prog 149 #[.string s] w fun e w'=>e=.returned (.bool (decide (12<s.size)))∧Below w.heap.size w w':=by
 have HE:Hid (decide ((12:Int)<(s.size:Int))=decide (12<s.size)):=by show _=_;simp;omega
 rw[←HE.out]
 clear HE
 go_enter Tryz.func149,Tryz.ntmps149
 go_wp2
 go_ret
 exact⟨rfl,Below.refl _ _⟩
theorem long_any (p:Pol)(v:Value)(w:World)(hv:ReadersAt w v p.2):
 Calls Tryz.prog 110 #[.agg #[.string p.1,v]] w fun e w'=>e=.returned (.bool (longB p))∧Below w.heap.size w w':=by
 obtain⟨o,rs⟩:=p
 obtain⟨ro,rb,roff,rc,hv1,hv2,hv3,hv4⟩:=hv
 subst hv1
 simp only at hv2 hv4⊢
 obtain⟨wz,hwz⟩:∃wz,wz=w.alloc (.cells #[.string o,.slice ro rs.length rc] 152):=⟨_,rfl⟩
 have hbz:Below w.heap.size w wz:=by rw[hwz];exact(Below.refl _ _).alloc (Nat.le_refl _) _
 have k0:wz.heap[w.heap.size]? =some (.cells #[.string o,.slice ro rs.length rc] 152 (0,0)):=by rw[hwz];exact heap_at_alloc _ _ _ rfl
 have hk1:=tooLong_any o wz
 have HK2:Hid (rs.length≤6→∀W,Below wz.heap.size wz W→Calls Tryz.prog 70 #[.slice ro rs.length rc,.func (.func 149) #[] #[]] W fun e w'=>e=.returned (.bool (rs.any fun r=>decide (12<r.size)))∧Below W.heap.size W w'):=fun h6 W hW=>
  containsFuncS _ #[] (enters_of Tryz.func149 (by kernel_rfl) rfl) (fun r=>decide (12<r.size)) ro rb roff _ rc rs W rfl (by omega) (hv4.later (hbz.trans (hW.mono hbz.size))) (fun W' s _ _=>tooLong_any s W')
 have HBZ:Hid (Below w.heap.size w wz):=hbz
 have HK0:Hid (∀W,Below wz.heap.size wz W→W.heap[w.heap.size]? =some (.cells #[.string o,.slice ro rs.length rc] 152 (0,0))):=fun W hW=>(hW.block _ (lt_of_block k0)).trans k0
 have HE:Hid (longB (o,rs)=((decide (6<rs.length) || decide (12<o.size)) || rs.any fun r=>decide (12<r.size))):=rfl
 rw[HE.out]
 obtain⟨n,hn⟩:∃n,n=rs.length:=⟨_,rfl⟩
 rw[←hn] at hwz k0 HK2 HK0 hv2⊢
 unfold maxLen at hv3
 obtain⟨t1,ht1⟩:∃t1,t1=decide (12<o.size):=⟨_,rfl⟩
 obtain⟨t2,ht2⟩:∃t2,t2=rs.any fun r=>decide (12<r.size):=⟨_,rfl⟩
 rw[←ht1] at hk1⊢
 rw[←ht2] at HK2⊢
 have HWZ:Hid (wz=w.alloc (.cells #[.string o,.slice ro n rc] 152)):=hwz
 clear hn ht1 ht2 HE hbz k0 hv4 hwz
 by_cases h6:6<n
 ·have d6:decide (6<n)=true:=by simp[h6]
  have i6:decide ((6:Int)<(n:Int))=true:=by simp;omega
  rw[d6]
  go_enter Tryz.func110,Tryz.ntmps110
  go_wp2
  go_ret
  refine⟨by simp,?_⟩
  rw[←HWZ.out]
  exact HBZ.out
 ·have d6:decide (6<n)=false:=by simp[h6]
  have i6:decide ((6:Int)<(n:Int))=false:=by simp;omega
  rw[d6]
  have HK3:=HK2.out (by omega)
  clear HK2 d6
  go_enter Tryz.func110,Tryz.ntmps110
  go_wp2_with fail
  rw[←HWZ.out]
  refine hk1.mono ?_
  rintro e w1 ⟨rfl,hb1⟩
  have k1:=HK0.out w1 hb1
  have f1:w1.cell? ⟨w.heap.size,1,none⟩=some (.slice ro n rc):=by simp[World.cell?,k1]
  have hk4:=HK3 w1 hb1
  have HB1:Hid (Below w.heap.size w w1):=HBZ.out.trans (hb1.mono HBZ.out.size)
  clear k1 hb1 HK3 hk1 HK0
  cases t1 with
  | true=>
   go_wp2
   go_ret
   exact⟨by simp,HB1.out⟩
  | false=>
   go_wp2_with fail
   refine hk4.mono ?_
   rintro e w2 ⟨rfl,hb2⟩
   go_wp2
   go_ret
   exact⟨by simp,HB1.out.trans (hb2.mono HB1.out.size)⟩
theorem joinS (ro:Option Addr)(rb roff rc:Nat)(rs:List ByteArray)(w:World)(h:Strs w ro rb roff rs)(hcap:rs.length≤rc)(h6:rs.length≤6)(h12:∀r∈rs,r.size≤12):
 Calls Tryz.prog 113 #[.slice ro rs.length rc,.string ⟨#[44]⟩] w fun e w'=>e=.returned (.string ⟨(Lib.join (rs.map (·.data.toList)) [44]).toArray⟩)∧Below w.heap.size w w':=by
 by_cases h0:rs.length=0
 ·have e:rs=[]:=List.length_eq_zero_iff.1 h0
  subst e
  exact(Tryz.strings_Join_none ro rc _ w).mono fun e w' ⟨he,hw⟩=>⟨he,hw▸Below.refl _ _⟩
 ·have ha:=h.adr (by omega)
  subst ha
  refine Tryz.strings_Join rb roff rc rs ⟨#[44]⟩ w (fun j x hj=> ?_) (h.lt (by omega)) (by omega) hcap ?_
  ·obtain⟨hl,e⟩:=List.getElem?_eq_some_iff.1 hj
   rw[←e];exact h.cell j hl
  ·have:=readers_len h6 h12
   show(Lib.join _ [44]).length≤_
   omega
theorem lt_builderL {B b:Nat}{bs:List Value}{w:World}(h:Lib.IsBuilderF 192 5 B b bs w):b<w.heap.size:=by
 rcases h with h | h<;>exact h.lt
theorem builder_below {B b:Nat}{bs:List Value}{W W':World}(h:Lib.IsBuilderF 192 5 B b bs W)(hb:Below W.heap.size W W'):Lib.IsBuilderF 192 5 B b bs W':=by
 have one:∀p,Lib.BuilderAtF 192 5 B b p bs W→Lib.BuilderAtF 192 5 B b p bs W':=by
  intro p h
  have hlt:=h.lt
  obtain⟨hB,v,hv,hown,hne⟩:=h
  exact⟨hB,v,(hb.block b hlt).trans hv,hown.kept (row:=none) ⟨hb.os,hb.tape,hb.output,hb.size,fun k hk _=>hb.block k hk⟩ (Classical.em _),hne⟩
 exact h.elim (fun x=>.inl (one _ x)) (fun x=>.inr (one _ x))
theorem kept_pol {wx w1:World}{b q:Nat}{v0 v1:Value}(hk:Lib.OthersKept 5 (some b) wx w1)(hq:wx.heap[q]? =some (.cells #[v0,v1] 152 (0,0)))(hb:q≠b):w1.heap[q]? =some (.cells #[v0,v1] 152 (0,0)):=
 hk _ _ hq (by simp[hb]) (by simp)
structure PrSt (wq wr:World)(l:List UInt8):Prop where
 bel:Below wq.heap.size wq wr
 bld:Lib.IsBuilderF 192 5 wq.heap.size wq.heap.size (Lib.byteCells l) wr
theorem PrSt.later {wq wr w':World}{l:List UInt8}(h:PrSt wq wr l)(hb:Below wr.heap.size wr w'):PrSt wq w' l:=
 ⟨h.bel.trans (hb.mono h.bel.size),builder_below h.bld hb⟩
theorem PrSt.byte {wq wr:World}{l:List UInt8}(h:PrSt wq wr l)(c:UInt8)(hl:l.length≤100000):
 Calls Tryz.prog 111 #[.pointer (some ⟨wq.heap.size,0,none⟩),.int .u8 (c.toNat:Int)] wr fun e w'=>e=.returned .nilIface∧PrSt wq w' (l++[c])∧Lib.OthersKept 5 (some wq.heap.size) wr w':=by
 refine(Tryz.Builder_WriteByte _ _ _ (c.toNat:Int) _ h.bld (by rw[Lib.byteCells_length];omega) h.bel.size).mono ?_
 rintro e w' ⟨rfl,h1,h2,h3⟩
 refine⟨rfl,⟨h.bel.trans h2,.inr ?_⟩,h3⟩
 rw[Lib.byteCells_append]
 exact h1
theorem PrSt.str {wq wr:World}{l:List UInt8}(h:PrSt wq wr l)(s:ByteArray)(hl:l.length≤100000)(hs:s.size≤100000):
 Calls Tryz.prog 112 #[.pointer (some ⟨wq.heap.size,0,none⟩),.string s] wr fun e w'=>e=.returned (.tuple #[.int .i64 s.size,.nilIface])∧PrSt wq w' (l++s.data.toList)∧Lib.OthersKept 5 (some wq.heap.size) wr w':=by
 refine(Tryz.Builder_WriteString _ _ _ s _ h.bld (by rw[Lib.byteCells_length];omega) h.bel.size).mono ?_
 rintro e w' ⟨rfl,h1,h2,h3⟩
 refine⟨rfl,⟨h.bel.trans h2,.inr ?_⟩,h3⟩
 rw[Lib.byteCells_append,←Lib.strCells_eq]
 exact h1
structure LabP (w:World)(ao:Option Addr)(b off n c:Nat)(x:List Pol):Prop where
 ln:n=x.length
 mn:n≤maxLen
 pols:Pols w ao b off x
theorem printV_ok {x:List Pol}(h:¬200<x.length)(g:x.any longB=false):printE x=0∧printV x=⟨(labelT x).toArray⟩:=by
 have e:printE x=0:=by unfold printE;rw[if_neg];rintro(h' | h');exact h h';rw[g] at h';cases h'
 exact⟨e,by simp[printV,e]⟩
theorem printV_no {x:List Pol}(h:200<x.length∨x.any longB=true):printE x=2∧printV x=⟨#[]⟩:=by
 have e:printE x=2:=by unfold printE;rw[if_pos h]
 exact⟨e,by simp[printV,e]⟩
theorem printC (lo:Option Addr)(lb loff ln lc:Nat)(x:List Pol)(w:World)(hx:LabP w lo lb loff ln lc x):
 Calls Tryz.prog 76 #[.slice lo ln lc] w fun e w'=>e=.returned (.tuple #[.string (printV x),.int .i64 (printE x)])∧Below w.heap.size w w':=by
 have HX:Hid (LabP w lo lb loff ln lc x):=hx
 have hlm:=hx.mn
 unfold maxLen at hlm
 clear hx
 by_cases h200:200<ln
 ·obtain⟨e1,e2⟩:=printV_no (x:=x) (.inl (by have:=HX.out.ln;omega))
  rw[e1,e2]
  clear e1 e2
  have i2:decide ((200:Int)<(ln:Int))=true:=by simp;omega
  go_enter Tryz.func76,Tryz.ntmps76
  go_wp2
  go_ret2
  exact⟨rfl,Below.refl _ _⟩
 ·have i2:decide ((200:Int)<(ln:Int))=false:=by simp;omega
  have hcf:=containsFuncP _ #[] (enters_of Tryz.func110 (by kernel_rfl) rfl) longB lo lb loff ln lc x w HX.out.ln (by omega) HX.out.pols (fun W p v _ hv _=>long_any p v W hv)
  cases ht:x.any longB with
  | true=>
   obtain⟨e1,e2⟩:=printV_no (x:=x) (.inr ht)
   rw[e1,e2]
   rw[ht] at hcf
   clear e1 e2 ht
   go_enter Tryz.func76,Tryz.ntmps76
   go_wp2_with fail
   refine hcf.mono ?_
   rintro e w1 ⟨rfl,hb1⟩
   go_wp2
   go_ret2
   exact⟨rfl,hb1⟩
  | false=>
   obtain⟨e1,e2⟩:=printV_ok (x:=x) (by have:=HX.out.ln;omega) ht
   have HSH:Hid (∀p∈x,longB p=false):=fun p hp=>by simpa using List.any_eq_false.1 ht p hp
   obtain⟨PT,hPT⟩:∃PT,PT=labelT x:=⟨_,rfl⟩
   rw[e1,e2,←hPT]
   have HPT:Hid (PT=labelT x):=hPT
   rw[ht] at hcf
   clear e1 e2 ht hPT
   go_enter Tryz.func76,Tryz.ntmps76
   go_wp2_with fail
   refine hcf.mono ?_
   rintro e wq ⟨rfl,hbq⟩
   have HBQ:Hid (Below w.heap.size w wq):=hbq
   have HS0:Hid (PrSt wq (wq.alloc (.cells #[.pointer none,.slice none 0 0] 192)) []):=⟨(Below.refl _ _).alloc (Nat.le_refl _) _,Lib.IsBuilderF.of (Lib.fresh_isBuilder _ _ _)⟩
   clear hbq hcf
   go_wp2_with fail
   refine(HS0.out.byte 123 (by simp)).mono ?_
   rintro e w1 ⟨rfl,hs1,_⟩
   have HS1:Hid (PrSt wq w1 (123::bodyT (x.take 0))):=hs1
   clear hs1 HS0
   go_wp2
   go_loopw [17] (fun i wr=>∃k:Nat,k≤ln∧i=.int .i64 k∧Hid (PrSt wq wr (123::bodyT (x.take k)))) (fun i _=>ln - (intOf i).toNat)
   case atStart=>exact⟨0,Nat.zero_le _,rfl,HS1⟩
   case round=>
    clear HS1
    obtain⟨k,hk,rfl,HS⟩:=hrel
    by_cases hlt:k<ln
    ·have hl0:=HX.out.ln
     have hkl:k<x.length:=by omega
     have hbw:=HBQ.out.trans (HS.out.bel.mono HBQ.out.size)
     have hX:=HX.out.pols.later hbw
     have hao:=hX.adr (by omega)
     have f0:=hX.c0 k hkl
     obtain⟨v,f1,hv⟩:=hX.c1 k hkl
     have hsh:=HSH.out _ (List.getElem_mem hkl)
     have hbl:(bodyT (x.take k)).length≤200*92:=by
      have h1:=bodyT_len (x:=x.take k) (fun p hp=>HSH.out p (List.mem_of_mem_take hp))
      have h2:(x.take k).length≤200:=by rw[List.length_take];omega
      exact Nat.le_trans h1 (Nat.mul_le_mul_right _ h2)
     have hn0:=fun h=>bodyT_first (x:=x) hkl h
     have hn1:=fun h=>bodyT_next (x:=x) hkl h
     obtain⟨p,hp⟩:∃p,p=x[k]:=⟨_,rfl⟩
     rw[←hp] at f0 hv hsh hn0 hn1
     obtain⟨o,rs⟩:=p
     simp only at f0 hv
     obtain⟨h6,h12,hr12⟩:=short_of hsh
     simp only at h6 h12 hr12
     obtain⟨ro,rb,roff,rc,hv1,hv2,hv3,_⟩:=hv
     subst hv1
     have HJN:Hid (∀W,Below wq.heap.size wq W→Calls Tryz.prog 113 #[.slice ro rs.length rc,.string ⟨#[44]⟩] W fun e w'=>e=.returned (.string ⟨(Lib.join (rs.map (·.data.toList)) [44]).toArray⟩)∧Below W.heap.size W w'):=fun W hW=>by
      obtain⟨v',g1,g2⟩:=(HX.out.pols.later (HBQ.out.trans (hW.mono HBQ.out.size))).c1 k hkl
      have g3:=(hW.cell (p:=⟨lb,loff+k*2+1,none⟩) (Nat.lt_of_lt_of_le (HX.out.pols.lt (by omega)) HBQ.out.size))
      have g4:=(HS.out.bel.cell (p:=⟨lb,loff+k*2+1,none⟩) (Nat.lt_of_lt_of_le (HX.out.pols.lt (by omega)) HBQ.out.size))
      rw[g1,←g4,f1] at g3
      injection g3 with g3
      subst g3
      rw[←hp] at g2
      obtain⟨ro',rb',roff',rc',e1,e2,_,e4⟩:=g2
      injection e1 with e1 _ e3
      subst e1 e3
      exact joinS ro rb' roff' rc rs W e4 e2 h6 hr12
     have hjl:=readers_len h6 hr12
     obtain⟨jl,hjj⟩:∃jl,jl=Lib.join (rs.map (·.data.toList)) [44]:=⟨_,rfl⟩
     have hpt:polT (o,rs)=o.data.toList++(58::jl):=by rw[hjj];rfl
     rw[←hjj] at HJN hjl
     rw[hpt] at hn0 hn1
     obtain⟨rn,hrn⟩:∃rn,rn=rs.length:=⟨_,rfl⟩
     rw[←hrn] at f1 HJN
     obtain⟨pb,hpb⟩:∃pb,pb=wr.heap.size:=⟨_,rfl⟩
     have HPB:Hid (pb≠wq.heap.size):=by have:=lt_builderL HS.out.bld;show _≠_;omega
     obtain⟨wy,hwy⟩:∃wy,wy=wr.alloc (.cells #[.string o,.slice ro rn rc] 152):=⟨_,rfl⟩
     have hby:Below wr.heap.size wr wy:=by rw[hwy];exact(Below.refl _ _).alloc (Nat.le_refl _) _
     have HSY:Hid (PrSt wq wy (123::bodyT (x.take k))):=HS.out.later hby
     have K0:Hid (wy.heap[pb]? =some (.cells #[.string o,.slice ro rn rc] 152 (0,0))):=by show _=_;rw[hwy,hpb];exact heap_at_alloc _ _ _ rfl
     have k0:=K0.out
     have HWY:Hid (wy=wr.alloc (.cells #[.string o,.slice ro rn rc] 152)):=hwy
     have HPE:Hid (pb=wr.heap.size):=hpb
     have HOL:Hid (o.data.toList.length=o.size):=by show _=_;rw[Array.length_toList];rfl
     obtain⟨bt,hbt⟩:∃bt,bt=bodyT (x.take k):=⟨_,rfl⟩
     rw[←hbt] at HSY hbl hn0 hn1
     clear hl0 hX hbw hv2 hv3 hsh hp hjj hpt hrn hby hwy hbt HS h6 hr12 hpb
     subst hao
     by_cases h0:k=0
     ·have HNX:Hid (bodyT (x.take (k+1))=bt++(o.data.toList++(58::jl))):=hn0 h0
      have hp0:¬(0:Int)<(k:Int):=by omega
      have K1:=K0
      have f2:wy.cell? ⟨pb,0,none⟩=some (.string o):=by simp[World.cell?,k0]
      have lp:pb<wy.heap.size:=lt_of_block k0
      clear hn0 hn1 k0 h0
      go_wp2_with fail
      rw[←HPE.out,←HWY.out]
      go_wp2_with fail
      refine((HSY.out).str o (by simp;omega) (by omega)).mono ?_
      rintro e w2 ⟨rfl,hs2,hk2⟩
      have K2:Hid (w2.heap[pb]? =some (.cells #[.string o,.slice ro rn rc] 152 (0,0))):=kept_pol hk2 K1.out HPB.out
      have HS2:Hid (PrSt wq w2 _):=hs2
      clear hs2 hk2 f2 lp
      go_wp2_with fail
      refine(HS2.out.byte 58 (by simp only[List.length_append,List.length_cons,HOL.out];omega)).mono ?_
      rintro e w3 ⟨rfl,hs3,hk3⟩
      have K3:Hid (w3.heap[pb]? =some (.cells #[.string o,.slice ro rn rc] 152 (0,0))):=kept_pol hk3 K2.out HPB.out
      have k3:=K3.out
      have f1:w3.cell? ⟨pb,1,none⟩=some (.slice ro rn rc):=by simp[World.cell?,k3]
      have lp3:pb<w3.heap.size:=lt_of_block k3
      have HS3:Hid (PrSt wq w3 _):=hs3
      have hjn:=HJN.out w3 hs3.bel
      clear hs3 hk3 k3
      go_wp2_with fail
      refine hjn.mono ?_
      rintro e w4 ⟨rfl,hb4⟩
      have HS4:Hid (PrSt wq w4 _):=HS3.out.later hb4
      clear hb4 hjn
      go_wp2_with fail
      refine(HS4.out.str ⟨jl.toArray⟩ (by simp only[List.length_append,List.length_cons,List.length_nil,HOL.out];omega) (by show jl.toArray.size≤_;simp;omega)).mono ?_
      rintro e w5 ⟨rfl,hs5,_⟩
      have HN:Hid (PrSt wq w5 (123::bodyT (x.take (k+1)))):=by
       show PrSt _ _ _
       rw[HNX.out]
       simpa[polT] using hs5
      clear hs5
      go_wp2
      go_roundw
      case rel=>exact⟨k+1,by omega,by go_num,HN⟩
      case measure=>simp[intOf];omega
     ·have HNX:Hid (bodyT (x.take (k+1))=bt++(59::(o.data.toList++(58::jl)))):=hn1 (by omega)
      have hp0:(0:Int)<(k:Int):=by omega
      clear hn0 hn1 k0 h0
      go_wp2_with fail
      rw[←HPE.out,←HWY.out]
      refine(HSY.out.byte 59 (by simp;omega)).mono ?_
      rintro e w1 ⟨rfl,hs1,hk1⟩
      have K1:Hid (w1.heap[pb]? =some (.cells #[.string o,.slice ro rn rc] 152 (0,0))):=kept_pol hk1 K0.out HPB.out
      have k1:=K1.out
      have f2:w1.cell? ⟨pb,0,none⟩=some (.string o):=by simp[World.cell?,k1]
      have lp:pb<w1.heap.size:=lt_of_block k1
      have HS1:Hid (PrSt wq w1 (123::bt++[59])):=hs1
      clear hs1 hk1 k1
      go_wp2_with fail
      refine((HS1.out).str o (by simp;omega) (by omega)).mono ?_
      rintro e w2 ⟨rfl,hs2,hk2⟩
      have K2:Hid (w2.heap[pb]? =some (.cells #[.string o,.slice ro rn rc] 152 (0,0))):=kept_pol hk2 K1.out HPB.out
      have HS2:Hid (PrSt wq w2 _):=hs2
      clear hs2 hk2 f2 lp
      go_wp2_with fail
      refine(HS2.out.byte 58 (by simp only[List.length_append,List.length_cons,List.length_nil,HOL.out];omega)).mono ?_
      rintro e w3 ⟨rfl,hs3,hk3⟩
      have K3:Hid (w3.heap[pb]? =some (.cells #[.string o,.slice ro rn rc] 152 (0,0))):=kept_pol hk3 K2.out HPB.out
      have k3:=K3.out
      have f1:w3.cell? ⟨pb,1,none⟩=some (.slice ro rn rc):=by simp[World.cell?,k3]
      have lp3:pb<w3.heap.size:=lt_of_block k3
      have HS3:Hid (PrSt wq w3 _):=hs3
      have hjn:=HJN.out w3 hs3.bel
      clear hs3 hk3 k3
      go_wp2_with fail
      refine hjn.mono ?_
      rintro e w4 ⟨rfl,hb4⟩
      have HS4:Hid (PrSt wq w4 _):=HS3.out.later hb4
      clear hb4 hjn
      go_wp2_with fail
      refine(HS4.out.str ⟨jl.toArray⟩ (by simp only[List.length_append,List.length_cons,List.length_nil,HOL.out];omega) (by show jl.toArray.size≤_;simp;omega)).mono ?_
      rintro e w5 ⟨rfl,hs5,_⟩
      have HN:Hid (PrSt wq w5 (123::bodyT (x.take (k+1)))):=by
       show PrSt _ _ _
       rw[HNX.out]
       simpa[polT] using hs5
      clear hs5
      go_wp2
      go_roundw
      case rel=>exact⟨k+1,by omega,by go_num,HN⟩
      case measure=>simp[intOf];omega
    ·have HE:Hid ((123::bodyT (x.take k))++[125]=PT):=by
      show _=_
      rw[HPT.out,List.take_of_length_le (by have:=HX.out.ln;omega)]
      rfl
     have hbl:(bodyT (x.take k)).length≤200*92:=by
      have h1:=bodyT_len (x:=x.take k) (fun p hp=>HSH.out p (List.mem_of_mem_take hp))
      have h2:(x.take k).length≤200:=by rw[List.length_take];have:=HX.out.ln;omega
      exact Nat.le_trans h1 (Nat.mul_le_mul_right _ h2)
     go_wp2_with fail
     refine(HS.out.byte 125 (by simp;omega)).mono ?_
     rintro e w2 ⟨rfl,hs2,_⟩
     have HS2:Hid (PrSt wq w2 PT):=by show PrSt _ _ _;rw[←HE.out];exact hs2
     clear hs2
     go_wp2_with fail
     refine(Tryz.Builder_String_any _ _ _ _ HS2.out.bld HS2.out.bel.size).mono ?_
     rintro e w3 ⟨rfl,_,hb3,_⟩
     go_wp2
     go_ret2
     exact⟨rfl,HBQ.out.trans ((HS2.out.bel.trans hb3).mono HBQ.out.size)⟩
open Par (Tok Po Tr nx atP isT ba Res)
theorem numC (t n:Int)(w:World):Calls Tryz.prog 194 #[.int .i64 t,.int .i64 n] w fun x w'=>x=.returned (.bool (Par.numOK t n))∧w'=w:=by
 obtain⟨r,hr⟩:∃r,r=Par.numOK t n:=⟨_,rfl⟩
 rw[←hr]
 have HR:Hid (r=Par.numOK t n):=hr
 clear hr
 obtain⟨b1,h1⟩:∃b,(t==1)=b:=⟨_,rfl⟩
 obtain⟨b2,h2⟩:∃b,decide (0≤n)=b:=⟨_,rfl⟩
 obtain⟨b3,h3⟩:∃b,decide (n≤999999999)=b:=⟨_,rfl⟩
 obtain⟨b4,h4⟩:∃b,(t==2)=b:=⟨_,rfl⟩
 obtain⟨b5,h5⟩:∃b,(n==0)=b:=⟨_,rfl⟩
 obtain⟨b6,h6⟩:∃b,(n==1)=b:=⟨_,rfl⟩
 have HE:Hid (r=((b1 && (b2 && b3)) ||(b4 && (b5 || b6)))):=by show _=_;rw[HR.out,←h1,←h2,←h3,←h4,←h5,←h6];rfl
 clear HR
 cases b1<;>cases b2<;>cases b3<;>cases b4<;>cases b5<;>cases b6<;>
 ·go_enter Tryz.func194,Tryz.ntmps194
  go_wp2
  go_ret
  exact⟨by rw[HE.out];rfl,rfl⟩
theorem names1 (s:ByteArray)(w:World)(hs:s.size≤maxLen):Calls Tryz.prog 71 #[.string s] w fun x w'=>x=.returned (.bool (!Par.nameOK s))∧Below w.heap.size w w':=by
 have hn:=scanName_any s w (by unfold maxLen at hs;omega)
 have HE:Hid (Par.nameOK s=Lex.nameF s.data.toList):=rfl
 rw[HE.out]
 go_enter Tryz.func71,Tryz.ntmps71
 go_wp2_with fail
 refine hn.mono ?_
 rintro x w1 ⟨rfl,hw⟩
 subst hw
 go_wp2
 go_ret
 exact⟨rfl,Below.refl _ _⟩
theorem all_any (l:List ByteArray):Par.namesOK l= !l.any fun s=> !Par.nameOK s:=by
 unfold Par.namesOK
 induction l with
 | nil=>rfl
 | cons a r ih=>simp[ih]
theorem namesC (ao:Option Addr)(b off n c:Nat)(ls:List ByteArray)(w:World)(hn:n=ls.length)(hm:n≤1000)(ht:Strs w ao b off ls)(hz:∀s∈ls,s.size≤maxLen):
 Calls Tryz.prog 46 #[.slice ao n c] w fun x w'=>x=.returned (.bool (Par.namesOK ls))∧Below w.heap.size w w':=by
 have hcf:=containsFuncS 71 #[] (enters_of Tryz.func71 (by kernel_rfl) rfl) (fun s=> !Par.nameOK s) ao b off n c ls w hn hm ht (fun W s hs _=>names1 s W (hz s hs))
 rw[all_any]
 clear hn ht hz
 go_enter Tryz.func46,Tryz.ntmps46
 go_wp2_with fail
 refine hcf.mono ?_
 rintro x w1 ⟨rfl,hb1⟩
 go_wp2
 go_ret
 exact⟨rfl,hb1⟩
theorem lab1 (p:Po)(v:Value)(w:World)(hv:ReadersAt w v p.2)(h6:p.2.length≤6)(h1:p.1.size≤maxLen)(h2:∀s∈p.2,s.size≤maxLen):
 Calls Tryz.prog 78 #[.agg #[.string p.1,v]] w fun x w'=>x=.returned (.bool (Par.polBad p))∧Below w.heap.size w w':=by
 obtain⟨o,rs⟩:=p
 obtain⟨ro,rb,roff,rc,hv1,hv2,hv3,hv4⟩:=hv
 subst hv1
 simp only at hv2 hv4 h6 h1 h2⊢
 obtain⟨wz,hwz⟩:∃wz,wz=w.alloc (.cells #[.string o,.slice ro rs.length rc] 152):=⟨_,rfl⟩
 have hbz:Below w.heap.size w wz:=by rw[hwz];exact(Below.refl _ _).alloc (Nat.le_refl _) _
 have hn:=scanName_any o wz (by unfold maxLen at h1;omega)
 have hk:=namesC ro rb roff rs.length rc rs wz rfl (by omega) (hv4.later hbz) h2
 have HB:Hid (Below w.heap.size w wz):=hbz
 have HE:Hid (Par.polBad (o,rs)=(!Lex.nameF o.data.toList || !Par.namesOK rs)):=rfl
 rw[HE.out]
 clear hv4 h2 hbz HE
 obtain⟨t1,e1⟩:∃t,t=Lex.nameF o.data.toList:=⟨_,rfl⟩
 obtain⟨t2,e2⟩:∃t,t=Par.namesOK rs:=⟨_,rfl⟩
 rw[←e1] at hn⊢
 rw[←e2] at hk⊢
 clear e1 e2
 cases t1 with
 | false=>
  go_enter Tryz.func78,Tryz.ntmps78
  go_wp2_with fail
  rw[←hwz]
  clear hwz
  refine hn.mono ?_
  rintro x w1 ⟨rfl,hw⟩
  subst hw
  go_wp2
  go_ret
  exact⟨rfl,HB.out⟩
 | true=>
  have k0:wz.heap[w.heap.size]? =some (.cells #[.string o,.slice ro rs.length rc] 152 (0,0)):=by rw[hwz];exact heap_at_alloc _ _ _ rfl
  have kl:=lt_of_block k0
  have k1:wz.cell? ⟨w.heap.size,1,none⟩=some (.slice ro rs.length rc):=by simp[World.cell?,k0]
  clear k0
  go_enter Tryz.func78,Tryz.ntmps78
  go_wp2_with fail
  rw[←hwz]
  clear hwz
  refine hn.mono ?_
  rintro x w1 ⟨rfl,hw⟩
  subst hw
  go_wp2_with fail
  refine hk.mono ?_
  rintro x w2 ⟨rfl,hb2⟩
  go_wp2
  go_ret
  exact⟨rfl,HB.out.trans (hb2.mono HB.out.size)⟩
theorem StrsV.toR {w:World}{S:Nat→Prop}{v:Value}{l:List ByteArray}(h:StrsV w S v l):ReadersAt w v l:=by
 obtain⟨⟨ao,b,off,c,hv,hr⟩,hz⟩:=h
 have hl:(strCs l).length=l.length:=by simp[strCs]
 rw[hl] at hv hr
 have hc:=hr.cap
 refine⟨ao,b,off,c,hv,hc,hr.mx,⟨fun hp=>hr.adr (by omega),fun k hk=> ?_,fun hp=>hr.lt (by omega)⟩⟩
 have:=hr.cell k (by omega) 0 (.string l[k]) (by simp[strCs])
 simpa using this
theorem LabV.toP {w:World}{S:Nat→Prop}{v:Value}{l:List Po}(h:LabV w S v l):∃ao b off c,v=.slice ao l.length c∧l.length≤c∧c≤maxLen∧LabP w ao b off l.length c l:=by
 obtain⟨⟨vs,h1,⟨ao,b,off,c,hv,hr⟩,h3⟩,h4⟩:=h
 obtain⟨a1,a2⟩:=polCs_at h1
 rw[a1] at hv hr
 have hc:=hr.cap
 have hm:=hr.mx
 refine⟨ao,b,off,c,hv,hc,hm,⟨rfl,by omega,⟨fun hp=>hr.adr (by omega),fun k hk=> ?_,fun k hk=> ?_,fun hp=>hr.lt (by omega)⟩⟩⟩
 ·have:=hr.cell k (by omega) 0 (.string l[k].1) (by rw[a2 k hk (by omega) (by omega)];rfl)
  simpa using this
 ·exact⟨vs[k],hr.cell k (by omega) 1 vs[k] (by rw[a2 k hk (by omega) (by omega)];rfl),(h3 k hk (by omega)).toR⟩
theorem LabV.rsz {w:World}{S:Nat→Prop}{v:Value}{l:List Po}(h:LabV w S v l):∀p∈l,∀s∈p.2,s.size≤maxLen:=by
 obtain⟨⟨vs,h1,_,h3⟩,h4⟩:=h
 intro p hp s hs
 obtain⟨i,hi,rfl⟩:=List.mem_iff_getElem.1 hp
 exact(h3 i hi (by omega)).sz s hs
theorem printE_cases (l:List Po):(printE l=0∧l.length≤200∧∀p∈l,longB p=false)∨printE l=2:=by
 by_cases h:200<l.length∨l.any longB=true
 ·exact .inr (by unfold printE;rw[if_pos h])
 ·refine .inl ⟨by unfold printE;rw[if_neg h],by omega,fun p hp=> ?_⟩
  have:¬l.any longB=true:=fun hh=>h (.inr hh)
  cases hl:longB p with
  | false=>rfl
  | true=>exact absurd (List.any_eq_true.2 ⟨p,hp,hl⟩) this
theorem labFC {w:World}{S:Nat→Prop}{v:Value}{l:List Po}(h:LabV w S v l):
 Calls Tryz.prog 49 #[v] w fun x w'=>x=.returned (.bool (Par.labOK l))∧Below w.heap.size w w':=by
 obtain⟨ao,b,off,c,rfl,hc,hm,hp⟩:=h.toP
 have hpr:=printC ao b off l.length c l w hp
 unfold maxLen at hm
 rcases printE_cases l with⟨e0,h200,hl⟩| e2
 ·rw[e0] at hpr
  have HCF:Hid (∀W,Below w.heap.size w W→Calls Tryz.prog 77 #[.slice ao l.length c,.func (.func 78) #[] #[]] W fun x w'=>x=.returned (.bool (l.any Par.polBad))∧Below W.heap.size W w'):=fun W hW=>
   containsFuncP 78 #[] (enters_of Tryz.func78 (by kernel_rfl) rfl) Par.polBad ao b off l.length c l W rfl (by omega) (hp.pols.later hW) (fun W' p v' hpm hv' _=>lab1 p v' W' hv' (short_of (hl p hpm)).1 (h.sz p hpm) (h.rsz p hpm))
  have HE:Hid (Par.labOK l= !l.any Par.polBad):=by show _=_;unfold Par.labOK;simp[e0]
  rw[HE.out]
  clear HE e0 hl hp h
  go_enter Tryz.func49,Tryz.ntmps49
  go_wp2_with fail
  refine hpr.mono ?_
  rintro x w1 ⟨rfl,hb1⟩
  have hcf:=HCF.out w1 hb1
  go_wp2_with fail
  refine hcf.mono ?_
  rintro x w2 ⟨rfl,hb2⟩
  go_wp2
  go_ret
  exact⟨rfl,hb1.trans (hb2.mono hb1.size)⟩
 ·rw[e2] at hpr
  have HE:Hid (Par.labOK l=false):=by show _=_;unfold Par.labOK;simp[e2]
  rw[HE.out]
  clear HE e2 hp h
  go_enter Tryz.func49,Tryz.ntmps49
  go_wp2_with fail
  refine hpr.mono ?_
  rintro x w1 ⟨rfl,hb1⟩
  go_wp2
  go_ret
  exact⟨rfl,hb1⟩
theorem bcell {W w1:World}(hb:Below W.heap.size W w1):(∀b o,b<W.heap.size→w1.cell? ⟨b,o,none⟩=W.cell? ⟨b,o,none⟩)∧(∀b o,b<W.heap.size→w1.frozen? ⟨b,o,none⟩=W.frozen? ⟨b,o,none⟩):=
 ⟨fun b o h=>hb.cell (p:=⟨b,o,none⟩) h,fun b o h=>hb.frozen (p:=⟨b,o,none⟩) h⟩
structure ExAt (w:World)(b off:Nat)(cs:List Value):Prop where
 lt:b<w.heap.size
 cell:∀j u,cs[j]? =some u→w.cell? ⟨b,off+j,none⟩=some u
theorem ExAt.keeps {w w':World}{b off:Nat}{cs:List Value}(h:ExAt w b off cs)(hz:w.heap.size≤w'.heap.size)(hb:w'.heap[b]? =w.heap[b]?):ExAt w' b off cs:=
 ⟨Nat.lt_of_lt_of_le h.lt hz,fun j u hu=>(World.cell?_of_block (a:=⟨b,off+j,none⟩) hb).trans (h.cell j u hu)⟩
theorem ExAt.all {w:World}{b off:Nat}{x0 x1 x2 x3 x4 x5 x6:Value}(h:ExAt w b off [x0,x1,x2,x3,x4,x5,x6]):w.cell? ⟨b,off,none⟩=some x0∧w.cell? ⟨b,off+1,none⟩=some x1∧w.cell? ⟨b,off+2,none⟩=some x2∧w.cell? ⟨b,off+3,none⟩=some x3∧w.cell? ⟨b,off+4,none⟩=some x4∧w.cell? ⟨b,off+5,none⟩=some x5∧w.cell? ⟨b,off+6,none⟩=some x6:=
 ⟨h.cell 0 _ rfl,h.cell 1 _ rfl,h.cell 2 _ rfl,h.cell 3 _ rfl,h.cell 4 _ rfl,h.cell 5 _ rfl,h.cell 6 _ rfl⟩
theorem beq0 (n:Nat):(((n:Nat):Int)==0)=(n==0):=by rw[Bool.eq_iff_iff];simp
theorem beq1 (n:Nat):(((n:Nat):Int)==1)=(n==1):=by rw[Bool.eq_iff_iff];simp;omega
theorem beq2 (n:Nat):(((n:Nat):Int)==2)=(n==2):=by rw[Bool.eq_iff_iff];simp;omega
theorem emptyB (s:ByteArray):s.toList.isEmpty=(s.data.toList==[]):=by
 rw[Lex.list_of]
 cases s.data.toList<;>rfl
theorem aloneC {w:World}{S:Nat→Prop}{lim b off:Nat}{t:Tr}{cs:List Value}(hc:ExAt w b off cs)(ht:TrIs w S t cs)(hlv:LevAt w lim):
 Calls Tryz.prog 181 #[.pointer (some ⟨b,off,none⟩)] w fun x w'=>x=.returned (.bool (Par.aloneF t))∧Below w.heap.size w w':=by
 cases ht with
 | @mk k p n ty s l a lv av css hs hl hr hcl hk=>
 have hlf:=labFC hl
 obtain⟨lo,lb,loff,lc,rfl,hlc,hlm,_⟩:=hl.toP
 obtain⟨ao,ab,aoff,ac,rfl,har⟩:=hr
 have hac:=har.cap
 have ham:=har.mx
 obtain⟨c0,c1,c2,c3,c4,c5,c6⟩:=hc.all
 have hlt:=hc.lt
 have hnum:=numC ty n w
 have hnm:=scanName_any s w (by unfold maxLen at hs;omega)
 have hlev:=levelC hlv s
 obtain⟨ln,hln⟩:∃ln,ln=l.length:=⟨_,rfl⟩
 obtain⟨an,han⟩:∃an,an=css.length:=⟨_,rfl⟩
 obtain⟨r,hr⟩:∃r,r=Par.aloneF (.mk k p n ty s l a):=⟨_,rfl⟩
 have HR:Hid (r=(if k≠1∧(n≠0∨ty≠0) then false else if k≠5∧0<ln then false
  else if k=1 then Par.numOK ty n && (s.data.toList==[]) && an==0
  else if k=2 then Par.nameOK s && an==0
  else if k=3 then(an==2 && decide (0<Par.levF s.data.toList)) ||(an==1 && (s.data.toList==[45] || s.data.toList==[33]))
  else if k=4 then Par.nameOK s && decide (an≤4)
  else if k=5 then Par.labOK l && (s.data.toList==[]) && an==1
  else false)):=by show _=_;rw[hr,han,hcl,hln];rfl
 rw[←hr]
 rw[←hln] at c5 hlc hlf
 rw[←han] at c6 hac
 unfold maxLen at hlm ham hs
 have HE0:Hid (s.toList.isEmpty=(s.data.toList==[])):=emptyB s
 have HE1:Hid ((s.toList==[45])=(s.data.toList==[45])):=by show _=_;rw[Lex.list_of]
 have HE2:Hid ((s.toList==[33])=(s.data.toList==[33])):=by show _=_;rw[Lex.list_of]
 clear hr hc har hln han hcl hk hl hlv
 rcases Nat.eq_zero_or_pos ln with hl0 | hl0
 ·subst hl0
  by_cases k1:k=1
  ·subst k1
   have HF:Hid (r=(Par.numOK ty n && (s.data.toList==[]) && an==0)):=by show _=_;rw[HR.out];simp
   clear HR hnm hlev hlf
   obtain⟨t1,e1⟩:∃t,t=Par.numOK ty n:=⟨_,rfl⟩
   have HNU:∀W:World,Calls Tryz.prog 194 #[.int .i64 ty,.int .i64 n] W fun x w'=>x=.returned (.bool t1)∧w'=W:=fun W=>by rw[e1];exact numC ty n W
   clear hnum
   rw[←e1] at HF
   rw[←HE0.out] at HF
   obtain⟨t2,e2⟩:∃t,s.toList.isEmpty=t:=⟨_,rfl⟩
   rw[e2] at HF
   clear e1 HE0 HE1 HE2
   cases t1<;>cases t2<;>
   ·go_enter Tryz.func181,Tryz.ntmps181
    go_wp2
    go_quiet ((go_at_call 194;exact Calls.quiet_of_same (HNU _)))
    go_wp2
    go_ret
    exact⟨by rw[HF.out];first | rfl |(rw[Bool.true_and,Bool.true_and,←beq0];rfl),⟨rfl,rfl,rfl,Nat.le_refl _,fun _ _=>rfl⟩⟩
  ·have b1:(k==1)=false:=by simp[k1]
   have g1:(k !=1)=true:=by simp[k1]
   by_cases n0:n=0
   ·subst n0
    by_cases y0:ty=0
    ·subst y0
     by_cases k2:k=2
     ·subst k2
      have HF:Hid (r=(Par.nameOK s && an==0)):=by show _=_;rw[HR.out];simp
      clear HR hnum hlev hlf k1
      unfold Par.nameOK at HF
      obtain⟨t1,e1⟩:∃t,t=Lex.nameF s.data.toList:=⟨_,rfl⟩
      rw[←e1] at hnm HF
      clear e1
      cases t1<;>
      ·go_enter Tryz.func181,Tryz.ntmps181
       go_wp2_with fail
       refine hnm.mono ?_
       rintro x w1 ⟨rfl,hw⟩
       have hw':=hw.symm
       subst hw'
       go_wp2
       go_ret
       exact⟨by rw[HF.out];simp[beq0],Below.refl _ _⟩
     ·by_cases k3:k=3
      ·subst k3
       have HF:Hid (r=((an==2 && decide (0<Par.levF s.data.toList)) ||(an==1 && (s.data.toList==[45] || s.data.toList==[33])))):=by show _=_;rw[HR.out];simp
       clear HR hnum hnm hlf k1 k2 b1 g1
       obtain⟨lev,e1⟩:∃t,t=Par.levF s.data.toList:=⟨_,rfl⟩
       rw[←e1] at hlev HF
       clear e1
       by_cases a2:an=2
       ·subst a2
        rcases Nat.eq_zero_or_pos lev with hv0 | hv0
        ·subst hv0
         go_enter Tryz.func181,Tryz.ntmps181
         go_wp2_with fail
         refine hlev.mono ?_
         rintro x w1 ⟨rfl,hw⟩
         have hw':=hw.symm
         subst hw'
         go_wp2
         go_ret
         exact⟨by rw[HF.out];rfl,Below.refl _ _⟩
        ·have d0:decide ((0:Int)<(lev:Int))=true:=by simp;omega
         go_enter Tryz.func181,Tryz.ntmps181
         go_wp2_with fail
         refine hlev.mono ?_
         rintro x w1 ⟨rfl,hw⟩
         have hw':=hw.symm
         subst hw'
         go_wp2
         go_ret
         exact⟨by rw[HF.out];simp[hv0],Below.refl _ _⟩
       ·have q2:((an:Int)==2)=false:=by rw[beq2];simp[a2]
        by_cases a1:an=1
        ·subst a1
         have HF2:Hid (r=((s.toList==[45]) ||(s.toList==[33]))):=by show _=_;rw[HF.out,HE1.out,HE2.out];rfl
         obtain⟨t1,e1⟩:∃t,(s.toList==[45])=t:=⟨_,rfl⟩
         obtain⟨t2,e2⟩:∃t,(s.toList==[33])=t:=⟨_,rfl⟩
         rw[e1,e2] at HF2
         clear HF hlev a2 q2 HE0 HE1 HE2
         cases t1<;>cases t2<;>
         ·go_enter Tryz.func181,Tryz.ntmps181
          go_wp2
          go_ret
          exact⟨by rw[HF2.out];rfl,Below.refl _ _⟩
        ·have q1:((an:Int)==1)=false:=by rw[beq1];simp[a1]
         have HF2:Hid (r=false):=by show _=_;rw[HF.out];simp[a1,a2]
         clear HF hlev a2 a1
         go_enter Tryz.func181,Tryz.ntmps181
         go_wp2
         go_ret
         exact⟨by rw[HF2.out];rfl,Below.refl _ _⟩
      ·by_cases k4:k=4
       ·subst k4
        have HF:Hid (r=(Par.nameOK s && decide (an≤4))):=by show _=_;rw[HR.out];simp
        clear HR hnum hlev hlf k1 k2 k3 b1 g1
        unfold Par.nameOK at HF
        obtain⟨t1,e1⟩:∃t,t=Lex.nameF s.data.toList:=⟨_,rfl⟩
        rw[←e1] at hnm HF
        clear e1
        have HD:Hid (decide ((an:Int)≤4)=decide (an≤4)):=by show _=_;simp;omega
        cases t1<;>
        ·go_enter Tryz.func181,Tryz.ntmps181
         go_wp2_with fail
         refine hnm.mono ?_
         rintro x w1 ⟨rfl,hw⟩
         have hw':=hw.symm
         subst hw'
         go_wp2
         go_ret
         exact⟨by rw[HF.out,←HD.out];simp,Below.refl _ _⟩
       ·by_cases k5:k=5
        ·subst k5
         have HF:Hid (r=(Par.labOK l && (s.data.toList==[]) && an==1)):=by show _=_;rw[HR.out];simp
         rw[←HE0.out] at HF
         obtain⟨t1,e1⟩:∃t,t=Par.labOK l:=⟨_,rfl⟩
         obtain⟨t2,e2⟩:∃t,s.toList.isEmpty=t:=⟨_,rfl⟩
         rw[←e1] at hlf HF
         rw[e2] at HF
         clear e1 HR hnum hlev hnm k1 k2 k3 k4 b1 g1 HE0 HE1 HE2
         cases t1<;>cases t2<;>
         ·go_enter Tryz.func181,Tryz.ntmps181
          go_wp2_with fail
          refine hlf.mono ?_
          rintro x w1 ⟨rfl,hb1⟩
          obtain⟨f1,f2⟩:=bcell hb1
          have hz1:=hb1.size
          have hlt1:b<w1.heap.size:=by omega
          have HB1:Hid (Below w.heap.size w w1):=hb1
          clear hb1
          go_wp2
          go_ret
          exact⟨by rw[HF.out];first | rfl |(rw[Bool.true_and,Bool.true_and,←beq1];rfl),HB1.out⟩
        ·have HF:Hid (r=false):=by show _=_;rw[HR.out];simp[k1,k2,k3,k4,k5]
         have b2:(k==2)=false:=by simp[k2]
         have b3:(k==3)=false:=by simp[k3]
         have b4:(k==4)=false:=by simp[k4]
         have b5:(k==5)=false:=by simp[k5]
         have g5:(k !=5)=true:=by simp[k5]
         clear HR hnum hnm hlev hlf k1 k2 k3 k4 k5
         go_enter Tryz.func181,Tryz.ntmps181
         go_wp2
         go_ret
         exact⟨by rw[HF.out];rfl,Below.refl _ _⟩
    ·have b2:(ty !=0)=true:=by simp[y0]
     have HF:Hid (r=false):=by show _=_;rw[HR.out];simp[k1,y0]
     clear HR hnum hnm hlev hlf k1 y0
     go_enter Tryz.func181,Tryz.ntmps181
     go_wp2
     go_ret
     exact⟨by rw[HF.out];rfl,Below.refl _ _⟩
   ·have b2:(n !=0)=true:=by simp[n0]
    have HF:Hid (r=false):=by show _=_;rw[HR.out];simp[k1,n0]
    clear HR hnum hnm hlev hlf k1 n0
    go_enter Tryz.func181,Tryz.ntmps181
    go_wp2
    go_ret
    exact⟨by rw[HF.out];rfl,Below.refl _ _⟩
 ·by_cases k1:k=1
  ·subst k1
   have HF:Hid (r=false):=by show _=_;rw[HR.out];simp[hl0]
   clear HR hnum hnm hlev hlf
   go_enter Tryz.func181,Tryz.ntmps181
   go_wp2
   go_ret
   exact⟨by rw[HF.out];rfl,Below.refl _ _⟩
  ·have b1:(k==1)=false:=by simp[k1]
   have g1:(k !=1)=true:=by simp[k1]
   by_cases n0:n=0
   ·subst n0
    by_cases y0:ty=0
    ·subst y0
     by_cases k5:k=5
     ·subst k5
      have HF:Hid (r=(Par.labOK l && (s.data.toList==[]) && an==1)):=by show _=_;rw[HR.out];simp
      rw[←HE0.out] at HF
      obtain⟨t1,e1⟩:∃t,t=Par.labOK l:=⟨_,rfl⟩
      obtain⟨t2,e2⟩:∃t,s.toList.isEmpty=t:=⟨_,rfl⟩
      rw[←e1] at hlf HF
      rw[e2] at HF
      clear e1 HR hnum hlev hnm k1 b1 g1 HE0 HE1 HE2
      cases t1<;>cases t2<;>
      ·go_enter Tryz.func181,Tryz.ntmps181
       go_wp2_with fail
       refine hlf.mono ?_
       rintro x w1 ⟨rfl,hb1⟩
       obtain⟨f1,f2⟩:=bcell hb1
       have hz1:=hb1.size
       have hlt1:b<w1.heap.size:=by omega
       have HB1:Hid (Below w.heap.size w w1):=hb1
       clear hb1
       go_wp2
       go_ret
       exact⟨by rw[HF.out];first | rfl |(rw[Bool.true_and,Bool.true_and,←beq1];rfl),HB1.out⟩
     ·have HF:Hid (r=false):=by show _=_;rw[HR.out];simp[k1,k5,hl0]
      have g5:(k !=5)=true:=by simp[k5]
      clear HR hnum hnm hlev hlf k1 k5
      go_enter Tryz.func181,Tryz.ntmps181
      go_wp2
      go_ret
      exact⟨by rw[HF.out];rfl,Below.refl _ _⟩
    ·have b2:(ty !=0)=true:=by simp[y0]
     have HF:Hid (r=false):=by show _=_;rw[HR.out];simp[k1,y0]
     clear HR hnum hnm hlev hlf k1 y0
     go_enter Tryz.func181,Tryz.ntmps181
     go_wp2
     go_ret
     exact⟨by rw[HF.out];rfl,Below.refl _ _⟩
   ·have b2:(n !=0)=true:=by simp[n0]
    have HF:Hid (r=false):=by show _=_;rw[HR.out];simp[k1,n0]
    clear HR hnum hnm hlev hlf k1 n0
    go_enter Tryz.func181,Tryz.ntmps181
    go_wp2
    go_ret
    exact⟨by rw[HF.out];rfl,Below.refl _ _⟩
theorem placeC (b off n c d:Nat)(w:World)(hn:0<n):
 Calls Tryz.prog 195 #[.slice (some ⟨b,off,none⟩) n c,.int .i64 (d:Int)] w fun x w'=>x=.returned (.agg #[.pointer (some ⟨b,off,none⟩),.int .i64 (n:Int),.int .i64 (d:Int)])∧Below w.heap.size w w':=by
 go_enter Tryz.func195,Tryz.ntmps195
 go_wp2
 exact bodyPost_ret (v:=.agg #[.pointer (some ⟨b,off,none⟩),.int .i64 (n:Int),.int .i64 (d:Int)]) (by simp[results,Tryz.results195,go_sem]) rfl ⟨rfl,(Below.refl _ _).alloc (Nat.le_refl _) _⟩
theorem metC {w:World}{B:Nat}{K:List PK}(h:SetP w B K)(b off n c d:Nat)(hn:0<n)(hp:Pln w b):
 Calls Tryz.prog 182 #[.map (some B),.slice (some ⟨b,off,none⟩) n c,.int .i64 (d:Int)] w fun x w'=>x=.returned (.bool (decide ((b,off,n,d)∈K)))∧SetP w' B (addP K (b,off,n,d))∧w.grownBy w' (some B):=by
 have hpl:=placeC b off n c d w hn
 have HS:Hid (SetP w B K):=h
 have HP:Hid (Pln w b):=hp
 clear h hp hn
 go_enter Tryz.func182,Tryz.ntmps182
 go_wp2_with fail
 refine hpl.mono ?_
 rintro x w1 ⟨rfl,hb1⟩
 obtain⟨w2,hw2⟩:∃w2,w2=w1.alloc (.cells #[.pointer (some ⟨b,off,none⟩),.int .i64 (n:Int),.int .i64 (d:Int)] 271):=⟨_,rfl⟩
 have hb2:Below w.heap.size w w2:=by rw[hw2];exact hb1.alloc hb1.size _
 have hz2:w2.heap.size=w1.heap.size+1:=by rw[hw2];simp
 have kp:∀W:World,Below w.heap.size w W→SetP W B K∧Pln W b:=fun W hW=>⟨HS.out.keeps (hW.block _ HS.out.lt) fun p hp=>hW.block _ (by obtain⟨cs,e,hh⟩:=HS.out.pl hp;exact lt_of_block hh),HP.out.keeps (hW.block _ (by obtain⟨cs,e,hh⟩:=HP.out;exact lt_of_block hh))⟩
 have hlk:=(kp w2 hb2).1.asks (b,off,n,d) (kp w2 hb2).2
 have hb3:Below w.heap.size w (w2.alloc (.cells #[] 76)):=hb2.alloc hb2.size _
 obtain⟨w4,hup,hs4,hg4⟩:=(kp _ hb3).1.put (b,off,n,d) (kp _ hb3).2
 have HE:Hid (SetP w4 B (addP K (b,off,n,d))∧w.grownBy w4 (some B)):=⟨hs4,⟨hg4.os.trans hb3.os,hg4.tape.trans hb3.tape,hg4.output.trans hb3.output,Nat.le_trans hb3.size hg4.size,fun k hk hn=>(hg4.block k (Nat.lt_of_lt_of_le hk hb3.size) hn).trans (hb3.block k hk)⟩⟩
 rw[hw2] at hlk hup
 unfold pkV at hlk hup
 clear hb1 hb2 hb3 kp hs4 hg4 hw2 hz2
 go_wp2
 go_ret
 exact⟨rfl,HE.out⟩
end Go.Proofs.YtepkhlpjgnckkaaGreatDoor
