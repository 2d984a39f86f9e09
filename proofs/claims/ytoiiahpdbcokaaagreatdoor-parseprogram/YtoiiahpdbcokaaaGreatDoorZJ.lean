/- Contract of the document's own reader, Tokens. And more of the same. -/
import Derived.Test.YtoiiahpdbcokaaaGreatDoorZI
import Derived.Test.YtoiiahpdbcokaaaGreatDoorZShelfP
import Derived.Lib.Join
import Derived.Lib.ItoaNum
import Derived.Test.YtoiiahpdbcokaaaGreatDoorZShelfB
import Derived.Test.YtoiiahpdbcokaaaGreatDoorZShelfJ
import Derived.Lib.OthersKept
namespace Go.Proofs.YtoiiahpdbcokaaaGreatDoor
open Go.Value renaming int -> A, slice -> O, string -> H, pointer -> aB, bool -> az
open Go.IntKind renaming i64 -> I
open _root_.Option renaming none -> U, some -> Z
open Go.Addr renaming mk -> Y
open Go.Obj renaming cells -> M
open Go renaming lt_of_block -> J, World -> au, Value -> aw, Calls -> aC
open _root_.Nat renaming le_refl -> aD, lt_of_lt_of_le -> gD, le_trans -> fC
open Go.Ending renaming returned -> aE
open Go.RowKit.Below renaming refl -> aF
open _root_.Array renaming getElem?_modify -> dM
open Go.World renaming cell? -> aN, setCell -> bw, frozen? -> ea
open _root_.Bool renaming false -> ak, true -> ap
open _root_.List renaming length_append -> iG, length_cons -> iz, mem_cons -> fN, getElem_mem -> fD
open Go.RowKit renaming Hid -> ah
open _root_.Go.Proofs.Tryz
set_option maxRecDepth 100000
set_option maxHeartbeats 8000000
open Go.RowKit
variable {l o s:Lu} {B a b d5 d6 e k lv m G C n q:Nat} {w w' X V wr wz:au} {v x0 x1 x2:aw} {t:TypeId} {c y0 y1 z0 z1 z2 z3:Int} {K:Av} {u:Bt} {z E:Oa} {rs:List Bt} {L:Lv} {S:Np}
theorem Lex.afy {p:Int->Bool}(h:k<l.length):Lex.bX p (l.drop k)=if p ((l[k].toNat:Nat):Int) then Lex.bX p (l.drop (k+1))+1 else 0:=Lex.QV p l k h
def acv (s:Bt)(wr wc:au)(a:Nat):Prop:=∃(k:Int) (t:Bt),Bl wr wc/\wc.heap[wr.heap.size]? =Z (M #[A I k,A I (a:Int),H t] 81)/\Lex.mu s.data.toList a=(k,a,t.data.toList,0,a+t.size)/\k≠0/\0<t.size/\a+t.size<=s.size
theorem size_setCell (w:au)(a:Addr)(v:aw):(w.setCell a v).heap.size=w.heap.size:=by simp[bw]
theorem MV (h:w.heap[b]? =Z (M #[x0,x1,x2] t)):(w.setCell (Y b 0 U) v).heap[b]? =Z (M #[v,x1,x2] t):=by
 have a:=J h;simp[bw,dM,h]
theorem MU (h:w.heap[b]? =Z (M #[x0,x1,x2] t)):(w.setCell (Y b 2 U) v).heap[b]? =Z (M #[x0,x1,v] t):=by
 have a:=J h;simp[bw,dM,h]
theorem abE (s:Bt)(a n:Nat)(h:n<=s.size - a):((s.extract a s.size).extract 0 (s.size - a - (s.size - a - n))).data.toList=(s.data.toList.drop a).take n:=by
 rw[show s.size - a - (s.size - a - n)=n from by omega,Lib.extract_data,Lex.yh];simp
theorem adC {n:Lu}(h:Lex.i8 n=ap):n.length<=12:=by
 have:∀n∈Lex.ML,n.length<=12:=(by decide);exact this n (Lex.Ws h)
theorem Lx {s T:Bt}{b:au}{k:Int}(e:Bl wr b)(f:b.heap[wr.heap.size]? =Z (M #[A I k,A I (a:Int),H T] 81))
 (g:a+Lex.dJ ak (s.data.toList.drop a)=a) (h:a≠s.data.toList.length) (i:s.data.toList.drop a≠[]) (hf:Lex.iF (s.data.toList.drop a)=(k,T.data.toList,0)) (l:a<=s.size):acv s wr b a:=by
 have c:=Lex.OY hf i;have j:=c.2.2.2;rw[List.length_drop,Lex.df,Lex.df] at j;have d:=c.2.1;rw[Lex.df] at d;exact⟨k,T,e,f,(Lex.MY g h hf).trans (by rw[Lex.df]),c.1,d,by omega⟩
structure Blank (wr w2:au)(a:Nat):Prop where
 tok:w2.heap[wr.heap.size]? =Z (M #[A I 0,A I (a:Int),H ⟨#[]⟩] 81)
 ff:Bl wr w2
 c0:w2.cell? (Y wr.heap.size 0 U)=Z (A I 0)
 c2:w2.cell? (Y wr.heap.size 2 U)=Z (H ⟨#[]⟩)
 f0:w2.frozen? (Y wr.heap.size 0 U)=ak
 f2:w2.frozen? (Y wr.heap.size 2 U)=ak
theorem apB (b:X.heap[wr.heap.size]? =Z (M #[A I 0,A I (a:Int),H ⟨#[]⟩] 81))(c:Bl wr X):Blank wr X a:=
 ⟨b,c,by simp[aN,b],by simp[aN,b],by simp[ea,b],by simp[ea,b]⟩
theorem aqn (b:Below (wr.alloc (M #[A I 0,A I (a:Int),H ⟨#[]⟩] 81)).drew.heap.size (wr.alloc (M #[A I 0,A I (a:Int),H ⟨#[]⟩] 81)).drew X):Blank wr X a:=by
 have c:(wr.alloc (M #[A I 0,A I (a:Int),H ⟨#[]⟩] 81)).drew.heap.size=wr.heap.size+1:=(by show(wr.alloc _).heap.size=_;simp);refine apB ((b.block _ (by omega)).trans (cu _ _ _ rfl)) ?_;exact((aF _ _).alloc (aD _) _).drew.trans (b.mono (by omega))
def acz (s:Bt)(wr wx:au)(a n:Nat):Prop:=∃T:Bt,Bl wr wx/\wx.heap[wr.heap.size]? =Z (M #[A I 2,A I (a:Int),H T] 81)/\T.data.toList=(s.data.toList.drop a).take n
theorem ahY {s:Bt}(h:Blank wr X a)(hn:n<=s.size - a):acz s wr ((X.setCell (Y wr.heap.size 0 U) (A I 2)).setCell (Y wr.heap.size 2 U) (H ((s.extract a s.size).extract 0 n))) a n:=
 ⟨_,(h.ff.setCell (p:=(Y wr.heap.size 0 U)) (aD _) _).setCell (p:=(Y wr.heap.size 2 U)) (aD _) _,MU (MV h.tok),by
   have:=abE s a n hn
   rwa [show s.size - a - (s.size - a - n)=n from by omega] at this⟩
def Gz:Lu:=[38,38,32,124,124,32,61,61,32,33,61,32,60,61,32,62,61,32,43,32,45,32,42,32,47,32,37,32,60,32,62,32,33,32,40,32,41,32,123,32,125,32,44,32,59,32,58,32,61]
theorem aeP:Lib.fields Gz=Lex.tH:=by decide
theorem aeQ:∀(j:Nat) b,(⟨Gz.toArray⟩:Bt).data.toList[j]? =Z b->b.toNat<128:=by
 have h:∀b∈Gz,b.toNat<128:=(by decide);intro j b a;exact h b (List.mem_of_getElem? a)
structure FY (wr wx:au)(a:Nat)(l:Lu)(k:Nat):Prop where
 ff:Bl wr wx
 tok:wx.heap[wr.heap.size]? =Z (M #[A I 4,A I (a:Int),H ⟨(Lex.vP l k).toArray⟩] 81)
 row:wx.heap[wr.heap.size+1]? =Z (M (Lex.tH.map fun l=>Value.string ⟨l.toArray⟩).toArray 9)
theorem aeT (wr:au)(a:Nat)(l:Lu):FY wr ((wr.alloc (M #[A I 4,A I (a:Int),H ⟨#[]⟩] 81)).alloc (M (Lex.tH.map fun l=>Value.string ⟨l.toArray⟩).toArray 9)) a l 0:=
 ⟨((aF _ _).alloc (aD _) _).alloc (by simp) _,cR (cu _ _ _ rfl),cu _ _ _ (by simp)⟩
theorem aei (s:Bt)(a n:Nat)(w:au)(_ha:a<=s.size)(h:ah (Lex.bX Lex.dY (s.data.toList.drop a)=n)):
 aC prog 99 #[H (s.extract a s.size),H ⟨Lex.rY.toArray⟩] w fun e w'=>∃t:Bt,e=aE (H t)/\t.size=s.size - a - n/\Bl w w':=by
 refine(strings_TrimLeft_set (s.extract a s.size) ⟨Lex.rY.toArray⟩ w (by decide) abW).mono ?_;rintro e w' ⟨rfl,b⟩;refine⟨_,rfl,?_,b⟩;rw[Lex.yh,show(⟨Lex.rY.toArray⟩:Bt).data.toList=Lex.rY from rfl,Lex.WI Lex.dY _ Lex.TK,h.out];show((s.data.toList.drop a).drop n).length=_;rw[List.length_drop,List.length_drop,Lex.df]
theorem anf:∀(j:Nat) b,(⟨Lex.uF.toArray⟩:Bt).data.toList[j]? =Z b->b.toNat<128:=by
 have h:∀b∈Lex.uF,b.toNat<128:=(by decide);intro j b a;exact h b (List.mem_of_getElem? a)
theorem aeh (s:Bt)(a n:Nat)(w:au)(_ha:a<=s.size)(h:ah (Lex.bX Lex.ej (s.data.toList.drop a)=n)):
 aC prog 99 #[H (s.extract a s.size),H ⟨Lex.uF.toArray⟩] w fun e w'=>∃t:Bt,e=aE (H t)/\t.size=s.size - a - n/\Bl w w':=by
 refine(strings_TrimLeft_set (s.extract a s.size) ⟨Lex.uF.toArray⟩ w (by decide) anf).mono ?_;rintro e w' ⟨rfl,b⟩;refine⟨_,rfl,?_,b⟩;rw[Lex.yh,show(⟨Lex.uF.toArray⟩:Bt).data.toList=Lex.uF from rfl,Lex.WI Lex.ej _ Lex.ane,h.out];show((s.data.toList.drop a).drop n).length=_;rw[List.length_drop,List.length_drop,Lex.df]
theorem Ph (c:UInt8)(w:au)(b:Bool)(h:ah (Lex.mi (c.toNat:Int)=b)):
 aC prog 97 #[H ⟨#[32,9,10]⟩,H ⟨#[c]⟩] w fun e w'=>e=aE (az b)/\w'=w:=by
 have:=strings_Contains_one ⟨#[32,9,10]⟩ c w;rw[show(⟨#[32,9,10]⟩:Bt).data.toList=[32,9,10] from rfl,Lex.apC,h.out] at this;exact this
theorem TD (c:UInt8)(w:au)(b:Bool)(h:ah (Lex.gx (c.toNat:Int)=b)):
 aC prog 97 #[H ⟨Lex.G9.toArray⟩,H ⟨#[c]⟩] w fun e w'=>e=aE (az b)/\w'=w:=by
 have:=strings_Contains_one ⟨Lex.G9.toArray⟩ c w;rw[show(⟨Lex.G9.toArray⟩:Bt).data.toList=Lex.G9 from rfl,Lex.aqf,h.out] at this;exact this
theorem Zq (s:Bt)(a:Nat)(k:Int)(w:au)(h:ah (Lib.indexByte (s.data.toList.drop a) 10=k)):
 aC prog 98 #[H (s.extract a s.size),A .u8 10] w fun e w'=>e=aE (A I k)/\w'=w:=by
 have:=strings_IndexByte (s.extract a s.size) 10 w;rw[Lex.yh,show(10:Int).toNat.toUInt8=10 from rfl,h.out] at this;exact this
theorem aeo (s:Bt)(m:Int)(w:au)(ct:s.size<=140737488351232)(hm:w.cell? (Y 3 0 U)=Z (A I m))(Hn:Lib.TabIs prog w "strings.asciiSpace" .u8 Lib.asciiSpaceTab):
 aC prog 46 #[H s] w fun e w'=>∃(v:aw) (l:List Lex.Tok) (c:Int) (q:Nat),e=aE (.tuple #[v,.agg #[A I c,A I (q:Int)]])/\Lex.jK s.data.toList=(l,c,q)/\w'.ownsRow w.heap.size 81 3 v l.length (Lex.cellsOf l)/\Bl w w':=by
 by_cases Ar:4000<s.size
 ·have aW:ah (Lex.jK s.data.toList=([],2,0)):=Lex.QL (by rw[Lex.df];exact Ar);go_enter func46,ntmps46;go_wp2;exact bodyPost_ret (v:=.tuple #[O U 0 0,.agg #[A I 2,A I 0]]) (by simp[results,results46,go_sem]) rfl ⟨_,[],2,0,rfl,aW.out,World.ownsRow_nil _ _ _ _,(aF _ _).alloc (aD _) _⟩
 ·have HB:ah (Lex.jK s.data.toList=Lex.lZ s.data.toList (s.size+1) 0 []):=(by have:=Lex.QM (l:=s.data.toList) (by rw[Lex.df];exact Ar);rwa [Lex.df] at this);have hs:s.size<=4000:=(by omega);have aX:ah (Lib.TabIs prog w "strings.asciiSpace" .u8 Lib.asciiSpaceTab):=Hn;have lM:=World.block_lt_of_cell? w _ hm;clear Hn ct;go_enter func46,ntmps46;go_wp2;go_loopw [4] (fun v wr=>∃a f y,AD s w wr v a f y) (fun _ wr=>s.size - Lex.placeOf wr (w.heap.size+1));case atStart=>exact⟨0,s.size,[],aiU s w HB⟩
  case round=>
   obtain⟨a,f0,y,G⟩:=hrel;have d:ah (AD s w wr u4 a f0 y):=G;have Fg:=G.mw;have xA:=G.kO;obtain⟨ao,ad,hv⟩:=Jr G.own;subst hv;have cA:=cell_of_one G.qP;have fA:=free_of_one G.qP;have r0:wr.cell? (Y w.heap.size 0 U)=Z (A I 0):=(by simp[aN,G.res]);have r1:wr.cell? (Y w.heap.size 1 U)=Z (A I 0):=(by simp[aN,G.res]);have z0:wr.frozen? (Y w.heap.size 0 U)=ak:=(by simp[ea,G.res]);have z1:wr.frozen? (Y w.heap.size 1 U)=ak:=(by simp[ea,G.res]);clear G HB;by_cases aK:a<s.size
   ·obtain⟨c,hc⟩:∃c,c=s[a]:=⟨_,rfl⟩;have HC:ah (c=s[a]):=hc;have HE:ah (s.extract a (a+1)=⟨#[c]⟩):=(by show _=_;rw[hc];exact one_byte s a aK);clear hc;have nQ:∀wx:au,(Instr.slice 9 (H s) (Z (A I (a:Int))) (Z (A I ((a:Int)+1))) U).run prog wx=.ok (H ⟨#[c]⟩) wx:=(by intro wx;rw[run_slice_string (P:=prog) wx 9 s I I (a:Int) ((a:Int)+1) underlying9 (by omega) (by omega) (by omega),Int.toNat_natCast,show((a:Int)+1).toNat=a+1 from by omega,HE.out]);cases eZ:Lex.mi ((c.toNat:Nat):Int)
    ·have DS:ah (Lex.mi ((c.toNat:Nat):Int)=ak):=eZ;clear eZ;cases B:(((c.toNat:Nat):Int)==35)
     ·have HH:ah ((((c.toNat:Nat):Int)==35)=ak):=B;have gH:(([c]:Lu)==[35])=ak:=(by have:c≠35:=(by intro e;rw[e] at B;exact absurd B (by decide));simpa using this);have Mu:ah (Lex.dJ ak (s.data.toList.drop a)=0):=Lex.aaV s.data.toList a (by rw[Lex.df];exact aK) (by have:=DS.out;rw[HC.out] at this;exact this) (by rw[HC.out] at B;exact B);obtain⟨f,hf⟩:∃f,f0=f+1:=⟨f0 - 1,by have:=d.fuel;omega⟩;subst hf;clear B
      go_upto_block 2 with(go_at_call 97;refine(Ph c _ ak DS).mono ?_;rintro e N ⟨rfl,u⟩;have j:=u.symm;subst j)
      go_cut [] (fun wc=>acv s wr wc a)
      case first=>
       have eD:Lex.c0 (s.data.toList.drop a)=((c.toNat:Nat):Int):=(by have hl:a<s.data.toList.length:=(by rw[Lex.df];exact aK);rw[List.drop_eq_getElem_cons hl,HC.out];rfl);have ae:s.data.toList.drop a≠[]:=(by intro e;have:=congrArg List.length e;rw[List.length_drop,Lex.df] at this;simp at this;omega);have wE:ah (s.data.toList.drop a≠[]):=ae;have Ck:ah (Lex.c0 (s.data.toList.drop a)=((c.toNat:Nat):Int)):=eD;clear eD ae;cases iE:Lex.gx ((c.toNat:Nat):Int)
       ·have zM:ah (Lex.gx ((c.toNat:Nat):Int)=ak):=iE;have Q:ah (a+Lex.dJ ak (s.data.toList.drop a)=a):=(by show _=_;rw[Mu.out];rfl);have R:ah (a≠s.data.toList.length):=(by show _≠_;rw[Lex.df];omega);cases hdg:Lex.ej ((c.toNat:Nat):Int)
        ·have Gj:ah (Lex.ej ((c.toNat:Nat):Int)=ak):=hdg;clear iE hdg;go_wp2_with fail;refine(TD c _ ak zM).mono ?_;rintro e N ⟨rfl,u⟩;have j:=u.symm;subst j;go_wp2_with fail;refine(TE c _ ak Gj).mono ?_;rintro e N ⟨rfl,u⟩;have j:=u.symm;subst j;have tA:ah (Bl wr (wr.alloc (M #[A I 4,A I (a:Int),H ⟨#[]⟩] 81))):=(aF _ _).alloc (aD _) _;have F6:ah (Lib.TabIs prog (wr.alloc (M #[A I 4,A I (a:Int),H ⟨#[]⟩] 81)) "strings.asciiSpace" .u8 Lib.asciiSpaceTab):=Joins.tab_stays (g:=0) (by kernel_rfl) aX (d.ff.trans (tA.mono (by omega))) (aD _);clear nQ;go_wp2_with fail;refine(strings_Fields ⟨Gz.toArray⟩ _ (by decide) aeQ F6).mono ?_;rintro e X ⟨rfl,bS⟩;rw[show(⟨Gz.toArray⟩:Bt).data.toList=Gz from rfl,aeP] at bS⊢;rw[show Lex.tH.length=22 from rfl];have AI:ah (FY wr X a (s.data.toList.drop a) 0):=(by show FY _ _ _ _ _;rw[bS];exact aeT wr a (s.data.toList.drop a));have ZT:(wr.alloc (M #[A I 4,A I (a:Int),H ⟨#[]⟩] 81)).heap.size=wr.heap.size+1:=(by simp);rw[ZT];clear bS ZT cA fA r0 r1 z0 z1;go_wp2;obtain⟨V,hq⟩:∃V,V=wr:=⟨wr,rfl⟩;subst hq;go_loopw [48] (fun i wx=>∃k:Nat,k<=22/\i=A I k/\ah (FY V wx a (s.data.toList.drop a) k)) (fun i _=>22 - (intOf i).toNat);case atStart=>exact⟨0,by omega,rfl,AI⟩
         case round=>
          obtain⟨k,S,rfl,HS⟩:=hrel;obtain⟨T,E⟩:∃T:Bt,T=⟨(Lex.vP (s.data.toList.drop a) k).toArray⟩:=⟨_,rfl⟩;have HT:ah (T=⟨(Lex.vP (s.data.toList.drop a) k).toArray⟩):=E;have K:wr.heap[V.heap.size]? =Z (M #[A I 4,A I (a:Int),H T] 81):=(by rw[E];exact HS.tok);have af:T.data.toList=Lex.vP (s.data.toList.drop a) k:=(by rw[E]);have de:=am K;have x0:=cl K 0 rfl;have x2:wr.cell? (Y V.heap.size 2 U)=Z (H T):=(by simp[aN,K]);have y2:wr.frozen? (Y V.heap.size 2 U)=ak:=(by simp[ea,K]);have lT:=J K;have B1:ah (T.data.toList=Lex.vP (s.data.toList.drop a) k):=af;clear E K af;by_cases vE:k<22
          ·have Ot:k<Lex.tH.length:=vE;have a6:decide ((k:Int)<22)=ap:=(by simp;omega);obtain⟨z,hW⟩:∃z:Bt,z=⟨Lex.tH[k].toArray⟩:=⟨_,rfl⟩;have SS:z.data.toList=Lex.tH[k]:=(by rw[hW]);have f0:wr.cell? (Y (V.heap.size+1) k U)=Z (H z):=(by simp[aN,HS.row];rw[List.getElem?_eq_getElem Ot,hW];exact⟨_,rfl,rfl⟩);have a7:z.size<=2:=(by have h2:∀w∈Lex.tH,w.length<=2:=(by decide);rw[<-Lex.df,SS];exact h2 _ (fD Ot));have OI:T.size<=2:=(by rw[<-Lex.df,B1.out];exact Lex.apF _ _);have eE:ah (Lex.vP (s.data.toList.drop a) (k+1)=Lex.pick (s.data.toList.drop a) T.data.toList z.data.toList):=(by show _=_;rw[Lex.apE _ Ot,B1.out,SS]);have F7:=am HS.row;have Cl:=am HS.ff;obtain⟨pv,Kh⟩:∃pv,Lib.hasPrefix (s.data.toList.drop a) z.data.toList=pv:=⟨_,rfl⟩;have ai:=am Kh;have VN:ah (aC prog 102 #[H (s.extract a s.size),H z] wr fun e w'=>e=aE (az pv)/\w'=wr):=(by have h:=strings_HasPrefix (s.extract a s.size) z wr;rw[Lex.yh,Kh] at h;exact h);clear hW SS Kh HS Ot;cases pv with
           | false=>
            have iy:ah (FY V wr a (s.data.toList.drop a) (k+1)):=(by refine⟨Cl.out,?_,F7.out⟩;rw[eE.out];have e:Lex.pick (s.data.toList.drop a) T.data.toList z.data.toList=T.data.toList:=(by unfold Lex.pick;rw[if_neg (by rw[ai.out];simp)]);rw[e];exact de.out);go_wp2_with fail;refine VN.mono ?_;rintro e w5 ⟨rfl,gi⟩;have j:=gi.symm;subst j;go_wp2;go_roundw;case rel=>exact⟨k+1,by omega,by go_num,iy⟩
            case measure=>simp[intOf];omega
           | true=>
            by_cases Ky:T.size<z.size
            ·have aZ:decide ((T.size:Int)<(z.size:Int))=ap:=(by simp;omega);have iy:ah (FY V (wr.setCell (Y V.heap.size 2 U) (H z)) a (s.data.toList.drop a) (k+1)):=(by refine⟨Cl.setCell (p:=(Y V.heap.size 2 U)) (aD _) _,?_,nz F7 (by simp)⟩;rw[eE.out];have e:Lex.pick (s.data.toList.drop a) T.data.toList z.data.toList=z.data.toList:=(by unfold Lex.pick;rw[if_pos ⟨ai.out,by rw[Lex.df,Lex.df];exact Ky⟩]);rw[e];exact MU de.out);go_wp2_with fail;refine VN.mono ?_;rintro e w5 ⟨rfl,gi⟩;have j:=gi.symm;subst j;go_wp2;go_roundw;case rel=>exact⟨k+1,by omega,by go_num,iy⟩
             case measure=>simp[intOf];omega
            ·have aZ:decide ((T.size:Int)<(z.size:Int))=ak:=(by simp;omega);have iy:ah (FY V wr a (s.data.toList.drop a) (k+1)):=(by refine⟨Cl.out,?_,F7.out⟩;rw[eE.out];have e:Lex.pick (s.data.toList.drop a) T.data.toList z.data.toList=T.data.toList:=(by unfold Lex.pick;rw[if_neg (by rw[Lex.df,Lex.df];exact fun h=>Ky h.2)]);rw[e];exact de.out);go_wp2_with fail;refine VN.mono ?_;rintro e w5 ⟨rfl,gi⟩;have j:=gi.symm;subst j;go_wp2;go_roundw;case rel=>exact⟨k+1,by omega,by go_num,iy⟩
             case measure=>simp[intOf];omega
          ·obtain rfl:k=22:=(by omega);have zy:ah (T.data.toList=Lex.jp (s.data.toList.drop a)):=(by show _=_;rw[B1.out,Lex.apG]);have Cl:=am HS.ff;have RS:=Cl.size;clear HS;by_cases F:T.data.toList=[]
           ·have C:=am (Lex.Tn (by rw[Ck.out];exact zM.out) (by rw[Ck.out];exact Gj.out) (by rw[<-zy.out];exact F));have bT:T.toList.isEmpty=ap:=(by rw[Lex.jU,F];rfl);have a0:(T.toList==[])=ap:=(by rw[Lex.jU,F];rfl);have B6:=am ((Cl.block _ (by omega)).trans d.qP);have vX:=am ((Cl.block _ (by omega)).trans d.res);have xX:=am (d.ff.trans (Cl.mono (by omega)));clear F;go_wp2_with fail;refine(Lr 1 a (w.heap.size+1) _ B6).mono ?_;rintro e w3 ⟨rfl,r⟩;have qg:=r.size;have o:=(r.block _ (by omega)).trans vX;have ED:=cl o 0 rfl;have EC:=cl o 1 rfl;have ye:=fz o 0;have yd:=fz o 1;have kC:=am (xX.trans (r.mono (by omega)));clear o r;go_wp2;exact bodyPost_ret (v:=.tuple #[O U 0 0,.agg #[A I 1,A I (a:Int)]]) (by simp[results,results46,go_sem,ED,EC]) rfl ⟨_,[],1,a,rfl,d.all.trans (Lex.Ex (Lex.Es Q R C (by decide)) (by decide)),World.ownsRow_nil _ _ _ _,(kC.setCell (aD _) _).setCell (aD _) _⟩
           ·have C:ah (Lex.iF (s.data.toList.drop a)=(4,T.data.toList,0)):=(by show _=_;rw[Lex.Ln (by rw[Ck.out];exact zM.out) (by rw[Ck.out];exact Gj.out) (by rw[<-zy.out];exact F),zy.out]);have bT:T.toList.isEmpty=ak:=(by rw[Lex.jU];simpa using F);have a0:(T.toList==[])=ak:=(by rw[Lex.jU,beq_eq_false_iff_ne];exact F);clear F;go_wp2_with fail;go_meet;exact Lx Cl de Q R wE C Fg
        ·have Gj:=am hdg;obtain⟨n,hn⟩:∃n,Lex.bX Lex.ej (s.data.toList.drop a)=n:=⟨_,rfl⟩;have HN:=am hn;have sS:n<=s.size - a:=(by rw[<-hn];have:=Lex.wV Lex.ej (s.data.toList.drop a);rwa [List.length_drop,Lex.df] at this);have fj:0<n:=(by rw[<-hn];exact Lex.GF Lex.ej _ (by rw[Ck.out];exact Gj.out) wE);clear iE hn hdg;go_wp2_with fail;refine(TD c _ ak zM).mono ?_;rintro e N ⟨rfl,u⟩;have j:=u.symm;subst j;go_wp2_with fail;refine(TE c _ ap Gj).mono ?_;rintro e N ⟨rfl,u⟩;have j:=u.symm;subst j;go_upto_region 33 with(fail)
         go_cut [] (fun wx=>acz s wr wx a n)
         case first=>
          clear nQ
          go_region_held3 (fun _=>True) (trivial) (first |(go_at_call 99;refine(aeh s a n _ Fg HN).mono ?_;rintro e X ⟨t',rfl,Fc,aH⟩;have u:IntKind.i64.wrap (((s.size - a:Nat):Int) - ((s.size - a - n:Nat):Int))=(n:Int):=(by rw[IntKind.wrap_i64];omega);have bS:IntKind.i64.wrap (((s.size - a:Nat):Int) - (t'.size:Int))=(n:Int):=(by rw[IntKind.wrap_i64];omega);have cQ:IntKind.i64.wrap (((s.extract a s.size).size:Int) - (t'.size:Int))=(n:Int):=(by rw[IntKind.wrap_i64,ByteArray.size_extract];omega);have rO:(n:Int)<=((s.size - a:Nat):Int):=(by omega);have HX:ah (Blank wr X a):=aqn aH;have x0:=HX.c0;have x2:=HX.c2;have y0:=HX.f0;have y2:=HX.f2;clear aH))
          all_goals (try go_wp2_with fail)
          all_goals go_meet
          all_goals exact ahY HX sS
         case rest=>
          obtain⟨T,me,K,De⟩:=hcut;have Dd:T.size=n:=(by rw[<-Lex.df,De,List.length_take,List.length_drop,Lex.df];omega);have ar:T.data.toList.head? =Z c:=(by have hl:a<s.data.toList.length:=(by rw[Lex.df];exact aK);rw[De,List.drop_eq_getElem_cons hl];obtain⟨n',rfl⟩:∃n',n=n'+1:=⟨n - 1,by omega⟩;rw[HC.out];rfl);have x2:=cl K 2 rfl;have lT:=J K;have I3:ah (Lex.iF (s.data.toList.drop a)=Lex.pM T.data.toList):=(by show _=_;rw[Lex.OZ (by rw[Ck.out];exact zM.out) (by rw[Ck.out];exact Gj.out),HN.out,De]);have de:=am K;have zJ:=am me;have VO:=am ar;have RS:=me.size;clear De ar K me nQ cA fA r0 r1 z0 z1;by_cases L:9<n\/(1<n/\c=48)
          ·have C:ah (Lex.iF (s.data.toList.drop a)=(0,[],3)):=(by show _=_;rw[I3.out];unfold Lex.pM;rw[if_pos (by rw[VO.out,Lex.df,Dd];rcases L with h |⟨h,e⟩;exact .inl h;exact .inr ⟨h,by rw[e]⟩)]);have av:=(zJ.block _ (by omega)).trans d.qP;have B6:=am av;have vX:=am ((zJ.block _ (by omega)).trans d.res);have xX:=am (d.ff.trans (zJ.mono (by omega)));clear av;by_cases h9:9<n
           ·have d9:decide ((9:Int)<(T.size:Int))=ap:=(by rw[Dd];simp;omega);have ax:decide ((9:Int)<(n:Int))=ap:=(by simp;omega);clear L;go_wp2_with fail;refine(Lr 3 a (w.heap.size+1) _ B6).mono ?_;rintro e w3 ⟨rfl,r⟩;have qg:=r.size;have o:=(r.block _ (by omega)).trans vX;have ED:=cl o 0 rfl;have EC:=cl o 1 rfl;have ye:=fz o 0;have yd:=fz o 1;have kC:=am (xX.trans (r.mono (by omega)));clear o r;go_wp2;exact bodyPost_ret (v:=.tuple #[O U 0 0,.agg #[A I 3,A I (a:Int)]]) (by simp[results,results46,go_sem,ED,EC]) rfl ⟨_,[],3,a,rfl,d.all.trans (Lex.Ex (Lex.Es Q R C (by decide)) (by decide)),World.ownsRow_nil _ _ _ _,(kC.setCell (aD _) _).setCell (aD _) _⟩
           ·have BF:c=48:=(by rcases L with h |⟨_,e⟩;exact absurd h h9;exact e);have ay:1<n:=(by rcases L with h |⟨h,_⟩;exact absurd h h9;exact h);have d9:decide ((9:Int)<(T.size:Int))=ak:=(by rw[Dd];simp;omega);have ax:decide ((9:Int)<(n:Int))=ak:=(by simp;omega);have bc:(([c]:Lu)==[48])=ap:=(by rw[BF];rfl);have a8:(T.toList==[48])=ak:=(by rw[Lex.jU,beq_eq_false_iff_ne];intro e;have:=congrArg List.length e;rw[Lex.df,Dd] at this;simp at this;omega);clear L BF;go_wp2_with fail;refine(Lr 3 a (w.heap.size+1) _ B6).mono ?_;rintro e w3 ⟨rfl,r⟩;have qg:=r.size;have o:=(r.block _ (by omega)).trans vX;have ED:=cl o 0 rfl;have EC:=cl o 1 rfl;have ye:=fz o 0;have yd:=fz o 1;have kC:=am (xX.trans (r.mono (by omega)));clear o r;go_wp2;exact bodyPost_ret (v:=.tuple #[O U 0 0,.agg #[A I 3,A I (a:Int)]]) (by simp[results,results46,go_sem,ED,EC]) rfl ⟨_,[],3,a,rfl,d.all.trans (Lex.Ex (Lex.Es Q R C (by decide)) (by decide)),World.ownsRow_nil _ _ _ _,(kC.setCell (aD _) _).setCell (aD _) _⟩
          ·have h9:¬9<n:=fun h=>L (.inl h);have C:ah (Lex.iF (s.data.toList.drop a)=(2,T.data.toList,0)):=by
            show _=_;rw[I3.out];unfold Lex.pM;rw[if_neg];rw[VO.out,Lex.df,Dd];rintro(h |⟨h,e⟩)
            ·exact L (.inl h)
            ·exact L (.inr ⟨h,Option.some.inj e⟩)
           have d9:decide ((9:Int)<(T.size:Int))=ak:=(by rw[Dd];simp;omega);have ax:decide ((9:Int)<(n:Int))=ak:=(by simp;omega);by_cases BF:c=48
           ·have ay:n=1:=by
             by_cases h:1<n
             ·exact absurd (.inr ⟨h,BF⟩) L
             ·omega
            have bc:(([c]:Lu)==[48])=ap:=(by rw[BF];rfl);have a9:(T.toList==[48])=ap:=by
             rw[Lex.jU];have aG:T.data.toList.length=1:=(by rw[Lex.df,Dd];exact ay);have B:=VO.out
             match E:T.data.toList,aG,B with
             |[q],_,hq=>
              obtain rfl:q=c:=(by simpa using hq);rw[BF];rfl
            clear L BF;go_wp2_with fail;go_meet;exact Lx zJ de Q R wE C Fg
           ·have bc:(([c]:Lu)==[48])=ak:=(by simpa using BF);clear L BF;go_wp2_with fail;go_meet;exact Lx zJ de Q R wE C Fg
       ·have zM:=am iE;obtain⟨n,hn⟩:∃n,Lex.bX Lex.dY (s.data.toList.drop a)=n:=⟨_,rfl⟩;have HN:=am hn;have sS:n<=s.size - a:=(by rw[<-hn];have:=Lex.wV Lex.dY (s.data.toList.drop a);rwa [List.length_drop,Lex.df] at this);clear iE hn;go_wp2_with fail;refine(TD c _ ap zM).mono ?_;rintro e N ⟨rfl,u⟩;have j:=u.symm;subst j;go_wp2_with fail;refine(aei s a n _ Fg HN).mono ?_;rintro e X ⟨t',rfl,Fc,aH⟩;have bA:=aH.size;simp only[World.size_alloc] at bA;have W:=(aH.block _ (by simp)).trans (cu _ _ _ rfl);have x0:=cl W 0 rfl;have x1:=cl W 1 rfl;have x2:=cl W 2 rfl;have y0:=fz W 0;have y2:=fz W 2;have tk:=am W;have dD:=am (((aF _ _).alloc (aD _) _).trans (aH.mono (by simp)));have a1:=d.ff;have xX:=am (d.ff.trans (dD.mono (by omega)));clear W aH nQ a1;go_wp2_with fail;obtain⟨T,F⟩:=nm ((s.extract a s.size).extract 0 (s.size - a - (s.size - a - n)));rw[<-F];have De:T.data.toList=(s.data.toList.drop a).take n:=(by rw[F];exact abE s a n sS);have Dd:T.size=n:=(by rw[<-Lex.df,De,List.length_take,List.length_drop,Lex.df];omega);have B1:=am De;have fj:0<n:=(by rw[<-HN.out];exact Lex.GF Lex.dY _ (by rw[Ck.out];simp[Lex.dY,zM.out]) wE);have I3:ah (Lex.iF (s.data.toList.drop a)=Lex.sM T.data.toList):=(by show _=_;rw[Lex.O0 (by rw[Ck.out];exact zM.out),HN.out,B1.out]);have Q:ah (a+Lex.dJ ak (s.data.toList.drop a)=a):=(by show _=_;rw[Mu.out];rfl);have R:ah (a≠s.data.toList.length):=(by show _≠_;rw[Lex.df];omega);clear F De;have aI:((X.setCell (Y wr.heap.size 2 U) (H T)).setCell (Y wr.heap.size 0 U) (A I 1)).cell? (Y 3 0 U)=Z (A I m):=
         (((xX.setCell (p:=(Y wr.heap.size 2 U)) (by show _<=wr.heap.size;omega) _).setCell (p:=(Y wr.heap.size 0 U)) (by show _<=wr.heap.size;omega) _).cell (p:=(Y 3 0 U)) lM).trans hm
        refine(NF T m _ (by omega) aI).mono ?_;rintro e w3 ⟨rfl,cQ⟩;have j:=cQ.symm;subst j;clear aI;cases sP:Lex.i8 T.data.toList
        ·by_cases oU:12<n
         ·have C:=am (I3.trans (Lex.YL (by omega)));clear sP;go_wp2_with fail;refine(Lr 2 a (w.heap.size+1) _ (((((dD.setCell (p:=(Y wr.heap.size 2 U)) (by show _<=wr.heap.size;omega) (H T)).setCell (p:=(Y wr.heap.size 0 U)) (by show _<=wr.heap.size;omega) (A I 1))).block _ (by omega)).trans d.qP)).mono ?_;rintro e w3 ⟨rfl,r⟩;have qg:=r.size;simp only[size_setCell] at qg;have zJ:=am ((((xX.setCell (p:=(Y wr.heap.size 2 U)) (by show _<=wr.heap.size;omega) (H T)).setCell (p:=(Y wr.heap.size 0 U)) (by show _<=wr.heap.size;omega) (A I 1))));have o:=(r.block _ (by simp only[size_setCell];omega)).trans (((((dD.setCell (p:=(Y wr.heap.size 2 U)) (by show _<=wr.heap.size;omega) (H T)).setCell (p:=(Y wr.heap.size 0 U)) (by show _<=wr.heap.size;omega) (A I 1))).block _ (by omega)).trans d.res);have ED:=cl o 0 rfl;have EC:=cl o 1 rfl;have ye:=fz o 0;have yd:=fz o 1;have kC:=am (zJ.trans (r.mono (by simp only[size_setCell];omega)));clear o r r0 r1 z0 z1;go_wp2;exact bodyPost_ret (v:=.tuple #[O U 0 0,.agg #[A I 2,A I (a:Int)]]) (by simp[results,results46,go_sem,ED,EC]) rfl ⟨_,[],2,a,rfl,d.all.trans (Lex.Ex (Lex.Es Q R C (by decide)) (by decide)),World.ownsRow_nil _ _ _ _,(kC.setCell (aD _) _).setCell (aD _) _⟩
         ·have C:=am (I3.trans (Lex.YK (by omega) (by rw[Lex.jU];exact sP)));clear sP;go_wp2_with fail;go_meet;exact Lx (((dD.setCell (p:=(Y wr.heap.size 2 U)) (by show _<=wr.heap.size;omega) (H T)).setCell (p:=(Y wr.heap.size 0 U)) (by show _<=wr.heap.size;omega) (A I 1))) (MV (MU tk)) Q R wE C Fg
        ·have oU:¬12<n:=(by have:=adC sP;rw[Lex.df] at this;omega);have C:=am (I3.trans (Lex.YJ (by omega) (by rw[Lex.jU];exact sP)));clear sP;go_wp2_with fail;go_meet;exact Lx ((((dD.setCell (p:=(Y wr.heap.size 2 U)) (by show _<=wr.heap.size;omega) (H T)).setCell (p:=(Y wr.heap.size 0 U)) (by show _<=wr.heap.size;omega) (A I 1))).setCell (p:=(Y wr.heap.size 0 U)) (by show _<=wr.heap.size;omega) (A I 3)) (MV (MV (MU tk))) Q R wE C Fg
      case rest=>
       obtain⟨k,t,yS,E,di,S,CT,vB⟩:=hcut;have bb:=yS.size;have aJ:=(yS.block _ (by omega)).trans d.qP;have aM:=(yS.block _ (by omega)).trans d.res;have HA:=am aJ;have HR:=am aM;have eE:=am di;have aT:=am S;have I7:=am yS;have t0:=cl E 0 rfl;have t1:=cl E 1 rfl;have t2:=cl E 2 rfl;have HT:=am E;have lT:=J E;clear aJ aM di S yS E r0 r1 z0 z1 cA fA nQ;by_cases KH:y.length=600
       ·have Ch:=am KH;have h6:(600:Int)<=(y.length:Int):=(by omega);clear KH;go_wp2_with fail;refine(Lr 2 a (w.heap.size+1) _ HA).mono ?_;rintro e w3 ⟨rfl,r⟩;have qg:=r.size;have o:=(r.block _ (by omega)).trans HR;have r0:=cl o 0 rfl;have r1:=cl o 1 rfl;have z0:=fz o 0;have z1:=fz o 1;have kC:=am ((d.ff.trans (I7.mono (by omega))).trans (r.mono (by omega)));clear o r;go_wp2;exact bodyPost_ret (v:=.tuple #[O U 0 0,.agg #[A I 2,A I (a:Int)]]) (by simp[results,results46,go_sem,r0,r1]) rfl ⟨_,[],2,a,rfl,d.all.trans (Lex.M2 eE aT Ch),World.ownsRow_nil _ _ _ _,(kC.setCell (aD _) _).setCell (aD _) _⟩
       ·have h6:¬(600:Int)<=(y.length:Int):=(by have:=d.len;omega);have Ch:=am KH;have aG:=d.len;have HO:=am (aiV d I7);obtain⟨i0,hi,cL,bZ,bA⟩:=info_parts Tryz.RQ;clear KH;go_wp2_with (at_builtin;refine wpList_append_own _ rfl _ _ 72 rfl (w.heap.size+2) 81 i0 (.agg #[A I 0,A I 0,H ⟨#[]⟩]) 3 32 underlying72 hi cL bZ bA rfl (by decide) _ _ _ rfl (World.ownsRow.alloc HO.out _) (Y wc.heap.size 0 U) 1 1 [A I k,A I (a:Int),H t] rfl rfl ?c1 ?c2 ?c3 ?c4 ?c5 ?_);case c2=>first | exact⟨rfl,rfl,rfl⟩|(intro be hu;simp at hu;rcases hu with rfl | rfl | rfl<;>rfl)
        case c3=>unfold maxLen;omega
        case c4=>omega
        case c5=>first | omega |(simp;omega)
        ·intro v' X gu fG _;have NJ:=fG.size;simp only[World.size_alloc] at NJ;have HN:=am (aiW d I7 aT CT vB eE Ch gu fG);have Mf:ah (s.size - Lex.placeOf (X.setCell (Y (w.heap.size+1) 0 U) (A I ((a+t.size:Nat):Int))) (w.heap.size+1)<s.size - Lex.placeOf wr (w.heap.size+1)):=by
          show _<_;rw[Lex.CG HN.qP,Lex.CG d.qP];omega
         have low:∀b x,b<wc.heap.size->Z b≠(Value.slice ao y.length ad).ownBlock->wc.heap[b]? =Z x->X.heap[b]? =Z x:=fun b x hb bh hx=>by
          rw[fG.block b (by simp;omega) bh];exact cR hx
         have Tb:=low _ _ (by omega) (fun e=>by have:=(HO.lt _ e.symm).1;omega) HA;have W:=low _ _ (by omega) (fun e=>by have:=(d.own.lt _ e.symm).2;omega) HT;have bf:=cell_of_one Tb;have bg:=free_of_one Tb;have x2:=cl W 2 rfl;clear gu fG low Tb W t0 t1 t2;go_wp2;go_roundw;case rel=>exact⟨a+t.size,f,_,HN.out⟩
         case measure=>exact Mf.out
     ·obtain⟨k,S⟩:∃k,Lib.indexByte (s.data.toList.drop a) 10=k:=⟨_,rfl⟩;have HK:=am S;have gH:(([c]:Lu)==[35])=ap:=(by have:c=35:=UInt8.toNat_inj.1 (by have:=eq_of_beq B;simp;omega);rw[this];rfl);have Ox:=Lex.aaW s.data.toList a (by rw[Lex.df];exact aK) (by have:=DS.out;rw[HC.out] at this;exact this) (by rw[HC.out] at B;exact B);by_cases fV:0<=k
      ·obtain⟨e1,e2⟩:=(Lex.YD (s.data.toList.drop a)).1 (by rw[S];exact fV);rw[S] at e1;rw[List.length_drop,Lex.df] at e2;have a2:0<Lex.bX Lex.kT (s.data.toList.drop a):=(by have hl:a<s.data.toList.length:=(by rw[Lex.df];exact aK);rw[Lex.afy hl];have:Lex.kT ((s.data.toList[a].toNat:Nat):Int)=ap:=(by rw[show((s.data.toList[a].toNat:Nat):Int)=35 from by rw[HC.out] at B;exact eq_of_beq B];rfl);rw[if_pos this];omega);obtain⟨n,hn⟩:∃n,Lex.bX Lex.kT (s.data.toList.drop a)=n:=⟨_,rfl⟩;rw[hn] at e1 e2 Ox a2;subst e1;have a3:ah (a+Lex.dJ ak (s.data.toList.drop a)=(a+n)+Lex.dJ ak (s.data.toList.drop (a+n))):=(by show _=_;omega);have Gd:ah (AD s w (wr.setCell (Y (w.heap.size+1) 0 U) (A I ((a+n:Nat):Int))) (O ao y.length ad) (a+n) f0 y):=Yv d (by omega) (by omega) a3;have Mf:ah (s.size - Lex.placeOf (wr.setCell (Y (w.heap.size+1) 0 U) (A I ((a+n:Nat):Int))) (w.heap.size+1)<s.size - Lex.placeOf wr (w.heap.size+1)):=(by show _<_;rw[Lex.CG Gd.qP,Lex.CG d.qP];omega);clear Ox hn S B;go_wp2_with fail;refine(Ph c _ ak DS).mono ?_;rintro e N ⟨rfl,u⟩;have j:=u.symm;subst j;go_wp2_with fail;refine(Zq s a _ _ HK).mono ?_;rintro e N ⟨rfl,u⟩;have j:=u.symm;subst j;go_wp2;go_roundw;case rel=>exact⟨a+n,f0,y,Gd.out⟩
       case measure=>exact Mf.out
      ·have e1:=(Lex.YD (s.data.toList.drop a)).2 (by rw[S];exact fV);have a4:ah (Lex.jK s.data.toList=(y,0,0)):=(by refine d.all.trans (Lex.Jt (Lex.step_end (q:=s.data.toList.length) ?_ rfl));rw[Ox,e1,List.length_drop,Lex.Ti _ _ (by rw[Lex.df];omega),Lex.df];omega);clear Ox S B;go_wp2_with fail;refine(Ph c _ ak DS).mono ?_;rintro e N ⟨rfl,u⟩;have j:=u.symm;subst j;go_wp2_with fail;refine(Zq s a _ _ HK).mono ?_;rintro e N ⟨rfl,u⟩;have j:=u.symm;subst j;go_wp2;exact bodyPost_ret (v:=.tuple #[O ao y.length ad,.agg #[A I 0,A I 0]]) (by simp[results,results46,go_sem,r0,r1]) rfl ⟨_,y,0,0,rfl,a4.out,Rg (ownsRow_setCell_below (ownsRow_setCell_below d.own (by show w.heap.size<_;omega) _) (by show w.heap.size<_;omega) _) (by omega),(d.ff.setCell (aD _) _).setCell (aD _) _⟩
    ·have DS:=am eZ;have yQ:=Lex.aaX s.data.toList a (by rw[Lex.df];exact aK) (by have:=DS.out;rw[HC.out] at this;exact this);have Gd:ah (AD s w (wr.setCell (Y (w.heap.size+1) 0 U) (A I ((a+1:Nat):Int))) (O ao y.length ad) (a+1) f0 y):=Yv d (by omega) (by omega) (by omega);have Mf:ah (s.size - Lex.placeOf (wr.setCell (Y (w.heap.size+1) 0 U) (A I ((a+1:Nat):Int))) (w.heap.size+1)<s.size - Lex.placeOf wr (w.heap.size+1)):=(by show _<_;rw[Lex.CG Gd.qP,Lex.CG d.qP];omega);clear yQ eZ;go_wp2_with fail;refine(Ph c _ ap DS).mono ?_;rintro e N ⟨rfl,u⟩;have j:=u.symm;subst j;go_wp2;go_roundw;case rel=>exact⟨a+1,f0,y,Gd.out⟩
     case measure=>exact Mf.out
   ·go_wp2;have a5:a=s.size:=(by omega);exact bodyPost_ret (v:=.tuple #[O ao y.length ad,.agg #[A I 0,A I 0]]) (by simp[results,results46,go_sem,r0,r1]) rfl ⟨_,y,0,0,rfl,d.all.trans (Lex.Jt (Lex.step_end (q:=a) (by rw[Lex.Ti _ _ (by rw[Lex.df];omega)];omega) (by rw[Lex.df];exact a5))),Rg (ownsRow_setCell_below (ownsRow_setCell_below d.own (by show w.heap.size<_;omega) _) (by show w.heap.size<_;omega) _) (by omega),(d.ff.setCell (aD _) _).setCell (aD _) _⟩
open ag (Tok Po Tr nx bI aO ba aA)
theorem aoU (p:Addr)(w:au):
 CallsD prog 114 #[aB (Z p)] .returning w fun x a w'=>x=aE (.tuple #[])/\a=.returning/\w'=w:=by
 refine callsD_of_wpS func114 rfl fun b d c=> ?_;apply wpS_seq;apply wpS_region;simp[wpOpsS,go_sem,recoverD,c,ntmps114,Exit.thenS];refine wpS_of_wp ?_;show Code.wp _ _ _ {tmps:=#[aB (Z p),.nilIface,undef,undef,.nilIface,undef,undef,undef,undef,undef,undef,undef,undef,undef,undef,undef],defers:=[]} w;go_wp2;cases b
 simp_all [bodyPostS,results,results114]
theorem aoT (a:Nat)(c:Int)(q:Nat)(w:au)(hf:w.heap[a]? =Z (M #[A I y0,A I y1] 30)):
 CallsD prog 114 #[aB (Z (Y a 0 U))] (.panicking [{v:=rA c q,recovered:=ak}]) w fun x e w'=>x=aE (.tuple #[])/\e=.panicking [{v:=rA c q,recovered:=ap}]/\w'.heap[a]? =Z (M #[A I c,A I (q:Int)] 30)/\w.grownBy w' (Z a):=by
 refine callsD_of_wpS func114 rfl fun h i f=> ?_;apply wpS_seq;apply wpS_region;simp[wpOpsS,go_sem,recoverD,f,ntmps114,Exit.thenS];have j:=J hf;obtain⟨⟨k,l⟩,m,n⟩:(w.cell? (Y a 0 U)=Z (A I y0)/\w.cell? (Y a 1 U)=Z (A I y1))/\w.frozen? (Y a 0 U)=ak/\w.frozen? (Y a 1 U)=ak:=(by refine⟨⟨?_,?_⟩,?_,?_⟩<;>simp[aN,ea,hf]);refine wpS_of_wp ?_;show Code.wp _ _ _ {tmps:=#[aB (Z (Y a 0 U)),rA c q,undef,undef,rA c q,undef,undef,undef,undef,undef,undef,undef,undef,undef,undef,undef],defers:=[]} w;unfold rA;have p:∀(v:aw) (w:au),(Instr.typeAssert (.iface 75 v) 20 75 ap).run prog w=.ok (.tuple #[v,az ap]) w:=fun _ _=>(by kernel_rfl);have b:∀o,(((w.setCell (Y a 0 U) (A I c)).setCell (Y a 1 U) (A I (q:Int))).alloc o).heap[a]? =Z (M #[A I c,A I (q:Int)] 30):=fun o=>cR (by simp[bw,dM,hf]);have d:∀o,w.grownBy (((w.setCell (Y a 0 U) (A I c)).setCell (Y a 1 U) (A I (q:Int))).alloc o) (Z a):=by
  intro o;refine BP ?_ _;refine eR ?_ rfl _;refine eR ?_ rfl _;exact jh _ _
 have g:=am (aj b d);clear b d;go_wp2;obtain⟨b,d⟩:=g.out;exact⟨rfl,_,rfl,.tuple #[],by simp[results,results114],rfl,rfl,b _,d _⟩
section
namespace ag
open Lex (ej iF c0 bX dY gx)
theorem anV (h:∀c∈l,ej (c.toNat:Int)=ap):∀acc,∃m,Lib.decFrom acc l=Z m:=by
 induction l with
 | nil=>intro acc;exact⟨acc,rfl⟩
 | cons a r b=>
  intro acc;have d:=h a (by simp);simp only[ej,decide_eq_true_eq] at d;have e:Lib.digitVal a=Z (a.toNat - 48):=by
   unfold Lib.digitVal;rw[if_pos (by omega)]
  obtain⟨m,hm⟩:=b (fun c f=>h c (by simp[f])) (acc*10+(a.toNat - 48));exact⟨m,by simp only[Lib.decFrom,e];exact hm⟩
theorem anW (d:l≠[])(h:∀c∈l,ej (c.toNat:Int)=ap)(f:l.length<=9):∃m:Nat,Lib.atoi l=Z (m:Int)/\m<=999999999:=by
 obtain⟨m,hm⟩:=anV h 0;have j:=Lib.decFrom_lt l 0 m hm;have k:(10:Nat) ^ l.length<=10 ^ 9:=Nat.pow_le_pow_right (by omega) f;refine⟨m,?_,by omega⟩;cases l with
 | nil=>exact absurd rfl d
 | cons a r=>
  have b:=h a (by simp);simp only[ej,decide_eq_true_eq] at b;have g:(a==45)=ak:=(by rw[beq_eq_false_iff_ne];intro e;subst e;exact absurd b (by decide));have i:(a==43)=ak:=(by rw[beq_eq_false_iff_ne];intro e;subst e;exact absurd b (by decide));simp only[Lib.atoi,g,i,Bool.false_eq_true,if_false,Lib.decNat,List.isEmpty_cons,hm,Option.map_some]
theorem X6 {t:Lu}(h:Lex.Good 2 t):t.length<=9/\∃m:Nat,Lib.atoi t=Z (m:Int)/\m<=999999999:=by
 obtain⟨c,_,_,d⟩:=h;have a:=d [] (.inl rfl);rw[List.append_nil] at a;unfold iF at a;split at a
 ·rename_i g;unfold Lex.sM at a;split at a
  ·simp at a
  ·split at a<;>simp at a
 ·split at a
  ·rename_i _ i;obtain⟨j,b⟩:=Lex.QQ ej t;have f:=Lex.Pb a;have e:t.take (bX ej t)=t:=f.2.symm;rw[e] at b a;unfold Lex.pM at a;split at a
   ·simp at a
   ·rename_i k;exact⟨by omega,anW c b (by omega)⟩
  ·split at a<;>simp at a
end ag
end
theorem abQ (l:List Tok):Lex.cellsOf l=(l.map tF).flatten:=by
 unfold Lex.cellsOf tF ba;rw[List.flatMap_def]
theorem aaT {t:Tok}(h:Lex.P4 l t)(d:l.length<=4000):Good t:=by
 obtain⟨e,f,a,g⟩:=h;refine⟨by omega,by omega,fun b=> ?_⟩;rw[b] at a;obtain⟨i,m,c,j⟩:=ag.X6 a;refine⟨by omega,?_⟩;simp[ag.wY,c]
theorem Xk (d:gU w w.heap.size){ts:List Tok}(c:w.ownsRow B 81 3 v ts.length (Lex.cellsOf ts))(e:Lex.jK l=(ts,0,q)):
 Rd (w.alloc (M #[v,A I (l.length:Int),A I 0,A I 0] 78)) w.heap.size l.length 0 0 ts v:=by
 obtain⟨f,g,j⟩:=Lex.LL e;rw[abQ] at c;have k:=(gj.Nc (S:=fun _=>True) c (by simp) (fun i n=>by simp[tF]) (fun _ _=>trivial)).mono fun b _ h=>h;exact⟨cu _ _ _ rfl,k.keeps ⟨by simp,fun b a _=>Below.heap_alloc _ _ b a⟩,g,fun t m=>aaT (f t m) j,d.keeps (by simp) fun b a=>Below.heap_alloc _ _ b a⟩
def TI (fb:Nat):Deferred:={target:=.fn (.func 114) #[aB (Z (Y fb 0 U))],args:=#[]}
def Az (w:au)(res:aA Tr)(x:Ending)(w':au):Prop:=
 Bl w w'∧((∃t,res=.ok t []∧∃(z0 z1 z2 z3:Int) (z4:Bt) (z5:Oa) (m5 d5:Nat) (z6:Oa) (m6 d6:Nat),x=aE (.tuple #[.agg #[A I z0,A I z1,A I z2,A I z3,H z4,O z5 m5 d5,O z6 m6 d6],.agg #[A I 0,A I 0]])∧aS w' (fun b=>w.heap.size≤b) t [A I z0,A I z1,A I z2,A I z3,H z4,O z5 m5 d5,O z6 m6 d6])∨
  (∃c q,res=.no c q∧x=aE (.tuple #[.agg ZE,.agg #[A I c,A I ((q:Nat):Int)]])))
theorem Wv {d:aA Tr}(a:Bl w wz)(e:wz.heap[w.heap.size]? =Z (M ZE 48))(hf:wz.heap[w.heap.size+1]? =Z (M #[A I y0,A I y1] 30))
 (h:K[4]? =Z (aB (Z (Y w.heap.size 0 U)))) (i:K[5]? =Z (aB (Z (Y (w.heap.size+1) 0 U)))) (j:d=.no c q):
 Leaves prog f60 K (Az w d) [TI (w.heap.size+1)] (.panicking [{v:=rA c q,recovered:=ak}]) wz:=by
 refine leaves_cons (f:=114) (args:=#[aB (Z (Y (w.heap.size+1) 0 U))]) (by simp) (by simp[go_sem]) ?_;refine(aoT (w.heap.size+1) c q wz hf).mono ?_;rintro x z B ⟨rfl,rfl,hn,b⟩;have g:=(b.block _ (J e) (by simp)).trans e;unfold ZE at g;obtain⟨⟨l,m,n,o,p,r,s⟩,_⟩:=fa g;have t:=cl hn 0 rfl;have u:=cl hn 1 rfl;refine⟨.tuple #[.agg ZE,.agg #[A I c,A I (q:Int)]],by simp[results,results60,go_sem,h,i,l,m,n,o,p,r,s,t,u,ZE],⟨b.os.trans a.os,b.tape.trans a.tape,b.output.trans a.output,fC a.size b.size,fun k y=>(b.block k (by have:=a.size;omega) (by simp;omega)).trans (a.block k y)⟩,.inr ⟨c,q,j,rfl⟩⟩
theorem adK {a:aA Tr}{t:Tr}(c:Bl w wz)(d:wz.heap[w.heap.size]? =Z (M #[A I z0,A I z1,A I z2,A I z3,H u,O z G d5,O E C d6] 48))(hf:wz.heap[w.heap.size+1]? =Z (M #[A I 0,A I 0] 30))
 (e:K[4]? =Z (aB (Z (Y w.heap.size 0 U)))) (g:K[5]? =Z (aB (Z (Y (w.heap.size+1) 0 U)))) (h:a=.ok t []) (i:aS wz (fun b=>w.heap.size<=b) t [A I z0,A I z1,A I z2,A I z3,H u,O z G d5,O E C d6]):
 Leaves prog f60 K (Az w a) [TI (w.heap.size+1)] .returning wz:=by
 refine leaves_cons (f:=114) (args:=#[aB (Z (Y (w.heap.size+1) 0 U))]) (by simp) (by simp[go_sem]) ?_;refine(aoU (Y (w.heap.size+1) 0 U) wz).mono ?_;rintro x v y ⟨rfl,rfl,j⟩;subst j;obtain⟨⟨k,l,m,n,o,p,q⟩,_⟩:=fa d;have r:=cl hf 0 rfl;have s:=cl hf 1 rfl;exact⟨.tuple #[.agg #[A I z0,A I z1,A I z2,A I z3,H u,O z G d5,O E C d6],.agg #[A I 0,A I 0]],by simp[results,results60,go_sem,e,g,k,l,m,n,o,p,q,r,s],c,.inl ⟨t,h,_,_,_,_,_,_,_,_,_,_,_,rfl,i⟩⟩
theorem adJ {a:aA Tr}(d:Bl w wz)(b:wz.heap[w.heap.size]? =Z (M ZE 48))(hf:wz.heap[w.heap.size+1]? =Z (M #[A I c,A I (q:Int)] 30))
 (e:K[4]? =Z (aB (Z (Y w.heap.size 0 U)))) (f:K[5]? =Z (aB (Z (Y (w.heap.size+1) 0 U)))) (g:a=.no c q):
 Leaves prog f60 K (Az w a) [] .returning wz:=by
 unfold ZE at b;obtain⟨⟨h,i,j,k,l,m,n⟩,_⟩:=fa b;have o:=cl hf 0 rfl;have p:=cl hf 1 rfl;exact⟨.tuple #[.agg ZE,.agg #[A I c,A I (q:Int)]],by simp[results,results60,go_sem,e,f,h,i,j,k,l,m,n,o,p,ZE],d,.inr ⟨c,q,g,rfl⟩⟩
theorem adL {a:aA Tr}(b:Bl w wz)(d:wz.heap[w.heap.size]? =Z (M ZE 48))(hf:wz.heap[w.heap.size+1]? =Z (M #[A I c,A I (q:Int)] 30))
 (e:K[4]? =Z (aB (Z (Y w.heap.size 0 U)))) (f:K[5]? =Z (aB (Z (Y (w.heap.size+1) 0 U)))) (g:a=.no c q):
 Leaves prog f60 K (Az w a) [] .returning wz.drew:=adJ (wz:=wz.drew) b.drew d hf e f g
theorem adM {a:aA Tr}{t:Tr}(o:Obj)(c:Bl w wz)(d:wz.heap[w.heap.size]? =Z (M #[A I z0,A I z1,A I z2,A I z3,H u,O z G d5,O E C d6] 48))(hf:wz.heap[w.heap.size+1]? =Z (M #[A I 0,A I 0] 30))
 (e:K[4]? =Z (aB (Z (Y w.heap.size 0 U)))) (f:K[5]? =Z (aB (Z (Y (w.heap.size+1) 0 U)))) (g:a=.ok t []) (h:aS wz (fun b=>w.heap.size<=b) t [A I z0,A I z1,A I z2,A I z3,H u,O z G d5,O E C d6]):
 Leaves prog f60 K (Az w a) [TI (w.heap.size+1)] .returning (wz.alloc o):=
 adK (wz:=wz.alloc o) (c.alloc c.size _) (cR d) (cR hf) e f g (h.keeps (aP.bm ((aF _ _).alloc (aD _) _)))
theorem Lq {c d f g:aw}{e a:TypeId}(h:wz.heap[n]? =Z (M #[x0,x1,x2,c,d,f,g] e))(hf:wz.heap[n+1]? =Z (M #[A I y0,A I y1] a)){a0 a1 a2 a3 a4 a5 a6 b0 b1:aw}(i:Below n w wz):
 Below n w (((((((((wz.setCell (Y n 0 U) a0).setCell (Y n 1 U) a1).setCell (Y n 2 U) a2).setCell (Y n 3 U) a3).setCell (Y n 4 U) a4).setCell (Y n 5 U) a5).setCell (Y n 6 U) a6).setCell (Y (n+1) 0 U) b0).setCell (Y (n+1) 1 U) b1)/\
 (((((((((wz.setCell (Y n 0 U) a0).setCell (Y n 1 U) a1).setCell (Y n 2 U) a2).setCell (Y n 3 U) a3).setCell (Y n 4 U) a4).setCell (Y n 5 U) a5).setCell (Y n 6 U) a6).setCell (Y (n+1) 0 U) b0).setCell (Y (n+1) 1 U) b1).heap[n]? =Z (M #[a0,a1,a2,a3,a4,a5,a6] e)/\
 (((((((((wz.setCell (Y n 0 U) a0).setCell (Y n 1 U) a1).setCell (Y n 2 U) a2).setCell (Y n 3 U) a3).setCell (Y n 4 U) a4).setCell (Y n 5 U) a5).setCell (Y n 6 U) a6).setCell (Y (n+1) 0 U) b0).setCell (Y (n+1) 1 U) b1).heap[n+1]? =Z (M #[b0,b1] a)/\
 ∀b,b≠n->b≠n+1->(((((((((wz.setCell (Y n 0 U) a0).setCell (Y n 1 U) a1).setCell (Y n 2 U) a2).setCell (Y n 3 U) a3).setCell (Y n 4 U) a4).setCell (Y n 5 U) a5).setCell (Y n 6 U) a6).setCell (Y (n+1) 0 U) b0).setCell (Y (n+1) 1 U) b1).heap[b]? =wz.heap[b]? :=by
 refine⟨?_,by simp[bw,dM,h],by simp[bw,dM,hf],fun b j k=> ?_⟩
 ·iterate 9 refine Below.setCell ?_ (by simp) _
  exact i
 ·iterate 2 rw[Below.heap_setCell _ _ _ _ k]
  iterate 7 rw[Below.heap_setCell _ _ _ _ j]
theorem adF (hE:∀rb e,rz rb e 0 0 (ag.fp e 12))(s:Bt)(w:au)(hs:s.size<=maxLen)(hl:gU w w.heap.size):
 aC prog 60 #[H s,.func (.func 61) #[] #[]] w (Az w (ag.CE s.data.toList)):=by
 have lO:∀(fn:Fn) (first y:Av) (w:au),(Instr.makeFunc fn first y).run prog w=.ok (.func fn first y) w:=fun _ _ _ _=>rfl;obtain⟨w0,m⟩:=nm ((w.alloc (M ZE 48)).alloc (M #[A I 0,A I 0] 30));have cw:=lU m;have fE:=Ax m;have bU:=ab m;have rR:=ac m;have DI:=Xb s w0 hs;have HE:=am hE;have HL:=am hl;have HB:=am cw;have HR:=am (aj bU rR);unfold ZE at m;clear hE hl cw bU rR
 go_enter_defers func60,ntmps60
 go_wp2_with fail;rw[<-m];clear m;refine DI.mono ?_;rintro e B ⟨v,l,c,q,rfl,CV,bF,K⟩;obtain⟨ao,y,rfl⟩:=Jr bF;have bZ:=K.size;have Q:=(K.block _ (by omega)).trans HR.1;have S:=(K.block _ (by omega)).trans HR.2;have cX:=am (HB.trans (K.mono (by omega)));have HO:=am bF;have HS:ah (Lex.jK s.data.toList=(l,c,q)):=CV;have T:=am (aj Q S);have l1:=J S;unfold ZE at Q;obtain⟨⟨r0,r1,r2,r3,r4,r5,r6⟩,p0,p1,p2,p3,p4,p5,p6⟩:=fa Q;obtain⟨⟨g0,g1⟩,f0,f1⟩:=xJ S;have l2:w.heap.size<B.heap.size:=(by omega);clear K bF CV Q S DI HB HR;by_cases V:c=0
 ·subst V;obtain⟨g,n⟩:∃g,g=(B.setCell (Y (w.heap.size+1) 0 U) (A I 0)).setCell (Y (w.heap.size+1) 1 U) (A I (q:Int)):=⟨_,rfl⟩;have xj:g.heap.size=B.heap.size:=(by rw[n];simp[bw]);have W:Bl w g:=(by rw[n];exact(cX.setCell (by simp) _).setCell (by simp) _);have om:g.ownsRow w0.heap.size 81 3 (O ao l.length y) l.length (Lex.cellsOf l):=(by rw[n];exact ownsRow_setCell_below (ownsRow_setCell_below HO.out (by show w.heap.size+1<_;omega) _) (by show w.heap.size+1<_;omega) _);have jP:gU g g.heap.size:=(HL.keeps W.size fun b hb=>W.block b hb).mono (by omega);have bj:=Xk jP om HS.out;rw[Lex.df] at bj;have Af:g.heap[w.heap.size]? =Z (M ZE 48):=(by rw[n];exact nz (nz T.1 (by simp)) (by simp));have vH:g.heap[w.heap.size+1]? =Z (M #[A I 0,A I (q:Int)] 30):=(by rw[n];simp[bw,dM,T.2]);obtain⟨wr,F⟩:=nm (g.alloc (M #[O ao l.length y,A I (s.size:Int),A I 0,A I 0] 78));rw[<-F] at bj;have f:ah (Bl w wr):=(by rw[F];exact W.alloc (by omega) _);have i:ah (wr.heap[w.heap.size]? =Z (M ZE 48)/\wr.heap[w.heap.size+1]? =Z (M #[A I 0,A I (q:Int)] 30)):=(by rw[F];exact⟨cR Af,cR vH⟩);have si:ah (Rd wr B.heap.size s.size 0 0 l (O ao l.length y)):=(by rw[<-xj];exact bj);have vX:ah (ag.CE s.data.toList=(ag.fp s.size 12 l).bind fun a r=>ag.vp s.size a r):=by
   have:=ag.Qs (R:=fun e=>ag.fp e 12) HS.out;rw[Lex.df] at this;exact this
  rw[n] at F;clear xj W om jP bj Af vH n r0 r1 r2 r3 r4 r5 r6 p0 p1 p2 p3 p4 p5 p6;go_wp2_with fail;rw[<-F];clear F g0 g1 f0 f1;refine(HE.out _ _ wr _ _ si.out).mono ?_;rintro x X ⟨d,⟨a,r,L,ae,v',rfl,⟨z0,z1,z2,z3,u,z,G,d5,E,C,d6,rfl,hx⟩,h⟩|⟨cc,qq,L,rfl,r,v',h⟩⟩
  ·have N:Below _ _ _:=⟨d.os.trans f.os,d.tape.trans f.tape,d.output.trans f.output,fC f.size d.size,fun k hk=>(d.block k (by have:=f.size;omega) (by simp;omega)).trans (f.block k hk)⟩;have p:=(d.block _ (J i.1) (by simp;omega)).trans i.1;have j:_=Z (Obj.cells #[A I 0,A I (q:Int)] _ _):=(d.block _ (J i.2) (by simp;omega)).trans i.2;have ll:=J j;have lz:w.heap.size<X.heap.size:=(by omega);have af:=h.lt;have dD:ah (Below _ _ _):=N;have qB:ah (X.heap[w.heap.size]? =Z (M ZE 48)/\X.heap[w.heap.size+1]? =Z (M #[A I 0,A I (q:Int)] 30)):=⟨p,j⟩;have HT:ah (aS _ (fun b=>wr.heap.size<=b) _ [A I z0,A I z1,A I z2,A I z3,H u,O z G d5,O E C d6]):=hx;have jk:ah (ag.CE s.data.toList=ag.vp s.size a r):=(by show _=_;rw[vX.out,L];rfl);have bB:w.heap.size+2<=wr.heap.size:=(by have:=J i.2;omega);obtain⟨c0,_⟩:=h.cells;unfold ZE at p;obtain⟨⟨r0,r1,r2,r3,r4,r5,r6⟩,p0,p1,p2,p3,p4,p5,p6⟩:=fa p;obtain⟨⟨g0,g1⟩,f0,f1⟩:(X.cell? (Y (w.heap.size+1) 0 U)=Z (A I 0)/\X.cell? (Y (w.heap.size+1) 1 U)=Z (A I (q:Int)))/\X.frozen? (Y (w.heap.size+1) 0 U)=ak/\X.frozen? (Y (w.heap.size+1) 1 U)=ak:=(by refine⟨⟨?_,?_⟩,?_,?_⟩<;>simp[aN,ea,j]);cases r with
   | nil=>
    obtain⟨ig,c',rfl⟩:=h.none;have pi:ah (ag.CE s.data.toList=.ok a []):=(by show _=_;rw[jk.out];rfl);clear hx h L N p j d;go_wp2;have P:=qB.1;unfold ZE at P;obtain⟨k1,k2,k3,k4⟩:=Lq (a0:=A I z0) (a1:=A I z1) (a2:=A I z2) (a3:=A I z3) (a4:=H u) (a5:=O z G d5) (a6:=O E C d6) (b0:=A I 0) (b1:=A I 0) P qB.2 dD.out;have ht:=(HT.keeps ⟨by simp[bw],fun b hb _=>k4 b (by omega) (by omega)⟩).mono (S':=fun b=>w.heap.size<=b) fun b hb _=>(by omega);show Leaves _ _ _ _ _ _ _;refine adM _ k1 k2 k3 ?_ ?_ pi.out ht
    ·rfl
    ·rfl
   | cons t r=>
    obtain⟨b',qe,c',rfl,_,_,Hv,_⟩:=h.some;have ad:=h.len;simp only[iz] at ad;have qH:ah (ag.CE s.data.toList=.no 1 (bI s.size (t::r))):=(by show _=_;rw[jk.out];rfl);have HG:ah (∀o,Rd (X.alloc o) B.heap.size s.size 0 0 (t::r) (O (Z (Y b' qe U)) (r.length+1) c')):=fun o=>h.keeps ((aF _ _).alloc (aD _) o) h.lt;unfold maxLen at Hv;clear hx h L N p j d;go_wp2_with fail;refine(tJ _ (HG.out _)).mono ?_;rintro x w3 ⟨rfl,cQ⟩;subst cQ;exact Wv (dD.alloc (by omega) _) (cR qB.1) (cR qB.2) rfl rfl qH.out
  ·have N:Below _ _ _:=⟨d.os.trans f.os,d.tape.trans f.tape,d.output.trans f.output,fC f.size d.size,fun k hk=>(d.block k (by have:=f.size;omega) (by simp;omega)).trans (f.block k hk)⟩;have p:_=Z (Obj.cells ZE _ _):=(d.block _ (J i.1) (by simp;omega)).trans i.1;have j:_=Z (Obj.cells #[A I 0,A I (q:Int)] _ _):=(d.block _ (J i.2) (by simp;omega)).trans i.2;exact Wv N p j rfl rfl (by rw[vX.out,L];rfl)
 ·have bc:(c==0)=ak:=(by simp[V]);have HN:ah (ag.CE s.data.toList=.no c q):=ag.Qr HS.out V;clear V;go_wp2;go_region;all_goals (try go_wp2)
  have P:=T.1;unfold ZE at P;have j:((B.setCell (Y (w.heap.size+1) 0 U) (A I c)).setCell (Y (w.heap.size+1) 1 U) (A I (q:Int))).heap[w.heap.size+1]? =Z (M #[A I c,A I (q:Int)] 30):=(by simp[bw,dM,T.2]);obtain⟨k1,k2,k3,_⟩:=Lq (a0:=A I 0) (a1:=A I 0) (a2:=A I 0) (a3:=A I 0) (a4:=H ⟨#[]⟩) (a5:=O U 0 0) (a6:=O U 0 0) (b0:=A I c) (b1:=A I (q:Int)) (nz (a:=(Y (w.heap.size+1) 1 U)) (u:=A I (q:Int)) (nz (a:=(Y (w.heap.size+1) 0 U)) (u:=A I c) P (by simp)) (by simp)) j ((cX.setCell (by simp) _).setCell (by simp) _);show Leaves _ _ _ _ _ _ _;refine adL k1 ?_ k3 ?_ ?_ HN.out
  ·exact k2
  ·rfl
  ·rfl
abbrev nG:=Bt×List Bt
def A5 (p:nG):Lu:=p.1.data.toList++(58::Lib.join (p.2.map (·.data.toList)) [44])
def th (x:List nG):Lu:=Lib.join (x.map A5) [59]
def vz (x:List nG):Lu:=123::(th x++[125])
def oO (p:nG):Bool:=(decide (6<p.2.length) || decide (12<p.1.size)) || p.2.any fun r=>decide (12<r.size)
def rF (x:List nG):Int:=if 200<x.length\/x.any oO=ap then 2 else 0
def EF (x:List nG):Bt:=if rF x=0 then⟨(vz x).toArray⟩ else⟨#[]⟩
theorem Zi (l:List (Lu))(a c:Lu):Lib.join (l++[a]) c=(if l=[] then[] else Lib.join l c++c)++a:=by
 match l with
 |[]=>simp[Lib.join_one]
 | b::r=>
  rw[List.cons_append,Lib.join_cons,Lib.join_cons,if_neg (by simp)];simp[Lib.joinTail]
theorem RP (l:List (Lu))(c:Lu)(m:Nat)(h:∀a∈l,a.length+c.length<=m):(Lib.join l c).length<=l.length*m:=by
 match l with
 |[]=>simp[Lib.join_nil]
 | b::r=>
  rw[Lib.join_cons];have g:∀q:List (Lu),(∀a∈q,a.length+c.length<=m)->(Lib.joinTail c q).length<=q.length*m:=by
   intro q;induction q with
   | nil=>intro _;simp[Lib.joinTail]
   | cons a s i=>
    intro e;have f:=i (fun a d=>e a (by simp[d]));have j:=e a (by simp);simp only[Lib.joinTail,List.map_cons,List.flatten_cons,iG,iz] at f⊢;rw[Nat.succ_mul];omega
  have f:=g r (fun a d=>h a (by simp[d]));have j:=h b (by simp);simp only[iG,iz];rw[Nat.succ_mul];omega
theorem QI {p:nG}(h:oO p=ak):p.2.length<=6/\p.1.size<=12/\∀r∈p.2,r.size<=12:=by
 simp only[oO,Bool.or_eq_false_iff,decide_eq_false_iff_not,List.any_eq_false,decide_eq_true_eq] at h;exact⟨by omega,by omega,fun r a=>by have:=h.2 r a;omega⟩
theorem Q0 (c:rs.length<=6)(h:∀r∈rs,r.size<=12):(Lib.join (rs.map (·.data.toList)) [44]).length<=78:=by
 have:=RP (rs.map (·.data.toList)) [44] 13 (by
  intro a b;simp only[List.mem_map] at b;obtain⟨r,d,rfl⟩:=b;have:=h r d;simp only[Array.length_toList,iz,List.length_nil];have:r.data.size=r.size:=rfl
  omega)
 rw[List.length_map] at this;have:rs.length*13<=6*13:=Nat.mul_le_mul_right _ c;omega
theorem agP {p:nG}(h:oO p=ak):(A5 p).length<=91:=by
 obtain⟨a,c,b⟩:=QI h;have:=Q0 a b;have e:p.1.data.toList.length=p.1.size:=(by rw[Array.length_toList];rfl);simp only[A5,iG,iz,e];omega
theorem TL {x:List nG}(h:∀b∈x,oO b=ak):(th x).length<=x.length*92:=by
 have:=RP (x.map A5) [59] 92 (by
  intro a c;simp only[List.mem_map] at c;obtain⟨b,d,rfl⟩:=c;have:=agP (h b d)
  simp;omega)
 rwa [List.length_map] at this
theorem apo {x:List nG}(a:k<x.length)(b:k=0):th (x.take (k+1))=th (x.take k)++A5 x[k]:=by
 subst b;rw[List.take_succ_eq_append_getElem a];simp[th,Lib.join_one,Lib.join_nil]
theorem apn {x:List nG}(a:k<x.length)(b:0<k):th (x.take (k+1))=th (x.take k)++(59::A5 x[k]):=by
 rw[List.take_succ_eq_append_getElem a];unfold th;rw[List.map_append,List.map_singleton,Zi,if_neg]
 ·simp
 ·intro e;have:=congrArg List.length e;rw[List.length_map,List.length_take,List.length_nil] at this;omega
namespace ag
def dG (s:Bt):Bool:=Lex.kR s.data.toList
def yB (l:List Bt):Bool:=l.all dG
def A6 (p:Po):Bool:= !dG p.1 || !yB p.2
def gp (l:List Po):Bool:=decide (rF l=0) && !l.any A6
def sL (t n:Int):Bool:=(t==1 && (decide (0<=n) && decide (n<=999999999))) ||(t==2 && (n==0 || n==1))
def mI:Tr->Bool
 | .mk k _ n t s l a=>
  if k≠1/\(n≠0\/t≠0) then ak else if k≠5/\0<l.length then ak
  else if k=1 then sL t n && (s.data.toList==[]) && a.length==0
  else if k=2 then dG s && a.length==0
  else if k=3 then(a.length==2 && decide (0<dW s.data.toList)) ||(a.length==1 && (s.data.toList==[45] || s.data.toList==[33]))
  else if k=4 then dG s && decide (a.length<=4)
  else if k=5 then gp l && (s.data.toList==[]) && a.length==1
  else ak
def qf:Tr->List Tr
 | .mk _ _ _ _ _ _ a=>a
def dZ:Nat->Tr->Bool
 | 0,_=>ak
 | m+1,x=>mI x && ((qf x).isEmpty ||(decide (m≠0) && (qf x).all (dZ m)))
def yA (t n:Int):Lu:=if t=2 then(if n=1 then[116,114,117,101] else[102,97,108,115,101]) else Lib.itoa n
def nN (least:Nat):Tr->Bool
 | .mk k _ _ _ s _ a=>k==3 && (a.length==2 && decide (dW s.data.toList<least))
def nk (b:Bool)(l:Lu):Lu:=if b then 40::(l++[41]) else l
def el:Nat->Tr->Lu
 | 0,_=>[]
 | m+1,.mk k _ n t s l a=>
  if k=1 then yA t n else if k=2 then s.data.toList
  else if k=3 then(match a with
   |[x]=>s.data.toList++nk (nN 6 x) (el m x)
   |[x,y]=>nk (nN (dW s.data.toList) x) (el m x)++(32::(s.data.toList++(32::nk (nN (dW s.data.toList+1) y) (el m y))))
   | _=>[])
  else if k=4 then s.data.toList++(40::(Lib.join (a.map (el m)) [44,32]++[41]))
  else if k=5 then(match a with
   |[x]=>[114,101,108,101,97,115,101,40]++(el m x++([32,116,111,32]++(vz l++[41])))
   | _=>[])
  else[]
end ag
def zu (w:au)(v:aw)(rs:List Bt):Prop:=∃ro rb eA rc,v=O ro rs.length rc/\rs.length<=rc/\rc<=maxLen/\Strs w ro rb eA rs
theorem zu.later (h:zu w v rs)(a:Bl w w'):zu w' v rs:=by
 obtain⟨b,c,d,e,f,g,i,j⟩:=h;exact⟨b,c,d,e,f,g,i,j.later a⟩
structure DC (w:au)(ao:Oa)(b off:Nat)(x:List (Bt×List Bt)):Prop where
 dR:0<x.length->ao=Z (Y b off U)
 c0:∀k (h:k<x.length),w.cell? (Y b (off+k*2) U)=Z (H x[k].1)
 c1:∀k (h:k<x.length),∃v,w.cell? (Y b (off+k*2+1) U)=Z v/\zu w v x[k].2
 lt:0<x.length->b<w.heap.size
theorem DC.later {d:Oa}{off:Nat}{x:List (Bt×List Bt)}(h:DC w d b off x)(a:Bl w w'):DC w' d b off x:=by
 refine⟨h.dR,fun k c=>(a.cell (p:=(Y b (off+k*2) U)) (h.lt (by omega))).trans (h.c0 k c),fun k c=> ?_,fun hn=>gD (h.lt hn) a.size⟩;obtain⟨v,e,f⟩:=h.c1 k c;exact⟨v,(a.cell (p:=(Y b (off+k*2+1) U)) (h.lt (by omega))).trans e,f.later a⟩
def uE {α:Type}(t:α->Bool)(l:List α):Int:=if l.any t=ap then(l.findIdx t:Int) else -1
theorem abf {α:Type}(t:α->Bool)(l:List α):decide (0<=uE t l)=l.any t:=by
 unfold uE;cases h:l.any t<;>simp
theorem abe {α:Type}{t:α->Bool}{l:List α}(a:k<l.length)(hn:∀s∈l.take k,t s=ak)(h:t l[k]=ap):uE t l=(k:Int):=by
 have b:=List.any_eq_true.2 ⟨_,fD a,h⟩;have e:l.findIdx t=k:=(by rw[List.findIdx_eq a];refine⟨h,fun j c=> ?_⟩;have:=hn l[j] (by rw[List.mem_take_iff_getElem];exact⟨j,by omega,rfl⟩);simpa using this);simp[uE,b,e]
theorem abd {α:Type}{t:α->Bool}{l:List α}(hn:∀s∈l,t s=ak):uE t l= -1:=by
 have a:l.any t=ak:=List.any_eq_false.2 fun x hx=>(by simp[hn x hx]);simp[uE,a]
theorem Yb {α:Type}{t:α->Bool}{l:List α}(b:k<l.length)(hn:∀s∈l.take k,t s=ak)(h:t l[k]=ak):∀s∈l.take (k+1),t s=ak:=by
 intro s a;rw[List.take_succ_eq_append_getElem b,List.mem_append,List.mem_singleton] at a;rcases a with a | a
 ·exact hn s a
 ·rw[a];exact h
theorem akV (g:Nat)(m:Av)(F:∀args w,(callFunc g args).run prog w=.ok (.enter g args) w)(t:Bt->Bool)(o:Oa)(b off n c:Nat)(ls:List Bt)(w:au)(hn:n=ls.length)(hm:n<=1000)(p:Strs w o b off ls)
 (q:∀(W:au) (s:Bt),s∈ls->Bl w W->aC prog g (#[H s]++m) W fun e w'=>e=aE (az (t s))/\Bl W w'):
 aC prog 131 #[O o n c,.func (.func g) #[] m] w fun e w'=>e=aE (A I (uE t ls))/\Bl w w':=by
 have r:=am hn;have v:=am q;clear hn q;go_enter func131,ntmps131;go_wp2;go_loopw [8] (fun i wr=>∃k:Nat,k<=n/\i=A I k/\ah (∀s∈ls.take k,t s=ak)/\ah (Bl w wr)) (fun i _=>n - (intOf i).toNat);case atStart=>exact⟨0,Nat.zero_le _,rfl,by show ∀s∈_,_;simp,aF _ _⟩
 case round=>
  obtain⟨k,G,rfl,j,a⟩:=hrel;by_cases K:k<n
  ·have y:=r.out;have z:=p.dR (by omega);have d:k<ls.length:=(by omega);have f0:=(p.later a.out).cell k d;obtain⟨x,hx⟩:=nm (ls[k]);have f:=v.out wr x (hx▸fD d) a.out;have u:=am hx;rw[<-hx] at f0;clear y hx;subst z;cases hq:t x with
   | true=>
    rw[hq] at f;have l:ah (uE t ls=(k:Int)):=abe d j.out (by rw[<-u.out];exact hq);clear hq;go_wp2_with fail;refine f.mono ?_;rintro e B ⟨rfl,h⟩;go_wp2;go_ret;refine⟨?_,a.trans (h.mono a.size)⟩;rw[l.out];rfl
   | false=>
    rw[hq] at f;have C:=am (Yb d j.out (by rw[<-u.out];exact hq));clear hq;go_wp2_with fail;refine f.mono ?_;rintro e B ⟨rfl,h⟩;have E:=bt a h;clear h;go_wp2;go_roundw;case rel=>exact⟨k+1,by omega,by go_num,C,E⟩
    case measure=>simp[intOf];omega
  ·have l:ah (uE t ls= -1):=abd (by
    have:=j.out
    rwa [List.take_of_length_le (by have:=r.out;omega)] at this)
   go_wp2;go_ret;refine⟨?_,a.out⟩;rw[l.out];rfl
theorem TF (g:Nat)(d:Av)(i:∀args w,(callFunc g args).run prog w=.ok (.enter g args) w)(t:Bt->Bool)(f:Oa)(b off n c:Nat)(ls:List Bt)(w:au)(hn:n=ls.length)(hm:n<=1000)(j:Strs w f b off ls)
 (a:∀(W:au) (s:Bt),s∈ls->Bl w W->aC prog g (#[H s]++d) W fun e w'=>e=aE (az (t s))/\Bl W w'):
 aC prog 83 #[O f n c,.func (.func g) #[] d] w fun e w'=>e=aE (az (ls.any t))/\Bl w w':=by
 rw[<-abf];have h:=akV g d i t f b off n c ls w hn hm j a;clear hm hn j a i;obtain⟨m,a⟩:=nm (uE t ls);rw[<-a] at h⊢;have k:=am h;clear h a;go_enter func83,ntmps83;go_wp2_with fail;refine k.mono ?_;rintro e o ⟨rfl,l⟩;go_wp2;go_ret;exact⟨rfl,l⟩
theorem akW (g:Nat)(p:Av)(K:∀args w,(callFunc g args).run prog w=.ok (.enter g args) w)(t:nG->Bool)(q:Oa)(b off n c:Nat)(ls:List nG)(w:au)(hn:n=ls.length)(hm:n<=1000)(j:DC w q b off ls)
 (r:∀(W:au) (s:nG) (v:aw),s∈ls->zu W v s.2->Bl w W->aC prog g (#[.agg #[H s.1,v]]++p) W fun e w'=>e=aE (az (t s))/\Bl W w'):
 aC prog 137 #[O q n c,.func (.func g) #[] p] w fun e w'=>e=aE (A I (uE t ls))/\Bl w w':=by
 have u:=am hn;have z:=am r;clear hn r;go_enter func137,ntmps137;go_wp2;go_loopw [8] (fun i wr=>∃k:Nat,k<=n/\i=A I k/\ah (∀s∈ls.take k,t s=ak)/\ah (Bl w wr)) (fun i _=>n - (intOf i).toNat);case atStart=>exact⟨0,Nat.zero_le _,rfl,by show ∀s∈_,_;simp,aF _ _⟩
 case round=>
  obtain⟨k,L,rfl,l,a⟩:=hrel;by_cases N:k<n
  ·have B:=u.out;have C:=j.dR (by omega);have d:k<ls.length:=(by omega);have f0:=(j.later a.out).c0 k d;obtain⟨v,f1,m⟩:=(j.later a.out).c1 k d;obtain⟨x,hx⟩:=nm (ls[k]);rw[<-hx] at f0 m;have f:=z.out wr x v (hx▸fD d) m a.out;have y:=am hx;clear B hx m;subst C;cases hq:t x with
   | true=>
    rw[hq] at f;have o:ah (uE t ls=(k:Int)):=abe d l.out (by rw[<-y.out];exact hq);clear hq;go_wp2_with fail;refine f.mono ?_;rintro e E ⟨rfl,h⟩;go_wp2;go_ret;refine⟨?_,a.trans (h.mono a.size)⟩;rw[o.out];rfl
   | false=>
    rw[hq] at f;have F:=am (Yb d l.out (by rw[<-y.out];exact hq));clear hq;go_wp2_with fail;refine f.mono ?_;rintro e E ⟨rfl,h⟩;have G:=bt a h;clear h;go_wp2;go_roundw;case rel=>exact⟨k+1,by omega,by go_num,F,G⟩
    case measure=>simp[intOf];omega
  ·have o:ah (uE t ls= -1):=abd (by
    have:=l.out
    rwa [List.take_of_length_le (by have:=u.out;omega)] at this)
   go_wp2;go_ret;refine⟨?_,a.out⟩;rw[o.out];rfl
theorem abI (g:Nat)(d:Av)(i:∀args w,(callFunc g args).run prog w=.ok (.enter g args) w)(t:nG->Bool)(f:Oa)(b off n c:Nat)(ls:List nG)(w:au)(hn:n=ls.length)(hm:n<=1000)(j:DC w f b off ls)
 (a:∀(W:au) (s:nG) (v:aw),s∈ls->zu W v s.2->Bl w W->aC prog g (#[.agg #[H s.1,v]]++d) W fun e w'=>e=aE (az (t s))/\Bl W w'):
 aC prog 90 #[O f n c,.func (.func g) #[] d] w fun e w'=>e=aE (az (ls.any t))/\Bl w w':=by
 rw[<-abf];have h:=akW g d i t f b off n c ls w hn hm j a;clear hm hn j a i;obtain⟨m,a⟩:=nm (uE t ls);rw[<-a] at h⊢;have k:=am h;clear h a;go_enter func90,ntmps90;go_wp2_with fail;refine k.mono ?_;rintro e o ⟨rfl,l⟩;go_wp2;go_ret;exact⟨rfl,l⟩
theorem WN (s:Bt)(w:au):
 aC prog 181 #[H s] w fun e w'=>e=aE (az (decide (12<s.size)))/\Bl w w':=by
 have a:ah (decide ((12:Int)<(s.size:Int))=decide (12<s.size)):=(by show _=_;simp;omega);rw[<-a.out];go_enter func181,ntmps181;go_wp2;go_ret;exact⟨rfl,aF _ _⟩
theorem ajg (p:nG)(v:aw)(w:au)(G:zu w v p.2):
 aC prog 133 #[.agg #[H p.1,v]] w fun e w'=>e=aE (az (oO p))/\Bl w w':=by
 obtain⟨o,rs⟩:=p;obtain⟨c,K,L,d,N,t,P,i⟩:=G;subst N;simp only at t i⊢;obtain⟨wz,b⟩:=nm (w.alloc (M #[H o,O c rs.length d] 119));have f:=eS b;have g:=aa b;have j:=WN o wz;have k:ah (rs.length<=6->∀a,Bl wz a->aC prog 83 #[O c rs.length d,.func (.func 181) #[] #[]] a fun e w'=>e=aE (az (rs.any fun r=>decide (12<r.size)))/\Bl a w'):=fun l a m=>
  TF _ #[] (enters_of func181 (by kernel_rfl) rfl) (fun r=>decide (12<r.size)) c K L _ d rs a rfl (by omega) (i.later (f.trans (m.mono f.size))) (fun Q s _ _=>WN s Q)
 have u:=am f;have x:ah (∀a,Bl wz a->a.heap[w.heap.size]? =Z (M #[H o,O c rs.length d] 119)):=fun a m=>(m.block _ (J g)).trans g;have R:ah (oO (o,rs)=((decide (6<rs.length) || decide (12<o.size)) || rs.any fun r=>decide (12<r.size))):=rfl;rw[R.out];obtain⟨n,hn⟩:=nm rs.length;rw[<-hn] at b g k x t⊢;unfold maxLen at P;obtain⟨t1,y⟩:=nm (decide (12<o.size));obtain⟨t2,z⟩:=nm (rs.any fun r=>decide (12<r.size));rw[<-y] at j⊢;rw[<-z] at k⊢;have B:=am b;clear hn y z f g i b;by_cases l:6<n
 ·have d6:decide (6<n)=ap:=(by simp[l]);have S:decide ((6:Int)<(n:Int))=ap:=(by simp;omega);rw[d6];go_enter func133,ntmps133;go_wp2;go_ret;refine⟨by simp,?_⟩;rw[<-B.out];exact u.out
 ·have d6:decide (6<n)=ak:=(by simp[l]);have S:decide ((6:Int)<(n:Int))=ak:=(by simp;omega);rw[d6];have C:=k.out (by omega);clear d6;go_enter func133,ntmps133;go_wp2_with fail;rw[<-B.out];refine j.mono ?_;rintro e E ⟨rfl,h⟩;have F:=x.out E h;have f1:=cl F 1 rfl;have T:=C E h;have q:=bt u h;clear F h C j;cases t1 with
  | true=>
   go_wp2;go_ret;exact⟨by simp,q.out⟩
  | false=>
   go_wp2_with fail;refine T.mono ?_;rintro e X ⟨rfl,V⟩;go_wp2;go_ret;exact⟨by simp,q.trans (V.mono q.size)⟩
theorem aky (b:Oa)(rb c a:Nat)(rs:List Bt)(w:au)(h:Strs w b rb c rs)(d:rs.length<=a)(f:rs.length<=6)(g:∀r∈rs,r.size<=12):
 aC prog 136 #[O b rs.length a,H ⟨#[44]⟩] w fun e w'=>e=aE (H ⟨(Lib.join (rs.map (·.data.toList)) [44]).toArray⟩)/\Bl w w':=by
 by_cases i:rs.length=0
 ·have e:=List.length_eq_zero_iff.1 i;subst e;exact(strings_Join_none b a _ w).mono fun e w' ⟨k,l⟩=>⟨k,l▸aF _ _⟩
 ·have m:=h.dR (by omega);subst m;refine strings_Join rb c a rs ⟨#[44]⟩ w (fun j x n=> ?_) (h.lt (by omega)) (by omega) d ?_
  ·obtain⟨o,e⟩:=List.getElem?_eq_some_iff.1 n;rw[<-e];exact h.cell j o
  ·exact Nat.le_trans (Q0 f g) (by decide)
theorem aiO (h:Lib.IsBuilderF 155 5 B b L w):b<w.heap.size:=by
 rcases h with h | h<;>exact h.lt
theorem apf {W c:au}(h:Lib.IsBuilderF 155 5 B b L W)(a:Bl W c):Lib.IsBuilderF 155 5 B b L c:=by
 have one:∀d,Lib.BuilderAtF 155 5 B b d L W->Lib.BuilderAtF 155 5 B b d L c:=(by intro d h;have e:=h.lt;obtain⟨f,v,g,i,j⟩:=h;exact⟨f,v,(a.block b e).trans g,i.kept (row:=U) ⟨a.os,a.tape,a.output,a.size,fun k l _=>a.block k l⟩ (Classical.em _),j⟩);exact h.elim (fun x=>.inl (one _ x)) (fun x=>.inr (one _ x))
theorem J1 {a w1:au}{c d:aw}(e:Lib.OthersKept 5 (Z b) a w1)(f:a.heap[q]? =Z (M #[c,d] 119))(g:q≠b):w1.heap[q]? =Z (M #[c,d] 119):=
 e _ _ f (by simp[g]) (by simp)
structure sd (wq wr:au)(l:Lu):Prop where
 ff:Bl wq wr
 zm:Lib.IsBuilderF 155 5 wq.heap.size wq.heap.size (Lib.byteCells l) wr
theorem sd.later (h:sd V wr l)(a:Bl wr w'):sd V w' l:=
 ⟨h.ff.trans (a.mono h.ff.size),apf h.zm a⟩
theorem sd.byte (h:sd V wr l)(c:UInt8)(f:l.length<=100000):
 aC prog 134 #[aB (Z (Y V.heap.size 0 U)),A .u8 (c.toNat:Int)] wr fun e w'=>e=aE .nilIface/\sd V w' (l++[c])/\Lib.OthersKept 5 (Z V.heap.size) wr w':=by
 refine(Tryz.Builder_WriteByte _ _ _ (c.toNat:Int) _ h.zm (by rw[Lib.byteCells_length];omega) h.ff.size).mono ?_;rintro e w' ⟨rfl,a,b,d⟩;refine⟨rfl,⟨h.ff.trans b,.inr ?_⟩,d⟩;rw[Lib.byteCells_append];exact a
theorem sd.str (h:sd V wr l)(s:Bt)(d:l.length<=100000)(f:s.size<=100000):
 aC prog 135 #[aB (Z (Y V.heap.size 0 U)),H s] wr fun e w'=>e=aE (.tuple #[A I s.size,.nilIface])/\sd V w' (l++s.data.toList)/\Lib.OthersKept 5 (Z V.heap.size) wr w':=by
 refine(Tryz.Builder_WriteString _ _ _ s _ h.zm (by rw[Lib.byteCells_length];omega) h.ff.size).mono ?_;rintro e w' ⟨rfl,a,b,c⟩;refine⟨rfl,⟨h.ff.trans b,.inr ?_⟩,c⟩;rw[Lib.byteCells_append,<-Lib.strCells_eq];exact a
structure acC (w:au)(ao:Oa)(b off n c:Nat)(x:List nG):Prop where
 ln:n=x.length
 mn:n<=maxLen
 yw:DC w ao b off x
theorem agt {x:List nG}(h:¬200<x.length)(g:x.any oO=ak):rF x=0/\EF x=⟨(vz x).toArray⟩:=by
 have e:rF x=0:=(by unfold rF;rw[if_neg];rintro(a | a);exact h a;rw[g] at a;cases a);exact⟨e,by simp[EF,e]⟩
theorem Xu {x:List nG}(h:200<x.length\/x.any oO=ap):rF x=2/\EF x=⟨#[]⟩:=by
 have e:rF x=2:=(by unfold rF;rw[if_pos h]);exact⟨e,by simp[EF,e]⟩
theorem Xw (lo:Oa)(P Q f lc:Nat)(x:List nG)(w:au)(hx:acC w lo P Q f lc x):
 aC prog 89 #[O lo f lc] w fun e w'=>e=aE (.tuple #[H (EF x),A I (rF x)])/\Bl w w':=by
 have b:=am hx;have Ok:=hx.mn;unfold maxLen at Ok;clear hx;by_cases Lh:200<f
 ·obtain⟨a,d⟩:=Xu (x:=x) (.inl (by have:=b.ln;omega));rw[a,d];clear a d;have i2:decide ((200:Int)<(f:Int))=ap:=(by simp;omega);go_enter func89,ntmps89;go_wp2
  go_ret2
  exact⟨rfl,aF _ _⟩
 ·have i2:decide ((200:Int)<(f:Int))=ak:=(by simp;omega);have y:=abI _ #[] (enters_of func133 (by kernel_rfl) rfl) oO lo P Q f lc x w b.ln (by omega) b.yw (fun m c v _ z _=>ajg c v m z);cases ht:x.any oO with
  | true=>
   obtain⟨a,d⟩:=Xu (x:=x) (.inr ht);rw[a,d];rw[ht] at y;clear a d ht;go_enter func89,ntmps89;go_wp2_with fail;refine y.mono ?_;rintro e w1 ⟨rfl,aJ⟩;go_wp2
   go_ret2
   exact⟨rfl,aJ⟩
  | false=>
   obtain⟨a,d⟩:=agt (x:=x) (by have:=b.ln;omega) ht;have UZ:ah (∀c∈x,oO c=ak):=fun c g=>(by simpa using List.any_eq_false.1 ht c g);obtain⟨PT,S2⟩:=nm (vz x);rw[a,d,<-S2];have sk:=am S2;rw[ht] at y;clear a d ht S2;go_enter func89,ntmps89;go_wp2_with fail;refine y.mono ?_;rintro e V ⟨rfl,KQ⟩;have j:=am KQ;have AI:ah (sd V (V.alloc (M #[aB U,O U 0 0] 155)) []):=⟨(aF _ _).alloc (aD _) _,Lib.IsBuilderF.of (Lib.fresh_isBuilder _ _ _)⟩;clear KQ y;go_wp2_with fail;refine(AI.byte 123 (by simp)).mono ?_;rintro e w1 ⟨rfl,B,_⟩;have kd:=am B;clear B;go_wp2;go_loopw [17] (fun i wr=>∃k:Nat,k<=f/\i=A I k/\ah (sd V wr (123::th (x.take k)))) (fun i _=>f - (intOf i).toNat);case atStart=>exact⟨0,Nat.zero_le _,rfl,kd⟩
   case round=>
    obtain⟨k,hk,rfl,r⟩:=hrel;by_cases aK:k<f
    ·have je:=b.ln;have s:k<x.length:=(by omega);have eB:=j.trans (r.ff.mono j.size);have R:=b.yw.later eB;have mf:=R.dR (by omega);have f0:=R.c0 k s;obtain⟨v,f1,z⟩:=R.c1 k s;have gK:=UZ.out _ (fD s);have eZ:(th (x.take k)).length<=200*92:=(by have h1:=TL (x:=x.take k) (fun c g=>UZ.out c (List.mem_of_mem_take g));have h2:(x.take k).length<=200:=(by rw[List.length_take];omega);exact fC h1 (Nat.mul_le_mul_right _ h2));have t:=fun h=>apo (x:=x) s h;have u:=fun h=>apn (x:=x) s h;obtain⟨c,g⟩:=nm (x[k]);rw[<-g] at f0 z gK t u;obtain⟨o,rs⟩:=c;simp only at f0 z;obtain⟨S,oU,T⟩:=QI gK;simp only at S oU T;obtain⟨W,rb,eA,rc,dP,jL,eX,_⟩:=z;subst dP;have PV:ah (∀m,Bl V m->aC prog 136 #[O W rs.length rc,H ⟨#[44]⟩] m fun e w'=>e=aE (H ⟨(Lib.join (rs.map (·.data.toList)) [44]).toArray⟩)/\Bl m w'):=fun m hW=>by
      obtain⟨v',g1,g2⟩:=(b.yw.later (j.trans (hW.mono j.size))).c1 k s;have g3:=(hW.cell (p:=(Y P (Q+k*2+1) U)) (gD (b.yw.lt (by omega)) j.size));have g4:=(r.ff.cell (p:=(Y P (Q+k*2+1) U)) (gD (b.yw.lt (by omega)) j.size));rw[g1,<-g4,f1] at g3;injection g3 with g3
      subst g3;rw[<-g] at g2;obtain⟨wW,rE,rD,Q1,a,d,_,e4⟩:=g2;injection a with a _ e3
      subst a e3;exact aky W rE rD rc rs m e4 d S T
     have C8:=Q0 S T;obtain⟨C,Sm⟩:=nm (Lib.join (rs.map (·.data.toList)) [44]);have dy:A5 (o,rs)=o.data.toList++(58::C):=(by rw[Sm];rfl);rw[<-Sm] at PV C8;rw[dy] at t u;obtain⟨rn,qX⟩:=nm rs.length;rw[<-qX] at f1 PV;obtain⟨pb,mC⟩:=nm wr.heap.size;have E:ah (pb≠V.heap.size):=(by have:=aiO r.zm;show _≠_;omega);obtain⟨wy,fZ⟩:=nm (wr.alloc (M #[H o,O W rn rc] 119));have ib:=eS fZ;have UW:=am (r.later ib);have K0:ah (wy.heap[pb]? =Z (M #[H o,O W rn rc] 119)):=(by show _=_;rw[fZ,mC];exact cu _ _ _ rfl);have k0:=K0.out;have tj:=am fZ;have mq:=am mC;have PP:ah (o.data.toList.length=o.size):=(by show _=_;rw[Array.length_toList];rfl);obtain⟨bt,qr⟩:=nm (th (x.take k));rw[<-qr] at UW eZ t u;clear je R eB jL eX gK g Sm dy qX ib fZ qr r S T mC;subst mf;by_cases h0:k=0
     ·have iy:=am (t h0);have rM:¬(0:Int)<(k:Int):=(by omega);have K1:=K0;have f2:=cl k0 0 rfl;have lp:=J k0;clear t u k0 h0;go_wp2_with fail;rw[<-mq.out,<-tj.out];go_wp2_with fail;refine((UW.out).str o (by simp;omega) (by omega)).mono ?_;rintro e X ⟨rfl,l,F⟩;have K2:=am (J1 F K1 E);have n:=am l;clear l F f2 lp;go_wp2_with fail;refine(n.byte 58 (by simp only[iG,iz,PP.out];omega)).mono ?_;rintro e w3 ⟨rfl,p,G⟩;have K3:=am (J1 G K2 E);have q:=K3.out;have f1:=cl q 1 rfl;have ad:=J q;have nI:=am p;have K:=PV.out w3 p.ff;clear p G q;go_wp2_with fail;refine K.mono ?_;rintro e w4 ⟨rfl,L⟩;have B4:=am (nI.later L);clear L K;go_wp2_with fail;refine(B4.str ⟨C.toArray⟩ (by simp only[iG,iz,List.length_nil,PP.out];omega) (by show C.toArray.size<=_;simp;omega)).mono ?_;rintro e w5 ⟨rfl,N,_⟩;have HN:ah (sd V w5 (123::th (x.take (k+1)))):=(by show sd _ _ _;rw[iy.out];simpa[A5] using N);clear N;go_wp2;go_roundw;case rel=>exact⟨k+1,by omega,by go_num,HN⟩
      case measure=>simp[intOf];omega
     ·have iy:=am (u (by omega));have rM:(0:Int)<(k:Int):=(by omega);clear t u k0 h0;go_wp2_with fail;rw[<-mq.out,<-tj.out];refine(UW.byte 59 (by simp;omega)).mono ?_;rintro e w1 ⟨rfl,B,et⟩;have K1:=am (J1 et K0 E);have k1:=K1.out;have f2:=cl k1 0 rfl;have lp:=J k1;have kd:=am B;clear B et k1;go_wp2_with fail;refine((kd.out).str o (by simp;omega) (by omega)).mono ?_;rintro e X ⟨rfl,l,F⟩;have K2:=am (J1 F K1 E);have n:=am l;clear l F f2 lp;go_wp2_with fail;refine(n.byte 58 (by simp only[iG,iz,List.length_nil,PP.out];omega)).mono ?_;rintro e w3 ⟨rfl,p,G⟩;have K3:=am (J1 G K2 E);have q:=K3.out;have f1:=cl q 1 rfl;have ad:=J q;have nI:=am p;have K:=PV.out w3 p.ff;clear p G q;go_wp2_with fail;refine K.mono ?_;rintro e w4 ⟨rfl,L⟩;have B4:=am (nI.later L);clear L K;go_wp2_with fail;refine(B4.str ⟨C.toArray⟩ (by simp only[iG,iz,List.length_nil,PP.out];omega) (by show C.toArray.size<=_;simp;omega)).mono ?_;rintro e w5 ⟨rfl,N,_⟩;have HN:ah (sd V w5 (123::th (x.take (k+1)))):=(by show sd _ _ _;rw[iy.out];simpa[A5] using N);clear N;go_wp2;go_roundw;case rel=>exact⟨k+1,by omega,by go_num,HN⟩
      case measure=>simp[intOf];omega
    ·have HE:ah ((123::th (x.take k))++[125]=PT):=(by show _=_;rw[sk.out,List.take_of_length_le (by have:=b.ln;omega)];rfl);have eZ:(th (x.take k)).length<=200*92:=(by have h1:=TL (x:=x.take k) (fun c g=>UZ.out c (List.mem_of_mem_take g));have h2:(x.take k).length<=200:=(by rw[List.length_take];have:=b.ln;omega);exact fC h1 (Nat.mul_le_mul_right _ h2));go_wp2_with fail;refine(r.byte 125 (by simp;omega)).mono ?_;rintro e X ⟨rfl,l,_⟩;have n:ah (sd V X PT):=(by show sd _ _ _;rw[<-HE.out];exact l);clear l;go_wp2_with fail;refine(Tryz.Builder_String_any _ _ _ _ n.zm n.ff.size).mono ?_;rintro e w3 ⟨rfl,_,aT,_⟩;go_wp2
     go_ret2
     exact⟨rfl,j.trans ((n.ff.trans aT).mono j.size)⟩
theorem X8 (t n:Int)(w:au):aC prog 200 #[A I t,A I n] w fun x w'=>x=aE (az (ag.sL t n))/\w'=w:=by
 obtain⟨r,a⟩:∃r,r=ag.sL t n:=⟨_,rfl⟩;rw[<-a];have i:ah (r=ag.sL t n):=a;clear a;obtain⟨c,j⟩:∃b,(t==1)=b:=⟨_,rfl⟩;obtain⟨d,k⟩:∃b,decide (0<=n)=b:=⟨_,rfl⟩;obtain⟨e,l⟩:∃b,decide (n<=999999999)=b:=⟨_,rfl⟩;obtain⟨f,m⟩:∃b,(t==2)=b:=⟨_,rfl⟩;obtain⟨g,o⟩:∃b,(n==0)=b:=⟨_,rfl⟩;obtain⟨h,p⟩:∃b,(n==1)=b:=⟨_,rfl⟩;have q:ah (r=((c && (d && e)) ||(f && (g || h)))):=(by show _=_;rw[i.out,<-j,<-k,<-l,<-m,<-o,<-p];rfl);cases c<;>cases d<;>cases e<;>cases f<;>cases g<;>cases h<;>
 ·go_enter func200,ntmps200;go_wp2;go_ret;exact⟨by rw[q.out];rfl,rfl⟩
theorem ail (s:Bt)(w:au)(a:s.size<=maxLen):aC prog 84 #[H s] w fun x w'=>x=aE (az (!ag.dG s))/\Bl w w':=by
 have hn:=M3 s w (by unfold maxLen at a;omega);have b:ah (ag.dG s=Lex.kR s.data.toList):=rfl;rw[b.out];go_enter func84,ntmps84;go_wp2_with fail;refine hn.mono ?_;rintro x d ⟨rfl,c⟩;subst c;go_wp2;go_ret;exact⟨rfl,aF _ _⟩
theorem aqk (l:List Bt):ag.yB l= !l.any fun s=> !ag.dG s:=by
 unfold ag.yB;induction l with
 | nil=>rfl
 | cons a r b=>simp[b]
theorem Rt (a:Oa)(b off n c:Nat)(ls:List Bt)(w:au)(hn:n=ls.length)(hm:n<=1000)(d:Strs w a b off ls)(e:∀s∈ls,s.size<=maxLen):
 aC prog 40 #[O a n c] w fun x w'=>x=aE (az (ag.yB ls))/\Bl w w':=by
 have f:=TF 84 #[] (enters_of func84 (by kernel_rfl) rfl) (fun s=> !ag.dG s) a b off n c ls w hn hm d (fun g s h _=>ail s g (e s h));rw[aqk];clear hn d e;go_enter func40,ntmps40;go_wp2_with fail;refine f.mono ?_;rintro x j ⟨rfl,i⟩;go_wp2;go_ret;exact⟨rfl,i⟩
theorem akr (p:Po)(v:aw)(w:au)(n:zu w v p.2)(q:p.2.length<=6)(j:p.1.size<=maxLen)(d:∀s∈p.2,s.size<=maxLen):
 aC prog 91 #[.agg #[H p.1,v]] w fun x w'=>x=aE (az (ag.A6 p))/\Bl w w':=by
 obtain⟨o,rs⟩:=p;obtain⟨b,r,u,c,y,z,F,e⟩:=n;subst y;simp only at z e q j d⊢;obtain⟨wz,a⟩:∃wz,wz=w.alloc (M #[H o,O b rs.length c] 119):=⟨_,rfl⟩;have f:Bl w wz:=(by rw[a];exact(aF _ _).alloc (aD _) _);have hn:=M3 o wz (by unfold maxLen at j;omega);have k:=Rt b r u rs.length c rs wz rfl (by omega) (e.later f) d;have g:ah (Bl w wz):=f;have B:ah (ag.A6 (o,rs)=(!Lex.kR o.data.toList || !ag.yB rs)):=rfl;rw[B.out];clear e d f;obtain⟨t1,l⟩:∃t,t=Lex.kR o.data.toList:=⟨_,rfl⟩;obtain⟨t2,m⟩:∃t,t=ag.yB rs:=⟨_,rfl⟩;rw[<-l] at hn⊢;rw[<-m] at k⊢;clear l m;cases t1 with
 | false=>
  go_enter func91,ntmps91;go_wp2_with fail;rw[<-a];clear a;refine hn.mono ?_;rintro x C ⟨rfl,h⟩;subst h;go_wp2;go_ret;exact⟨rfl,g.out⟩
 | true=>
  have i:wz.heap[w.heap.size]? =Z (M #[H o,O b rs.length c] 119):=(by rw[a];exact cu _ _ _ rfl);have G:=J i;have K:wz.cell? (Y w.heap.size 1 U)=Z (O b rs.length c):=(by simp[aN,i]);clear i;go_enter func91,ntmps91;go_wp2_with fail;rw[<-a];clear a;refine hn.mono ?_;rintro x C ⟨rfl,h⟩;subst h;go_wp2_with fail;refine k.mono ?_;rintro x X ⟨rfl,E⟩;go_wp2;go_ret;exact⟨rfl,g.trans (E.mono g.size)⟩
theorem kv.Jq {l:List Bt}(h:kv w S v l):zu w v l:=by
 obtain⟨⟨e,b,f,c,d,a⟩,m⟩:=h;have g:(wU l).length=l.length:=(by simp[wU]);rw[g] at d a;have i:=a.cap;refine⟨e,b,f,c,d,i,a.mx,⟨fun j=>a.dR (by omega),fun k n=> ?_,fun j=>a.lt (by omega)⟩⟩;have:=a.cell k (by omega) 0 (H l[k]) (by simp[wU]);simpa using this
theorem dw.sD {l:List Po}(h:dw w S v l):∃d b off c,v=O d l.length c/\l.length<=c/\c<=maxLen/\acC w d b off l.length c l:=by
 obtain⟨⟨f,j,⟨d,b,off,c,g,a⟩,m⟩,q⟩:=h;obtain⟨n,i⟩:=M8 j;rw[n] at g a;have o:=a.cap;have hm:=a.mx;refine⟨d,b,off,c,g,o,hm,⟨rfl,by omega,⟨fun p=>a.dR (by omega),fun k e=> ?_,fun k e=> ?_,fun p=>a.lt (by omega)⟩⟩⟩
 ·have:=a.cell k (by omega) 0 (H l[k].1) (by rw[i k e (by omega) (by omega)];rfl);simpa using this
 ·exact⟨f[k],a.cell k (by omega) 1 f[k] (by rw[i k e (by omega) (by omega)];rfl),(m k e (by omega)).Jq⟩
theorem dw.rsz {l:List Po}(h:dw w S v l):∀a∈l,∀s∈a.2,s.size<=maxLen:=by
 obtain⟨⟨f,g,_,b⟩,j⟩:=h;intro a c s d;obtain⟨i,e,rfl⟩:=List.mem_iff_getElem.1 c;exact(b i e (by omega)).sz s d
theorem Xv (l:List Po):(rF l=0/\l.length<=200/\∀a∈l,oO a=ak)\/rF l=2:=by
 by_cases h:200<l.length\/l.any oO=ap
 ·exact .inr (by unfold rF;rw[if_pos h])
 ·refine .inl ⟨by unfold rF;rw[if_neg h],by omega,fun a b=> ?_⟩;have:¬l.any oO=ap:=fun c=>h (.inr c);cases hl:oO a with
  | false=>rfl
  | true=>exact absurd (List.any_eq_true.2 ⟨a,b,hl⟩) this
theorem Y3 {l:List Po}(h:dw w S v l):
 aC prog 43 #[v] w fun x w'=>x=aE (az (ag.gp l))/\Bl w w':=by
 obtain⟨i,b,o,c,rfl,C,hm,e⟩:=h.sD;have f:=Xw i b o l.length c l w e;unfold maxLen at hm;rcases Xv l with⟨j,E,p⟩| k
 ·rw[j] at f;have r:ah (∀a,Bl w a->aC prog 90 #[O i l.length c,.func (.func 91) #[] #[]] a fun x w'=>x=aE (az (l.any ag.A6))/\Bl a w'):=fun a s=>
   abI 91 #[] (enters_of func91 (by kernel_rfl) rfl) ag.A6 i b o l.length c l a rfl (by omega) (e.yw.later s) (fun t g u m y _=>akr g u t y (QI (p g m)).1 (h.sz g m) (h.rsz g m))
  have n:ah (ag.gp l= !l.any ag.A6):=(by show _=_;unfold ag.gp;simp[j]);rw[n.out];clear j p e h;go_enter func43,ntmps43;go_wp2_with fail;refine f.mono ?_;rintro x q ⟨rfl,d⟩;have z:=r.out q d;go_wp2_with fail;refine z.mono ?_;rintro x X ⟨rfl,B⟩;go_wp2;go_ret;exact⟨rfl,d.trans (B.mono d.size)⟩
 ·rw[k] at f;have n:ah (ag.gp l=ak):=(by show _=_;unfold ag.gp;simp[k]);rw[n.out];clear k e h;go_enter func43,ntmps43;go_wp2_with fail;refine f.mono ?_;rintro x q ⟨rfl,d⟩;go_wp2;go_ret;exact⟨rfl,d⟩
namespace ag
mutual
def gI:Tr->Nat
 | .mk _ _ _ _ _ _ a=>jy a+1
def jy:List Tr->Nat
 |[]=>0
 | x::r=>max (gI x) (jy r)
end
mutual
def s9:Tr->Bool
 | .mk k p n t s l a=>mI (.mk k p n t s l a) && FG a
def FG:List Tr->Bool
 |[]=>ap
 | x::r=>s9 x && FG r
end
theorem Tl (a:List Tr):FG a=a.all s9:=by
 induction a with
 | nil=>rfl
 | cons x r b=>simp[FG,b]
theorem Pd {a:List Tr}:jy a<=m↔∀x∈a,gI x<=m:=by
 induction a with
 | nil=>simp[jy]
 | cons x r b=>simp[jy,Nat.max_le,b]
theorem Do (x:Tr):0<gI x:=by
 obtain⟨k,b,n,t,s,l,a⟩:=x;show 0<jy a+1;omega
theorem amO:∀m x,dZ m x=ap↔gI x<=m/\s9 x=ap:=by
 intro m;induction m with
 | zero=>
  intro x;have:=Do x;constructor
  ·intro h;cases h
  ·intro h;omega
 | succ m e=>
  intro x;obtain⟨k,b,n,t,s,l,a⟩:=x;have j:gI (.mk k b n t s l a)=jy a+1:=rfl;have hf:s9 (.mk k b n t s l a)=(mI (.mk k b n t s l a) && FG a):=rfl;have o:qf (.mk k b n t s l a)=a:=rfl;unfold dZ;rw[j,hf,o,Tl];simp only[Bool.and_eq_true,Bool.or_eq_true,List.isEmpty_iff,decide_eq_true_eq,List.all_eq_true];constructor
  ·rintro⟨f,c⟩;rcases c with rfl |⟨c,d⟩
   ·exact⟨by simp[jy],f,(fun x hx=>by cases hx)⟩
   ·refine⟨?_,f,fun x hx=>((e x).1 (d x hx)).2⟩;have:jy a<=m:=Pd.2 fun x hx=>((e x).1 (d x hx)).1;omega
  ·rintro⟨f,c,d⟩;refine⟨c,?_⟩;by_cases g:a=[]
   ·exact .inl g
   ·right
    have p:jy a<=m:=(by omega);have i:=Pd.1 p;obtain⟨x,hx⟩:∃x,x∈a:=by
     cases a with
     | nil=>exact absurd rfl g
     | cons x r=>exact⟨x,by simp⟩
    refine⟨?_,fun x hx=>(e x).2 ⟨i x hx,d x hx⟩⟩;have:=Do x;have:=i x hx;omega
end ag
namespace ag
def wJ (P:List Tok->aA Tr):Prop:=∀ts t r,P ts=.ok t r->gI t+r.length<=ts.length
theorem abC (acc:List Tr)(a:Tr):jy (acc++[a])=max (jy acc) (gI a):=by
 induction acc with
 | nil=>simp[jy]
 | cons x r b=>simp only[List.cons_append,jy,b];omega
theorem aod (s:Tok)(x y:Tr):gI (eK s [x,y])=max (gI x) (gI y)+1:=by
 show jy [x,y]+1=_;simp[jy]
theorem AZ {ts:List Tok}(h:ts≠[]):ts.tail.length+1=ts.length:=by
 cases ts with
 | nil=>exact absurd rfl h
 | cons x r=>simp
theorem ajn (c:s≠[]){P:List Tok->aA Tr}(d:wJ P):∀m acc ts l r,dU e s P m acc ts=.ok l r->jy l+r.length<=jy acc+ts.length:=by
 intro m;induction m with
 | zero=>
  intro acc ts l r h;unfold dU at h;split at h
  ·cases h
  ·cases h;exact aD _
 | succ m f=>
  intro acc ts l r h;unfold dU at h;split at h
  ·rename_i a;obtain⟨b,n,g,i⟩:=aQ h;have j:=f _ _ _ _ i;have o:=d _ _ _ g;have k:ts≠[]:=by
    rintro rfl;simp[aO,nx] at a;exact c a
   have p:=AZ k;rw[abC] at j;omega
  ·cases h;exact aD _
theorem EL (c:s≠[]){ts r:List Tok}(h:aR e s ts=.ok a r):r.length+1=ts.length:=by
 unfold aR at h;split at h
 ·rename_i b;cases h;refine AZ ?_;rintro rfl;simp[aO,nx] at b;exact c b
 ·cases h
theorem abz {c:Lu}(f:o≠[])(g:s≠[])(i:c≠[]){P:List Tok->aA Tr}(d:wJ P){ts r:List Tok}{l:List Tr}(h:ei e o s c m P ts=.ok l r):jy l+r.length+2<=ts.length:=by
 obtain⟨b,w,j,k⟩:=aQ h;obtain⟨y,v,a,n⟩:=aQ k;obtain⟨z,B,p,q⟩:=aQ n;cases q;have C:=EL f j;have E:=EL i p;split at a
 ·cases a;simp only[jy];omega
 ·obtain⟨x,F,t,u⟩:=aQ a;have G:=d _ _ _ t;have K:=ajn g d _ _ _ _ _ u;have L:jy [x]=gI x:=(by simp[jy]);omega
theorem aje {Q:List Tok->aA Tr}(l:0<lv)(a:wJ Q):∀f x ts t r,ja Q lv f x ts=.ok t r->gI t+r.length<=gI x+ts.length:=by
 intro f;induction f with
 | zero=>intro x ts t r h;cases h;exact aD _
 | succ f b=>
  intro x ts t r h;unfold ja at h;split at h
  ·rename_i c;obtain⟨d,m,e,g⟩:=aQ h;have i:=b _ _ _ _ g;have n:=a _ _ _ e;have j:ts≠[]:=by
    rintro rfl;have k:dW []=lv:=c;rw[JP] at k;omega
   have o:=AZ j;rw[aod] at i;have p:=Do x;have q:=Do d;omega
  ·cases h;exact aD _
theorem ace {P:List Tok->aA Tr}(c:wJ P):∀j,j<=5->wJ (bd P j):=by
 intro j;induction j with
 | zero=>exact fun _=>c
 | succ j a=>
  intro f ts t r h;obtain⟨b,g,d,e⟩:=aQ h;have i:=a (by omega) _ _ _ d;have k:=aje (by omega) (a (by omega)) _ _ _ _ _ e;omega
theorem Nv (k p n t:Int)(s:Bt)(l:List Po):gI (.mk k p n t s l [])=1:=rfl
theorem Yk {ts:List Tok}(h:(nx ts).1≠0):ts≠[]:=by rintro rfl;exact h rfl
theorem Nd {ts:List Tok}(h:(nx ts).2.2≠[]):ts≠[]:=by rintro rfl;exact h rfl
theorem aio {b:List Tok->aA Tr}(c:wJ b){ts r:List Tok}{t:Tr}(d:ts≠[])(h:qS e b ts=.ok t r):gI t+r.length<=ts.length:=by
 have i:=AZ d;unfold qS at h;split at h
 ·obtain⟨a,j,f,g⟩:=aQ h;cases g;have k:=abz (by simp) (by simp) (by simp) c f;have l:gI (.mk 4 (nx ts).2.1 0 0 (ba (nx ts).2.2) [] a)=jy a+1:=rfl;omega
 ·cases h;rw[Nv];omega
theorem akQ {a:List Tok->aA Tr}(c:wJ a){ts r:List Tok}{t:Tr}(h:EU e a ts=.ok t r):gI t+r.length<=ts.length:=by
 obtain⟨b,m,d,f⟩:=aQ h;obtain⟨l,v,g,i⟩:=aQ f;obtain⟨n,o,j,k⟩:=aQ i;cases k;have p:=EL (by simp) d;have q:=EL (by simp) j;have s:=c _ _ _ g;omega
theorem afF {a:List Tok->aA Tr}(b:wJ a){ts r:List Tok}{t:Tr}(c:ts≠[])(h:qd e a ts=.ok t r):gI t+r.length<=ts.length:=by
 have l:=AZ c;obtain⟨_,m,d,h⟩:=aQ h;obtain⟨x,n,f,h⟩:=aQ h;obtain⟨_,o,g,h⟩:=aQ h;obtain⟨i,p,j,h⟩:=aQ h;obtain⟨_,q,k,h⟩:=aQ h;cases h;have s:=EL (by simp) d;have u:=b _ _ _ f;have v:=EL (by simp) g;have w:=(JV _ _ _ _ j).length_le;have y:=EL (by simp) k;have z:gI (.mk 5 (nx ts).2.1 0 0 (ba []) i [x])=gI x+1:=(by show jy [x]+1=_;simp[jy]);omega
theorem agC {d P:List Tok->aA Tr}(b:wJ d)(f:wJ P):wJ (gE e d P):=by
 intro ts t r h;unfold gE at h;split at h
 ·rename_i a;have c:=AZ (Yk (ts:=ts) (by rw[a];decide));cases h;rw[Nv];omega
 split at h
 ·rename_i a;exact aio b (Yk (by rw[a];decide)) h
 split at h
 ·rename_i a;exact afF b (Nd (by rw[a];simp)) h
 split at h
 ·rename_i a;have c:=AZ (Nd (ts:=ts) (by rcases a with a | a<;>rw[a]<;>simp));obtain⟨x,j,g,i⟩:=aQ h;cases i;have k:=f _ _ _ g;have l:gI (eK (nx ts) [x])=gI x+1:=(by show jy [x]+1=_;simp[jy]);omega
 split at h
 ·rename_i a;have c:=AZ (Nd (ts:=ts) (by rw[a];simp));cases h;rw[Nv];omega
 split at h
 ·rename_i a;have c:=AZ (Nd (ts:=ts) (by rw[a];simp));cases h;rw[Nv];omega
 exact akQ b h
theorem agx (e:Nat):∀k,wJ (wX e k):=by
 intro k;induction k with
 | zero=>intro ts a r h;cases h
 | succ k b=>exact agC (ace b 5 (aD _)) b
theorem abo (e k:Nat):wJ (fp e k):=ace (agx e k) 5 (aD _)
end ag
namespace Lex
theorem air {t:Lu}(h:Good 1 t):kR t=ap:=by
 obtain⟨c,_,_,d⟩:=h;have a:=d [] (.inl rfl);rw[List.append_nil] at a;unfold iF at a;split at a
 ·rename_i f;unfold sM at a;split at a
  ·simp at a
  ·rename_i g;split at a
   ·simp at a
   ·rename_i b;have e:t.take (bX dY t)=t:=(by simp only[Prod.mk.injEq] at a;exact a.2.1);rw[e] at g b;have i:bX dY t=t.length:=by
     have j:=congrArg List.length e;have k:=wV dY t;rw[List.length_take] at j;omega
    rw[Rv c (by omega) f i];simpa using b
 ·split at a
  ·unfold pM at a;split at a<;>simp at a
  ·split at a<;>simp at a
theorem G6 (h:kR l=ap):l.length<=12:=by
 apply Classical.byContradiction;intro hn;rw[Ru hn] at h;cases h
end Lex
namespace ag
def qM (ts:List Tok):Prop:=∀t∈ts,Lex.Good t.1 t.2.2
theorem qM.dn {ts us:List Tok}(h:qM ts)(a:us<:+ts):qM us:=fun t b=>h t (a.subset b)
theorem qM.name {ts:List Tok}(h:qM ts)(a:(nx ts).1=1):dG (ba (nx ts).2.2)=ap:=by
 cases ts with
 | nil=>cases a
 | cons t r=>
  have b:=h t (by simp);have c:t.1=1:=a;rw[c] at b;show Lex.kR t.2.2.toArray.toList=ap;exact Lex.air b
def Holds {α:Type}(F:α->Prop)(P:List Tok->aA α):Prop:=∀ts a r,qM ts->P ts=.ok a r->F a
theorem uj (e:Nat):Holds (fun s=>dG s=ap) (bR e):=by
 intro ts a r hf h;unfold bR at h;split at h
 ·rename_i b;cases h;exact hf.name b
 ·cases h
theorem ajm {α:Type}{d:α->Prop}{P:List Tok->aA α}(hS:du P)(i:Holds d P):∀m acc ts l r,qM ts->(∀a∈acc,d a)->dU e s P m acc ts=.ok l r->(∀a∈l,d a)/\l.length<=acc.length+m:=by
 intro m;induction m with
 | zero=>
  intro acc ts l r hf c h;unfold dU at h;split at h
  ·cases h
  ·cases h;exact⟨c,aD _⟩
 | succ m j=>
  intro acc ts l r hf c h;unfold dU at h;split at h
  ·obtain⟨b,p,f,k⟩:=aQ h;have n:=i _ _ _ (hf.dn (jJ ts)) f
   have g:=j (acc++[b]) _ _ _ ((hf.dn (jJ ts)).dn (hS _ _ _ f)) (fun a hm=>by
    rcases List.mem_append.1 hm with hm | hm
    ·exact c a hm
    ·rw[List.mem_singleton.1 hm];exact n) k
   refine⟨g.1,?_⟩;have o:=g.2;simp at o;omega
  ·cases h;exact⟨c,by omega⟩
theorem RG {α:Type}{c:α->Prop}(hm:0<m){P:List Tok->aA α}(hS:du P)(d:Holds c P){ts r:List Tok}{l:List α}(hf:qM ts)(h:dT e s m P ts=.ok l r):(∀a∈l,c a)/\l.length<=m:=by
 obtain⟨b,o,f,i⟩:=aQ h;have j:=d _ _ _ hf f;have g:=ajm hS d _ _ _ _ _ (hf.dn (hS _ _ _ f)) (fun a k=>by rw[List.mem_singleton.1 k];exact j) i;refine⟨g.1,?_⟩;have n:=g.2;simp at n;omega
theorem O4 {α:Type}{f:α->Prop}{c:Lu}(hm:0<m){P:List Tok->aA α}(hS:du P)(g:Holds f P){ts r:List Tok}{l:List α}(hf:qM ts)(h:ei e o s c m P ts=.ok l r):(∀a∈l,f a)/\l.length<=m:=by
 obtain⟨b,q,i,j⟩:=aQ h;obtain⟨t,v,d,k⟩:=aQ j;obtain⟨u,w,x,n⟩:=aQ k;cases n;split at d
 ·cases d;exact⟨(fun a p=>by cases p),by simp⟩
 ·exact RG hm hS g (hf.dn (gZ _ _ _ _ _ i)) d
def Uh (p:Po):Prop:=dG p.1=ap/\(∀s∈p.2,dG s=ap)/\p.2.length<=6
theorem agL (e:Nat):Holds Uh (mQ e):=by
 intro ts a r hf h;obtain⟨b,o,d,i⟩:=aQ h;obtain⟨l,v,j,c⟩:=aQ i;have f:=uj e _ _ _ hf d;split at c
 ·obtain⟨p,q,k,m⟩:=aQ c;cases m;have g:=RG (by omega) (iJ e) (uj e) (((hf.dn (iJ _ _ _ _ d))).dn (gZ _ _ _ _ _ j)) k;exact⟨f,g.1,g.2⟩
 ·cases c;exact⟨f,(fun s n=>by cases n),by simp⟩
theorem G0 {s:Bt}(h:dG s=ap):s.size<=12:=by
 have:=Lex.G6 h;simpa using this
theorem akp {l:List Po}(h:∀d∈l,Uh d)(m:l.length<=200):gp l=ap:=by
 have f:l.any oO=ak:=(by rw[List.any_eq_false];intro d e;obtain⟨a,b,c⟩:=h d e;have n:=G0 a;unfold oO;simp only[Bool.or_eq_true,decide_eq_true_eq,List.any_eq_true,not_or,not_exists,not_and];exact⟨⟨by omega,by omega⟩,fun s g=>by have:=G0 (b s g);omega⟩);have i:rF l=0:=(by unfold rF;rw[if_neg];rw[f];simp;omega);have j:l.any A6=ak:=(by rw[List.any_eq_false];intro d e;obtain⟨a,b,c⟩:=h d e;have k:yB d.2=ap:=List.all_eq_true.2 b;unfold A6;simp[a,k]);unfold gp;rw[i,j];rfl
theorem JW (e:Nat):Holds (fun l=>gp l=ap) (fX e):=by
 intro ts l r hf h;have a:=O4 (by omega) (XE e) (agL e) hf h;exact akp a.1 a.2
def FE (t:Tr):Prop:=s9 t=ap
theorem BQ {k p n t:Int}{s:Bt}{l:List Po}{a:List Tr}(h:mI (.mk k p n t s l a)=ap)(b:∀x∈a,FE x):FE (.mk k p n t s l a):=by
 show(mI (.mk k p n t s l a) && FG a)=ap;rw[h,Tl,Bool.true_and,List.all_eq_true];exact b
theorem ang {s:Tok}{x y:Tr}(b:0<dW s.2.2)(hx:FE x)(c:FE y):FE (eK s [x,y]):=by
 refine BQ ?_ ?_
 ·have e:(ba s.2.2).data.toList=s.2.2:=rfl;simp[mI,e,b]
 ·intro d a;simp only[fN,List.not_mem_nil,or_false] at a;rcases a with rfl | rfl
  ·exact hx
  ·exact c
theorem ajc {Q:List Tok->aA Tr}(g:0<lv)(hS:du Q)(b:Holds FE Q):∀f x ts t r,qM ts->FE x->ja Q lv f x ts=.ok t r->FE t:=by
 intro f;induction f with
 | zero=>intro x ts t r hf hx h;cases h;exact hx
 | succ f c=>
  intro x ts t r hf hx h;unfold ja at h;split at h
  ·rename_i i;obtain⟨j,k,a,d⟩:=aQ h;have e:=b _ _ _ (hf.dn (jJ ts)) a;exact c _ _ _ _ ((hf.dn (jJ ts)).dn (hS _ _ _ a)) (ang (by omega) hx e) d
  ·cases h;exact hx
theorem acd {P:List Tok->aA Tr}(hS:du P)(d:Holds FE P):∀j,j<=5->Holds FE (bd P j):=by
 intro j;induction j with
 | zero=>exact fun _=>d
 | succ j a=>
  intro g ts t r hf h;obtain⟨b,i,c,e⟩:=aQ h;have f:=a (by omega) _ _ _ hf c;exact ajc (by omega) (Du hS j) (a (by omega)) _ _ _ _ _ (hf.dn (Du hS j _ _ _ c)) f e
theorem ain {b:List Tok->aA Tr}(hS:du b)(d:Holds FE b){ts r:List Tok}{t:Tr}(hf:qM ts)(f:(nx ts).1=1)(h:qS e b ts=.ok t r):FE t:=by
 have hn:=hf.name f;unfold qS at h;split at h
 ·obtain⟨a,j,g,i⟩:=aQ h;cases i;have c:=O4 (by omega) hS d (hf.dn (jJ ts)) g;exact BQ (by simp[mI,hn,c.2]) c.1
 ·cases h;exact BQ (by simp[mI,hn]) (fun x hx=>by cases hx)
theorem afE {a:List Tok->aA Tr}(hS:du a)(c:Holds FE a){ts r:List Tok}{t:Tr}(hf:qM ts)(h:qd e a ts=.ok t r):FE t:=by
 obtain⟨_,l,d,h⟩:=aQ h;obtain⟨x,m,b,h⟩:=aQ h;obtain⟨_,n,f,h⟩:=aQ h;obtain⟨g,o,i,h⟩:=aQ h;obtain⟨_,p,q,h⟩:=aQ h;cases h;have f1:=(hf.dn (jJ ts)).dn (gZ _ _ _ _ _ d);have f3:=(f1.dn (hS _ _ _ b)).dn (gZ _ _ _ _ _ f);have hx:=c _ _ _ f1 b;have j:gp g=ap:=JW e _ _ _ f3 i;refine BQ (by simp[mI,j,ba]) (fun s k=> ?_);rw[List.mem_singleton.1 k];exact hx
theorem agB {i P:List Tok->aA Tr}(n:du i)(j:Holds FE i)(o:Holds FE P):Holds FE (gE e i P):=by
 intro ts t r hf h;unfold gE at h;split at h
 ·rename_i a;cases h;refine BQ ?_ (fun x hx=>by cases hx);have f:ts≠[]:=(by rintro rfl;cases a);cases ts with
  | nil=>exact absurd rfl f
  | cons c us=>
   have d:=hf c (by simp);have g:c.1=2:=a;rw[g] at d;obtain⟨_,m,k,p⟩:=X6 d;have l:wY c.2.2=(m:Int):=(by simp[wY,k]);show mI (.mk 1 c.2.1 (wY c.2.2) 1 (ba []) [] [])=ap;rw[l];have q:(m:Int)<=999999999:=(by omega);simp[mI,sL,ba,q]
 split at h
 ·rename_i a;exact ain n j hf a h
 split at h
 ·exact afE n j hf h
 split at h
 ·rename_i a;obtain⟨x,c,f,d⟩:=aQ h;cases d;have g:=o _ _ _ (hf.dn (jJ ts)) f;refine BQ ?_ (fun u s=>by rw[List.mem_singleton.1 s];exact g);rcases a with a | a<;>simp[mI,a,ba]
 split at h
 ·cases h;exact BQ (by simp[mI,sL,ba]) (fun x hx=>by cases hx)
 split at h
 ·cases h;exact BQ (by simp[mI,sL,ba]) (fun x hx=>by cases hx)
 obtain⟨b,c,f,d⟩:=aQ h;obtain⟨x,v,g,k⟩:=aQ d;obtain⟨w,y,p,l⟩:=aQ k;cases l;exact j _ _ _ (hf.dn (gZ _ _ _ _ _ f)) g
theorem agv (e:Nat):∀k,Holds FE (wX e k):=by
 intro k;induction k with
 | zero=>intro ts a r hf h;cases h
 | succ k b=>exact agB (Du (CF e k) 5) (acd (CF e k) b 5 (aD _)) b
theorem FJ (e k:Nat):Holds FE (fp e k):=acd (CF e k) (agv e k) 5 (aD _)
theorem Xa {ts:List Tok}(h:Lex.jK l=(ts,0,q)):qM ts:=fun t a=>((Lex.LL h).1 t a).2.2.1
end ag
end Go.Proofs.YtoiiahpdbcokaaaGreatDoor
