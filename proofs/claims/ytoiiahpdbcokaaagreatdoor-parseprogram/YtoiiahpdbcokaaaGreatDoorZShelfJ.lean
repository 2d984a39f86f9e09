/- The library's contract of strings.Join, laid at this translation. -/
import Derived.Shelf.Strings.OnBuilder
import Derived.Test.YtoiiahpdbcokaaaGreatDoorProg
namespace Go.Proofs
open Go.Value renaming string -> H
open Go.Shelf
theorem Tryz.CC {α:Type}{a b:α}{o:Option α}(h:o=some a)(e:a=b):o=some b:=h.trans (congrArg some e)
def Tryz.YX:Go.Shelf.Ren:=⟨fun | 156=>136 | 165=>183 | 166=>135 | 169=>118 | 240=>182 | 241=>209 | 276=>208 | 277=>226 | n=>n,fun | 0=>0 | 3=>3 | 4=>4 | 5=>5 | 9=>9 | 20=>20 | 31=>22 | 37=>153 | 70=>152 | 72=>155 | 75=>172 | 76=>174 | 80=>84 | 127=>203 | 164=>239 | n=>n,fun | n=>n⟩
theorem Tryz.YY:Go.Proofs.Lays.n156 Tryz.prog Tryz.YX:={
 mixed:=by kernel_rfl
 f156:=Tryz.CC Tryz.func136 (by kernel_rfl)
 f165:=Tryz.CC Tryz.func183 (by kernel_rfl)
 f166:=Tryz.CC Tryz.func135 (by kernel_rfl)
 f169:=Tryz.CC Tryz.func118 (by kernel_rfl)
 f240:=Tryz.CC Tryz.func182 (by kernel_rfl)
 f241:=Tryz.CC Tryz.func209 (by kernel_rfl)
 f276:=Tryz.CC Tryz.func208 (by kernel_rfl)
 f277:=Tryz.CC Tryz.func226 (by kernel_rfl)
 t0:=Tryz.underlying0
 a0:=Tryz.isAgg0
 z0:=Tryz.sizeOf0
 v0:=Tryz.zeroValue0
 t3:=Tryz.underlying3
 a3:=Tryz.isAgg3
 z3:=Tryz.sizeOf3
 v3:=Tryz.zeroValue3
 t4:=Tryz.underlying4
 a4:=Tryz.isAgg4
 z4:=Tryz.sizeOf4
 v4:=Tryz.zeroValue4
 t9:=Tryz.underlying9
 a9:=Tryz.isAgg9
 z9:=Tryz.sizeOf9
 v9:=Tryz.zeroValue9
 t20:=Tryz.underlying20
 a20:=Tryz.isAgg20
 z20:=Tryz.sizeOf20
 v20:=Tryz.zeroValue20
 t31:=Tryz.underlying22
 a31:=Tryz.isAgg22
 z31:=Tryz.sizeOf22
 v31:=Tryz.zeroValue22
 t37:=Tryz.underlying153
 a37:=Tryz.isAgg153
 z37:=Tryz.sizeOf153
 v37:=Tryz.zeroValue153
 t70:=Tryz.underlying152
 a70:=Tryz.isAgg152
 z70:=Tryz.sizeOf152
 v70:=Tryz.zeroValue152
 t72:=Tryz.underlying155
 a72:=Tryz.isAgg155
 z72:=Tryz.sizeOf155
 v72:=Tryz.zeroValue155
 t75:=Tryz.underlying172
 a75:=Tryz.isAgg172
 z75:=Tryz.sizeOf172
 v75:=Tryz.zeroValue172
 t76:=Tryz.underlying174
 a76:=Tryz.isAgg174
 z76:=Tryz.sizeOf174
 v76:=Tryz.zeroValue174
 t127:=Tryz.underlying203
 a127:=Tryz.isAgg203
 z127:=Tryz.sizeOf203
 v127:=Tryz.zeroValue203
 t164:=Tryz.underlying239
 a164:=Tryz.isAgg239
 z164:=Tryz.sizeOf239
 v164:=Tryz.zeroValue239}
theorem Tryz.adu:Builder.Extra Tryz.prog Tryz.YX:={
 sizeBuilder:=by kernel_rfl
 liesBuilder:=by kernel_rfl
 t5:=Tryz.underlying5
 a5:=Tryz.isAgg5
 z5:=Tryz.sizeOf5
 v5:=Tryz.zeroValue5
 infoByte:=by kernel_rfl
 cellsByte:=by kernel_rfl
 sizeByte:=by kernel_rfl
 neB5:=by decide}
open Go.RowKit in
theorem Tryz.strings_Join_none (a:Option Addr)(c:Nat)(sep:ByteArray)(w:World):
 Calls Tryz.prog 136 #[.slice a 0 c,H sep] w fun e w'=>e=.returned (H ⟨#[]⟩)/\w'=w:=Any.strings_Join_none Tryz.YY Tryz.adu a c sep w
open Go.RowKit in
theorem Tryz.strings_Join (bk o c:Nat)(xs:List ByteArray)(sep:ByteArray)(w:World)(amd:∀(j:Nat) x,xs[j]? =some x->w.cell? ⟨bk,o+j,none⟩=some (H x))(kY:bk<w.heap.size)(hN:xs.length<=140737488355328)(BD:xs.length<=c)(hlen:(Lib.join (xs.map (·.data.toList)) sep.data.toList).length<=140737488355328):
 Calls Tryz.prog 136 #[.slice (some ⟨bk,o,none⟩) xs.length c,H sep] w fun e w'=>e=.returned (H ⟨(Lib.join (xs.map (·.data.toList)) sep.data.toList).toArray⟩)/\Below w.heap.size w w':=Any.strings_Join Tryz.YY Tryz.adu bk o c xs sep w amd kY hN BD hlen
end Go.Proofs
