/- Who acts for whom, in plain words on lists. -/
namespace Go.Proofs.YtepkhlpjgnckkaaGreatDoor
set_option maxRecDepth 100000
set_option maxHeartbeats 8000000
namespace Act
variable {α:Type} [DecidableEq α]
def has (ls:List α)(v:α):Bool:=decide (v∈ls)
def pos (ls:List α)(v:α):Nat:=ls.idxOf v
def posI (ls:List α)(v:α):Int:=if v∈ls then(pos ls v:Int) else -1
theorem has_iff {ls:List α}{v:α}:has ls v=true↔v∈ls:=by simp[has]
theorem has_not {ls:List α}{v:α}:has ls v=false↔v ∉ ls:=by simp[has]
theorem posI_mem {ls:List α}{v:α}(h:v∈ls):posI ls v=(pos ls v:Int):=by simp[posI,h]
theorem posI_not {ls:List α}{v:α}(h:v ∉ ls):posI ls v= -1:=by simp[posI,h]
theorem pos_hit {ls:List α}{v:α}{k:Nat}(hk:k<ls.length)(hn:v ∉ ls.take k)(e:ls[k]=v):pos ls v=k:=by
 have:ls=ls.take k++ls[k]::ls.drop (k+1):=by simp
 unfold pos
 rw[this,List.idxOf_append,if_neg hn,e]
 simp
 omega
theorem posI_hit {ls:List α}{v:α}{k:Nat}(hk:k<ls.length)(hn:v ∉ ls.take k)(e:ls[k]=v):posI ls v=(k:Int):=by
 rw[posI_mem (e▸List.getElem_mem hk),pos_hit hk hn e]
theorem posI_geq {ls:List α}{v:α}:decide (0≤posI ls v)=has ls v:=by
 by_cases h:v∈ls
 ·rw[posI_mem h];simp[h,has]
 ·rw[posI_not h];simp[h,has]
omit [DecidableEq α] in
theorem not_take_succ {ls:List α}{v:α}{k:Nat}(hk:k<ls.length)(hn:v ∉ ls.take k)(e:ls[k]≠v):v ∉ ls.take (k+1):=by
 rw[List.take_succ_eq_append_getElem hk]
 simp only[List.mem_append,List.mem_singleton,not_or]
 exact⟨hn,fun g=>e g.symm⟩
variable (E:Nat→Nat→Bool) (n:Nat)
end Act
end Go.Proofs.YtepkhlpjgnckkaaGreatDoor
