/- What is formed, and how it is written, in plain words. -/
import Derived.Test.YtikejmokejghcaaGreatDoorGaPar
import Derived.Test.YtikejmokejghcaaGreatDoorGaLab
import Derived.Test.YtikejmokejghcaaGreatDoorNameC
import Derived.Lib.ItoaNum
namespace Go.Proofs.YtikejmokejghcaaGreatDoor
namespace Par

def nameOK (s : ByteArray) : Bool := Lex.nameF s.data.toList
def namesOK (l : List ByteArray) : Bool := l.all nameOK
def polBad (p : Po) : Bool := !nameOK p.1 || !namesOK p.2
def labOK (l : List Po) : Bool := decide (printE l = 0) && !l.any polBad
def numOK (t n : Int) : Bool := (t == 1 && (decide (0 ≤ n) && decide (n ≤ 999999999))) || (t == 2 && (n == 0 || n == 1))
/- Formed, but for what lies within. -/
def aloneF : Tr → Bool
  | .mk k _ n t s l a =>
    if k ≠ 1 ∧ (n ≠ 0 ∨ t ≠ 0) then false else if k ≠ 5 ∧ 0 < l.length then false
    else if k = 1 then numOK t n && (s.data.toList == []) && a.length == 0
    else if k = 2 then nameOK s && a.length == 0
    else if k = 3 then (a.length == 2 && decide (0 < levF s.data.toList)) || (a.length == 1 && (s.data.toList == [45] || s.data.toList == [33]))
    else if k = 4 then nameOK s && decide (a.length ≤ 4)
    else if k = 5 then labOK l && (s.data.toList == []) && a.length == 1
    else false
def kidsOf : Tr → List Tr
  | .mk _ _ _ _ _ _ a => a
/- With room for m levels. -/
def formD : Nat → Tr → Bool
  | 0, _ => false
  | m + 1, x => aloneF x && ((kidsOf x).isEmpty || (decide (m ≠ 0) && (kidsOf x).all (formD m)))

def numT (t n : Int) : List UInt8 := if t = 2 then (if n = 1 then [116, 114, 117, 101] else [102, 97, 108, 115, 101]) else Lib.itoa n
/- Does it bind two, less closely? -/
def lessB (least : Nat) : Tr → Bool
  | .mk k _ _ _ s _ a => k == 3 && (a.length == 2 && decide (levF s.data.toList < least))
def wrapT (b : Bool) (l : List UInt8) : List UInt8 := if b then 40 :: (l ++ [41]) else l
def txt : Nat → Tr → List UInt8
  | 0, _ => []
  | m + 1, .mk k _ n t s l a =>
    if k = 1 then numT t n else if k = 2 then s.data.toList
    else if k = 3 then (match a with
      | [x] => s.data.toList ++ wrapT (lessB 6 x) (txt m x)
      | [x, y] => wrapT (lessB (levF s.data.toList) x) (txt m x) ++ (32 :: (s.data.toList ++ (32 :: wrapT (lessB (levF s.data.toList + 1) y) (txt m y))))
      | _ => [])
    else if k = 4 then s.data.toList ++ (40 :: (Lib.join (a.map (txt m)) [44, 32] ++ [41]))
    else if k = 5 then (match a with
      | [x] => [114, 101, 108, 101, 97, 115, 101, 40] ++ (txt m x ++ ([32, 116, 111, 32] ++ (labelT l ++ [41])))
      | _ => [])
    else []
end Par
end Go.Proofs.YtikejmokejghcaaGreatDoor
