/- Layer 8, the mathematics: how the text of a File is written, piece by piece, into at most MaxText bytes. No program. -/
import Derived.Test.YthcdohggffpopaaGreatDoorC2ParseP
namespace Go.Proofs.YthcdohggffpopaaGreatDoor
structure XG where
  k : Int
  op : List UInt8
  n : Nat
  s : List UInt8
  kids : List Int
deriving DecidableEq
structure TG where
  k : Int
  size : Nat
  little : Bool
  s : List UInt8
  args : List Nat
  e : Int
  i : Int
  cs : List (Nat × Nat)
deriving DecidableEq
structure GF where
  cs : List (List UInt8 × Nat)
  ss : List SM
  xs : List XG
  ts : List TG
deriving DecidableEq
def ints (l : List Nat) : List Int := l.map fun (k : Nat) => (k : Int)
def XM.gx (x : XM) : XG := ⟨x.k, x.op, x.n, x.s, ints x.kids⟩
def TM.gt (t : TM) : TG := ⟨t.k, t.size, t.little, t.s, t.args, t.e, t.i, t.cs⟩
def FM.gf (f : FM) : GF := ⟨f.cs, f.ss, f.g.xs.map XM.gx, f.g.ts.map TM.gt⟩
abbrev OW := List UInt8 → Option (List UInt8)
def maxText : Nat := 16384
def wNo : OW := fun _ => none
def wPut (s : List UInt8) : OW := fun t => if t.length + s.length ≤ maxText then some (t ++ s) else none
def wSeq (a b : OW) : OW := fun t => (a t).bind b
def wAll : List OW → OW
  | [] => some
  | a :: l => wSeq a (wAll l)
def wPuts (l : List (List UInt8)) : OW := wAll (l.map wPut)
def decD : Nat → Nat → List UInt8
  | 0, _ => []
  | f + 1, n => if n < 10 then [UInt8.ofNat (48 + n)] else decD f (n / 10) ++ [UInt8.ofNat (48 + n % 10)]
def decL (n : Nat) : List UInt8 := decD 20 n
def wNum (n : Nat) : OW := wPut (decL n)
def wList (n : Nat) (el : Nat → OW) : OW :=
  wSeq (wAll ((List.range n).map fun i => wSeq (wPut (if i = 0 then [40] else [44, 32])) (el i))) (if n = 0 then some else wPut [41])
def opndW (xs : List XG) (n : Nat) (rec : Int → OW) (at' : Int) (least : Nat) : OW :=
  if 0 ≤ at' ∧ at' < n then
    match xs[at'.toNat]? with
    | none => wNo
    | some x => if x.k ≠ 3 ∨ least ≤ levelL x.op then rec at' else wAll [wPut [40], rec at', wPut [41]]
  else wNo
def bodyE (xs : List XG) (n : Nat) (rec : Int → OW) : OW :=
  match xs[n]? with
  | none => wNo
  | some x =>
    if x.k = 0 then wNum x.n
    else if x.k = 1 then wPut x.s
    else if x.k = 2 then
      match x.kids with
      | [a] => wAll [wPut [33], opndW xs n rec a 9]
      | _ => wNo
    else if x.k = 3 then
      match x.kids with
      | [a, b] => wAll [opndW xs n rec a (levelL x.op), wPut [32], wPut x.op, wPut [32], opndW xs n rec b (levelL x.op + 1)]
      | _ => wNo
    else wNo
def exprW (xs : List XG) : Nat → Int → OW
  | 0, _ => wNo
  | n + 1, at' => if at' = n then bodyE xs n (exprW xs n) else exprW xs n at'
def wordN (z : Nat) (li : Bool) : List UInt8 :=
  if z = 1 then [117, 56] else if z = 2 then (if li = true then [117, 49, 54, 108, 101] else [117, 49, 54, 98, 101]) else if z = 3 then (if li = true then [117, 50, 52, 108, 101] else [117, 50, 52, 98, 101])
  else if z = 4 then (if li = true then [117, 51, 50, 108, 101] else [117, 51, 50, 98, 101]) else if z = 8 then (if li = true then [117, 54, 52, 108, 101] else [117, 54, 52, 98, 101]) else []
def idxW (xs : List XG) (word : List UInt8) (e : Int) : OW := wAll [wPut word, wPut [91], exprW xs xs.length e, wPut [93]]
def dSwitch : List UInt8 := [115, 119, 105, 116, 99, 104, 32, 40]
def dCase : List UInt8 := [32, 99, 97, 115, 101, 32]
def dElse : List UInt8 := [32, 101, 108, 115, 101, 58, 32]
def choiceW (xs : List XG) (rec : Int → OW) (t : TG) : OW :=
  wAll [wPut dSwitch, exprW xs xs.length t.e, wPut [41, 32, 123], wAll (t.cs.map fun c => wAll [wPut dCase, wNum c.1, wPut [58, 32], rec (c.2 : Int), wPut [59]]),
    (if t.i ≠ -1 then wAll [wPut dElse, rec t.i, wPut [59]] else some), wPut [32, 125]]
def refW (xs : List XG) (t : TG) : OW := wSeq (wPut t.s) (wList t.args.length fun i => exprW xs xs.length ((t.args.getD i 0 : Nat) : Int))
def bodyT (xs : List XG) (ts : List TG) (n : Nat) (rec : Int → OW) : OW :=
  match ts[n]? with
  | none => wNo
  | some t =>
    if t.k = 0 then wPut (wordN t.size t.little)
    else if t.k = 1 then idxW xs kBytes t.e
    else if t.k = 2 then idxW xs kZero t.e
    else if t.k = 3 then idxW xs kSkip t.e
    else if t.k = 4 then wPut kTail
    else if t.k = 5 then wSeq (rec t.i) (idxW xs [] t.e)
    else if t.k = 6 then wSeq (wPut (kRest ++ [32])) (rec t.i)
    else if t.k = 7 then wAll [idxW xs kWindow t.e, wPut [32], rec t.i]
    else if t.k = 8 then wAll [idxW xs kAt t.e, wPut [32], rec t.i]
    else if t.k = 9 then choiceW xs rec t
    else if t.k = 10 then refW xs t
    else if t.k = 11 then wPut kNone
    else wNo
def typW (xs : List XG) (ts : List TG) : Nat → Int → OW
  | 0, _ => wNo
  | n + 1, at' => if at' = n then bodyT xs ts n (typW xs ts n) else typW xs ts n at'
def dDer (k : Nat) : List UInt8 := if k = 1 then [32, 61, 32, 115, 105, 122, 101, 111, 102, 40] else if k = 2 then [32, 61, 32, 99, 111, 117, 110, 116, 111, 102, 40] else if k = 3 then [32, 61, 32, 99, 114, 99, 51, 50, 40] else [32, 61, 32, 97, 100, 108, 101, 114, 51, 50, 40]
def derW (x : IM) : OW :=
  if x.der = 0 then some
  else if x.der = 1 ∨ x.der = 2 then wAll [wPut (dDer x.der), wPut x.a, wPut [41]]
  else if x.der = 3 ∨ x.der = 4 then wAll [wPut (dDer x.der), wPut x.a, wPut [46, 46], wPut x.b, wPut [41]]
  else wNo
def dWhere : List UInt8 := [32, 119, 104, 101, 114, 101, 32]
def fieldW (xs : List XG) (ts : List TG) (x : IM) : OW :=
  wAll [wPut x.s, wPut [58, 32], typW xs ts ts.length x.t, derW x, (if x.wh ≠ -1 then wSeq (wPut dWhere) (exprW xs xs.length x.wh) else some), wPut [59]]
def packW (x : IM) : OW :=
  wAll [wPut (kPack ++ [32]), wPut (wordN x.size x.little), wPut [32, 123], wAll (x.subs.map fun s => wAll [wPut [32], wPut s.1, wPut [58, 32], wPut (decL s.2), wPut [59]]), wPut [32, 125]]
def itemW (xs : List XG) (ts : List TG) (x : IM) : OW := wAll [wPut [32, 32], if 0 < x.subs.length then packW x else fieldW xs ts x, wPut [10]]
def structW (xs : List XG) (ts : List TG) (s : SM) : OW :=
  wAll [wPut (kStruct ++ [32]), wPut s.s, wList s.ps.length (fun i => wPut (s.ps.getD i [])), wPut [32, 123, 10], wAll (s.is.map (itemW xs ts)), wPut [125, 10]]
def constW (c : List UInt8 × Nat) : OW := wAll [wPut (kConst ++ [32]), wPut c.1, wPut [32, 61, 32], wNum c.2, wPut [59, 10]]
def fileW (f : GF) : OW := if f.xs.length ≤ maxText ∧ f.ts.length ≤ maxText then wSeq (wAll (f.cs.map constW)) (wAll (f.ss.map (structW f.xs f.ts))) else wNo
def textW (f : GF) : Option (List UInt8) := fileW f []
theorem exprW_lim (xs : List XG) : ∀ (n : Nat) (at' : Int), exprW xs n at' = if 0 ≤ at' ∧ at' < n then bodyE xs at'.toNat (exprW xs at'.toNat) else wNo
  | 0, at' => by
    rw [if_neg (by omega)]; rfl
  | n + 1, at' => by
    rw [exprW]
    by_cases h : at' = n
    · subst h
      rw [if_pos rfl, if_pos (by omega)]
      simp
    · rw [if_neg h, exprW_lim xs n at']
      by_cases h2 : 0 ≤ at' ∧ at' < n
      · rw [if_pos h2, if_pos (by omega)]
      · rw [if_neg h2, if_neg (by omega)]
theorem typW_lim (xs : List XG) (ts : List TG) : ∀ (n : Nat) (at' : Int), typW xs ts n at' = if 0 ≤ at' ∧ at' < n then bodyT xs ts at'.toNat (typW xs ts at'.toNat) else wNo
  | 0, at' => by
    rw [if_neg (by omega)]; rfl
  | n + 1, at' => by
    rw [typW]
    by_cases h : at' = n
    · subst h
      rw [if_pos rfl, if_pos (by omega)]
      simp
    · rw [if_neg h, typW_lim xs ts n at']
      by_cases h2 : 0 ≤ at' ∧ at' < n
      · rw [if_pos h2, if_pos (by omega)]
      · rw [if_neg h2, if_neg (by omega)]
end Go.Proofs.YthcdohggffpopaaGreatDoor
