/- Layer 7, the mathematics: what a description is, as a plain function of its bytes; descriptions of the laws. No program. -/
import Derived.Test.YtcdbdfhikbfbpaaGreatDoorParseP
namespace Go.Proofs.YtcdbdfhikbfbpaaGreatDoor
set_option linter.unusedVariables false

/-- What Parse answers. -/
inductive FR
  | ok (f : FM)
  | bad (p : Ps) (e : Nat)
deriving DecidableEq
def parseL (s : List UInt8) : FR :=
  match lexL s with
  | .bad p e => .bad p e
  | .ok ts => match fileP ts with
    | .ok a _ => .ok (putF a.1 a.2)
    | .bad l e => .bad (hd l).p e
/-- 'struct S { n: u8; b: bytes[n + 1]; }' -/
def wakeT : List UInt8 := [115, 116, 114, 117, 99, 116, 32, 83, 32, 123, 32, 110, 58, 32, 117, 56, 59, 32, 98, 58, 32, 98, 121, 116, 101, 115, 91, 110, 32, 43, 32, 49, 93, 59, 32, 125]
def wakeF : FM := ⟨[], [⟨[83], [], [⟨[110], 0, 0, [], [], -1, 0, false, []⟩, ⟨[98], 1, 0, [], [], -1, 0, false, []⟩]⟩], ⟨[⟨1, [], 0, [110], []⟩, ⟨0, [], 1, [], []⟩, ⟨3, [43], 0, [], [0, 1]⟩], [⟨0, 1, false, [], [], -1, -1, []⟩, ⟨1, 0, false, [], [], 2, -1, []⟩]⟩⟩
theorem wakeL : parseL wakeT = .ok wakeF := by decide +kernel
/-- 'struct S { a: bytes[x a y b z]; }' -/
def levT1 : List UInt8 := [115, 116, 114, 117, 99, 116, 32, 83, 32, 123, 32, 97, 58, 32, 98, 121, 116, 101, 115, 91, 120, 32]
def levT2 : List UInt8 := [32, 121, 32]
def levT3 : List UInt8 := [32, 122, 93, 59, 32, 125]
def levX (a b : List UInt8) : List XM :=
  if levelL a < levelL b then [⟨1, [], 0, [120], []⟩, ⟨1, [], 0, [121], []⟩, ⟨1, [], 0, [122], []⟩, ⟨3, b, 0, [], [1, 2]⟩, ⟨3, a, 0, [], [0, 3]⟩]
  else [⟨1, [], 0, [120], []⟩, ⟨1, [], 0, [121], []⟩, ⟨3, a, 0, [], [0, 1]⟩, ⟨1, [], 0, [122], []⟩, ⟨3, b, 0, [], [2, 3]⟩]
def levF (a b : List UInt8) : FM := ⟨[], [⟨[83], [], [⟨[97], 0, 0, [], [], -1, 0, false, []⟩]⟩], ⟨levX a b, [⟨1, 0, false, [], [], 4, -1, []⟩]⟩⟩
def opA (i : Nat) : List UInt8 := (opsL.getD i ([], 0)).1
theorem levL : ∀ i < 17, ∀ k < 17, parseL (levT1 ++ opA i ++ levT2 ++ opA k ++ levT3) = .ok (levF (opA i) (opA k)) := by decide +kernel
end Go.Proofs.YtcdbdfhikbfbpaaGreatDoor
