/- Layer 7, the mathematics: so many types, parentheses, signs, fields and structs. No program. -/
import Derived.Test.YtcdbdfhikbfbpaaGreatDoorParLv
namespace Go.Proofs.YtcdbdfhikbfbpaaGreatDoor
set_option linter.unusedVariables false

def rep (n : Nat) (l : List UInt8) : List UInt8 := (List.replicate n l).flatten
def errL (s : List UInt8) : Nat := match lexL s with
  | .bad p e => e
  | .ok ts => match fileP ts with
    | .ok a _ => 0
    | .bad l e => e
/-- 'struct S { a: ' -/
def d1 : List UInt8 := [115, 116, 114, 117, 99, 116, 32, 83, 32, 123, 32, 97, 58, 32]
def dRest : List UInt8 := [114, 101, 115, 116, 32]
/-- 'u8; }' -/
def d2 : List UInt8 := [117, 56, 59, 32, 125]
/-- 'struct S { a: bytes[' -/
def d3 : List UInt8 := [115, 116, 114, 117, 99, 116, 32, 83, 32, 123, 32, 97, 58, 32, 98, 121, 116, 101, 115, 91]
/-- ']; }' -/
def d4 : List UInt8 := [93, 59, 32, 125]
/-- '1]; }' -/
def d5 : List UInt8 := [49, 93, 59, 32, 125]
/-- 'struct S { ' -/
def d6 : List UInt8 := [115, 116, 114, 117, 99, 116, 32, 83, 32, 123, 32]
/-- 'a: u8; ' -/
def d7 : List UInt8 := [97, 58, 32, 117, 56, 59, 32]
/-- 'struct S { } ' -/
def d8 : List UInt8 := [115, 116, 114, 117, 99, 116, 32, 83, 32, 123, 32, 125, 32]
def dpT (k : Nat) : List UInt8 := d1 ++ rep k dRest ++ d2
def dpP (k : Nat) : List UInt8 := d3 ++ rep k [40] ++ [49] ++ rep k [41] ++ d4
def dpS (k : Nat) : List UInt8 := d3 ++ rep k [33] ++ d5
def dpF (k : Nat) : List UInt8 := d6 ++ rep k d7 ++ [125]
def dpR (k : Nat) : List UInt8 := rep k d8
theorem dpT_err : ∀ k < 70, errL (dpT k) = if 32 < k then 8 else 0 := by decide +kernel
theorem dpP_err : ∀ k < 70, errL (dpP k) = if 32 < k then 8 else 0 := by decide +kernel
theorem dpS_err : ∀ k < 70, errL (dpS k) = if 32 < k then 8 else 0 := by decide +kernel
theorem dpF_err : ∀ k < 70, errL (dpF k) = if 64 < k then 10 else 0 := by decide +kernel
theorem dpR_err : ∀ k < 70, errL (dpR k) = if 64 < k then 10 else 0 := by decide +kernel
end Go.Proofs.YtcdbdfhikbfbpaaGreatDoor
