/- Plain mathematics of layer 1, without a program: what each function of package word returns. -/
import Derived.WalkKit
set_option linter.unusedVariables false
set_option linter.unusedSimpArgs false
namespace Go.Proofs.YtomimkgaelkaoaaGreatDoor
def W64 (x : Int) : Prop := 0 ≤ x ∧ x ≤ 18446744073709551615
def addR (a b : Int) : Int × Int := if a + b ≤ 18446744073709551615 then (a + b, 0) else (0, 5)
def subR (a b : Int) : Int × Int := if b ≤ a then (a - b, 0) else (0, 5)
def mulR (a b : Int) : Int × Int := if a * b ≤ 18446744073709551615 then (a * b, 0) else (0, 5)
def divR (a b : Int) : Int × Int := if b = 0 then (0, 6) else (a / b, 0)
def modR (a b : Int) : Int × Int := if b = 0 then (0, 6) else (a % b, 0)
def shlR (a n : Int) : Int × Int := if n ≤ 63 ∧ a * 2 ^ n.toNat ≤ 18446744073709551615 then (a * 2 ^ n.toNat, 0) else (0, 5)
def shrR (a n : Int) : Int × Int := if n ≤ 63 then (a / 2 ^ n.toNat, 0) else (0, 5)
def truthV (b : Bool) : Int := if b then 1 else 0
def andV (a b : Int) : Int := ((a.toNat &&& b.toNat : Nat) : Int)
def orV (a b : Int) : Int := ((a.toNat ||| b.toNat : Nat) : Int)
def opR (l : List UInt8) (a b : Int) : Int × Int :=
 if (l == [43]) = true then addR a b else
 if (l == [45]) = true then subR a b else
 if (l == [42]) = true then mulR a b else
 if (l == [47]) = true then divR a b else
 if (l == [37]) = true then modR a b else
 if (l == [60, 60]) = true then shlR a b else
 if (l == [62, 62]) = true then shrR a b else
 if (l == [38]) = true then (andV a b, 0) else
 if (l == [124]) = true then (orV a b, 0) else
 if (l == [61, 61]) = true then (truthV (a == b), 0) else
 if (l == [33, 61]) = true then (truthV (a != b), 0) else
 if (l == [60]) = true then (truthV (decide (a < b)), 0) else
 if (l == [60, 61]) = true then (truthV (decide (a ≤ b)), 0) else
 if (l == [62]) = true then (truthV (decide (b < a)), 0) else
 if (l == [62, 61]) = true then (truthV (decide (b ≤ a)), 0) else
 if (l == [38, 38]) = true then (truthV (a != 0 && b != 0), 0) else
 if (l == [124, 124]) = true then (truthV (a != 0 || b != 0), 0) else (0, 4)
theorem div_le {a b : Int} (ha : W64 a) (hb : 0 ≤ b) : 0 ≤ a / b ∧ a / b ≤ 18446744073709551615 :=
 ⟨Int.ediv_nonneg ha.1 hb, Int.le_trans (Int.ediv_le_self b ha.1) ha.2⟩
theorem pow2_pos (n : Nat) : 0 < (2 : Int) ^ n := Int.pow_pos (by decide)
def Okay (r : Int × Int) : Prop := (0 ≤ r.1 ∧ r.1 ≤ 18446744073709551615) ∧ 0 ≤ r.2 ∧ r.2 ≤ 9
theorem okay_ite {c : Prop} [Decidable c] {x y : Int × Int} (h1 : c → Okay x) (h2 : ¬ c → Okay y) : Okay (if c then x else y) := by
 split <;> simp_all
theorem okay_mk {x y : Int} (h1 : 0 ≤ x) (h2 : x ≤ 18446744073709551615) (h3 : 0 ≤ y) (h4 : y ≤ 9) : Okay (x, y) := ⟨⟨h1, h2⟩, h3, h4⟩
theorem truth_ok (b : Bool) : Okay (truthV b, 0) := by cases b <;> exact okay_mk (by decide) (by decide) (by decide) (by decide)
theorem add_ok {a b : Int} (ha : W64 a) (hb : W64 b) : Okay (addR a b) :=
 okay_ite (fun h => okay_mk (by have := ha.1; have := hb.1; omega) h (by omega) (by omega)) (fun _ => okay_mk (by omega) (by omega) (by omega) (by omega))
theorem sub_ok {a b : Int} (ha : W64 a) (hb : W64 b) : Okay (subR a b) :=
 okay_ite (fun h => okay_mk (by omega) (by have := ha.2; have := hb.1; omega) (by omega) (by omega)) (fun _ => okay_mk (by omega) (by omega) (by omega) (by omega))
theorem mul_ok {a b : Int} (ha : W64 a) (hb : W64 b) : Okay (mulR a b) :=
 okay_ite (fun h => okay_mk (Int.mul_nonneg ha.1 hb.1) h (by omega) (by omega)) (fun _ => okay_mk (by omega) (by omega) (by omega) (by omega))
theorem div_ok {a b : Int} (ha : W64 a) (hb : W64 b) : Okay (divR a b) :=
 okay_ite (fun h => okay_mk (by omega) (by omega) (by omega) (by omega)) (fun _ => okay_mk (div_le ha hb.1).1 (div_le ha hb.1).2 (by omega) (by omega))
theorem mod_le {a b : Int} (ha : W64 a) (hb : 0 ≤ b) (h : b ≠ 0) : 0 ≤ a % b ∧ a % b < b ∧ a % b ≤ a :=
 ⟨Int.emod_nonneg _ h, Int.emod_lt_of_pos _ (by omega), by
  have h1 := Int.mul_ediv_add_emod a b
  have h2 := Int.mul_nonneg hb (Int.ediv_nonneg ha.1 hb)
  omega⟩
theorem mod_ok {a b : Int} (ha : W64 a) (hb : W64 b) : Okay (modR a b) :=
 okay_ite (fun h => okay_mk (by omega) (by omega) (by omega) (by omega)) (fun h => okay_mk (mod_le ha hb.1 h).1 (by have := (mod_le ha hb.1 h).2.2; have := ha.2; omega) (by omega) (by omega))
theorem shl_ok {a n : Int} (ha : W64 a) (hb : W64 n) : Okay (shlR a n) :=
 okay_ite (fun h => okay_mk (Int.mul_nonneg ha.1 (Int.le_of_lt (pow2_pos _))) h.2 (by omega) (by omega)) (fun _ => okay_mk (by omega) (by omega) (by omega) (by omega))
theorem shr_ok {a n : Int} (ha : W64 a) (hb : W64 n) : Okay (shrR a n) :=
 okay_ite (fun h => okay_mk (div_le ha (Int.le_of_lt (pow2_pos _))).1 (div_le ha (Int.le_of_lt (pow2_pos _))).2 (by omega) (by omega)) (fun _ => okay_mk (by omega) (by omega) (by omega) (by omega))
theorem and_ok {a b : Int} (ha : W64 a) (hb : W64 b) : Okay (andV a b, 0) :=
 okay_mk (by unfold andV; omega) (by unfold andV; have : a.toNat &&& b.toNat ≤ a.toNat := Nat.and_le_left; have := ha.1; have := ha.2; omega) (by omega) (by omega)
theorem or_ok {a b : Int} (ha : W64 a) (hb : W64 b) : Okay (orV a b, 0) := by
 have h : a.toNat ||| b.toNat < 2 ^ 64 := Nat.or_lt_two_pow (by have := ha.2; omega) (by have := hb.2; omega)
 exact okay_mk (by unfold orV; omega) (by unfold orV; omega) (by omega) (by omega)
theorem op_ok (l : List UInt8) {a b : Int} (ha : W64 a) (hb : W64 b) : Okay (opR l a b) := by
 unfold opR
 exact okay_ite (fun _ => add_ok ha hb) fun _ => okay_ite (fun _ => sub_ok ha hb) fun _ => okay_ite (fun _ => mul_ok ha hb) fun _ =>
  okay_ite (fun _ => div_ok ha hb) fun _ => okay_ite (fun _ => mod_ok ha hb) fun _ => okay_ite (fun _ => shl_ok ha hb) fun _ =>
  okay_ite (fun _ => shr_ok ha hb) fun _ => okay_ite (fun _ => and_ok ha hb) fun _ => okay_ite (fun _ => or_ok ha hb) fun _ =>
  okay_ite (fun _ => truth_ok _) fun _ => okay_ite (fun _ => truth_ok _) fun _ => okay_ite (fun _ => truth_ok _) fun _ =>
  okay_ite (fun _ => truth_ok _) fun _ => okay_ite (fun _ => truth_ok _) fun _ => okay_ite (fun _ => truth_ok _) fun _ =>
  okay_ite (fun _ => truth_ok _) fun _ => okay_ite (fun _ => truth_ok _) fun _ => okay_mk (by omega) (by omega) (by omega) (by omega)
end Go.Proofs.YtomimkgaelkaoaaGreatDoor
