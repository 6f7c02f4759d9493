/- Layer 4's law SumsCrc. -/
import Derived.Test.YtjcpepjhnnpbpaaSumsE
import Derived.Test.YtjcpepjhnnpbpaaStrs
namespace Go.Proofs.Ytjcpepjhnnpbpaa
open Go.ChangeShapes Go.WideShapes Go.ChangeAt Go.RowKit
set_option linter.unusedVariables false

theorem least_nat (a b : Nat) : ∃ p : Nat, (if (b : Int) < a then (b : Int) else a) = p ∧ p ≤ a ∧ p ≤ b := by
  split
  · exact ⟨b, rfl, by omega, by omega⟩
  · exact ⟨a, rfl, by omega, by omega⟩
theorem cut_size (a : ByteArray) {p : Nat} (h : p ≤ a.size) : (a.extract 0 p).size = p := by simp; omega

theorem SumsCrc_walk (a0 : Option Addr) (len0 cap0 : Nat) (z0 : List ByteArray) (w : World) (w0 : IsStrs w a0 len0 cap0 z0) :
    Calls Try.prog 3 #[.slice a0 len0 cap0] w fun e w' => e = .returned (.bool true) ∧ Below w.heap.size w w' := by
  obtain ⟨h1, h2, hrd⟩ := w0.rd
  unfold maxLen at h2
  obtain ⟨p, ep, p1, p2⟩ := least_nat len0 20
  simp only [Int.cast_ofNat_Int] at ep
  have H := Lib.hid hrd
  clear hrd w0
  go_enter Try.func3, Try.ntmps3
  go_wp2_with fail
  refine (New_any _).mono ?_; rintro e w1 ⟨g, rfl, hg, hc, hb1⟩
  go_wp2_with fail
  go_loopw [4, 15] (fun t i wr => ∃ (k : Nat) (A : ByteArray), k ≤ p ∧ i = .int .i64 k ∧ t = .string A ∧ A.size ≤ 300 * k ∧ IsCrc g (crcFold 4294967295 A.data.toList) wr ∧ Below w.heap.size w wr) (fun _ i _ => p - (intOf i).toNat)
  case atStart => exact ⟨0, ⟨#[]⟩, by omega, rfl, rfl, by simp [ByteArray.size], hc, hb1⟩
  case round =>
    obtain ⟨k, A, hk, rfl, rfl, hA, hcr, hb⟩ := hrel
    by_cases hlt : k < p
    · obtain ⟨x, rfl, hx, hcell, hsz⟩ := H.out k (by omega)
      have hcx : wr.cell? (x.add k) = some (.string (z0.getD k ByteArray.empty)) := (hb.cell (p := x.add k) (by rw [addS_block]; exact hx)).trans hcell
      have hsz : (z0.getD k ByteArray.empty).size ≤ maxLen := hsz
      clear hcell
      generalize z0.getD k ByteArray.empty = s at hcx hsz
      unfold maxLen at hsz
      obtain ⟨q, eq, q1, q2⟩ := least_nat s.size 300
      simp only [Int.cast_ofNat_Int] at eq
      have s1 := cut_size s q1
      have HC := Lib.hid hcr
      clear hc hb1
      go_wp2_with fail
      generalize s.extract 0 q = S at s1 ⊢
      have hS : S.size ≤ maxLen := by unfold maxLen; omega
      have hcat : ¬ 9223372036854775807 < A.size + S.size := by omega
      have hT : (A ++ S).size ≤ 300 * (k + 1) := by rw [ByteArray.size_append]; omega
      have hr2 := fun w => refCrc32_any (A ++ S) (by unfold maxLen; omega) w
      have hlt1 := crcFold_lt (r := 4294967295) (by decide) A.data.toList
      have hlt2 := crcFold_lt (r := 4294967295) (by decide) (A.data.toList ++ S.data.toList)
      have happ := crcFold_append 4294967295 A.data.toList S.data.toList
      have hdat : (A ++ S).data.toList = A.data.toList ++ S.data.toList := by simp
      refine (Add_any g _ hlt1 S hS wr HC.out).mono ?_; rintro e w2 ⟨rfl, hc2, hb2⟩
      have hc2' : IsCrc g (crcFold 4294967295 (A ++ S).data.toList) w2 := by rw [hdat, happ]; exact hc2
      have hbb := hb.trans (hb2 _ hg)
      rw [hdat] at hr2
      unfold crcV at hr2
      have hSum := Sum_any g _ (by rw [hdat]; exact hlt2) w2 hc2'
      rw [hdat] at hSum
      have HC2 := Lib.hid hc2'
      generalize crcFold 4294967295 (A.data.toList ++ S.data.toList) = y at hr2 hSum hlt2
      have HR := Lib.hid hr2
      have HS := Lib.hid hSum
      clear hr2 hSum hc2 hc2' hb2 happ hdat hlt1 HC hb
      go_wp2_with fail
      refine HS.out.mono ?_; rintro e w3 ⟨rfl, rfl⟩
      go_wp2_with fail
      refine (HR.out _).mono ?_; rintro e w3 ⟨rfl, rfl⟩
      go_wp2_with fail
      go_roundw
      case rel => exact ⟨k + 1, A ++ S, by omega, by go_num, rfl, hT, HC2.out, hbb⟩
      case measure => simp [intOf]; omega
    · obtain rfl : k = p := by omega
      have hr := fun w => refCrc32_any A (by unfold maxLen; omega) w
      have hc := fun w => Crc32_any A (by unfold maxLen; omega) w
      have hy := crcV_lt A.data.toList
      generalize crcV A.data.toList = y at hr hc hy
      have HR := Lib.hid hr
      have HC := Lib.hid hc
      clear hr hc hcr
      go_wp2_with fail
      refine (Add_nil _ _).mono ?_; rintro e w2 ⟨rfl, rfl⟩
      go_wp2_with fail
      refine (wakes_any _).mono ?_; rintro e w3 ⟨rfl, b3⟩
      go_wp2_with fail
      refine (HC.out _).mono ?_; rintro e w4 ⟨rfl, b4⟩
      go_wp2_with fail
      refine (HR.out _).mono ?_; rintro e w5 ⟨rfl, rfl⟩
      go_wp2_with fail
      refine (Sum_nil _).mono ?_; rintro e w5 ⟨rfl, rfl⟩
      go_wp2_with fail
      go_ret
      exact ⟨rfl, chain4 (chain4 hb (Nat.le_refl _) b3) (Nat.le_refl _) b4⟩

end Go.Proofs.Ytjcpepjhnnpbpaa
