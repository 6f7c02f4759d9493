/- Contracts of layer 4: the document's Crc32. -/
import Derived.Test.YtjcpepjhnnpbpaaSumsA
namespace Go.Proofs.Ytjcpepjhnnpbpaa
open Go.ChangeShapes Go.WideShapes Go.ChangeAt Go.RowKit
set_option linter.unusedVariables false

theorem crcBit_odd {r : Nat} (hr : r < 4294967296) (h : r % 2 = 1) : bits .xor .u32 ((r : Int) / 2) 3988292384 = ((crcBit r : Nat) : Int) := by
  have := u32_xor_nat (r / 2) 3988292384 (by omega) (by decide)
  rw [crcBit, if_pos h]
  exact this
theorem crcBit_even {r : Nat} (h : ¬ r % 2 = 1) : (r : Int) / 2 = ((crcBit r : Nat) : Int) := by
  rw [crcBit, if_neg h]
  rfl
theorem xor_byte (r : Nat) (c : UInt8) (hr : r < 4294967296) : bits .xor .u32 (r : Int) (c.toNat : Int) = ((r ^^^ c.toNat : Nat) : Int) := u32_xor_nat _ _ hr (by have := c.toNat_lt; omega)

theorem refCrc32_any (s : ByteArray) (hs : s.size ≤ maxLen) (w : World) :
    Calls Try.prog 10 #[.string s] w fun e w' => e = u32Of (crcV s.data.toList) ∧ w = w' := by
  unfold maxLen at hs
  go_enter Try.func10, Try.ntmps10
  go_wp2
  go_loop [3, 4] (fun r i => ∃ (k x : Nat), k ≤ s.size ∧ i = .int .i64 k ∧ r = .int .u32 x ∧ x < 4294967296 ∧ Hid (crcFold 4294967295 (s.data.toList.take k) = x)) (fun _ i => s.size - (intOf i).toNat)
  case atStart => exact ⟨0, 4294967295, by omega, rfl, rfl, by omega, Lib.hid rfl⟩
  case round =>
    obtain ⟨k, x, hk, rfl, rfl, hx, H⟩ := hrel
    by_cases hlt : k < s.size
    · have HB := Lib.hid (crcFold_take_succ 4294967295 s.data.toList k s[k] (byte_some s hlt))
      have HX := Lib.hid (xor_byte x s[k] hx)
      have hy := byte_xor_lt hx s[k]
      have hb := (s[k]).toNat_lt
      obtain ⟨y, hy1, HY⟩ : ∃ y, y < 4294967296 ∧ Hid (x ^^^ (s[k]).toNat = y) := ⟨_, hy, Lib.hid rfl⟩
      rw [HY.out] at HX
      clear hy
      go_wp2_with (simp only [HX.out])
      go_loop [3, 5] (fun r j => ∃ (m z : Nat), m ≤ 8 ∧ j = .int .i64 m ∧ r = .int .u32 z ∧ z < 4294967296 ∧ Hid (crcBits m y = z)) (fun _ j => 8 - (intOf j).toNat)
      case atStart => exact ⟨0, y, by omega, rfl, rfl, hy1, Lib.hid rfl⟩
      case round =>
        obtain ⟨m, z, hm, rfl, rfl, hz, HZ⟩ := hrel
        by_cases hlt2 : m < 8
        · have hdm : decide ((m : Int) < 8) = true := by simp; omega
          obtain ⟨z', hz1, HZ'⟩ : ∃ z', z' < 4294967296 ∧ Hid (crcBit z = z') := ⟨_, crcBit_lt hz, Lib.hid rfl⟩
          have HC : Hid (crcBits (m + 1) y = z') := Lib.hid (by rw [crcBits, HZ.out, HZ'.out])
          by_cases hodd : z % 2 = 1
          · have HO := Lib.hid (crcBit_odd hz hodd)
            rw [HZ'.out] at HO
            have hd : (((z : Int) % 2) == 1) = true := by simp; omega
            clear hodd
            go_wp2
            go_round
            case rel => exact ⟨m + 1, z', by omega, by go_num, by rw [HO.out], hz1, HC⟩
            case measure => simp [intOf]; omega
          · have HO := Lib.hid (crcBit_even hodd)
            rw [HZ'.out] at HO
            have hd : (((z : Int) % 2) == 1) = false := by simp; omega
            clear hodd
            go_wp2
            go_round
            case rel => exact ⟨m + 1, z', by omega, by go_num, by rw [HO.out], hz1, HC⟩
            case measure => simp [intOf]; omega
        · obtain rfl : m = 8 := by omega
          have HC : Hid (crcFold 4294967295 (s.data.toList.take (k + 1)) = z) := Lib.hid (by rw [HB.out, H.out, crcStep, HY.out]; exact HZ.out)
          go_wp2
          go_round
          case rel => exact ⟨k + 1, z, by omega, by go_num, rfl, hz, HC⟩
          case measure => simp [intOf]; omega
    · obtain rfl : k = s.size := by omega
      go_wp2
      go_ret
      refine ⟨u32Of_mk ?_, rfl⟩
      have := H.out
      rw [List.take_of_length_le (by simp)] at this
      rw [crcV, this]
      omega

end Go.Proofs.Ytjcpepjhnnpbpaa
