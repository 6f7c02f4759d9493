/- Contracts of layer 4: Crc32, and the document's fixed examples. -/
import Derived.Test.YtjcpepjhnnpbpaaSumsD
namespace Go.Proofs.Ytjcpepjhnnpbpaa
open Go.ChangeShapes Go.WideShapes Go.ChangeAt Go.RowKit
set_option linter.unusedVariables false

/-- One callee more. -/
theorem chain4 {B : Nat} {a b c : World} (h : Below B a b) (hB : B ≤ a.heap.size) (k : Below b.heap.size b c) : Below B a c := h.trans (k.mono (Nat.le_trans hB h.size))

theorem Crc32_any (s : ByteArray) (hs : s.size ≤ maxLen) (w : World) :
    Calls Try.prog 12 #[.string s] w fun e w' => e = u32Of (crcV s.data.toList) ∧ Below w.heap.size w w' := by
  go_enter Try.func12, Try.ntmps12
  go_wp2_with fail
  refine (New_any _).mono ?_; rintro e w1 ⟨g, rfl, hg, hc, hb1⟩
  have HN := Lib.hid (Add_any g 4294967295 (by decide) s hs w1 hc)
  clear hc
  go_wp2_with fail
  refine HN.out.mono ?_; rintro e w2 ⟨rfl, hc2, hb2⟩
  have HS := Lib.hid (Sum_any g _ (crcFold_lt (by decide) s.data.toList) w2 hc2)
  have HB := Lib.hid (hb1.trans (hb2 _ hg))
  clear hc2 hb2 hb1
  go_wp2_with fail
  refine HS.out.mono ?_; rintro e w3 ⟨rfl, rfl⟩
  go_wp2_with fail
  go_ret
  exact ⟨rfl, HB.out⟩

theorem crc_wakes : crcV [49, 50, 51, 52, 53, 54, 55, 56, 57] = 3421780262 := by decide +kernel
theorem adler_wakes : adV [87, 105, 107, 105, 112, 101, 100, 105, 97] = 300286872 := by decide +kernel

theorem wakes_any (w : World) : Calls Try.prog 11 #[] w fun e w' => e = .returned (.bool true) ∧ Below w.heap.size w w' := by
  have h1 := fun w => Crc32_any ⟨#[49, 50, 51, 52, 53, 54, 55, 56, 57]⟩ (by decide) w
  have h2 := fun w => Adler32_any ⟨#[87, 105, 107, 105, 112, 101, 100, 105, 97]⟩ (by decide) w
  simp only [crc_wakes] at h1
  simp only [adler_wakes] at h2
  have H1 := Lib.hid h1; have H2 := Lib.hid h2
  clear h1 h2
  go_enter Try.func11, Try.ntmps11
  go_wp2_with fail
  refine (H1.out _).mono ?_; rintro e w1 ⟨rfl, b1⟩
  go_wp2_with fail
  refine (H2.out _).mono ?_; rintro e w2 ⟨rfl, rfl⟩
  go_wp2_with fail
  go_ret
  exact ⟨rfl, b1⟩

theorem SumsAdler_walk (a0 : ByteArray) (w0 : a0.size ≤ maxLen) (w : World) :
    Calls Try.prog 4 #[.string a0] w fun e w' => e = .returned (.bool true) ∧ Below w.heap.size w w' := by
  have H1 := Lib.hid (fun w => Adler32_any a0 w0 w)
  have H2 := Lib.hid (fun w => refAdler32_any a0 w0 w)
  go_enter Try.func4, Try.ntmps4
  go_wp2_with fail
  refine (wakes_any _).mono ?_; rintro e w1 ⟨rfl, b1⟩
  go_wp2_with fail
  refine (H1.out _).mono ?_; rintro e w2 ⟨rfl, rfl⟩
  go_wp2_with fail
  refine (H2.out _).mono ?_; rintro e w2 ⟨rfl, rfl⟩
  go_wp2_with fail
  go_ret
  exact ⟨rfl, b1⟩

end Go.Proofs.Ytjcpepjhnnpbpaa
