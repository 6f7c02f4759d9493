/- Contracts of layer 6: the place behind a text. -/
import Derived.Test.YtioddoojjmeknaaDoorLexJ
import Derived.StillTailTactics
namespace Go.Proofs.YtioddoojjmeknaaDoor
open Go.ChangeShapes Go.WideShapes Go.ChangeAt Go.RowKit
set_option linter.unusedVariables false

theorem byteBang (s : ByteArray) (j : Nat) (hj : j < s.size) : s.data[j]! = s[j] := by
  simp [getElem!_pos, hj]
  rfl
theorem last_split (s : ByteArray) : (Lib.lastIndexByte s 10 = -1 ∧ s.data.toList.count 10 = 0) ∨
    ∃ (a b : List UInt8), Lib.lastIndexByte s 10 = (a.length : Int) ∧ s.data.toList = a ++ 10 :: b ∧ b.count 10 = 0 := by
  have at10 : ∀ j (h : j < s.size), (((s.data[j]!).toNat : Int) = 10 ↔ s[j] = 10) := fun j h => by
    rw [byteBang s j h, ← UInt8.toNat_inj]
    show ((s[j].toNat : Int) = 10 ↔ s[j].toNat = 10)
    omega
  rcases Lib.lastIdx_spec s 10 s.size with ⟨h1, h2⟩ | ⟨i, hi, h1, h2, h3⟩
  · refine .inl ⟨h1, List.count_eq_zero.2 fun hm => ?_⟩
    obtain ⟨j, hj, he⟩ := List.getElem_of_mem hm
    have hj' : j < s.size := by rw [size_list]; exact hj
    exact h2 j hj' ((at10 j hj').2 he)
  · refine .inr ⟨s.data.toList.take i, s.data.toList.drop (i + 1), ?_, ?_, List.count_eq_zero.2 fun hm => ?_⟩
    · show Lib.lastIdx s 10 s.size = _
      rw [h1, List.length_take, ← size_list, Nat.min_eq_left (by omega)]
    · have hd := drop_byte s hi
      rw [(at10 i hi).1 h2] at hd
      rw [← hd, List.take_append_drop]
    · obtain ⟨j, hj, he⟩ := List.getElem_of_mem hm
      rw [List.length_drop, ← size_list] at hj
      have hj' : i + 1 + j < s.size := by omega
      rw [List.getElem_drop] at he
      exact h3 (i + 1 + j) (by omega) hj' ((at10 _ hj').2 he)

theorem behind_any (p : Ps) (s : ByteArray) (hp1 : p.1 ≤ 1000000) (hp2 : p.2 ≤ 1000000) (hs : s.size ≤ 1000000) (w : World) :
    Calls Tryd.prog 20 #[.agg #[.int .i64 p.1, .int .i64 p.2], .string s] w fun e w' => e = .returned (.agg #[.int .i64 (posL p s.data.toList).1, .int .i64 (posL p s.data.toList).2]) ∧ Below w.heap.size w w' := by
  have hL := fun w => Tryd.strings_LastIndexByte s 10 (by omega) w
  have hC := fun w => Tryd.strings_Count_one s 10 w
  have hcl : s.data.toList.count 10 ≤ s.size := by rw [size_list]; exact List.count_le_length
  have hp := posL_count s.data.toList p
  obtain ⟨x, y⟩ := p
  simp only at hp1 hp2 hp
  rcases last_split s with ⟨h1, h2⟩ | ⟨a, b, h1, h2, h3⟩
  · have hq := posL_no _ (x, y) h2
    rw [h1] at hL
    have HL := Lib.hid hL
    have HQ := Lib.hid hq
    have HS := Lib.hid (size_list s)
    clear hL hC hp hq h1 h2 hcl
    go_enter Tryd.func20, Tryd.ntmps20
    go_wp2_with (go_at_call 38; refine (HL.out _).mono ?_; rintro e w' ⟨rfl, rfl⟩)
    refine bodyPost_ret (v := .agg #[.int .i64 x, .int .i64 ((y : Int) + s.size)]) (by simp [results, Tryd.results20, go_sem]) rfl ⟨?_, (below_box _ _).alloc (below_box _ _).size _⟩
    rw [HQ.out, HS.out]
    rfl
  · have hq : posL (x, y) s.data.toList = (x + s.data.toList.count 10, 1 + b.length) := Prod.ext hp (by rw [h2]; exact posL_last a b (x, y) h3)
    have hsz : s.size = a.length + 1 + b.length := by rw [size_list, h2]; simp; omega
    rw [h1] at hL
    have HC : Hid (∀ w, Calls Tryd.prog 16 #[.string s, .string ⟨#[10]⟩] w fun e w' => e = .returned (.int .i64 (s.data.toList.count 10 : Nat)) ∧ w' = w) := Lib.hid hC
    have HL := Lib.hid hL
    have HQ := Lib.hid hq
    obtain ⟨i, hi⟩ : ∃ i, a.length = i := ⟨_, rfl⟩
    obtain ⟨n, hn⟩ : ∃ n, s.data.toList.count 10 = n := ⟨_, rfl⟩
    obtain ⟨m, hm⟩ : ∃ m, b.length = m := ⟨_, rfl⟩
    rw [hi] at HL hsz
    rw [hn] at HC HQ hcl
    rw [hm] at HQ hsz
    clear hL hC hp hq h1 h2 h3 hi hn hm
    go_enter Tryd.func20, Tryd.ntmps20
    go_wp2_with (go_at_call 38; refine (HL.out _).mono ?_; rintro e w' ⟨rfl, rfl⟩)
    have w1 : IntKind.i64.wrap ((x : Int) + n) = (x : Int) + n := IntWalk.i64_in _ (by omega)
    have w2 : IntKind.i64.wrap ((i : Int) + 1 + m - i) = 1 + (m : Int) := by rw [IntWalk.i64_in _ (by omega)]; omega
    go_region_with (go_at_call 16; refine (HC.out _).mono ?_; rintro e w' ⟨rfl, rfl⟩)
    all_goals
      go_wp2_with fail
      refine bodyPost_ret (v := .agg #[.int .i64 ((x : Int) + n), .int .i64 (1 + (m : Int))]) (by simp [results, Tryd.results20, go_sem]) rfl ⟨?_, ?_⟩
      · rw [HQ.out]
        simp
      · exact Below.drew ((below_box _ _).alloc (below_box _ _).size _)
end Go.Proofs.YtioddoojjmeknaaDoor
