/- Contracts of layer 4: a checksum's struct. -/
import Derived.Test.YtjcpepjhnnpbpaaSumsC
import Derived.Great.FillDense
import Derived.Deep.QuietTactic
import Derived.BigQuiet
namespace Go.Proofs.Ytjcpepjhnnpbpaa
open Go.ChangeShapes Go.WideShapes Go.ChangeAt Go.RowKit
set_option linter.unusedVariables false

/-- A checksum's struct: its register, and the table. -/
def crcCells (r : Nat) : Array Value := #[.int .u32 r] ++ tabV
theorem tabV_size : tabV.size = 256 := tabA_size 256
theorem crcCells_size (r : Nat) : (crcCells r).size = 257 := by simp [crcCells, tabV_size]
theorem crcCells_zero (r : Nat) : (crcCells r)[0]? = some (.int .u32 r) := by
  rw [crcCells, Array.getElem?_append_left (by simp)]
  rfl
theorem crcCells_succ (r : Nat) {j : Nat} (hj : j < 256) : (crcCells r)[j + 1]? = some (.int .u32 (crcByte j : Nat)) := by
  rw [crcCells, Array.getElem?_append_right (by simp)]
  simp only [List.size_toArray, List.length_singleton, Nat.add_sub_cancel]
  rw [tabV, tabA_at hj, if_pos hj]
theorem crcCells_set (r q : Nat) : (crcCells r).setIfInBounds 0 (.int .u32 q) = crcCells q := by
  apply Array.ext_getElem?
  intro i
  cases i with
  | zero => rw [Array.getElem?_setIfInBounds_self_of_lt (by rw [crcCells_size]; omega), crcCells_zero]
  | succ i =>
    rw [Array.getElem?_setIfInBounds_ne (by omega)]
    by_cases hi : i < 256
    · rw [crcCells_succ r hi, crcCells_succ q hi]
    · rw [Array.getElem?_eq_none (by rw [crcCells_size]; omega), Array.getElem?_eq_none (by rw [crcCells_size]; omega)]

theorem built_of {P : Program} {t : TypeId} {fields : Array Field} {z : Value} {places : List (Nat × Nat)} {parts : List (Nat × Value)} (hi : (P.info? t).map (·.zero) = some (some z)) (hu : P.underlying t = some (.struct fields))
    (hp : (fields.toList.mapM fun f => (P.info? f.type).map fun i => (f.offset, i.size)) = some places) : P.built t parts = Instr.fill (places.toArray[·]?) z.cells parts := by
  cases hq : P.info? t with
  | none => simp [hq] at hi
  | some it =>
    have hz : it.zero = some z := by simpa [hq] using hi
    simp [Program.built, hq, hu, hz, hp]
theorem fill_crc (r : Nat) (T : Array Value) (hT : T.size = 256) :
    Instr.fill (([(0, 1), (1, 256)] : List (Nat × Nat)).toArray[·]?) (Value.agg (Array.replicate 257 (.int .u32 0))).cells [(0, .int .u32 r), (1, .agg T)] = some (#[.int .u32 r] ++ T) := by
  show Instr.fill _ (Array.replicate 257 (.int .u32 0)) _ = _
  unfold Instr.fill
  show (if _ then none else _) = _
  rw [if_neg (by simp [Value.cells])]
  unfold Instr.fill
  show (if _ then none else _) = _
  rw [if_neg (by
    rw [← Array.foldl_toList, Array.toList_zipIdx, (Go.Great.foldl_set 0 _ 0 _).1]
    simp [Value.cells, hT])]
  unfold Instr.fill
  congr 1
  rw [← Array.foldl_toList, ← Array.foldl_toList, Array.toList_zipIdx, Array.toList_zipIdx]
  apply Array.ext_getElem?
  intro k
  rw [(Go.Great.foldl_set 1 _ 0 _).2 k, (Go.Great.foldl_set 0 _ 0 _).2 k, (Go.Great.foldl_set 0 _ 0 _).1, Array.size_replicate]
  show (if 1 + 0 ≤ k ∧ k < 1 + 0 + T.toList.length ∧ k < 257 then T.toList[k - (1 + 0)]? else if 0 + 0 ≤ k ∧ k < 0 + 0 + 1 ∧ k < 257 then [Value.int .u32 r][k - (0 + 0)]? else _) = _
  rw [Array.length_toList, hT]
  by_cases h0 : k = 0
  · subst h0
    rw [if_neg (by omega), if_pos (by omega), Array.getElem?_append_left (by simp)]
    rfl
  · by_cases h1 : k < 257
    · rw [if_pos (by omega), Array.getElem?_append_right (by simp; omega)]
      simp
    · rw [if_neg (by omega), if_neg (by omega), Array.getElem?_eq_none (by simp; omega), Array.getElem?_eq_none (by simp [hT]; omega)]
theorem info_crc : (Try.prog.info? 40).map (·.zero) = some (some (.agg (Array.replicate 257 (.int .u32 0)))) := by kernel_rfl
theorem built_crc : Try.prog.built 40 [(0, .int .u32 4294967295), (1, .agg tabV)] = some (crcCells 4294967295) := by
  rw [built_of info_crc Try.underlying40 (places := [(0, 1), (1, 256)]) (by kernel_rfl)]
  exact fill_crc 4294967295 tabV tabV_size

theorem wpList_built {P : Program} {ops : Array Oper} {rest : List Oper} {o : Oper} {a : Act} {w : World} {Q : Exit → Act → World → Prop} (hg : o.guard = none) (t : TypeId) (parts : Array (Nat × Operand)) (ho : o.op = .build t parts)
    (cells : Array Value) (hb : P.built t (parts.map fun (i, x) => (i, a.eval x)).toList = some cells)
    (h : wpList P ops Q rest (a.put o.dst (.agg cells)) w) : wpList P ops Q (o :: rest) a w :=
  wpList_build hg t parts ho (by rw [hb]; rfl) (by rw [hb]; exact h)

set_option maxRecDepth 100000 in
theorem New_any (w : World) :
    Calls Try.prog 7 #[] w fun e w' => ∃ g, e = .returned (.pointer (some ⟨g, 0, none⟩)) ∧ w.heap.size ≤ g ∧ w'.heap[g]? = some (.cells (crcCells 4294967295) 40 (0, 0)) ∧ Below w.heap.size w w' := by
  have hE := fun w => effects_any w
  have hb := built_crc
  obtain ⟨T, hT⟩ : ∃ T, T = crcCells 4294967295 := ⟨_, rfl⟩
  rw [← hT] at hb ⊢
  clear hT
  generalize tabV = V at hE hb
  have HE := Lib.hid hE
  have HB := Lib.hid hb
  clear hE hb
  go_enter Try.func7, Try.ntmps7
  go_wp2_with (first | ((with_reducible refine (HE.out _).mono ?_); rintro e w' ⟨rfl, hb⟩) | (refine wpList_built rfl 40 _ rfl T (by simp only [Act.eval]; simpa using HB.out) ?_))
  go_ret
  exact ⟨_, rfl, hb.size, heap_alloc_new _ _, hb.alloc hb.size _⟩

/-- Block g holds a checksum with the register r. -/
def IsCrc (g r : Nat) (w : World) : Prop := w.heap[g]? = some (.cells (crcCells r) 40 (0, 0))
theorem IsCrc.reg {g r : Nat} {w : World} (h : IsCrc g r w) : w.cell? ⟨g, 0, none⟩ = some (.int .u32 r) := by
  rw [cell_of_row _ _ 0 _ _ _ h, crcCells_zero]
theorem IsCrc.tab {g r : Nat} {w : World} (h : IsCrc g r w) {j : Nat} (hj : j < 256) : w.cell? ⟨g, j + 1, none⟩ = some (.int .u32 (crcByte j : Nat)) := by
  rw [cell_of_row _ _ (j + 1) _ _ _ h, crcCells_succ r hj]
theorem IsCrc.fro {g r : Nat} {w : World} (h : IsCrc g r w) (j : Nat) : w.frozen? ⟨g, j, none⟩ = false := by
  have : w.heap[g]? = some (.cells (crcCells r) 40 (0, 0)) := h
  simp [World.frozen?, this]
theorem IsCrc.set {g r : Nat} {w : World} (h : IsCrc g r w) (q : Nat) : IsCrc g q (w.setCell ⟨g, 0, none⟩ (.int .u32 q)) := by
  unfold IsCrc
  rw [heap_setCell_at 0 _ h, crcCells_set]
theorem IsCrc.below {g r B : Nat} {w w' : World} (h : IsCrc g r w) (hb : Below B w w') (hg : g < B) : IsCrc g r w' := (hb.block g hg).trans h
theorem IsCrc.lt {g r : Nat} {w : World} (h : IsCrc g r w) : g < w.heap.size := (Array.getElem?_eq_some_iff.1 h).1
theorem IsCrc.drewN {g r : Nat} {w : World} (h : IsCrc g r w) (n : Nat) : IsCrc g r (w.drewN n) := h

theorem below_drewN {B : Nat} {a w : World} (h : Below B a w) (n : Nat) : Below B a (w.drewN n) := ⟨h.os, h.tape, h.output, h.size, h.block⟩

theorem not_u32 {r : Nat} (hr : r < 4294967296) : bits .xor .u32 4294967295 (r : Int) = ((4294967295 - r : Nat) : Int) := by
  have := u32_xor_nat 4294967295 r (by decide) hr
  have e := xor_not 0 (4294967295 - r) (by decide) (by omega)
  rw [Nat.zero_xor, show 4294967295 - (4294967295 - r) = r from by omega, Nat.sub_zero] at e
  rw [e] at this
  exact this

theorem Sum_any (g r : Nat) (hr : r < 4294967296) (w : World) (h : IsCrc g r w) :
    Calls Try.prog 9 #[.pointer (some ⟨g, 0, none⟩)] w fun e w' => e = u32Of (4294967295 - r) ∧ w = w' := by
  have hc := h.reg
  have HN := Lib.hid (not_u32 hr)
  go_enter Try.func9, Try.ntmps9
  go_wp2
  go_ret
  exact ⟨u32Of_mk HN.out, rfl⟩

theorem Sum_nil (w : World) :
    Calls Try.prog 9 #[.pointer none] w fun e w' => e = u32Of 0 ∧ w = w' := by
  go_enter Try.func9, Try.ntmps9
  go_wp2
  go_ret
  exact ⟨rfl, rfl⟩

theorem Add_nil (s : ByteArray) (w : World) :
    Calls Try.prog 8 #[.pointer none, .string s] w fun e w' => e = .returned (.tuple #[]) ∧ w = w' := by
  go_enter Try.func8, Try.ntmps8
  go_wp2
  refine bodyPost_ret (results_none rfl _ _ _) rfl ⟨rfl, rfl⟩

theorem u8_index (x : Nat) (c : UInt8) : bits .xor .u8 ((x : Int) % 256) (c.toNat : Int) = (((x % 256) ^^^ c.toNat : Nat) : Int) :=
  u8_xor_nat (x % 256) c.toNat (by omega) (by have := c.toNat_lt; omega)
theorem u8_index_lt (x : Nat) (c : UInt8) : (x % 256) ^^^ c.toNat < 256 := Nat.xor_lt_two_pow (n := 8) (by omega) (by have := c.toNat_lt; omega)
theorem crc_next {x j : Nat} {c : UInt8} (hx : x < 4294967296) (hj : j < 256) (h : (x % 256) ^^^ c.toNat = j) : bits .xor .u32 ((x : Int) / 256) (crcByte j : Nat) = ((crcStep x c : Nat) : Int) := by
  rw [crcStep_table, h]
  exact u32_xor_nat (x / 256) (crcByte j) (by omega) (crcBits_lt 8 (by omega))

theorem Add_any (g r : Nat) (hr : r < 4294967296) (s : ByteArray) (hs : s.size ≤ maxLen) (w : World) (h : IsCrc g r w) :
    Calls Try.prog 8 #[.pointer (some ⟨g, 0, none⟩), .string s] w fun e w' => e = .returned (.tuple #[]) ∧ IsCrc g (crcFold r s.data.toList) w' ∧ ∀ B, B ≤ g → Below B w w' := by
  unfold maxLen at hs
  have hc := h.reg
  have hf := h.fro 0
  have HC := Lib.hid h
  clear h
  go_enter Try.func8, Try.ntmps8
  go_wp2
  go_loopw [4, 14] (fun a i wr => ∃ (k x n : Nat), k ≤ s.size ∧ i = .int .i64 k ∧ a = .int .u32 x ∧ x < 4294967296 ∧ Hid (crcFold r (s.data.toList.take k) = x) ∧ wr = w.drewN n) (fun _ i _ => s.size - (intOf i).toNat)
  case atStart => exact ⟨0, r, 0, by omega, rfl, rfl, hr, Lib.hid rfl, rfl⟩
  case round =>
    obtain ⟨k, x, n, hk, rfl, rfl, hx, H, rfl⟩ := hrel
    by_cases hlt : k < s.size
    · have HB := Lib.hid (crcFold_take_succ r s.data.toList k s[k] (byte_some s hlt))
      have hb := (s[k]).toNat_lt
      obtain ⟨j, hj, HJ⟩ : ∃ j, j < 256 ∧ Hid ((x % 256) ^^^ (s[k]).toNat = j) := ⟨_, u8_index_lt x s[k], Lib.hid rfl⟩
      have hI := u8_index x s[k]
      rw [HJ.out, ← IntKind.wrap_u8'] at hI
      have ht := HC.out.tab hj
      rw [Nat.add_comm] at ht
      have HN := Lib.hid (crc_next hx hj HJ.out)
      obtain ⟨y, hy, HY⟩ : ∃ y, y < 4294967296 ∧ Hid (crcStep x s[k] = y) := ⟨crcStep x s[k], crcStep_lt hx s[k], Lib.hid rfl⟩
      rw [H.out, HY.out] at HB
      rw [HY.out] at HN
      have hji : (j : Int) < 256 := by omega
      generalize crcByte j = v at ht HN
      go_wp2_with fail
      go_quiet (fail)
      go_wp2
      go_roundw
      case rel => exact ⟨k + 1, y, n + nq, by omega, by go_num, by rw [HN.out], hy, HB, rfl⟩
      case measure => simp [intOf]; omega
    · obtain rfl : k = s.size := by omega
      have hc' : (w.drewN n).cell? ⟨g, 0, none⟩ = some (.int .u32 r) := hc
      have hf' : (w.drewN n).frozen? ⟨g, 0, none⟩ = false := hf
      have HX : Hid (crcFold r s.data.toList = x) := Lib.hid (by have := H.out; rwa [List.take_of_length_le (by simp)] at this)
      go_wp2
      go_end0
      refine ⟨rfl, ?_, fun B hB => ?_⟩
      · rw [HX.out]
        exact IsCrc.set (HC.out.drewN n) x
      · exact (below_drewN (Below.refl B w) n).setCell hB _

end Go.Proofs.Ytjcpepjhnnpbpaa
