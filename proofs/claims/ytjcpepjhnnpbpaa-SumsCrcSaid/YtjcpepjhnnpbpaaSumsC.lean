/- Contracts of layer 4: the table of effects. -/
import Derived.Test.YtjcpepjhnnpbpaaSumsB
import Derived.Deep.WholeRow
namespace Go.Proofs.Ytjcpepjhnnpbpaa
open Go.ChangeShapes Go.WideShapes Go.ChangeAt Go.RowKit
set_option linter.unusedVariables false

/-- The table, filled below k. -/
def tabA (k : Nat) : Array Value := ((List.range 256).map fun j => Value.int .u32 ((if j < k then crcByte j else 0 : Nat) : Int)).toArray
theorem tabA_size (k : Nat) : (tabA k).size = 256 := by simp [tabA]
theorem tabA_at {k j : Nat} (hj : j < 256) : (tabA k)[j]? = some (.int .u32 ((if j < k then crcByte j else 0 : Nat) : Int)) := by simp [tabA, hj]
theorem tabA_zero : tabA 0 = Array.replicate 256 (.int .u32 0) := by
  apply Array.ext
  · simp [tabA]
  · intro i h1 h2
    simp [tabA]
theorem tabA_succ (k : Nat) : tabA (k + 1) = (tabA k).setIfInBounds k (.int .u32 (crcByte k : Nat)) := by
  apply Array.ext_getElem?
  intro i
  rw [Array.getElem?_setIfInBounds]
  by_cases hi : i < 256
  · rw [tabA_at hi, tabA_at hi, tabA_size]
    by_cases h : k = i
    · subst h
      simp [hi]
    · rw [if_neg h]
      congr 4
      exact propext ⟨fun _ => by omega, fun _ => by omega⟩
  · have h1 : ∀ k, (tabA k)[i]? = none := fun k => Array.getElem?_eq_none (by rw [tabA_size]; omega)
    rw [h1, h1, tabA_size]
    split
    · split
      · omega
      · rfl
    · rfl
theorem tabA_one (k : Nat) : (tabA k).all (·.oneCell') = true :=
  Array.all_eq_true_iff_forall_mem.2 fun v hv => by
    simp only [tabA, List.mem_toArray, List.mem_map] at hv
    obtain ⟨j, _, rfl⟩ := hv
    rfl
/-- The whole table. -/
def tabV : Array Value := tabA 256

theorem heap_setCell_at {w : World} {g : Nat} (i : Nat) {cur : Array Value} {t : TypeId} {fr : Nat × Nat} (v : Value) (hg : w.heap[g]? = some (.cells cur t fr)) :
    (w.setCell ⟨g, i, none⟩ v).heap[g]? = some (.cells (cur.setIfInBounds i v) t fr) := by
  rw [setCell_eq_setRow w g i cur t fr v hg]
  exact setRow_heap w g cur _ t fr hg

theorem below_setRow {B : Nat} {a w : World} (h : Below B a w) {g : Nat} (hg : B ≤ g) (cs : Array Value) : Below B a (w.setRow g cs) :=
  ⟨h.os, h.tape, h.output, by rw [setRow_size]; exact h.size, fun i hi => (setRow_other w g i cs (by omega)).trans (h.block i hi)⟩

theorem info_tab : (Try.prog.info? 37).map (fun i => (i.zero, i.size)) = some (some (.agg (Array.replicate 256 (.int .u32 0))), 256) := by kernel_rfl

theorem and_one {r : Nat} (hr : r < 4294967296) : bits .and .u32 (r : Int) 1 = ((r % 2 : Nat) : Int) := by
  have := u32_and_nat r 1 hr (by decide)
  rw [Nat.and_one_is_mod] at this
  exact this
theorem xor_none {r : Nat} (hr : r < 4294967296) : bits .xor .u32 (r : Int) 0 = (r : Int) := by
  have := u32_xor_nat r 0 hr (by decide)
  rw [Nat.xor_zero] at this
  exact this

set_option maxRecDepth 100000 in
theorem effects_any (w : World) :
    Calls Try.prog 16 #[] w fun e w' => e = .returned (.agg tabV) ∧ Below w.heap.size w w' := by
  obtain ⟨hz, hi⟩ := zero_of_info info_tab
  rw [← tabA_zero] at hz
  obtain ⟨Z, hZ, hzs, HZ⟩ : ∃ Z : Array Value, (∀ w, (zeroValue 37).run Try.prog w = .ok (.agg Z) w) ∧ Z.size = 256 ∧ Hid (tabA 0 = Z) := ⟨_, hz, tabA_size 0, Lib.hid rfl⟩
  clear hz
  have HI := Lib.hid hi
  clear hi
  go_enter Try.func16, Try.ntmps16
  go_wp2
  go_loopw [5] (fun i wr => ∃ k : Nat, k ≤ 256 ∧ i = .int .i64 k ∧ Below w.heap.size w wr ∧ wr.heap[w.heap.size]? = some (.cells Z 37 (0, 0)) ∧ wr.heap[w.heap.size + 1]? = some (.cells (tabA k) 37 (0, 0))) (fun i _ => 256 - (intOf i).toNat)
  case atStart => exact ⟨0, by omega, rfl, ((Below.refl _ _).alloc (Nat.le_refl _) _).alloc (by simp) _, by rw [Below.heap_alloc _ _ _ (by simp)]; exact heap_alloc_new _ _, by rw [HZ.out]; exact heap_alloc2_new _ _ _⟩
  case round =>
    obtain ⟨k, hk, rfl, hb, h0, h1⟩ := hrel
    by_cases hlt : k < 256
    · have hcell : wr.cell? ⟨w.heap.size + 1, k, none⟩ = some (.int .u32 0) := by
        rw [cell_of_row _ _ k _ _ _ h1, tabA_at hlt, if_neg (by omega)]
        rfl
      have hfro : wr.frozen? ⟨w.heap.size + 1, k, none⟩ = false := by simp [World.frozen?, h1]
      have H0 := Lib.hid h0
      have H1 := Lib.hid h1
      clear h0 h1
      go_wp2
      go_loop [3, 10] (fun r j => ∃ (m z : Nat), m ≤ 8 ∧ j = .int .i64 m ∧ r = .int .u32 z ∧ z < 4294967296 ∧ Hid (crcBits m k = z)) (fun _ j => 8 - (intOf j).toNat)
      case atStart => exact ⟨0, k, by omega, rfl, rfl, by omega, Lib.hid rfl⟩
      case round =>
        obtain ⟨m, z, hm, rfl, rfl, hz, HZ'⟩ := hrel
        by_cases hlt2 : m < 8
        · have hdm : decide ((m : Int) < 8) = true := by simp; omega
          have HC : Hid (crcBits (m + 1) k = crcBit z) := Lib.hid (by rw [crcBits, HZ'.out])
          have HA := Lib.hid (and_one hz)
          by_cases hodd : z % 2 = 1
          · have HO := Lib.hid (crcBit_odd hz hodd)
            rw [hodd] at HA
            obtain ⟨z', hz1, HZ2⟩ : ∃ z', z' < 4294967296 ∧ Hid (crcBit z = z') := ⟨_, crcBit_lt hz, Lib.hid rfl⟩
            rw [HZ2.out] at HO HC
            clear hodd
            go_wp2_with (first | (simp only [HA.out]) | (simp only [HO.out]))
            go_round
            case rel => exact ⟨m + 1, z', by omega, by go_num, rfl, hz1, HC⟩
            case measure => simp [intOf]; omega
          · have HO := Lib.hid (crcBit_even hodd)
            have HX := Lib.hid (xor_none (show z / 2 < 4294967296 by omega))
            rw [show z % 2 = 0 from by omega] at HA
            obtain ⟨z', hz1, HZ2⟩ : ∃ z', z' < 4294967296 ∧ Hid (crcBit z = z') := ⟨_, crcBit_lt hz, Lib.hid rfl⟩
            rw [HZ2.out] at HO HC
            clear hodd
            go_wp2_with (first | (simp only [HA.out]) | (simp only [HX.out]))
            go_round
            case rel => exact ⟨m + 1, z', by omega, by go_num, by rw [← HO.out]; exact congrArg _ HX.out, hz1, HC⟩
            case measure => simp [intOf]; omega
        · obtain rfl : m = 8 := by omega
          go_wp2
          go_roundw
          case rel =>
            refine ⟨k + 1, by omega, by go_num, hb.setCell (Nat.le_succ _) _, ?_, ?_⟩
            · rw [Below.heap_setCell _ _ _ _ (by simp)]
              exact H0.out
            · rw [heap_setCell_at k _ H1.out, tabA_succ, ← HZ'.out]
              rfl
          case measure => simp [intOf]; omega
    · obtain rfl : k = 256 := by omega
      have H0 := Lib.hid h0
      have H1 := Lib.hid h1
      clear h0 h1
      have e1 : (Try.prog.info? 37).map (·.size) = some (tabA 256).size := by rw [tabA_size]; exact HI.out
      have E1 := Lib.hid e1
      have e2 : Z.size = (tabA 256).size := by rw [tabA_size]; exact hzs
      have E2 := Lib.hid e2
      clear e1 e2 hzs
      go_wp2_with (first | (refine wpList_load_row rfl 37 _ rfl (w.heap.size + 1) rfl 37 _ (0, 0) _ H1.out Try.underlying37 rfl E1.out ?_) | (refine wpList_store_row rfl 37 _ _ rfl w.heap.size (tabA 256) rfl rfl 37 Z H0.out E1.out E2.out (tabA_one 256) ?_))
      refine bodyPost_ret (results_cell_row rfl _ _ w.heap.size 37 (tabA 256) (0, 0) _ rfl (setRow_heap _ _ _ _ _ _ H0.out) Try.underlying37 rfl E1.out) rfl ⟨rfl, ?_⟩
      exact below_setRow hb (Nat.le_refl _) _

end Go.Proofs.Ytjcpepjhnnpbpaa
