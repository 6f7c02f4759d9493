/- Contracts of layer 6: numbers in sixteens, by Go's library. -/
import Derived.Test.YtioddoojjmeknaaDoorLexC
import Derived.Lib.ConvBytes
import Derived.Lib.Walk
import Derived.Lib.ParseIntBMem
import Derived.Laws.Strings3
namespace Go.Proofs.YtioddoojjmeknaaDoor
open Go.ChangeShapes Go.WideShapes Go.ChangeAt Go.RowKit
set_option linter.unusedVariables false

set_option maxRecDepth 100000 in
theorem or_low : ∀ n : Nat, n < 256 → (65 ≤ n ∧ n ≤ 70 ∨ 97 ≤ n ∧ n ≤ 102) → bits .or .u8 (n : Int) 32 = (((if 97 ≤ n then n else n + 32) : Nat) : Int) := by decide
theorem lower_any (c : UInt8) (h : isX c = true) (h2 : isD c = false) (w : World) :
    Calls Tryd.prog 79 #[.int .u8 (c.toNat : Int)] w fun e w' => e = .returned (.int .u8 ((dv c : Int) + 87)) ∧ w' = w := by
  have hx := h
  have hd := h2
  simp only [isX, decide_eq_true_eq] at hx
  simp only [isD, decide_eq_false_iff_not] at hd
  have e := or_low c.toNat (by have := c.toNat_lt; omega) (by omega)
  have e2 : (((if 97 ≤ c.toNat then c.toNat else c.toNat + 32) : Nat) : Int) = (dv c : Int) + 87 := by
    unfold dv
    split <;> (try split) <;> omega
  rw [e2] at e
  have HE := Lib.hid e
  clear e e2 hx hd h h2
  go_enter Tryd.func79, Tryd.ntmps79
  go_wp2_with (simp only [HE.out])
  go_ret
  exact ⟨rfl, rfl⟩
/-- What ParseUint's own core hands back. -/
def ipuV (v : Nat × Nat) : Value := if v.2 = 0 then .tuple #[.int .u64 v.1, .nilIface] else .tuple #[.int .u64 18446744073709551615, .iface 113 (.int .i64 1)]

set_option maxHeartbeats 4000000 in
set_option maxRecDepth 100000 in
theorem ipu16 (t : ByteArray) (hne : t.size ≠ 0) (hmax : t.size ≤ 140737488355328) (hx : t.data.toList.all isX = true) (w : World) :
    Calls Tryd.prog 75 #[.string t, .int .i64 16, .int .i64 64] w fun e w' => e = .returned (ipuV (numV 16 t.data.toList)) ∧ Below w.heap.size w w' := by
  have hemp : t.toList.isEmpty = false := by
    rw [← decide_eq_emptyBytes]
    exact decide_eq_false (fun h => hne (by rw [h]; rfl))
  have hcv := Lib.run_convert_string_bytes (P := Tryd.prog) w 9 48 5 t (u := .string) Tryd.underlying9 Tryd.underlying48 Tryd.underlying5
  have hB : ∀ j, j < t.size → (Lib.bytesWorld w 5 t).cell? ⟨w.heap.size, j, none⟩ = some (.int .u8 (t.data.toList.getD j 0).toNat) := fun j hj => Lib.bytesWorld_cell w 5 t j hj
  have hbl : Below w.heap.size w (Lib.bytesWorld w 5 t) := Lib.bytesWorld_below _ _ _
  obtain ⟨W1, hW1⟩ : ∃ W1, W1 = Lib.bytesWorld w 5 t := ⟨_, rfl⟩
  rw [← hW1] at hcv hB hbl
  clear hW1
  have hmv : IntKind.u64.wrap (IntKind.u64.wrap 18446744073709551616 - 1) = 18446744073709551615 := by
    rw [IntKind.wrap_u64, IntKind.wrap_u64]
    decide
  obtain ⟨v, HV⟩ : ∃ v, Hid (v = valA 16 0 t.data.toList) := ⟨_, Lib.hid rfl⟩
  have HX := Lib.hid hx
  have HBL := Lib.hid hbl
  have HB := Lib.hid hB
  clear hx hbl hB
  go_enter Tryd.func75, Tryd.ntmps75
  go_wp2_with fail
  go_loop [12, 13, 101] (fun s12 s13 s101 => ∃ (k : Nat) (a : Int), k ≤ t.size ∧ s12 = .bool false ∧ s13 = .int .u64 a ∧ s101 = .int .i64 k ∧ 0 ≤ a ∧ a < 18446744073709551616 ∧ Hid (v = valA 16 a.toNat (t.data.toList.drop k))) (fun _ _ s101 => t.size - (intOf s101).toNat)
  case atStart => exact ⟨0, 0, by omega, rfl, rfl, rfl, by omega, by omega, Lib.hid (by rw [HV.out]; rfl)⟩
  case round =>
    obtain ⟨k, a, hk, rfl, rfl, rfl, ha0, ha1, H⟩ := hrel
    by_cases hlt : k < t.size
    · have hc := HB.out k hlt
      have HD := Lib.hid (drop_byte t hlt)
      rw [List.getD_eq_getElem?_getD, byteAt t hlt, Option.getD_some] at hc
      obtain ⟨c, hcc⟩ : ∃ c, t[k] = c := ⟨_, rfl⟩
      rw [hcc] at hc HD
      clear hcc
      have hxc : isX c = true := List.all_eq_true.1 HX.out c (List.mem_of_mem_drop (i := k) (by rw [HD.out]; simp))
      have HS : Hid (v = valA 16 (a.toNat * 16 + dv c) (t.data.toList.drop (k + 1))) := Lib.hid (by rw [H.out, HD.out, valA])
      have hle : a.toNat * 16 + dv c ≤ v := by rw [HS.out]; exact valA_le (by omega) _ _
      have hd16 := dv_lt hxc
      have hv := fun h w => lower_any c hxc h w
      have h1 : isD c = true → (48 : Int) ≤ (c.toNat : Int) ∧ (c.toNat : Int) ≤ 57 ∧ (c.toNat : Int) - 48 = (dv c : Int) := fun h => by
        simp only [isD, decide_eq_true_eq] at h
        unfold dv
        rw [if_pos h.2]
        omega
      have h2 : isD c = false → ¬ ((c.toNat : Int) ≤ 57) ∧ ((c.toNat : Int) == 95) = false ∧ 10 ≤ dv c := fun h => by
        simp only [isD, decide_eq_false_iff_not] at h
        simp only [isX, decide_eq_true_eq] at hxc
        refine ⟨by omega, by simp; omega, ?_⟩
        unfold dv
        split <;> (try split) <;> omega
      have h95 : isD c = true → ((c.toNat : Int) == 95) = false := fun h => by
        simp only [isD, decide_eq_true_eq] at h
        simp; omega
      obtain ⟨d, hd⟩ : ∃ d : Nat, dv c = d := ⟨_, rfl⟩
      rw [hd] at HS hle hd16 hv h1 h2
      clear hd H HD hxc
      cases hdd : isD c
      · obtain ⟨q1, q2, q3⟩ := h2 hdd
        have HL := Lib.hid (hv hdd)
        clear h1 h2 h95 hdd hv
        by_cases hbig : 18446744073709551616 ≤ a.toNat * 16 + d
        · have HBG : Hid (numV 16 t.data.toList = (0, 5)) := Lib.hid (numV_big (by rw [← HV.out]; omega))
          by_cases hcut : 1152921504606846976 ≤ a
          · clear HS hle
            go_wp2_with (go_at_call 79; refine (HL.out _).mono ?_; rintro e w' ⟨rfl, rfl⟩)
            go_ret2
            exact ⟨by rw [HBG.out]; rfl, HBL.out⟩
          · clear HS hle
            omega
        · have hn : a * 16 + (d : Int) < 18446744073709551616 := by omega
          have hcut : ¬ 1152921504606846976 ≤ a := by omega
          have HS' : Hid (v = valA 16 (a * 16 + (d : Int)).toNat (t.data.toList.drop (k + 1))) := Lib.hid (by rw [show (a * 16 + (d : Int)).toNat = a.toNat * 16 + d from by omega]; exact HS.out)
          clear hbig hle HS
          go_wp2_with (go_at_call 79; refine (HL.out _).mono ?_; rintro e w' ⟨rfl, rfl⟩)
          refine ⟨⟨k + 1, a * 16 + (d : Int), by omega, rfl, by first | rfl | (congr 1; omega), by go_num, by omega, by omega, HS'⟩, by simp [intOf]; omega⟩
      · obtain ⟨q1, q2, q3⟩ := h1 hdd
        have q4 := h95 hdd
        clear h1 h2 h95 hdd hv
        by_cases hcut : 1152921504606846976 ≤ a
        · have HBG : Hid (numV 16 t.data.toList = (0, 5)) := Lib.hid (numV_big (by rw [← HV.out]; omega))
          clear HS hle
          go_wp2_with fail
          go_ret2
          exact ⟨by rw [HBG.out]; rfl, HBL.out⟩
        · have hn : a * 16 + (d : Int) < 18446744073709551616 := by omega
          have HS' : Hid (v = valA 16 (a * 16 + (d : Int)).toNat (t.data.toList.drop (k + 1))) := Lib.hid (by rw [show (a * 16 + (d : Int)).toNat = a.toNat * 16 + d from by omega]; exact HS.out)
          clear hle HS
          go_wp2_with fail
          refine ⟨⟨k + 1, a * 16 + (d : Int), by omega, rfl, by first | rfl | (congr 1; omega), by go_num, by omega, by omega, HS'⟩, by simp [intOf]; omega⟩
    · obtain rfl : k = t.size := by omega
      have e := H.out
      rw [drop_end, valA] at e
      have := HV.out
      have e2 := numV_small (b := 16) (l := t.data.toList) (by omega)
      have HE : Hid (numV 16 t.data.toList = (a.toNat, 0)) := Lib.hid (by rw [e2, ← HV.out, e])
      have ha : ((a.toNat : Nat) : Int) = a := by omega
      have HA := Lib.hid ha
      clear e this e2 H ha
      go_wp2_with fail
      go_ret2
      refine ⟨?_, HBL.out⟩
      rw [HE.out]
      show _ = Ending.returned (.tuple #[.int .u64 ((a.toNat : Nat) : Int), .nilIface])
      rw [HA.out]
      rfl
end Go.Proofs.YtioddoojjmeknaaDoor
