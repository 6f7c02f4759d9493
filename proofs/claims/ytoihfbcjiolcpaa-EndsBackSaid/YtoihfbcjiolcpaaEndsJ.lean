/- Layer 2's law EndsBack. -/
import Derived.Test.YtoihfbcjiolcpaaEndsI
namespace Go.Proofs.Ytoihfbcjiolcpaa
open Go.ChangeShapes Go.WideShapes Go.ChangeAt Go.RowKit
set_option linter.unusedVariables false

/-- A number is got again of its bytes, wherever they stand. -/
theorem get_put {n k : Int} {little : Bool} {s : List UInt8} (hn : W64 n) (h : putR n k little = (s, 0)) (a b : List UInt8) : getR (a ++ s ++ b) a.length k little = (n, 0) := by
  unfold putR at h
  split at h
  · rename_i hg
    obtain ⟨m, rfl⟩ := Int.eq_ofNat_of_zero_le (a := k) (by have := good_le hg; omega)
    obtain ⟨n, rfl, hn'⟩ := u64_nat hn
    split at h
    · rename_i hf
      have hs : s = orient little (encN n m) := by simpa using (congrArg Prod.fst h).symm
      have hl : s.length = m := by rw [hs, orient_length, encN_length]
      simp only [Int.toNat_natCast] at hf
      have e : picked (a ++ s ++ b) a.length m little = encN n m := by
        rw [picked, List.append_assoc, List.drop_left, ← hl, List.take_left, hs, orient_orient, ← hs, hl]
      rw [getR_ok _ _ _ _ hg (by simp; omega), e, decN_encN, Nat.mod_eq_of_lt hf]
    · cases h
  · cases h

theorem putR_le {n k : Int} {little : Bool} {s : List UInt8} {e : Int} (h : putR n k little = (s, e)) : s.length ≤ 8 := by
  have e1 : s = (putR n k little).1 := by rw [h]
  rw [e1]
  unfold putR
  split
  · rename_i h
    have := good_le h
    split <;> simp [orient_length, encN_length]
    omega
  · simp

/-- The bytes are got again of what they are read as. -/
theorem put_get {k n : Int} {little : Bool} {l : List UInt8} (h : getR l 0 k little = (n, 0)) : putR n k little = (l.take k.toNat, 0) ∧ 0 ≤ k ∧ k ≤ l.length ∧ W64 n := by
  unfold getR at h
  split at h
  · rename_i hg
    obtain ⟨m, rfl⟩ := Int.eq_ofNat_of_zero_le (a := k) (by have := good_le hg; omega)
    have hm := good_le hg
    split at h
    · rename_i hp
      simp only [Int.toNat_zero, List.drop_zero, Int.toNat_natCast, Prod.mk.injEq, and_true] at h
      subst h
      have hl : (l.take m).length = m := by rw [List.length_take]; omega
      have hd := decN_lt (orient little (l.take m))
      rw [orient_length, hl] at hd
      have h64 := pow256_le (show m ≤ 8 from by omega)
      refine ⟨?_, by omega, by omega, by omega, by omega⟩
      simp only [putR, hg, if_true, Int.toNat_natCast, if_pos hd]
      have e := encN_decN (orient little (l.take m))
      rw [orient_length, hl] at e
      rw [e, orient_orient]
    · cases h
  · cases h

set_option maxRecDepth 100000 in
set_option maxHeartbeats 1000000 in
theorem EndsBack_walk (a0 : Int) (a1 : ByteArray) (a2 : ByteArray) (w0 : (Lit.int .u64 a0).wf = true) (w1 : a1.size ≤ maxLen) (w2 : a2.size ≤ maxLen) (z1 : a1.size ≤ reachBytes) (z2 : a2.size ≤ reachBytes) (w : World) :
    Calls Try.prog 5 #[.int .u64 a0, .string a1, .string a2] w fun e w' => e = .returned (.bool true) ∧ Below w.heap.size w w' := by
  have ha : W64 a0 := bounds_u64 w0
  unfold reachBytes at z1 z2
  go_enter Try.func5, Try.ntmps5
  go_wp2_with fail
  refine (sizes_any 1 _).mono ?_; rintro e w2' ⟨rfl, r2, b2⟩
  go_wp2_with fail
  go_loopw [21] (fun i wr => ∃ k : Nat, k ≤ 7 ∧ i = .int .i64 k ∧ Row 3 .i64 w.heap.size wr w.heap.size 7 (sizesL 1) ∧ Below w.heap.size w wr) (fun i _ => 7 - (intOf i).toNat)
  case atStart => exact ⟨0, by omega, rfl, r2, b2⟩
  case round =>
    obtain ⟨k, hk, rfl, hr, hb⟩ := hrel
    by_cases hlt : k < 7
    · have hc := hr.cell (j := k) hlt
      have hdk : decide ((k : Int) < 7) = true := by simp; omega
      generalize el (sizesL 1) k = x at hc
      have hsz := hb.size
      have hlt' := hr.lt
      obtain ⟨wo, rfl⟩ : ∃ wo : World, wo = wr := ⟨_, rfl⟩
      go_wp2_with fail
      go_loopw [11, 12, 13, 14, 15, 16, 17, 18, 27] (fun _ _ _ _ _ _ _ _ i wr => ∃ j : Nat, j ≤ 2 ∧ i = .int .i64 j ∧ Below (wo.heap.size + 1) (wo.alloc (.cells #[.bool false, .bool true] 4)) wr) (fun _ _ _ _ _ _ _ _ i _ => 2 - (intOf i).toNat)
      case atStart => exact ⟨0, by omega, rfl, Below.refl _ _⟩
      case round =>
        obtain ⟨j, hj, rfl, hbel⟩ := hrel
        by_cases hlt2 : j < 2
        · obtain ⟨l, hl⟩ : ∃ l, wr.cell? ⟨wo.heap.size, j, none⟩ = some (.bool l) := by
            rw [hbel.cell (p := ⟨wo.heap.size, j, none⟩) (Nat.lt_succ_self _)]
            obtain rfl | rfl : j = 0 ∨ j = 1 := by omega
            all_goals exact ⟨_, by simp [go_sem]; rfl⟩
          have hP := fun w => Put_any a0 x l ha w
          have hQ := fun w => Get_any a1 0 x l w1 w
          obtain ⟨s, e, hp⟩ : ∃ s e, putR a0 x l = (s, e) := ⟨_, _, rfl⟩
          obtain ⟨m, f, hq⟩ : ∃ m f, getR a1.data.toList 0 x l = (m, f) := ⟨_, _, rfl⟩
          rw [hp] at hP
          rw [hq] at hQ
          have hs8 : s.length ≤ 8 := putR_le hp
          have hsz3 := hbel.size
          simp only [World.size_alloc] at hsz3
          have HP := Lib.hid hP
          have HQ := Lib.hid hQ
          have Hp := Lib.hid hp
          have Hq := Lib.hid hq
          clear hP hQ hp hq
          have g1 : ¬ 9223372036854775807 < a1.size + s.length := by omega
          have g2 : ¬ 9223372036854775807 < a1.size + s.length + a2.size := by omega
          have HG : Hid (e = 0 → ∀ w, Calls Try.prog 15 #[.string (a1 ++ { data := s.toArray } ++ a2), .int .i64 a1.size, .int .i64 x, .bool l] w fun e w' => e = numOf (a0, 0) ∧ w = w') := Lib.hid (fun he w => by
            subst he
            have hsum : (a1 ++ ({ data := s.toArray } : ByteArray) ++ a2).size ≤ maxLen := by rw [ByteArray.size_append, ByteArray.size_append]; show a1.size + s.toArray.size + a2.size ≤ _; simp only [List.size_toArray]; unfold maxLen; omega
            have := Get_any (a1 ++ { data := s.toArray } ++ a2) a1.size x l hsum w
            rw [show (a1 ++ ({ data := s.toArray } : ByteArray) ++ a2).data.toList = a1.data.toList ++ s ++ a2.data.toList from by simp, show ((a1.size : Nat) : Int) = (a1.data.toList.length : Nat) from by simp, get_put ha Hp.out] at this
            exact this)
          by_cases he : e = 0
          · subst he
            have HG' := Lib.hid (HG.out rfl)
            clear HG
            go_wp2_with fail
            refine (HP.out _).mono ?_; rintro e w3 ⟨rfl, b3⟩
            go_wp2_with fail
            refine (HG'.out _).mono ?_; rintro e w4 ⟨rfl, rfl⟩
            go_wp2_with fail
            refine (HQ.out _).mono ?_; rintro e w4 ⟨rfl, rfl⟩
            by_cases hf : f = 0
            · subst hf
              have hpg := put_get Hq.out
              have hm : W64 m := hpg.2.2.2
              have hR := fun w => Put_any m x l hm w
              rw [hpg.1] at hR
              have HR := Lib.hid hR
              obtain ⟨q, rfl⟩ := Int.eq_ofNat_of_zero_le hpg.2.1
              have hq1 : q ≤ a1.size := by have := hpg.2.2.1; simpa using this
              clear hpg hR hm
              have hx : (!List.take q a1.data.toList == (a1.extract 0 q).toList) = false := by rw [ByteArray.toList_eq, ByteArray.data_extract]; simp
              go_wp2_with fail
              refine (HR.out _).mono ?_; rintro e w5 ⟨rfl, b5⟩
              go_wp2_with fail
              go_roundw
              case rel => exact ⟨j + 1, by omega, by go_num, hbel.trans ((chain b3 (Nat.le_refl _) b5).mono (by omega))⟩
              case measure => simp [intOf]; omega
            · have hf' : (f == 0) = false := by simpa using hf
              go_wp2_with fail
              go_roundw
              case rel => exact ⟨j + 1, by omega, by go_num, hbel.trans (b3.mono (by omega))⟩
              case measure => simp [intOf]; omega
          · clear HG g1 g2
            have he' : (e == 0) = false := by simpa using he
            go_wp2_with fail
            refine (HP.out _).mono ?_; rintro e' w3 ⟨rfl, b3⟩
            go_wp2_with fail
            refine (HQ.out _).mono ?_; rintro e' w4 ⟨rfl, rfl⟩
            by_cases hf : f = 0
            · subst hf
              have hpg := put_get Hq.out
              have hm : W64 m := hpg.2.2.2
              have hR := fun w => Put_any m x l hm w
              rw [hpg.1] at hR
              have HR := Lib.hid hR
              obtain ⟨q, rfl⟩ := Int.eq_ofNat_of_zero_le hpg.2.1
              have hq1 : q ≤ a1.size := by have := hpg.2.2.1; simpa using this
              clear hpg hR hm
              have hx : (!List.take q a1.data.toList == (a1.extract 0 q).toList) = false := by rw [ByteArray.toList_eq, ByteArray.data_extract]; simp
              go_wp2_with fail
              refine (HR.out _).mono ?_; rintro e' w5 ⟨rfl, b5⟩
              go_wp2_with fail
              go_roundw
              case rel => exact ⟨j + 1, by omega, by go_num, hbel.trans ((chain b3 (Nat.le_refl _) b5).mono (by omega))⟩
              case measure => simp [intOf]; omega
            · have hf' : (f == 0) = false := by simpa using hf
              go_wp2_with fail
              go_roundw
              case rel => exact ⟨j + 1, by omega, by go_num, hbel.trans (b3.mono (by omega))⟩
              case measure => simp [intOf]; omega
        · obtain rfl : j = 2 := by omega
          clear r2 b2 hc w1 w2 z1 z2 ha
          go_wp2
          go_roundw
          case rel =>
            have hb3 : Below wo.heap.size wo wr := ((Below.refl _ _).alloc (Nat.le_refl _) _).trans (hbel.mono (Nat.le_succ _))
            exact ⟨k + 1, by omega, by go_num, hr.below hb3 hlt'.2, hb.trans (hb3.mono hsz)⟩
          case measure => simp [intOf]; omega
    · obtain rfl : k = 7 := by omega
      go_wp2_with fail
      refine (wakes_any _).mono ?_; rintro e w7 ⟨rfl, b7⟩
      go_wp2_with fail
      go_ret
      exact ⟨rfl, hb.trans (b7.mono hb.size)⟩

end Go.Proofs.Ytoihfbcjiolcpaa
