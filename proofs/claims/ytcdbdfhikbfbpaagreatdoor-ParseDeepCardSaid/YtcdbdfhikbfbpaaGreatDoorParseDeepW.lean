/- The walk of the law ParseDeep. -/
import Derived.Test.YtcdbdfhikbfbpaaGreatDoorParWk
import Derived.Test.YtcdbdfhikbfbpaaGreatDoorParDp
import Derived.Deep.RegionWith
import Derived.Laws.IdiomStrings
namespace Go.Proofs.YtcdbdfhikbfbpaaGreatDoor
open Go.ChangeShapes Go.WideShapes Go.ChangeAt Go.RowKit
set_option linter.unusedVariables false

theorem repL_rep (u : List UInt8) : ∀ k, Lib.repeatL u k = rep k u
  | 0 => rfl
  | k + 1 => by rw [Lib.repeatL, repL_rep u k]; rfl
theorem rep_len (u : List UInt8) : ∀ k, (rep k u).length = k * u.length
  | 0 => by simp [rep]
  | k + 1 => by
    have := rep_len u k
    unfold rep at this ⊢
    rw [List.replicate_succ, List.flatten_cons, List.length_append, this, Nat.add_mul]; omega
theorem errL_fr (s : List UInt8) : frE (parseL s) = errL s := by
  unfold parseL errL
  cases lexL s with
  | bad p e => rfl
  | ok ts => cases h : fileP ts <;> simp [h, frE]
def Five (g : Nat) (v0 v1 v2 v3 v4 : ByteArray) (w : World) : Prop := w.heap[g]? = some (.cells #[.string v0, .string v1, .string v2, .string v3, .string v4] 9 (0, 0))
theorem Five.keep {g : Nat} {v0 v1 v2 v3 v4 : ByteArray} {w w' : World} (h : Five g v0 v1 v2 v3 v4 w) (hb : Below w.heap.size w w') : Five g v0 v1 v2 v3 v4 w' := (hb.block g (Array.getElem?_eq_some_iff.1 h).1).trans h
theorem Five.cells {g : Nat} {v0 v1 v2 v3 v4 : ByteArray} {w : World} (h : Five g v0 v1 v2 v3 v4 w) : w.cell? ⟨g, 0, none⟩ = some (.string v0) ∧ w.cell? ⟨g, 1, none⟩ = some (.string v1) ∧ w.cell? ⟨g, 2, none⟩ = some (.string v2) ∧ w.cell? ⟨g, 3, none⟩ = some (.string v3) ∧ w.cell? ⟨g, 4, none⟩ = some (.string v4) := by
  refine ⟨?_, ?_, ?_, ?_, ?_⟩
  all_goals
    rw [cell_of_row _ _ _ _ _ (0, 0) h]
    rfl
theorem rep_any (u : List UInt8) (k : Nat) (h : k < 70) (hu : u.length ≤ 20) (w : World) :
    Calls Tryz.prog 21 #[.string (bs u), .int .i64 k] w fun e w' => e = .returned (.string (bs (rep k u))) ∧ Below w.heap.size w w' := by
  have := Tryz.strings_Repeat (bs u) k w (by omega) (by rw [bs_size]; have := Nat.mul_le_mul hu (Nat.le_of_lt h); omega)
  rw [bs_list, repL_rep] at this
  exact this
set_option maxHeartbeats 4000000 in
set_option maxRecDepth 100000 in
theorem ParseDeep_walk (n : Int) (w : World) (n0 : 0 ≤ n) (n1 : n ≤ 255) (hE : Env w) (hK : KEnv (fun b => b < w.heap.size) w) :
    Calls Tryz.prog 6 #[.int .u8 n] w fun e w' => e = .returned (.bool true) ∧ Below w.heap.size w w' := by
  obtain ⟨K, hKn⟩ : ∃ K : Nat, n % 70 = K := ⟨(n % 70).toNat, by omega⟩
  have hk : K < 70 := by omega
  have e1 := (errL_fr (dpT K)).trans (dpT_err K hk)
  have e2 := (errL_fr (dpP K)).trans (dpP_err K hk)
  have e3 := (errL_fr (dpS K)).trans (dpS_err K hk)
  have e4 := (errL_fr (dpF K)).trans (dpF_err K hk)
  have e5 := (errL_fr (dpR K)).trans (dpR_err K hk)
  obtain ⟨E, hE1, hE2⟩ : ∃ E : Nat, (if 32 < K then 8 else 0) = E ∧ ((K ≤ 32 ∧ E = 0) ∨ (32 < K ∧ E = 8)) := ⟨_, rfl, by split <;> omega⟩
  obtain ⟨F, hF1, hF2⟩ : ∃ E : Nat, (if 64 < K then 10 else 0) = E ∧ ((K ≤ 64 ∧ E = 0) ∨ (64 < K ∧ E = 10)) := ⟨_, rfl, by split <;> omega⟩
  rw [hE1] at e1 e2 e3
  rw [hF1] at e4 e5
  clear hE1 hF1
  have R1 := Lib.hid (show ∀ w, Calls Tryz.prog 21 #[.string ⟨#[114, 101, 115, 116, 32]⟩, .int .i64 K] w (fun e w' => e = .returned (.string (bs (rep K dRest))) ∧ Below w.heap.size w w') from fun w => rep_any dRest K hk (by decide) w)
  have R2 := Lib.hid (show ∀ w, Calls Tryz.prog 21 #[.string ⟨#[40]⟩, .int .i64 K] w (fun e w' => e = .returned (.string (bs (rep K [40]))) ∧ Below w.heap.size w w') from fun w => rep_any [40] K hk (by decide) w)
  have R3 := Lib.hid (show ∀ w, Calls Tryz.prog 21 #[.string ⟨#[41]⟩, .int .i64 K] w (fun e w' => e = .returned (.string (bs (rep K [41]))) ∧ Below w.heap.size w w') from fun w => rep_any [41] K hk (by decide) w)
  have R4 := Lib.hid (show ∀ w, Calls Tryz.prog 21 #[.string ⟨#[33]⟩, .int .i64 K] w (fun e w' => e = .returned (.string (bs (rep K [33]))) ∧ Below w.heap.size w w') from fun w => rep_any [33] K hk (by decide) w)
  have R5 := Lib.hid (show ∀ w, Calls Tryz.prog 21 #[.string ⟨#[97, 58, 32, 117, 56, 59, 32]⟩, .int .i64 K] w (fun e w' => e = .returned (.string (bs (rep K d7))) ∧ Below w.heap.size w w') from fun w => rep_any d7 K hk (by decide) w)
  have R6 := Lib.hid (show ∀ w, Calls Tryz.prog 21 #[.string ⟨#[115, 116, 114, 117, 99, 116, 32, 83, 32, 123, 32, 125, 32]⟩, .int .i64 K] w (fun e w' => e = .returned (.string (bs (rep K d8))) ∧ Below w.heap.size w w') from fun w => rep_any d8 K hk (by decide) w)
  have z1 : (bs (rep K dRest)).size = K * 5 := by rw [bs_size, rep_len]; rfl
  have z2 : (bs (rep K [40])).size = K * 1 := by rw [bs_size, rep_len]; rfl
  have z3 : (bs (rep K [41])).size = K * 1 := by rw [bs_size, rep_len]; rfl
  have z4 : (bs (rep K [33])).size = K * 1 := by rw [bs_size, rep_len]; rfl
  have z5 : (bs (rep K d7)).size = K * 7 := by rw [bs_size, rep_len]; rfl
  have z6 : (bs (rep K d8)).size = K * 13 := by rw [bs_size, rep_len]; rfl
  obtain ⟨X1, h1⟩ : ∃ X, (⟨#[115, 116, 114, 117, 99, 116, 32, 83, 32, 123, 32, 97, 58, 32]⟩ : ByteArray) ++ bs (rep K dRest) ++ ⟨#[117, 56, 59, 32, 125]⟩ = X := ⟨_, rfl⟩
  obtain ⟨X2, h2⟩ : ∃ X, (⟨#[115, 116, 114, 117, 99, 116, 32, 83, 32, 123, 32, 97, 58, 32, 98, 121, 116, 101, 115, 91]⟩ : ByteArray) ++ bs (rep K [40]) ++ ⟨#[49]⟩ ++ bs (rep K [41]) ++ ⟨#[93, 59, 32, 125]⟩ = X := ⟨_, rfl⟩
  obtain ⟨X3, h3⟩ : ∃ X, (⟨#[115, 116, 114, 117, 99, 116, 32, 83, 32, 123, 32, 97, 58, 32, 98, 121, 116, 101, 115, 91]⟩ : ByteArray) ++ bs (rep K [33]) ++ ⟨#[49, 93, 59, 32, 125]⟩ = X := ⟨_, rfl⟩
  obtain ⟨X4, h4⟩ : ∃ X, (⟨#[115, 116, 114, 117, 99, 116, 32, 83, 32, 123, 32]⟩ : ByteArray) ++ bs (rep K d7) ++ ⟨#[125]⟩ = X := ⟨_, rfl⟩
  have C1 := Lib.hid fun w hE hK => parse_err X1 (x := E) (by rw [← h1, append_list, append_list]; exact e1) w hE hK
  have C2 := Lib.hid fun w hE hK => parse_err X2 (x := E) (by rw [← h2, append_list, append_list, append_list, append_list]; exact e2) w hE hK
  have C3 := Lib.hid fun w hE hK => parse_err X3 (x := E) (by rw [← h3, append_list, append_list]; exact e3) w hE hK
  have C4 := Lib.hid fun w hE hK => parse_err X4 (x := F) (by rw [← h4, append_list, append_list]; exact e4) w hE hK
  have C5 := Lib.hid fun w hE hK => parse_err (bs (rep K d8)) (x := F) e5 w hE hK
  have HE := Lib.hid hE
  have HK := Lib.hid hK
  have HW := Lib.hid fun w hE hK => wakes_any w hE hK
  clear e1 e2 e3 e4 e5 hE hK
  generalize bs (rep K dRest) = x1 at *
  generalize bs (rep K [40]) = x2 at *
  generalize bs (rep K [41]) = x3 at *
  generalize bs (rep K [33]) = x4 at *
  generalize bs (rep K d7) = x5 at *
  generalize bs (rep K d8) = X5 at *
  go_enter Tryz.func6, Tryz.ntmps6
  go_wp2_with (go_at_call 21; first | (with_reducible refine (R1.out _).mono ?_; rintro e w1 ⟨rfl, hb1⟩) | (with_reducible refine (R2.out _).mono ?_; rintro e w2 ⟨rfl, hb2⟩) | (with_reducible refine (R3.out _).mono ?_; rintro e w3 ⟨rfl, hb3⟩) | (with_reducible refine (R4.out _).mono ?_; rintro e w4 ⟨rfl, hb4⟩) | (with_reducible refine (R5.out _).mono ?_; rintro e w5 ⟨rfl, hb5⟩) | (with_reducible refine (R6.out _).mono ?_; rintro e w6 ⟨rfl, hb6⟩))
  have hb7 := chain (chain (chain (chain (chain (chain hb1 (Nat.le_refl _) hb2) (Nat.le_refl _) hb3) (Nat.le_refl _) hb4) (Nat.le_refl _) hb5) (Nat.le_refl _) hb6) (Nat.le_refl _) (below_box w6 (.cells #[.string X1, .string X2, .string X3, .string X4, .string X5] 9))
  have hV : Five w6.heap.size X1 X2 X3 X4 X5 (w6.alloc (.cells #[.string X1, .string X2, .string X3, .string X4, .string X5] 9)) := heap_alloc_new w6 _
  clear hb1 hb2 hb3 hb4 hb5 hb6 R1 R2 R3 R4 R5 R6 h1 h2 h3 h4 z1 z2 z3 z4 z5 z6
  generalize w6.alloc (.cells #[.string X1, .string X2, .string X3, .string X4, .string X5] 9) = W at hb7 hV ⊢
  generalize w6.heap.size = g at hV ⊢
  go_loopw [47] (fun s47 wr => ∃ k : Nat, s47 = .int .i64 k ∧ k ≤ 5 ∧ Five g X1 X2 X3 X4 X5 wr ∧ Below w.heap.size w wr) (fun s47 _ => 5 - (intOf s47).toNat)
  case atStart => exact ⟨0, rfl, by omega, hV, hb7⟩
  case round =>
    obtain ⟨k, rfl, hk5, hV', hb⟩ := hrel
    have V := Lib.hid hV'
    have B := Lib.hid hb
    obtain ⟨c0, c1, c2, c3, c4⟩ := hV'.cells
    have E2 := HE.out.below (hb.mono (Nat.le_refl _))
    have K2 := HK.out.low hb
    have D1 := Lib.hid (C1.out wr E2 K2)
    have D2 := Lib.hid (C2.out wr E2 K2)
    have D3 := Lib.hid (C3.out wr E2 K2)
    have D4 := Lib.hid (C4.out wr E2 K2)
    have D5 := Lib.hid (C5.out wr E2 K2)
    have E2 := Lib.hid E2
    have K2 := Lib.hid K2
    clear hV hb7 hV' hb
    have h6 : k = 5 ∨ k = 0 ∨ k = 1 ∨ k = 2 ∨ k = 3 ∨ k = 4 := by omega
    rcases h6 with rfl | h6
    · have W2 := Lib.hid (HW.out wr E2.out K2.out)
      go_wp2_with (go_at_call 12; refine W2.out.mono ?_; rintro e w8 ⟨rfl, hb8⟩)
      go_ret
      exact ⟨rfl, chain B.out (Nat.le_refl _) hb8⟩
    · rcases h6 with rfl | rfl | rfl | rfl | rfl
      · rcases hE2 with ⟨q, rfl⟩ | ⟨q, rfl⟩
        all_goals
          go_wp2_with (go_at_call 10; refine D1.out.mono ?_; rintro e w8 ⟨v, p, q, rfl, hb8⟩)
          go_roundw
          case rel => exact ⟨1, rfl, by omega, (V.out.keep hb8).keep (below_box _ _), chain (chain B.out (Nat.le_refl _) hb8) (Nat.le_refl _) (below_box _ _)⟩
          case measure => simp [intOf]
      · rcases hE2 with ⟨q, rfl⟩ | ⟨q, rfl⟩
        all_goals
          go_wp2_with (go_at_call 10; refine D2.out.mono ?_; rintro e w8 ⟨v, p, q, rfl, hb8⟩)
          go_roundw
          case rel => exact ⟨2, rfl, by omega, (V.out.keep hb8).keep (below_box _ _), chain (chain B.out (Nat.le_refl _) hb8) (Nat.le_refl _) (below_box _ _)⟩
          case measure => simp [intOf]
      · rcases hE2 with ⟨q, rfl⟩ | ⟨q, rfl⟩
        all_goals
          go_wp2_with (go_at_call 10; refine D3.out.mono ?_; rintro e w8 ⟨v, p, q, rfl, hb8⟩)
          go_roundw
          case rel => exact ⟨3, rfl, by omega, (V.out.keep hb8).keep (below_box _ _), chain (chain B.out (Nat.le_refl _) hb8) (Nat.le_refl _) (below_box _ _)⟩
          case measure => simp [intOf]
      · rcases hF2 with ⟨q, rfl⟩ | ⟨q, rfl⟩
        all_goals
          go_wp2_with (go_at_call 10; refine D4.out.mono ?_; rintro e w8 ⟨v, p, q, rfl, hb8⟩)
          go_roundw
          case rel => exact ⟨4, rfl, by omega, (V.out.keep hb8).keep (below_box _ _), chain (chain B.out (Nat.le_refl _) hb8) (Nat.le_refl _) (below_box _ _)⟩
          case measure => simp [intOf]
      · rcases hF2 with ⟨q, rfl⟩ | ⟨q, rfl⟩
        all_goals
          go_wp2_with (go_at_call 10; refine D5.out.mono ?_; rintro e w8 ⟨v, p, q, rfl, hb8⟩)
          go_roundw
          case rel => exact ⟨5, rfl, by omega, (V.out.keep hb8).keep (below_box _ _), chain (chain B.out (Nat.le_refl _) hb8) (Nat.le_refl _) (below_box _ _)⟩
          case measure => simp [intOf]
end Go.Proofs.YtcdbdfhikbfbpaaGreatDoor
