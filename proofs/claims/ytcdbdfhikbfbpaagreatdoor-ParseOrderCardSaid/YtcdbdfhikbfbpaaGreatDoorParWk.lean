/- Layer 7: wakes. -/
import Derived.Test.YtcdbdfhikbfbpaaGreatDoorParPa
namespace Go.Proofs.YtcdbdfhikbfbpaaGreatDoor
open Go.ChangeShapes Go.WideShapes Go.ChangeAt Go.RowKit
set_option linter.unusedVariables false

theorem wake_look {g : Nat} {w : World} (h : FileR g w wakeF) : ∃ a1 c1 ks c2 kx c3 kt c4 a5 c5, w.cell? ⟨g, 1, none⟩ = some (.slice a1 0 c1) ∧ w.cell? ⟨g, 2, none⟩ = some (.slice (some ⟨ks, 0, none⟩) 1 c2) ∧ w.cell? ⟨g, 3, none⟩ = some (.slice (some ⟨kx, 0, none⟩) 3 c3) ∧ w.cell? ⟨g, 4, none⟩ = some (.slice (some ⟨kt, 0, none⟩) 2 c4) ∧
    w.cell? ⟨kx, 11, none⟩ = some (.string ⟨#[43]⟩) ∧ w.cell? ⟨kt, 8, none⟩ = some (.int .i64 1) ∧ w.cell? ⟨kt, 13, none⟩ = some (.int .i64 2) ∧ w.cell? ⟨ks, 2, none⟩ = some (.slice a5 2 c5) := by
  obtain ⟨ac, cc, bs', cs, ax, cx, at', ct, e1, e2, e3, e4, h1, h2, h3, h4, -⟩ := h.look
  obtain ⟨kx, kv, rfl, -, -, x1, -⟩ := xs_at h3 (i := 2) (x := ⟨3, [43], 0, [], [0, 1]⟩) rfl
  obtain ⟨kt, av, cv, rfl, -, t0, -, -, -, -, t5, -⟩ := ts_at h4 (i := 1) (x := ⟨1, 0, false, [], [], 2, -1, []⟩) rfl
  obtain ⟨ks, pv, iv, rfl, -, -, -, s2, -, hi⟩ := ss_at h2 (i := 0) (x := ⟨[83], [], [⟨[110], 0, 0, [], [], -1, 0, false, []⟩, ⟨[98], 1, 0, [], [], -1, 0, false, []⟩]⟩) rfl
  obtain ⟨a5, c5, rfl, -⟩ := hi.shape
  exact ⟨ac, cc, ks, cs, kx, cx, kt, ct, a5, c5, e1, e2, e3, e4, x1, t0, t5, s2⟩
set_option maxHeartbeats 4000000 in
set_option maxRecDepth 100000 in
theorem wakes_any (w : World) (hE : Env w) (hK : KEnv (fun b => b < w.heap.size) w) :
    Calls Tryz.prog 12 #[] w fun e w' => e = .returned (.bool true) ∧ Below w.heap.size w w' := by
  have cp : Calls Tryz.prog 10 #[.string ⟨wakeT.toArray⟩] w fun e w' => ParsePost (.ok wakeF) e w' ∧ Below w.heap.size w w' := by
    have := Parse_any ⟨wakeT.toArray⟩ w hE hK
    rw [show parseL (ByteArray.mk wakeT.toArray).data.toList = .ok wakeF from wakeL] at this
    exact this
  have CP := Lib.hid cp
  have CL := Lib.hid (show ∀ w, Calls Tryz.prog 18 #[.string ⟨#[43]⟩] w (fun e w' => e = .returned (.int .i64 7) ∧ w = w') from fun w => Level_any [43] w)
  have CK := Lib.hid (show ∀ w, KEnv (fun b => b < w.heap.size) w → Calls Tryz.prog 16 #[.string ⟨#[117, 56]⟩] w (fun e w' => e = .returned (.bool true) ∧ w = w') from fun w h => Keyword_any [117, 56] w h)
  have HK := Lib.hid hK
  clear cp hE hK
  go_enter Tryz.func12, Tryz.ntmps12
  go_wp2_with (first | (go_at_call 10; refine CP.out.mono ?_; rintro e w1 ⟨⟨⟨g, rfl, hF⟩, -⟩, hb⟩; obtain ⟨a1, c1, ks, c2, kx, c3, kt, c4, a5, c5, q1, q2, q3, q4, q5, q6, q7, q8⟩ := wake_look (hF.below (below_box w1 (.cells #[.int .i64 0, .int .i64 0] 24))); have B := Lib.hid (chain hb (Nat.le_refl _) (below_box w1 (.cells #[.int .i64 0, .int .i64 0] 24))); have K2 := Lib.hid (HK.out.low B.out); clear hF hb) | (go_at_call 18; refine (CL.out _).mono ?_; rintro e w2 ⟨rfl, rfl⟩) | (go_at_call 16; refine (CK.out _ K2.out).mono ?_; rintro e w2 ⟨rfl, rfl⟩))
  go_ret
  exact ⟨rfl, B.out⟩
def frE : FR → Nat
  | .ok _ => 0
  | .bad _ e => e
theorem parse_err (s : ByteArray) {x : Nat} (h : frE (parseL s.data.toList) = x) (w : World) (hE : Env w) (hK : KEnv (fun b => b < w.heap.size) w) :
    Calls Tryz.prog 10 #[.string s] w fun e w' => ∃ v p q, e = .returned (.tuple #[v, .agg #[.int .i64 p, .int .i64 q], .int .i64 (x : Nat)]) ∧ Below w.heap.size w w' := by
  subst h
  refine (Parse_any s w hE hK).mono ?_
  rintro e w' ⟨hp, hb⟩
  cases hr : parseL s.data.toList with
  | ok f =>
    rw [hr] at hp
    obtain ⟨⟨g, rfl, _⟩, _⟩ := hp
    exact ⟨_, _, _, rfl, hb⟩
  | bad p x =>
    rw [hr] at hp
    obtain ⟨rfl, _⟩ := hp
    exact ⟨_, _, _, rfl, hb⟩
end Go.Proofs.YtcdbdfhikbfbpaaGreatDoor
