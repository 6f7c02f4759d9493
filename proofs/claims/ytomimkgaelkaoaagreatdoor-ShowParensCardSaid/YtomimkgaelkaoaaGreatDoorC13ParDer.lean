/- Layer 7: the program's parser: how a field is derived. -/
import Derived.Test.YtomimkgaelkaoaaGreatDoorC13ParZ
set_option linter.unusedVariables false
set_option linter.unusedSimpArgs false
namespace Go.Proofs.YtomimkgaelkaoaaGreatDoor
open Go.Lib (hid)
open Go.ChangeShapes Go.WideShapes Go.ChangeAt Go.RowKit
def ICell (k : Nat) (w : World) (s : List UInt8) (t : Int) (der : Nat) (a b : List UInt8) (wh : Int) : Prop := w.heap[k]? = some (.cells #[.string (bs s), .int .i64 t, .int .i64 (der : Int), .string (bs a), .string (bs b), .int .i64 wh, .int .i64 0, .bool false, .slice none 0 0] 129 (0, 0))
section
variable {k : Nat} {w w' : World} {s : List UInt8} {t : Int} {der : Nat} {a b : List UInt8} {wh : Int}
theorem ICell.cells (h : ICell k w s t der a b wh) : (w.cell? ⟨k, 0, none⟩ = some (.string (bs s)) ∧ w.cell? ⟨k, 1, none⟩ = some (.int .i64 t) ∧ w.cell? ⟨k, 2, none⟩ = some (.int .i64 (der : Int)) ∧ w.cell? ⟨k, 3, none⟩ = some (.string (bs a)) ∧ w.cell? ⟨k, 4, none⟩ = some (.string (bs b)) ∧ w.cell? ⟨k, 5, none⟩ = some (.int .i64 wh) ∧ w.cell? ⟨k, 6, none⟩ = some (.int .i64 0) ∧ w.cell? ⟨k, 7, none⟩ = some (.bool false) ∧ w.cell? ⟨k, 8, none⟩ = some (.slice none 0 0)) ∧ (∀ j, w.frozen? ⟨k, j, none⟩ = false) ∧ k < w.heap.size := by
 refine ⟨⟨?_, ?_, ?_, ?_, ?_, ?_, ?_, ?_, ?_⟩, fun j => by unfold ICell at h; simp [World.frozen?, h], (Array.getElem?_eq_some_iff.1 h).1⟩ <;> (rw [cell_of_row _ _ _ _ _ (0, 0) h]; rfl)
theorem ICell.own {X : Nat → Prop} {g b' : Nat} {l : List Tok} {d : Nat} {f : FM} (h : ICell k w s t der a b wh) (hI : PInv X g b' w l d f) (hk : X k) (hS : St layP g w w') : ICell k w' s t der a b wh := (hI.own hk hS).trans h
theorem ICell.setT (h : ICell k w s t der a b wh) (y : Int) : ICell k (w.setCell ⟨k, 1, none⟩ (.int .i64 y)) s y der a b wh := cell_set_row h (by simp) _
theorem ICell.setD (h : ICell k w s t der a b wh) (y : Nat) : ICell k (w.setCell ⟨k, 2, none⟩ (.int .i64 (y : Int))) s t y a b wh := cell_set_row h (by simp) _
theorem ICell.setA (h : ICell k w s t der a b wh) (y : List UInt8) : ICell k (w.setCell ⟨k, 3, none⟩ (.string (bs y))) s t der y b wh := cell_set_row h (by simp) _
theorem ICell.setB (h : ICell k w s t der a b wh) (y : List UInt8) : ICell k (w.setCell ⟨k, 4, none⟩ (.string (bs y))) s t der a y wh := cell_set_row h (by simp) _
theorem ICell.setW (h : ICell k w s t der a b wh) (y : Int) : ICell k (w.setCell ⟨k, 5, none⟩ (.int .i64 y)) s t der a b y := cell_set_row h (by simp) _
end
def DPost (X : Nat → Prop) (g b d : Nat) (f : FM) (W : World) (k : Nat) (s : List UInt8) (t : Int) (r : PR DA) (e' : Ending) (w' : World) : Prop :=
 (match r with
  | .ok D l' => e' = .returned (.tuple #[]) ∧ PInv X g b w' l' d f ∧ ICell k w' s t D.k D.a D.b (-1)
  | .bad l' x => e' = .panicked (flt l' x)) ∧ St layP g W w'
set_option maxHeartbeats 4000000 in
set_option maxRecDepth 100000 in
theorem der_1 {X : Nat → Prop} {g b : Nat} {l : List Tok} {d : Nat} {f : FM} (w W : World) (k : Nat) (s : List UInt8) (t : Int) (h : PInv X g b w l d f) (hXk : X k) (hi : ICell k w s t 0 [] [] (-1)) (hSW : St layP g W w) (hgW : g < W.heap.size) (hk : W.heap.size ≤ k)  (e0 : isT kSizeof l = true) :
  Calls Tryz.prog 182 #[.pointer (some ⟨g, 0, none⟩), .pointer (some ⟨k, 0, none⟩)] w (DPost X g b d f W k s t (derP l)) := by
 have htop := h.top
 have HSW := hid hSW
 have HI := hid hi
 have TY := hid (takeY_kSizeof _ h e0)
 have hdk : derK l = 1 := by unfold derK; rw [if_pos e0]
 unfold derP
 rw [hdk, if_neg (by decide)]
 clear hi hSW hdk e0
 have c1 : ∀ w1, PInv X g (b - 3) w1 l.tail d f → _ := fun w1 hi => need_sLp w1 hi
 rcases h1 : need sLp l.tail with ⟨u1, l1⟩ | ⟨lx, xx⟩
 all_goals rw [h1] at c1; have C1 := hid c1; clear c1
 ·rw [PR.bind_ok]
  clear h1
  have c2 : ∀ w1, PInv X g (b - 3 - 3) w1 l1 d f → _ := fun w1 hi => name_any w1 hi
  rcases h2 : nameP l1 with ⟨a, l2⟩ | ⟨lx, xx⟩
  all_goals rw [h2] at c2; have C2 := hid c2; clear c2
  ·rw [PR.bind_ok]
   rw [if_pos (by decide)]
   clear h2
   have c3 : ∀ w1, PInv X g (b - 3 - 3 - 3) w1 l2 d f → _ := fun w1 hi => need_sRp w1 hi
   rcases h3 : need sRp l2 with ⟨u3, l3⟩ | ⟨lx, xx⟩
   all_goals rw [h3] at c3; have C3 := hid c3; clear c3
   ·rw [PR.bind_ok]
    clear h3
    go_enter Tryz.func182, Tryz.ntmps182
    go_wp2_with (first | (go_at_call 125; ((with_reducible refine TY.out.mono ?_); rintro e0 w0 ⟨rfl, hI0, hS0⟩; have q0 := HI.out.own h hXk hS0; have Q0 := hid (q0.setD 1); obtain ⟨⟨i0, i1, i2, i3, i4, i5, i6, i7, i8⟩, jf, jl⟩ := ICell.cells q0; have D1 := hid (C1.out _ (hI0.local hXk 2 (.int .i64 1))); clear q0)) | (go_at_call 122; first | ((with_reducible refine D1.out.mono ?_); rintro e1 w1 ⟨rfl, hI1, hS1⟩; have D2 := hid (C2.out _ hI1); have q1 := Q0.out.own (hI0.local hXk 2 (.int .i64 1)) hXk hS1; have Q1 := hid q1; clear q1) | ((with_reducible refine D3.out.mono ?_); rintro e3 w3 ⟨rfl, hI3, hS3⟩)) | (go_at_call 123; ((with_reducible refine D2.out.mono ?_); rintro e2 w2 ⟨rfl, hI2, hS2⟩; have D3 := hid (C3.out _ (hI2.local hXk 3 (.string (bs a)))); clear i0 i1 i2 i3 i4 i5 i6 i7 i8 jf jl; have q2 := Q1.out.own hI1 hXk hS2; have Q2 := hid (q2.setA a); obtain ⟨⟨i0, i1, i2, i3, i4, i5, i6, i7, i8⟩, jf, jl⟩ := ICell.cells q2; clear q2)))
    go_end0
    exact ⟨⟨rfl, hI3.mono (by omega) htop, Q2.out.own (hI2.local hXk 3 (.string (bs a))) hXk hS3⟩, (((((HSW.out.trans hS0).fresh hgW hk _ _).trans hS1).trans hS2).fresh hgW hk _ _).trans hS3⟩
   ·rw [PR.bind_bad]
    clear h3
    go_enter Tryz.func182, Tryz.ntmps182
    go_wp2_with (first | (go_at_call 125; ((with_reducible refine TY.out.mono ?_); rintro e0 w0 ⟨rfl, hI0, hS0⟩; have q0 := HI.out.own h hXk hS0; have Q0 := hid (q0.setD 1); obtain ⟨⟨i0, i1, i2, i3, i4, i5, i6, i7, i8⟩, jf, jl⟩ := ICell.cells q0; have D1 := hid (C1.out _ (hI0.local hXk 2 (.int .i64 1))); clear q0)) | (go_at_call 122; first | ((with_reducible refine D1.out.mono ?_); rintro e1 w1 ⟨rfl, hI1, hS1⟩; have D2 := hid (C2.out _ hI1); have q1 := Q0.out.own (hI0.local hXk 2 (.int .i64 1)) hXk hS1; have Q1 := hid q1; clear q1) | ((with_reducible refine D3.out.mono ?_); rintro e3 w3 ⟨rfl, hI3, hS3⟩)) | (go_at_call 123; ((with_reducible refine D2.out.mono ?_); rintro e2 w2 ⟨rfl, hI2, hS2⟩; have D3 := hid (C3.out _ (hI2.local hXk 3 (.string (bs a)))); clear i0 i1 i2 i3 i4 i5 i6 i7 i8 jf jl; have q2 := Q1.out.own hI1 hXk hS2; have Q2 := hid (q2.setA a); obtain ⟨⟨i0, i1, i2, i3, i4, i5, i6, i7, i8⟩, jf, jl⟩ := ICell.cells q2; clear q2)))
    exact ⟨rfl, rfl, (((((HSW.out.trans hS0).fresh hgW hk _ _).trans hS1).trans hS2).fresh hgW hk _ _).trans hS3⟩
  ·rw [PR.bind_bad]
   clear h2
   go_enter Tryz.func182, Tryz.ntmps182
   go_wp2_with (first | (go_at_call 125; ((with_reducible refine TY.out.mono ?_); rintro e0 w0 ⟨rfl, hI0, hS0⟩; have q0 := HI.out.own h hXk hS0; have Q0 := hid (q0.setD 1); obtain ⟨⟨i0, i1, i2, i3, i4, i5, i6, i7, i8⟩, jf, jl⟩ := ICell.cells q0; have D1 := hid (C1.out _ (hI0.local hXk 2 (.int .i64 1))); clear q0)) | (go_at_call 122; ((with_reducible refine D1.out.mono ?_); rintro e1 w1 ⟨rfl, hI1, hS1⟩; have D2 := hid (C2.out _ hI1); have q1 := Q0.out.own (hI0.local hXk 2 (.int .i64 1)) hXk hS1; have Q1 := hid q1; clear q1)) | (go_at_call 123; ((with_reducible refine D2.out.mono ?_); rintro e2 w2 ⟨rfl, hI2, hS2⟩)))
   exact ⟨rfl, rfl, (((HSW.out.trans hS0).fresh hgW hk _ _).trans hS1).trans hS2⟩
 ·rw [PR.bind_bad]
  clear h1
  go_enter Tryz.func182, Tryz.ntmps182
  go_wp2_with (first | (go_at_call 125; ((with_reducible refine TY.out.mono ?_); rintro e0 w0 ⟨rfl, hI0, hS0⟩; have q0 := HI.out.own h hXk hS0; have Q0 := hid (q0.setD 1); obtain ⟨⟨i0, i1, i2, i3, i4, i5, i6, i7, i8⟩, jf, jl⟩ := ICell.cells q0; have D1 := hid (C1.out _ (hI0.local hXk 2 (.int .i64 1))); clear q0)) | (go_at_call 122; ((with_reducible refine D1.out.mono ?_); rintro e1 w1 ⟨rfl, hI1, hS1⟩)))
  exact ⟨rfl, rfl, ((HSW.out.trans hS0).fresh hgW hk _ _).trans hS1⟩
set_option maxHeartbeats 4000000 in
set_option maxRecDepth 100000 in
theorem der_2 {X : Nat → Prop} {g b : Nat} {l : List Tok} {d : Nat} {f : FM} (w W : World) (k : Nat) (s : List UInt8) (t : Int) (h : PInv X g b w l d f) (hXk : X k) (hi : ICell k w s t 0 [] [] (-1)) (hSW : St layP g W w) (hgW : g < W.heap.size) (hk : W.heap.size ≤ k) (e0 : isT kSizeof l = false) (e1 : isT kCountof l = true) :
  Calls Tryz.prog 182 #[.pointer (some ⟨g, 0, none⟩), .pointer (some ⟨k, 0, none⟩)] w (DPost X g b d f W k s t (derP l)) := by
 have htop := h.top
 have HSW := hid hSW
 have HI := hid hi
 have T0 := hid (takeN_kSizeof _ h e0)
 have TY := hid (takeY_kCountof _ h e1)
 have hdk : derK l = 2 := by unfold derK; rw [if_neg (by rw [e0]; decide), if_pos e1]
 unfold derP
 rw [hdk, if_neg (by decide)]
 clear hi hSW hdk e0 e1
 have c1 : ∀ w1, PInv X g (b - 3) w1 l.tail d f → _ := fun w1 hi => need_sLp w1 hi
 rcases h1 : need sLp l.tail with ⟨u1, l1⟩ | ⟨lx, xx⟩
 all_goals rw [h1] at c1; have C1 := hid c1; clear c1
 ·rw [PR.bind_ok]
  clear h1
  have c2 : ∀ w1, PInv X g (b - 3 - 3) w1 l1 d f → _ := fun w1 hi => name_any w1 hi
  rcases h2 : nameP l1 with ⟨a, l2⟩ | ⟨lx, xx⟩
  all_goals rw [h2] at c2; have C2 := hid c2; clear c2
  ·rw [PR.bind_ok]
   rw [if_pos (by decide)]
   clear h2
   have c3 : ∀ w1, PInv X g (b - 3 - 3 - 3) w1 l2 d f → _ := fun w1 hi => need_sRp w1 hi
   rcases h3 : need sRp l2 with ⟨u3, l3⟩ | ⟨lx, xx⟩
   all_goals rw [h3] at c3; have C3 := hid c3; clear c3
   ·rw [PR.bind_ok]
    clear h3
    go_enter Tryz.func182, Tryz.ntmps182
    go_wp2_with (first | (go_at_call 125; first | ((with_reducible refine T0.out.mono ?_); rintro e w' ⟨rfl, rfl⟩) | ((with_reducible refine TY.out.mono ?_); rintro e0 w0 ⟨rfl, hI0, hS0⟩; have q0 := HI.out.own h hXk hS0; have Q0 := hid (q0.setD 2); obtain ⟨⟨i0, i1, i2, i3, i4, i5, i6, i7, i8⟩, jf, jl⟩ := ICell.cells q0; have D1 := hid (C1.out _ (hI0.local hXk 2 (.int .i64 2))); clear q0)) | (go_at_call 122; first | ((with_reducible refine D1.out.mono ?_); rintro e1 w1 ⟨rfl, hI1, hS1⟩; have D2 := hid (C2.out _ hI1); have q1 := Q0.out.own (hI0.local hXk 2 (.int .i64 2)) hXk hS1; have Q1 := hid q1; clear q1) | ((with_reducible refine D3.out.mono ?_); rintro e3 w3 ⟨rfl, hI3, hS3⟩)) | (go_at_call 123; ((with_reducible refine D2.out.mono ?_); rintro e2 w2 ⟨rfl, hI2, hS2⟩; have D3 := hid (C3.out _ (hI2.local hXk 3 (.string (bs a)))); clear i0 i1 i2 i3 i4 i5 i6 i7 i8 jf jl; have q2 := Q1.out.own hI1 hXk hS2; have Q2 := hid (q2.setA a); obtain ⟨⟨i0, i1, i2, i3, i4, i5, i6, i7, i8⟩, jf, jl⟩ := ICell.cells q2; clear q2)))
    go_end0
    exact ⟨⟨rfl, hI3.mono (by omega) htop, Q2.out.own (hI2.local hXk 3 (.string (bs a))) hXk hS3⟩, (((((HSW.out.trans hS0).fresh hgW hk _ _).trans hS1).trans hS2).fresh hgW hk _ _).trans hS3⟩
   ·rw [PR.bind_bad]
    clear h3
    go_enter Tryz.func182, Tryz.ntmps182
    go_wp2_with (first | (go_at_call 125; first | ((with_reducible refine T0.out.mono ?_); rintro e w' ⟨rfl, rfl⟩) | ((with_reducible refine TY.out.mono ?_); rintro e0 w0 ⟨rfl, hI0, hS0⟩; have q0 := HI.out.own h hXk hS0; have Q0 := hid (q0.setD 2); obtain ⟨⟨i0, i1, i2, i3, i4, i5, i6, i7, i8⟩, jf, jl⟩ := ICell.cells q0; have D1 := hid (C1.out _ (hI0.local hXk 2 (.int .i64 2))); clear q0)) | (go_at_call 122; first | ((with_reducible refine D1.out.mono ?_); rintro e1 w1 ⟨rfl, hI1, hS1⟩; have D2 := hid (C2.out _ hI1); have q1 := Q0.out.own (hI0.local hXk 2 (.int .i64 2)) hXk hS1; have Q1 := hid q1; clear q1) | ((with_reducible refine D3.out.mono ?_); rintro e3 w3 ⟨rfl, hI3, hS3⟩)) | (go_at_call 123; ((with_reducible refine D2.out.mono ?_); rintro e2 w2 ⟨rfl, hI2, hS2⟩; have D3 := hid (C3.out _ (hI2.local hXk 3 (.string (bs a)))); clear i0 i1 i2 i3 i4 i5 i6 i7 i8 jf jl; have q2 := Q1.out.own hI1 hXk hS2; have Q2 := hid (q2.setA a); obtain ⟨⟨i0, i1, i2, i3, i4, i5, i6, i7, i8⟩, jf, jl⟩ := ICell.cells q2; clear q2)))
    exact ⟨rfl, rfl, (((((HSW.out.trans hS0).fresh hgW hk _ _).trans hS1).trans hS2).fresh hgW hk _ _).trans hS3⟩
  ·rw [PR.bind_bad]
   clear h2
   go_enter Tryz.func182, Tryz.ntmps182
   go_wp2_with (first | (go_at_call 125; first | ((with_reducible refine T0.out.mono ?_); rintro e w' ⟨rfl, rfl⟩) | ((with_reducible refine TY.out.mono ?_); rintro e0 w0 ⟨rfl, hI0, hS0⟩; have q0 := HI.out.own h hXk hS0; have Q0 := hid (q0.setD 2); obtain ⟨⟨i0, i1, i2, i3, i4, i5, i6, i7, i8⟩, jf, jl⟩ := ICell.cells q0; have D1 := hid (C1.out _ (hI0.local hXk 2 (.int .i64 2))); clear q0)) | (go_at_call 122; ((with_reducible refine D1.out.mono ?_); rintro e1 w1 ⟨rfl, hI1, hS1⟩; have D2 := hid (C2.out _ hI1); have q1 := Q0.out.own (hI0.local hXk 2 (.int .i64 2)) hXk hS1; have Q1 := hid q1; clear q1)) | (go_at_call 123; ((with_reducible refine D2.out.mono ?_); rintro e2 w2 ⟨rfl, hI2, hS2⟩)))
   exact ⟨rfl, rfl, (((HSW.out.trans hS0).fresh hgW hk _ _).trans hS1).trans hS2⟩
 ·rw [PR.bind_bad]
  clear h1
  go_enter Tryz.func182, Tryz.ntmps182
  go_wp2_with (first | (go_at_call 125; first | ((with_reducible refine T0.out.mono ?_); rintro e w' ⟨rfl, rfl⟩) | ((with_reducible refine TY.out.mono ?_); rintro e0 w0 ⟨rfl, hI0, hS0⟩; have q0 := HI.out.own h hXk hS0; have Q0 := hid (q0.setD 2); obtain ⟨⟨i0, i1, i2, i3, i4, i5, i6, i7, i8⟩, jf, jl⟩ := ICell.cells q0; have D1 := hid (C1.out _ (hI0.local hXk 2 (.int .i64 2))); clear q0)) | (go_at_call 122; ((with_reducible refine D1.out.mono ?_); rintro e1 w1 ⟨rfl, hI1, hS1⟩)))
  exact ⟨rfl, rfl, ((HSW.out.trans hS0).fresh hgW hk _ _).trans hS1⟩
set_option maxHeartbeats 4000000 in
set_option maxRecDepth 100000 in
theorem der_3 {X : Nat → Prop} {g b : Nat} {l : List Tok} {d : Nat} {f : FM} (w W : World) (k : Nat) (s : List UInt8) (t : Int) (h : PInv X g b w l d f) (hXk : X k) (hi : ICell k w s t 0 [] [] (-1)) (hSW : St layP g W w) (hgW : g < W.heap.size) (hk : W.heap.size ≤ k) (e0 : isT kSizeof l = false) (e1 : isT kCountof l = false) (e2 : isT kCrc32 l = true) :
  Calls Tryz.prog 182 #[.pointer (some ⟨g, 0, none⟩), .pointer (some ⟨k, 0, none⟩)] w (DPost X g b d f W k s t (derP l)) := by
 have htop := h.top
 have HSW := hid hSW
 have HI := hid hi
 have T0 := hid (takeN_kSizeof _ h e0)
 have T1 := hid (takeN_kCountof _ h e1)
 have TY := hid (takeY_kCrc32 _ h e2)
 have hdk : derK l = 3 := by unfold derK; rw [if_neg (by rw [e0]; decide), if_neg (by rw [e1]; decide), if_pos e2]
 unfold derP
 rw [hdk, if_neg (by decide)]
 clear hi hSW hdk e0 e1 e2
 have c1 : ∀ w1, PInv X g (b - 3) w1 l.tail d f → _ := fun w1 hi => need_sLp w1 hi
 rcases h1 : need sLp l.tail with ⟨u1, l1⟩ | ⟨lx, xx⟩
 all_goals rw [h1] at c1; have C1 := hid c1; clear c1
 ·rw [PR.bind_ok]
  clear h1
  have c2 : ∀ w1, PInv X g (b - 3 - 3) w1 l1 d f → _ := fun w1 hi => name_any w1 hi
  rcases h2 : nameP l1 with ⟨a, l2⟩ | ⟨lx, xx⟩
  all_goals rw [h2] at c2; have C2 := hid c2; clear c2
  ·rw [PR.bind_ok]
   rw [if_neg (by decide)]
   clear h2
   have c3 : ∀ w1, PInv X g (b - 3 - 3 - 3) w1 l2 d f → _ := fun w1 hi => need_sDots w1 hi
   rcases h3 : need sDots l2 with ⟨u3, l3⟩ | ⟨lx, xx⟩
   all_goals rw [h3] at c3; have C3 := hid c3; clear c3
   ·rw [PR.bind_ok]
    clear h3
    have c4 : ∀ w1, PInv X g (b - 3 - 3 - 3 - 3) w1 l3 d f → _ := fun w1 hi => name_any w1 hi
    rcases h4 : nameP l3 with ⟨c, l4⟩ | ⟨lx, xx⟩
    all_goals rw [h4] at c4; have C4 := hid c4; clear c4
    ·rw [PR.bind_ok]
     clear h4
     have c5 : ∀ w1, PInv X g (b - 3 - 3 - 3 - 3 - 3) w1 l4 d f → _ := fun w1 hi => need_sRp w1 hi
     rcases h5 : need sRp l4 with ⟨u5, l5⟩ | ⟨lx, xx⟩
     all_goals rw [h5] at c5; have C5 := hid c5; clear c5
     ·rw [PR.bind_ok]
      clear h5
      go_enter Tryz.func182, Tryz.ntmps182
      go_wp2_with (first | (go_at_call 125; first | ((with_reducible refine T0.out.mono ?_); rintro e w' ⟨rfl, rfl⟩) | ((with_reducible refine T1.out.mono ?_); rintro e w' ⟨rfl, rfl⟩) | ((with_reducible refine TY.out.mono ?_); rintro e0 w0 ⟨rfl, hI0, hS0⟩; have q0 := HI.out.own h hXk hS0; have Q0 := hid (q0.setD 3); obtain ⟨⟨i0, i1, i2, i3, i4, i5, i6, i7, i8⟩, jf, jl⟩ := ICell.cells q0; have D1 := hid (C1.out _ (hI0.local hXk 2 (.int .i64 3))); clear q0)) | (go_at_call 122; first | ((with_reducible refine D1.out.mono ?_); rintro e1 w1 ⟨rfl, hI1, hS1⟩; have D2 := hid (C2.out _ hI1); have q1 := Q0.out.own (hI0.local hXk 2 (.int .i64 3)) hXk hS1; have Q1 := hid q1; clear q1) | ((with_reducible refine D3.out.mono ?_); rintro e3 w3 ⟨rfl, hI3, hS3⟩; have D4 := hid (C4.out _ hI3); have q3 := Q2.out.own (hI2.local hXk 3 (.string (bs a))) hXk hS3; have Q3 := hid q3; clear q3) | ((with_reducible refine D5.out.mono ?_); rintro e5 w5 ⟨rfl, hI5, hS5⟩)) | (go_at_call 123; first | ((with_reducible refine D2.out.mono ?_); rintro e2 w2 ⟨rfl, hI2, hS2⟩; have D3 := hid (C3.out _ (hI2.local hXk 3 (.string (bs a)))); clear i0 i1 i2 i3 i4 i5 i6 i7 i8 jf jl; have q2 := Q1.out.own hI1 hXk hS2; have Q2 := hid (q2.setA a); obtain ⟨⟨i0, i1, i2, i3, i4, i5, i6, i7, i8⟩, jf, jl⟩ := ICell.cells q2; clear q2) | ((with_reducible refine D4.out.mono ?_); rintro e4 w4 ⟨rfl, hI4, hS4⟩; have D5 := hid (C5.out _ (hI4.local hXk 4 (.string (bs c)))); clear i0 i1 i2 i3 i4 i5 i6 i7 i8 jf jl; have q4 := Q3.out.own hI3 hXk hS4; have Q4 := hid (q4.setB c); obtain ⟨⟨i0, i1, i2, i3, i4, i5, i6, i7, i8⟩, jf, jl⟩ := ICell.cells q4; clear q4)))
      go_end0
      exact ⟨⟨rfl, hI5.mono (by omega) htop, Q4.out.own (hI4.local hXk 4 (.string (bs c))) hXk hS5⟩, ((((((((HSW.out.trans hS0).fresh hgW hk _ _).trans hS1).trans hS2).fresh hgW hk _ _).trans hS3).trans hS4).fresh hgW hk _ _).trans hS5⟩
     ·rw [PR.bind_bad]
      clear h5
      go_enter Tryz.func182, Tryz.ntmps182
      go_wp2_with (first | (go_at_call 125; first | ((with_reducible refine T0.out.mono ?_); rintro e w' ⟨rfl, rfl⟩) | ((with_reducible refine T1.out.mono ?_); rintro e w' ⟨rfl, rfl⟩) | ((with_reducible refine TY.out.mono ?_); rintro e0 w0 ⟨rfl, hI0, hS0⟩; have q0 := HI.out.own h hXk hS0; have Q0 := hid (q0.setD 3); obtain ⟨⟨i0, i1, i2, i3, i4, i5, i6, i7, i8⟩, jf, jl⟩ := ICell.cells q0; have D1 := hid (C1.out _ (hI0.local hXk 2 (.int .i64 3))); clear q0)) | (go_at_call 122; first | ((with_reducible refine D1.out.mono ?_); rintro e1 w1 ⟨rfl, hI1, hS1⟩; have D2 := hid (C2.out _ hI1); have q1 := Q0.out.own (hI0.local hXk 2 (.int .i64 3)) hXk hS1; have Q1 := hid q1; clear q1) | ((with_reducible refine D3.out.mono ?_); rintro e3 w3 ⟨rfl, hI3, hS3⟩; have D4 := hid (C4.out _ hI3); have q3 := Q2.out.own (hI2.local hXk 3 (.string (bs a))) hXk hS3; have Q3 := hid q3; clear q3) | ((with_reducible refine D5.out.mono ?_); rintro e5 w5 ⟨rfl, hI5, hS5⟩)) | (go_at_call 123; first | ((with_reducible refine D2.out.mono ?_); rintro e2 w2 ⟨rfl, hI2, hS2⟩; have D3 := hid (C3.out _ (hI2.local hXk 3 (.string (bs a)))); clear i0 i1 i2 i3 i4 i5 i6 i7 i8 jf jl; have q2 := Q1.out.own hI1 hXk hS2; have Q2 := hid (q2.setA a); obtain ⟨⟨i0, i1, i2, i3, i4, i5, i6, i7, i8⟩, jf, jl⟩ := ICell.cells q2; clear q2) | ((with_reducible refine D4.out.mono ?_); rintro e4 w4 ⟨rfl, hI4, hS4⟩; have D5 := hid (C5.out _ (hI4.local hXk 4 (.string (bs c)))); clear i0 i1 i2 i3 i4 i5 i6 i7 i8 jf jl; have q4 := Q3.out.own hI3 hXk hS4; have Q4 := hid (q4.setB c); obtain ⟨⟨i0, i1, i2, i3, i4, i5, i6, i7, i8⟩, jf, jl⟩ := ICell.cells q4; clear q4)))
      exact ⟨rfl, rfl, ((((((((HSW.out.trans hS0).fresh hgW hk _ _).trans hS1).trans hS2).fresh hgW hk _ _).trans hS3).trans hS4).fresh hgW hk _ _).trans hS5⟩
    ·rw [PR.bind_bad]
     clear h4
     go_enter Tryz.func182, Tryz.ntmps182
     go_wp2_with (first | (go_at_call 125; first | ((with_reducible refine T0.out.mono ?_); rintro e w' ⟨rfl, rfl⟩) | ((with_reducible refine T1.out.mono ?_); rintro e w' ⟨rfl, rfl⟩) | ((with_reducible refine TY.out.mono ?_); rintro e0 w0 ⟨rfl, hI0, hS0⟩; have q0 := HI.out.own h hXk hS0; have Q0 := hid (q0.setD 3); obtain ⟨⟨i0, i1, i2, i3, i4, i5, i6, i7, i8⟩, jf, jl⟩ := ICell.cells q0; have D1 := hid (C1.out _ (hI0.local hXk 2 (.int .i64 3))); clear q0)) | (go_at_call 122; first | ((with_reducible refine D1.out.mono ?_); rintro e1 w1 ⟨rfl, hI1, hS1⟩; have D2 := hid (C2.out _ hI1); have q1 := Q0.out.own (hI0.local hXk 2 (.int .i64 3)) hXk hS1; have Q1 := hid q1; clear q1) | ((with_reducible refine D3.out.mono ?_); rintro e3 w3 ⟨rfl, hI3, hS3⟩; have D4 := hid (C4.out _ hI3); have q3 := Q2.out.own (hI2.local hXk 3 (.string (bs a))) hXk hS3; have Q3 := hid q3; clear q3)) | (go_at_call 123; first | ((with_reducible refine D2.out.mono ?_); rintro e2 w2 ⟨rfl, hI2, hS2⟩; have D3 := hid (C3.out _ (hI2.local hXk 3 (.string (bs a)))); clear i0 i1 i2 i3 i4 i5 i6 i7 i8 jf jl; have q2 := Q1.out.own hI1 hXk hS2; have Q2 := hid (q2.setA a); obtain ⟨⟨i0, i1, i2, i3, i4, i5, i6, i7, i8⟩, jf, jl⟩ := ICell.cells q2; clear q2) | ((with_reducible refine D4.out.mono ?_); rintro e4 w4 ⟨rfl, hI4, hS4⟩)))
     exact ⟨rfl, rfl, ((((((HSW.out.trans hS0).fresh hgW hk _ _).trans hS1).trans hS2).fresh hgW hk _ _).trans hS3).trans hS4⟩
   ·rw [PR.bind_bad]
    clear h3
    go_enter Tryz.func182, Tryz.ntmps182
    go_wp2_with (first | (go_at_call 125; first | ((with_reducible refine T0.out.mono ?_); rintro e w' ⟨rfl, rfl⟩) | ((with_reducible refine T1.out.mono ?_); rintro e w' ⟨rfl, rfl⟩) | ((with_reducible refine TY.out.mono ?_); rintro e0 w0 ⟨rfl, hI0, hS0⟩; have q0 := HI.out.own h hXk hS0; have Q0 := hid (q0.setD 3); obtain ⟨⟨i0, i1, i2, i3, i4, i5, i6, i7, i8⟩, jf, jl⟩ := ICell.cells q0; have D1 := hid (C1.out _ (hI0.local hXk 2 (.int .i64 3))); clear q0)) | (go_at_call 122; first | ((with_reducible refine D1.out.mono ?_); rintro e1 w1 ⟨rfl, hI1, hS1⟩; have D2 := hid (C2.out _ hI1); have q1 := Q0.out.own (hI0.local hXk 2 (.int .i64 3)) hXk hS1; have Q1 := hid q1; clear q1) | ((with_reducible refine D3.out.mono ?_); rintro e3 w3 ⟨rfl, hI3, hS3⟩)) | (go_at_call 123; ((with_reducible refine D2.out.mono ?_); rintro e2 w2 ⟨rfl, hI2, hS2⟩; have D3 := hid (C3.out _ (hI2.local hXk 3 (.string (bs a)))); clear i0 i1 i2 i3 i4 i5 i6 i7 i8 jf jl; have q2 := Q1.out.own hI1 hXk hS2; have Q2 := hid (q2.setA a); obtain ⟨⟨i0, i1, i2, i3, i4, i5, i6, i7, i8⟩, jf, jl⟩ := ICell.cells q2; clear q2)))
    exact ⟨rfl, rfl, (((((HSW.out.trans hS0).fresh hgW hk _ _).trans hS1).trans hS2).fresh hgW hk _ _).trans hS3⟩
  ·rw [PR.bind_bad]
   clear h2
   go_enter Tryz.func182, Tryz.ntmps182
   go_wp2_with (first | (go_at_call 125; first | ((with_reducible refine T0.out.mono ?_); rintro e w' ⟨rfl, rfl⟩) | ((with_reducible refine T1.out.mono ?_); rintro e w' ⟨rfl, rfl⟩) | ((with_reducible refine TY.out.mono ?_); rintro e0 w0 ⟨rfl, hI0, hS0⟩; have q0 := HI.out.own h hXk hS0; have Q0 := hid (q0.setD 3); obtain ⟨⟨i0, i1, i2, i3, i4, i5, i6, i7, i8⟩, jf, jl⟩ := ICell.cells q0; have D1 := hid (C1.out _ (hI0.local hXk 2 (.int .i64 3))); clear q0)) | (go_at_call 122; ((with_reducible refine D1.out.mono ?_); rintro e1 w1 ⟨rfl, hI1, hS1⟩; have D2 := hid (C2.out _ hI1); have q1 := Q0.out.own (hI0.local hXk 2 (.int .i64 3)) hXk hS1; have Q1 := hid q1; clear q1)) | (go_at_call 123; ((with_reducible refine D2.out.mono ?_); rintro e2 w2 ⟨rfl, hI2, hS2⟩)))
   exact ⟨rfl, rfl, (((HSW.out.trans hS0).fresh hgW hk _ _).trans hS1).trans hS2⟩
 ·rw [PR.bind_bad]
  clear h1
  go_enter Tryz.func182, Tryz.ntmps182
  go_wp2_with (first | (go_at_call 125; first | ((with_reducible refine T0.out.mono ?_); rintro e w' ⟨rfl, rfl⟩) | ((with_reducible refine T1.out.mono ?_); rintro e w' ⟨rfl, rfl⟩) | ((with_reducible refine TY.out.mono ?_); rintro e0 w0 ⟨rfl, hI0, hS0⟩; have q0 := HI.out.own h hXk hS0; have Q0 := hid (q0.setD 3); obtain ⟨⟨i0, i1, i2, i3, i4, i5, i6, i7, i8⟩, jf, jl⟩ := ICell.cells q0; have D1 := hid (C1.out _ (hI0.local hXk 2 (.int .i64 3))); clear q0)) | (go_at_call 122; ((with_reducible refine D1.out.mono ?_); rintro e1 w1 ⟨rfl, hI1, hS1⟩)))
  exact ⟨rfl, rfl, ((HSW.out.trans hS0).fresh hgW hk _ _).trans hS1⟩
set_option maxHeartbeats 4000000 in
set_option maxRecDepth 100000 in
theorem der_4 {X : Nat → Prop} {g b : Nat} {l : List Tok} {d : Nat} {f : FM} (w W : World) (k : Nat) (s : List UInt8) (t : Int) (h : PInv X g b w l d f) (hXk : X k) (hi : ICell k w s t 0 [] [] (-1)) (hSW : St layP g W w) (hgW : g < W.heap.size) (hk : W.heap.size ≤ k) (e0 : isT kSizeof l = false) (e1 : isT kCountof l = false) (e2 : isT kCrc32 l = false) (e3 : isT kAdler32 l = true) :
  Calls Tryz.prog 182 #[.pointer (some ⟨g, 0, none⟩), .pointer (some ⟨k, 0, none⟩)] w (DPost X g b d f W k s t (derP l)) := by
 have htop := h.top
 have HSW := hid hSW
 have HI := hid hi
 have T0 := hid (takeN_kSizeof _ h e0)
 have T1 := hid (takeN_kCountof _ h e1)
 have T2 := hid (takeN_kCrc32 _ h e2)
 have TY := hid (takeY_kAdler32 _ h e3)
 have hdk : derK l = 4 := by unfold derK; rw [if_neg (by rw [e0]; decide), if_neg (by rw [e1]; decide), if_neg (by rw [e2]; decide), if_pos e3]
 unfold derP
 rw [hdk, if_neg (by decide)]
 clear hi hSW hdk e0 e1 e2 e3
 have c1 : ∀ w1, PInv X g (b - 3) w1 l.tail d f → _ := fun w1 hi => need_sLp w1 hi
 rcases h1 : need sLp l.tail with ⟨u1, l1⟩ | ⟨lx, xx⟩
 all_goals rw [h1] at c1; have C1 := hid c1; clear c1
 ·rw [PR.bind_ok]
  clear h1
  have c2 : ∀ w1, PInv X g (b - 3 - 3) w1 l1 d f → _ := fun w1 hi => name_any w1 hi
  rcases h2 : nameP l1 with ⟨a, l2⟩ | ⟨lx, xx⟩
  all_goals rw [h2] at c2; have C2 := hid c2; clear c2
  ·rw [PR.bind_ok]
   rw [if_neg (by decide)]
   clear h2
   have c3 : ∀ w1, PInv X g (b - 3 - 3 - 3) w1 l2 d f → _ := fun w1 hi => need_sDots w1 hi
   rcases h3 : need sDots l2 with ⟨u3, l3⟩ | ⟨lx, xx⟩
   all_goals rw [h3] at c3; have C3 := hid c3; clear c3
   ·rw [PR.bind_ok]
    clear h3
    have c4 : ∀ w1, PInv X g (b - 3 - 3 - 3 - 3) w1 l3 d f → _ := fun w1 hi => name_any w1 hi
    rcases h4 : nameP l3 with ⟨c, l4⟩ | ⟨lx, xx⟩
    all_goals rw [h4] at c4; have C4 := hid c4; clear c4
    ·rw [PR.bind_ok]
     clear h4
     have c5 : ∀ w1, PInv X g (b - 3 - 3 - 3 - 3 - 3) w1 l4 d f → _ := fun w1 hi => need_sRp w1 hi
     rcases h5 : need sRp l4 with ⟨u5, l5⟩ | ⟨lx, xx⟩
     all_goals rw [h5] at c5; have C5 := hid c5; clear c5
     ·rw [PR.bind_ok]
      clear h5
      go_enter Tryz.func182, Tryz.ntmps182
      go_wp2_with (first | (go_at_call 125; first | ((with_reducible refine T0.out.mono ?_); rintro e w' ⟨rfl, rfl⟩) | ((with_reducible refine T1.out.mono ?_); rintro e w' ⟨rfl, rfl⟩) | ((with_reducible refine T2.out.mono ?_); rintro e w' ⟨rfl, rfl⟩) | ((with_reducible refine TY.out.mono ?_); rintro e0 w0 ⟨rfl, hI0, hS0⟩; have q0 := HI.out.own h hXk hS0; have Q0 := hid (q0.setD 4); obtain ⟨⟨i0, i1, i2, i3, i4, i5, i6, i7, i8⟩, jf, jl⟩ := ICell.cells q0; have D1 := hid (C1.out _ (hI0.local hXk 2 (.int .i64 4))); clear q0)) | (go_at_call 122; first | ((with_reducible refine D1.out.mono ?_); rintro e1 w1 ⟨rfl, hI1, hS1⟩; have D2 := hid (C2.out _ hI1); have q1 := Q0.out.own (hI0.local hXk 2 (.int .i64 4)) hXk hS1; have Q1 := hid q1; clear q1) | ((with_reducible refine D3.out.mono ?_); rintro e3 w3 ⟨rfl, hI3, hS3⟩; have D4 := hid (C4.out _ hI3); have q3 := Q2.out.own (hI2.local hXk 3 (.string (bs a))) hXk hS3; have Q3 := hid q3; clear q3) | ((with_reducible refine D5.out.mono ?_); rintro e5 w5 ⟨rfl, hI5, hS5⟩)) | (go_at_call 123; first | ((with_reducible refine D2.out.mono ?_); rintro e2 w2 ⟨rfl, hI2, hS2⟩; have D3 := hid (C3.out _ (hI2.local hXk 3 (.string (bs a)))); clear i0 i1 i2 i3 i4 i5 i6 i7 i8 jf jl; have q2 := Q1.out.own hI1 hXk hS2; have Q2 := hid (q2.setA a); obtain ⟨⟨i0, i1, i2, i3, i4, i5, i6, i7, i8⟩, jf, jl⟩ := ICell.cells q2; clear q2) | ((with_reducible refine D4.out.mono ?_); rintro e4 w4 ⟨rfl, hI4, hS4⟩; have D5 := hid (C5.out _ (hI4.local hXk 4 (.string (bs c)))); clear i0 i1 i2 i3 i4 i5 i6 i7 i8 jf jl; have q4 := Q3.out.own hI3 hXk hS4; have Q4 := hid (q4.setB c); obtain ⟨⟨i0, i1, i2, i3, i4, i5, i6, i7, i8⟩, jf, jl⟩ := ICell.cells q4; clear q4)))
      go_end0
      exact ⟨⟨rfl, hI5.mono (by omega) htop, Q4.out.own (hI4.local hXk 4 (.string (bs c))) hXk hS5⟩, ((((((((HSW.out.trans hS0).fresh hgW hk _ _).trans hS1).trans hS2).fresh hgW hk _ _).trans hS3).trans hS4).fresh hgW hk _ _).trans hS5⟩
     ·rw [PR.bind_bad]
      clear h5
      go_enter Tryz.func182, Tryz.ntmps182
      go_wp2_with (first | (go_at_call 125; first | ((with_reducible refine T0.out.mono ?_); rintro e w' ⟨rfl, rfl⟩) | ((with_reducible refine T1.out.mono ?_); rintro e w' ⟨rfl, rfl⟩) | ((with_reducible refine T2.out.mono ?_); rintro e w' ⟨rfl, rfl⟩) | ((with_reducible refine TY.out.mono ?_); rintro e0 w0 ⟨rfl, hI0, hS0⟩; have q0 := HI.out.own h hXk hS0; have Q0 := hid (q0.setD 4); obtain ⟨⟨i0, i1, i2, i3, i4, i5, i6, i7, i8⟩, jf, jl⟩ := ICell.cells q0; have D1 := hid (C1.out _ (hI0.local hXk 2 (.int .i64 4))); clear q0)) | (go_at_call 122; first | ((with_reducible refine D1.out.mono ?_); rintro e1 w1 ⟨rfl, hI1, hS1⟩; have D2 := hid (C2.out _ hI1); have q1 := Q0.out.own (hI0.local hXk 2 (.int .i64 4)) hXk hS1; have Q1 := hid q1; clear q1) | ((with_reducible refine D3.out.mono ?_); rintro e3 w3 ⟨rfl, hI3, hS3⟩; have D4 := hid (C4.out _ hI3); have q3 := Q2.out.own (hI2.local hXk 3 (.string (bs a))) hXk hS3; have Q3 := hid q3; clear q3) | ((with_reducible refine D5.out.mono ?_); rintro e5 w5 ⟨rfl, hI5, hS5⟩)) | (go_at_call 123; first | ((with_reducible refine D2.out.mono ?_); rintro e2 w2 ⟨rfl, hI2, hS2⟩; have D3 := hid (C3.out _ (hI2.local hXk 3 (.string (bs a)))); clear i0 i1 i2 i3 i4 i5 i6 i7 i8 jf jl; have q2 := Q1.out.own hI1 hXk hS2; have Q2 := hid (q2.setA a); obtain ⟨⟨i0, i1, i2, i3, i4, i5, i6, i7, i8⟩, jf, jl⟩ := ICell.cells q2; clear q2) | ((with_reducible refine D4.out.mono ?_); rintro e4 w4 ⟨rfl, hI4, hS4⟩; have D5 := hid (C5.out _ (hI4.local hXk 4 (.string (bs c)))); clear i0 i1 i2 i3 i4 i5 i6 i7 i8 jf jl; have q4 := Q3.out.own hI3 hXk hS4; have Q4 := hid (q4.setB c); obtain ⟨⟨i0, i1, i2, i3, i4, i5, i6, i7, i8⟩, jf, jl⟩ := ICell.cells q4; clear q4)))
      exact ⟨rfl, rfl, ((((((((HSW.out.trans hS0).fresh hgW hk _ _).trans hS1).trans hS2).fresh hgW hk _ _).trans hS3).trans hS4).fresh hgW hk _ _).trans hS5⟩
    ·rw [PR.bind_bad]
     clear h4
     go_enter Tryz.func182, Tryz.ntmps182
     go_wp2_with (first | (go_at_call 125; first | ((with_reducible refine T0.out.mono ?_); rintro e w' ⟨rfl, rfl⟩) | ((with_reducible refine T1.out.mono ?_); rintro e w' ⟨rfl, rfl⟩) | ((with_reducible refine T2.out.mono ?_); rintro e w' ⟨rfl, rfl⟩) | ((with_reducible refine TY.out.mono ?_); rintro e0 w0 ⟨rfl, hI0, hS0⟩; have q0 := HI.out.own h hXk hS0; have Q0 := hid (q0.setD 4); obtain ⟨⟨i0, i1, i2, i3, i4, i5, i6, i7, i8⟩, jf, jl⟩ := ICell.cells q0; have D1 := hid (C1.out _ (hI0.local hXk 2 (.int .i64 4))); clear q0)) | (go_at_call 122; first | ((with_reducible refine D1.out.mono ?_); rintro e1 w1 ⟨rfl, hI1, hS1⟩; have D2 := hid (C2.out _ hI1); have q1 := Q0.out.own (hI0.local hXk 2 (.int .i64 4)) hXk hS1; have Q1 := hid q1; clear q1) | ((with_reducible refine D3.out.mono ?_); rintro e3 w3 ⟨rfl, hI3, hS3⟩; have D4 := hid (C4.out _ hI3); have q3 := Q2.out.own (hI2.local hXk 3 (.string (bs a))) hXk hS3; have Q3 := hid q3; clear q3)) | (go_at_call 123; first | ((with_reducible refine D2.out.mono ?_); rintro e2 w2 ⟨rfl, hI2, hS2⟩; have D3 := hid (C3.out _ (hI2.local hXk 3 (.string (bs a)))); clear i0 i1 i2 i3 i4 i5 i6 i7 i8 jf jl; have q2 := Q1.out.own hI1 hXk hS2; have Q2 := hid (q2.setA a); obtain ⟨⟨i0, i1, i2, i3, i4, i5, i6, i7, i8⟩, jf, jl⟩ := ICell.cells q2; clear q2) | ((with_reducible refine D4.out.mono ?_); rintro e4 w4 ⟨rfl, hI4, hS4⟩)))
     exact ⟨rfl, rfl, ((((((HSW.out.trans hS0).fresh hgW hk _ _).trans hS1).trans hS2).fresh hgW hk _ _).trans hS3).trans hS4⟩
   ·rw [PR.bind_bad]
    clear h3
    go_enter Tryz.func182, Tryz.ntmps182
    go_wp2_with (first | (go_at_call 125; first | ((with_reducible refine T0.out.mono ?_); rintro e w' ⟨rfl, rfl⟩) | ((with_reducible refine T1.out.mono ?_); rintro e w' ⟨rfl, rfl⟩) | ((with_reducible refine T2.out.mono ?_); rintro e w' ⟨rfl, rfl⟩) | ((with_reducible refine TY.out.mono ?_); rintro e0 w0 ⟨rfl, hI0, hS0⟩; have q0 := HI.out.own h hXk hS0; have Q0 := hid (q0.setD 4); obtain ⟨⟨i0, i1, i2, i3, i4, i5, i6, i7, i8⟩, jf, jl⟩ := ICell.cells q0; have D1 := hid (C1.out _ (hI0.local hXk 2 (.int .i64 4))); clear q0)) | (go_at_call 122; first | ((with_reducible refine D1.out.mono ?_); rintro e1 w1 ⟨rfl, hI1, hS1⟩; have D2 := hid (C2.out _ hI1); have q1 := Q0.out.own (hI0.local hXk 2 (.int .i64 4)) hXk hS1; have Q1 := hid q1; clear q1) | ((with_reducible refine D3.out.mono ?_); rintro e3 w3 ⟨rfl, hI3, hS3⟩)) | (go_at_call 123; ((with_reducible refine D2.out.mono ?_); rintro e2 w2 ⟨rfl, hI2, hS2⟩; have D3 := hid (C3.out _ (hI2.local hXk 3 (.string (bs a)))); clear i0 i1 i2 i3 i4 i5 i6 i7 i8 jf jl; have q2 := Q1.out.own hI1 hXk hS2; have Q2 := hid (q2.setA a); obtain ⟨⟨i0, i1, i2, i3, i4, i5, i6, i7, i8⟩, jf, jl⟩ := ICell.cells q2; clear q2)))
    exact ⟨rfl, rfl, (((((HSW.out.trans hS0).fresh hgW hk _ _).trans hS1).trans hS2).fresh hgW hk _ _).trans hS3⟩
  ·rw [PR.bind_bad]
   clear h2
   go_enter Tryz.func182, Tryz.ntmps182
   go_wp2_with (first | (go_at_call 125; first | ((with_reducible refine T0.out.mono ?_); rintro e w' ⟨rfl, rfl⟩) | ((with_reducible refine T1.out.mono ?_); rintro e w' ⟨rfl, rfl⟩) | ((with_reducible refine T2.out.mono ?_); rintro e w' ⟨rfl, rfl⟩) | ((with_reducible refine TY.out.mono ?_); rintro e0 w0 ⟨rfl, hI0, hS0⟩; have q0 := HI.out.own h hXk hS0; have Q0 := hid (q0.setD 4); obtain ⟨⟨i0, i1, i2, i3, i4, i5, i6, i7, i8⟩, jf, jl⟩ := ICell.cells q0; have D1 := hid (C1.out _ (hI0.local hXk 2 (.int .i64 4))); clear q0)) | (go_at_call 122; ((with_reducible refine D1.out.mono ?_); rintro e1 w1 ⟨rfl, hI1, hS1⟩; have D2 := hid (C2.out _ hI1); have q1 := Q0.out.own (hI0.local hXk 2 (.int .i64 4)) hXk hS1; have Q1 := hid q1; clear q1)) | (go_at_call 123; ((with_reducible refine D2.out.mono ?_); rintro e2 w2 ⟨rfl, hI2, hS2⟩)))
   exact ⟨rfl, rfl, (((HSW.out.trans hS0).fresh hgW hk _ _).trans hS1).trans hS2⟩
 ·rw [PR.bind_bad]
  clear h1
  go_enter Tryz.func182, Tryz.ntmps182
  go_wp2_with (first | (go_at_call 125; first | ((with_reducible refine T0.out.mono ?_); rintro e w' ⟨rfl, rfl⟩) | ((with_reducible refine T1.out.mono ?_); rintro e w' ⟨rfl, rfl⟩) | ((with_reducible refine T2.out.mono ?_); rintro e w' ⟨rfl, rfl⟩) | ((with_reducible refine TY.out.mono ?_); rintro e0 w0 ⟨rfl, hI0, hS0⟩; have q0 := HI.out.own h hXk hS0; have Q0 := hid (q0.setD 4); obtain ⟨⟨i0, i1, i2, i3, i4, i5, i6, i7, i8⟩, jf, jl⟩ := ICell.cells q0; have D1 := hid (C1.out _ (hI0.local hXk 2 (.int .i64 4))); clear q0)) | (go_at_call 122; ((with_reducible refine D1.out.mono ?_); rintro e1 w1 ⟨rfl, hI1, hS1⟩)))
  exact ⟨rfl, rfl, ((HSW.out.trans hS0).fresh hgW hk _ _).trans hS1⟩
set_option maxHeartbeats 4000000 in
set_option maxRecDepth 100000 in
theorem der_any {X : Nat → Prop} {g b : Nat} {l : List Tok} {d : Nat} {f : FM} (w W : World) (k : Nat) (s : List UInt8) (t : Int) (h : PInv X g b w l d f) (hXk : X k) (hi : ICell k w s t 0 [] [] (-1)) (hSW : St layP g W w) (hgW : g < W.heap.size) (hk : W.heap.size ≤ k) :
  Calls Tryz.prog 182 #[.pointer (some ⟨g, 0, none⟩), .pointer (some ⟨k, 0, none⟩)] w (DPost X g b d f W k s t (derP l)) := by
 cases e0 : isT kSizeof l
 ·cases e1 : isT kCountof l
  ·cases e2 : isT kCrc32 l
   ·cases e3 : isT kAdler32 l
    ·have T0 := hid (takeN_kSizeof _ h e0)
     have T1 := hid (takeN_kCountof _ h e1)
     have T2 := hid (takeN_kCrc32 _ h e2)
     have T3 := hid (takeN_kAdler32 _ h e3)
     have CF := hid (fail_any 4 _ h)
     have HSW := hid hSW
     have hr : derP l = .bad l 4 := by
      have hd : derK l = 0 := by unfold derK; rw [if_neg (by rw [e0]; decide), if_neg (by rw [e1]; decide), if_neg (by rw [e2]; decide), if_neg (by rw [e3]; decide)]
      unfold derP
      rw [if_pos hd]
     rw [hr]
     clear hr e0 e1 e2 e3 h hi hSW
     go_enter Tryz.func182, Tryz.ntmps182
     go_wp2_with (first | (go_at_call 125; first | ((with_reducible refine T0.out.mono ?_); rintro e w' ⟨rfl, rfl⟩) | ((with_reducible refine T1.out.mono ?_); rintro e w' ⟨rfl, rfl⟩) | ((with_reducible refine T2.out.mono ?_); rintro e w' ⟨rfl, rfl⟩) | ((with_reducible refine T3.out.mono ?_); rintro e w' ⟨rfl, rfl⟩)) | (go_at_call 79; go_must (refine CF.out.mono ?_; rintro e w' ⟨rfl, rfl⟩)))
     exact ⟨rfl, rfl, HSW.out⟩
    ·exact der_4 w W k s t h hXk hi hSW hgW hk e0 e1 e2 e3
   ·exact der_3 w W k s t h hXk hi hSW hgW hk e0 e1 e2
  ·exact der_2 w W k s t h hXk hi hSW hgW hk e0 e1
 ·exact der_1 w W k s t h hXk hi hSW hgW hk e0
end Go.Proofs.YtomimkgaelkaoaaGreatDoor
