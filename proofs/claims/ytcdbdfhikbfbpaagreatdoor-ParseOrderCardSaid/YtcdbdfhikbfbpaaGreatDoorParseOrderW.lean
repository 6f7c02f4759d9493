/- The walk of the law ParseOrder. -/
import Derived.Test.YtcdbdfhikbfbpaaGreatDoorParOr
import Derived.Deep.QuietTactic
import Derived.Deep.RegionWith
import Derived.Deep.DeepCutAuto
namespace Go.Proofs.YtcdbdfhikbfbpaaGreatDoor
open Go.ChangeShapes Go.WideShapes Go.ChangeAt Go.RowKit
set_option linter.unusedVariables false

set_option maxHeartbeats 4000000 in
set_option maxRecDepth 100000 in
theorem order_err (s : ByteArray) (w : World) (hE : Env w) (hK : KEnv (fun b => b < w.heap.size) w) (x : Nat) (hx : frE (parseL s.data.toList) = x) (hno : x ≠ 0) :
    Calls Tryz.prog 7 #[.string s] w fun e w' => e = .returned (.bool true) ∧ Below w.heap.size w w' := by
  have HE := Lib.hid hE
  have HK := Lib.hid hK
  have HW := Lib.hid fun w hE hK => wakes_any w hE hK
  have C1 := Lib.hid fun w hE hK => parse_err s hx w hE hK
  have hq : ((x : Int) != 0) = true := by simp; omega
  clear hE hK hx hno
  go_enter Tryz.func7, Tryz.ntmps7
  go_wp2_with (first | (go_at_call 10; refine (C1.out _ HE.out HK.out).mono ?_; rintro e w1 ⟨v1, p1, q1, rfl, hb1⟩; have B1 := Lib.hid (chain hb1 (Nat.le_refl _) (below_box w1 (.cells #[.int .i64 p1, .int .i64 q1] 24)))) | (go_at_call 12; first | (have fresh := B2; clear fresh; refine (HW.out _ (HE.out.below B2.out) (HK.out.low B2.out)).mono ?_; rintro e w3 ⟨rfl, hb3⟩; have B3 := Lib.hid (chain B2.out (Nat.le_refl _) hb3)) | (refine (HW.out _ (HE.out.below B1.out) (HK.out.low B1.out)).mono ?_; rintro e w2 ⟨rfl, hb2⟩; have B2 := Lib.hid (chain B1.out (Nat.le_refl _) hb2))))
  go_ret
  exact ⟨rfl, B3.out⟩
set_option maxHeartbeats 16000000 in
set_option maxRecDepth 100000 in
theorem order_all (s : ByteArray) (w : World) (hE : Env w) (hK : KEnv (fun b => b < w.heap.size) w) (f : FM) (hf : parseL s.data.toList = .ok f) (hO : OrdF f) :
    Calls Tryz.prog 7 #[.string s] w fun e w' => e = .returned (.bool true) ∧ Below w.heap.size w w' := by
  have HE := Lib.hid hE
  have HK := Lib.hid hK
  have HW := Lib.hid fun w hE hK => wakes_any w hE hK
  have C1 := Lib.hid fun w hE hK => or_file hf w hE hK
  have HO := Lib.hid hO
  clear hE hK hf hO
  have hmf : ∀ (fn : Fn) (first cap : Array Value) (w : World), (Instr.makeFunc fn first cap).run Tryz.prog w = .ok (.func fn first cap) w := fun _ _ _ _ => rfl
  go_enter Tryz.func7, Tryz.ntmps7
  go_wp2_with (first | (go_at_call 10; refine (C1.out _ HE.out HK.out).mono ?_; rintro e w1 ⟨⟨g1, rfl, hF1⟩, ⟨m1, m2, m3⟩, hb1⟩; have B1 := Lib.hid (chain hb1 (Nat.le_refl _) (below_box w1 (.cells #[.int .i64 0, .int .i64 0] 24))); have F1 := Lib.hid (hF1.below (below_box w1 (.cells #[.int .i64 0, .int .i64 0] 24))); clear hF1 hb1) | (go_at_call 12; refine (HW.out _ (HE.out.below B1.out) (HK.out.low B1.out)).mono ?_; rintro e w2 ⟨rfl, hb2⟩; have B2 := Lib.hid (chain B1.out (Nat.le_refl _) hb2); have F2 := Lib.hid (F1.out.below hb2); clear hb2))
  obtain ⟨ac, cc, ab, cb, ax, cx, at', ct, e1, e2, e3, e4, h1, h2, h3, h4, hgl⟩ := F2.out.look
  have hfz : ∀ j, w2.frozen? ⟨g1, j, none⟩ = false := fun j => by
    obtain ⟨v0, vc, vs, vx, vt, v5, q, -⟩ := F2.out
    simp [World.frozen?, q]
  have S2 := Lib.hid h2
  have S3 := Lib.hid h3
  have S4 := Lib.hid h4
  clear h1 h2 h3 h4 F1 B1 C1 HW HE HK
  obtain ⟨i0, hi, hz0, hz1, hz2⟩ := info_parts info_int1o
  have hnx : f.g.xs.length ≤ 1000000 := by omega
  have hnt : f.g.ts.length ≤ 1000000 := by omega
  go_cut [6, 7] (fun s6 s7 wx => ∃ A T, s6 = .slice (some ⟨A, 0, none⟩) f.g.xs.length f.g.xs.length ∧ s7 = .slice (some ⟨T, 0, none⟩) f.g.ts.length f.g.ts.length ∧ IRow A f.g.xs.length [] wx ∧ IRow T f.g.ts.length [] wx ∧ Below w2.heap.size w2 wx ∧ w2.heap.size ≤ A ∧ w2.heap.size ≤ T ∧ A ≠ T)
  case first =>
    have hm1 := make_ints f.g.xs.length hnx
    have hm2 := make_ints f.g.ts.length hnt
    have z1 : ∀ o, (w2.drew.alloc o).cell? ⟨g1, 3, none⟩ = some (.slice ax f.g.xs.length cx) := fun o => ((below_box w2.drew o).cell (p := ⟨g1, 3, none⟩) hgl).trans e3
    have z2 : ∀ o, (w2.drew.alloc o).cell? ⟨g1, 4, none⟩ = some (.slice at' f.g.ts.length ct) := fun o => ((below_box w2.drew o).cell (p := ⟨g1, 4, none⟩) hgl).trans e4
    go_region
    all_goals go_wp2_with fail
    all_goals go_meet
    · exact ⟨_, _, rfl, rfl, heap_first _ _ _, heap_two _ _ _, below_two _ _ _, Nat.le_refl _, Nat.le_succ _, by omega⟩
    · exact ⟨_, _, rfl, rfl, heap_two _ _ _, heap_first _ _ _, below_two _ _ _, Nat.le_succ _, Nat.le_refl _, by omega⟩
  case rest =>
    obtain ⟨A, T, rfl, rfl, ra, rt, hb5, la, lt, ne⟩ := hcut
    rename World => W5
    have OS0 := Lib.hid (OS.start ra rt hb5 la lt ne)
    have HB5 := Lib.hid hb5
    have E2 := Lib.hid e2
    have E4 := Lib.hid e4
    have q3 : (W5.alloc (.cells #[.bool true] 4)).cell? ⟨g1, 3, none⟩ = some (.slice ax f.g.xs.length cx) := (OS0.out.b.cell (p := ⟨g1, 3, none⟩) hgl).trans e3
    clear ra rt hb5 e1 e2 e3 e4 hfz hi hz0 hz1 hz2
    go_wp2_with fail
    have hWl0 : w2.heap.size ≤ W5.heap.size := HB5.out.size
    go_loopw [65] (fun s65 wr => ∃ i : Nat, s65 = .int .i64 i ∧ i ≤ f.g.xs.length ∧ OS w2 wr A T W5.heap.size f.g.xs.length f.g.ts.length ((f.g.xs.take i).flatMap (·.kids)) ([])) (fun s65 _ => f.g.xs.length - (intOf s65).toNat)
    case atStart => exact ⟨0, rfl, Nat.zero_le _, by simpa using OS0.out⟩
    case round =>
      as_aux_lemma =>
        have hWl : w2.heap.size ≤ W5.heap.size := hWl0
        clear q3 OS0
        obtain ⟨i, rfl, hi', hO⟩ := hrel
        rename World => wo
        by_cases hlt : i < f.g.xs.length
        · as_aux_lemma =>
            obtain ⟨x, hx⟩ : ∃ x, f.g.xs[i]? = some x := ⟨_, List.getElem?_eq_getElem hlt⟩
            obtain ⟨k, kv, hax, hk, c0, c1, c2, c3, c4, hkids⟩ := xs_at S3.out hx
            subst hax
            obtain ⟨ka, kc, rfl, hs1, hs2⟩ := hkids.shape
            unfold maxLen at hs2
            have b0 := (hO.b.cell (p := ⟨k, i * 5, none⟩) hk).trans c0
            have b1 := (hO.b.cell (p := ⟨k, i * 5 + 1, none⟩) hk).trans c1
            have b2 := (hO.b.cell (p := ⟨k, i * 5 + 2, none⟩) hk).trans c2
            have b3 := (hO.b.cell (p := ⟨k, i * 5 + 3, none⟩) hk).trans c3
            have b4 := (hO.b.cell (p := ⟨k, i * 5 + 4, none⟩) hk).trans c4
            have HKD := Lib.hid hkids
            have hX := heap_alloc_new wo (.cells #[.int .i64 (x.k : Int), .string (bs x.op), .int .u64 (x.n : Int), .string (bs x.s), .slice ka x.kids.length kc] 68)
            have u4 : (wo.alloc (.cells #[.int .i64 (x.k : Int), .string (bs x.op), .int .u64 (x.n : Int), .string (bs x.s), .slice ka x.kids.length kc] 68)).cell? ⟨wo.heap.size, 4, none⟩ = some (.slice ka x.kids.length kc) := by rw [cell_of_row _ _ _ _ _ (0, 0) hX]; rfl
            have hO1 := Lib.hid (hO.alloc (.cells #[.int .i64 (x.k : Int), .string (bs x.op), .int .u64 (x.n : Int), .string (bs x.s), .slice ka x.kids.length kc] 68))
            clear c0 c1 c2 c3 c4 hkids hX hO
            go_wp2_with fail
            go_loopw [73] (fun s73 wy => ∃ j : Nat, s73 = .int .i64 j ∧ j ≤ x.kids.length ∧ OS w2 wy A T W5.heap.size f.g.xs.length f.g.ts.length ((f.g.xs.take i).flatMap (·.kids) ++ x.kids.take j) ([])) (fun s73 _ => x.kids.length - (intOf s73).toNat)
            case atStart => exact ⟨0, rfl, Nat.zero_le _, by simpa using hO1.out⟩
            case round =>
              as_aux_lemma =>
                clear b0 b1 b2 b3 b4 u4 hO1
                obtain ⟨j, rfl, hj, hOj⟩ := hrel
                by_cases hjl : j < x.kids.length
                · as_aux_lemma =>
                    obtain ⟨y, hy⟩ : ∃ y, x.kids[j]? = some y := ⟨_, List.getElem?_eq_getElem hjl⟩
                    obtain ⟨ky, hka, hky, c0⟩ := ints_at (HKD.out.below IntC.kept hOj.b) hy
                    subst hka
                    have hpx : (f.g.xs.take i).flatMap (·.kids) ++ x.kids.take j ++ ix (y : Int) <+: UX f := by
                      have h2 := pre_flat (·.kids) hx (List.take_prefix (j + 1) x.kids)
                      rw [take_at hy, ← List.append_assoc, ← ix_nat] at h2
                      unfold UX
                      rw [List.append_assoc (f.g.xs.flatMap _)]
                      exact h2.trans (List.prefix_append _ _)
                    have hb := HO.out.o.x i x hx y (List.mem_of_getElem? hy)
                    have HJL := Lib.hid hjl
                    have C1 := Lib.hid (hOj.cx HO.out f.g.xs.length (y : Int) (i : Int) (by omega) (by omega) hpx)
                    have HYY := Lib.hid hy
                    clear hOj hpx hy
                    go_wp2_with (go_at_call 22; refine C1.out.mono ?_; rintro e wz ⟨rfl, hOz, hkz⟩)
                    go_roundw
                    case rel => exact ⟨j + 1, by go_num, by have := HJL.out; omega, by rw [take_at HYY.out, ← List.append_assoc, ← ix_nat]; exact hOz⟩
                    case measure => have := HJL.out; simp [intOf]; omega
                · as_aux_lemma =>
                    obtain rfl : j = x.kids.length := by omega
                    rw [List.take_length] at hOj
                    have HOJ := Lib.hid hOj
                    clear hOj
                    go_wp2_with fail
                    go_roundw
                    case rel => exact ⟨i + 1, by go_num, by omega, by rw [take_flat _ hx]; exact HOJ.out⟩
                    case measure => simp [intOf]; omega
        · as_aux_lemma =>
            obtain rfl : i = f.g.xs.length := by omega
            rw [List.take_length] at hO
            have p4 : wo.cell? ⟨g1, 4, none⟩ = some (.slice at' f.g.ts.length ct) := (hO.b.cell (p := ⟨g1, 4, none⟩) hgl).trans E4.out
            have HOO := Lib.hid hO
            clear hO
            go_wp2_with fail
            go_loopw [89] (fun s89 wr => ∃ i : Nat, s89 = .int .i64 i ∧ i ≤ f.g.ts.length ∧ OS w2 wr A T W5.heap.size f.g.xs.length f.g.ts.length (f.g.xs.flatMap (·.kids) ++ (f.g.ts.take i).flatMap TM.ux) ((f.g.ts.take i).flatMap TM.ut)) (fun s89 _ => f.g.ts.length - (intOf s89).toNat)
            case atStart => exact ⟨0, rfl, Nat.zero_le _, by simpa using HOO.out⟩
            case round =>
              as_aux_lemma =>
                clear HOO p4
                obtain ⟨i, rfl, hi', hO⟩ := hrel
                rename World => wo
                by_cases hlt : i < f.g.ts.length
                · as_aux_lemma =>
                    obtain ⟨x, hx⟩ : ∃ x, f.g.ts[i]? = some x := ⟨_, List.getElem?_eq_getElem hlt⟩
                    obtain ⟨k, av, cv, hax, hk, c0, c1, c2, c3, c4, c5, c6, c7, har, hcs⟩ := ts_at S4.out hx
                    subst hax
                    obtain ⟨aa, acp, rfl, hs1, hs2⟩ := har.shape
                    obtain ⟨ca, ccp, rfl, hs3, hs4⟩ := hcs.shape
                    unfold maxLen at hs2 hs4
                    obtain ⟨o1, o2, o3, o4⟩ := HO.out.o.t i x hx
                    have b0 := (hO.b.cell (p := ⟨k, i * 8, none⟩) hk).trans c0
                    have b1 := (hO.b.cell (p := ⟨k, i * 8 + 1, none⟩) hk).trans c1
                    have b2 := (hO.b.cell (p := ⟨k, i * 8 + 2, none⟩) hk).trans c2
                    have b3 := (hO.b.cell (p := ⟨k, i * 8 + 3, none⟩) hk).trans c3
                    have b4 := (hO.b.cell (p := ⟨k, i * 8 + 4, none⟩) hk).trans c4
                    have b5 := (hO.b.cell (p := ⟨k, i * 8 + 5, none⟩) hk).trans c5
                    have b6 := (hO.b.cell (p := ⟨k, i * 8 + 6, none⟩) hk).trans c6
                    have b7 := (hO.b.cell (p := ⟨k, i * 8 + 7, none⟩) hk).trans c7
                    have HAR := Lib.hid har
                    have HCS := Lib.hid hcs
                    have HO0 := Lib.hid hO
                    have hpx : f.g.xs.flatMap (·.kids) ++ (f.g.ts.take i).flatMap TM.ux ++ ix x.e <+: UX f := by
                      have h2 := pre_flat TM.ux hx (List.prefix_append (ix x.e) x.args)
                      unfold UX
                      rw [List.append_assoc (f.g.xs.flatMap _), List.append_assoc (f.g.xs.flatMap _)]
                      exact (List.prefix_append_right_inj _).2 (h2.trans (List.prefix_append _ _))
                    have hpt : (f.g.ts.take i).flatMap TM.ut ++ ix x.i <+: UT f := by
                      have h2 := pre_flat TM.ut hx (List.prefix_append (ix x.i) (x.cs.map (·.2)))
                      exact h2.trans (List.prefix_append _ _)
                    have hO1 := hO.alloc (.cells #[.int .i64 (x.k : Int), .int .i64 (x.size : Int), .bool x.little, .string (bs x.s), .slice aa x.args.length acp, .int .i64 x.e, .int .i64 x.i, .slice ca x.cs.length ccp] 72)
                    have C1 := Lib.hid (hO1.cx HO.out f.g.xs.length x.e f.g.xs.length o1 (HO.out.klt hpx) hpx)
                    have HPT := Lib.hid hpt
                    have hX := heap_alloc_new wo (.cells #[.int .i64 (x.k : Int), .int .i64 (x.size : Int), .bool x.little, .string (bs x.s), .slice aa x.args.length acp, .int .i64 x.e, .int .i64 x.i, .slice ca x.cs.length ccp] 72)
                    have u5 : (wo.alloc (.cells #[.int .i64 (x.k : Int), .int .i64 (x.size : Int), .bool x.little, .string (bs x.s), .slice aa x.args.length acp, .int .i64 x.e, .int .i64 x.i, .slice ca x.cs.length ccp] 72)).cell? ⟨wo.heap.size, 5, none⟩ = some (.int .i64 x.e) := by rw [cell_of_row _ _ _ _ _ (0, 0) hX]; rfl
                    clear c0 c1 c2 c3 c4 c5 c6 c7 har hcs hX hO hO1 hpx hpt
                    go_wp2_with (go_at_call 22; first | ((with_reducible refine C1.out.mono ?_); rintro e wz ⟨rfl, hOz, hkz⟩; have hX := HO0.out.new hkz; have HKZ := Lib.hid hkz; have u6 : wz.cell? ⟨wo.heap.size, 6, none⟩ = some (.int .i64 x.i) := (by rw [cell_of_row _ _ _ _ _ (0, 0) hX]; rfl); have C2 := Lib.hid (hOz.ct HO.out f.g.ts.length x.i (i : Int) o2 o3 HPT.out); clear hOz hkz hX) | ((with_reducible refine C2.out.mono ?_); rintro e wu ⟨rfl, hOu, hku⟩; have hX := HO0.out.new (HKZ.out.trans hku); have u4 : wu.cell? ⟨wo.heap.size, 4, none⟩ = some (.slice aa x.args.length acp) := (by rw [cell_of_row _ _ _ _ _ (0, 0) hX]; rfl); have HX := Lib.hid hX; have HOU := Lib.hid hOu; clear hX hku hOu))
                    go_loopw [110] (fun s110 wy => ∃ j : Nat, s110 = .int .i64 j ∧ j ≤ x.args.length ∧ OS w2 wy A T W5.heap.size f.g.xs.length f.g.ts.length (f.g.xs.flatMap (·.kids) ++ (f.g.ts.take i).flatMap TM.ux ++ ix x.e ++ x.args.take j) ((f.g.ts.take i).flatMap TM.ut ++ ix x.i) ∧ wy.heap[wo.heap.size]? = some (.cells #[.int .i64 (x.k : Int), .int .i64 (x.size : Int), .bool x.little, .string (bs x.s), .slice aa x.args.length acp, .int .i64 x.e, .int .i64 x.i, .slice ca x.cs.length ccp] 72 (0, 0))) (fun s110 _ => x.args.length - (intOf s110).toNat)
                    case atStart => exact ⟨0, rfl, Nat.zero_le _, by simpa using HOU.out, HX.out⟩
                    case round =>
                      as_aux_lemma =>
                        clear b0 b1 b2 b3 b4 b5 b6 b7 u4 u5 u6 HX HOU C1 C2 HKZ HPT
                        obtain ⟨j, rfl, hj, hOj, hX⟩ := hrel
                        by_cases hjl : j < x.args.length
                        · as_aux_lemma =>
                            obtain ⟨y, hy⟩ : ∃ y, x.args[j]? = some y := ⟨_, List.getElem?_eq_getElem hjl⟩
                            obtain ⟨k, haa, hk, c0⟩ := ints_at (HAR.out.below IntC.kept hOj.b) hy
                            subst haa
                            have hpx : f.g.xs.flatMap (·.kids) ++ (f.g.ts.take i).flatMap TM.ux ++ ix x.e ++ x.args.take j ++ ix (y : Int) <+: UX f := by
                              have h0 : ix x.e ++ x.args.take (j + 1) <+: x.ux := (List.prefix_append_right_inj _).2 (List.take_prefix _ _)
                              have h2 := pre_flat TM.ux hx h0
                              rw [take_at hy, ← List.append_assoc, ← List.append_assoc, ← ix_nat] at h2
                              unfold UX
                              rw [List.append_assoc (f.g.xs.flatMap _), List.append_assoc (f.g.xs.flatMap _), List.append_assoc (f.g.xs.flatMap _), List.append_assoc (f.g.xs.flatMap _)]
                              exact (List.prefix_append_right_inj _).2 (h2.trans (List.prefix_append _ _))
                            have HJL := Lib.hid hjl
                            have C1 := Lib.hid (hOj.cx HO.out f.g.xs.length (y : Int) f.g.xs.length (by omega) (HO.out.klt hpx) hpx)
                            have hXA : wo.heap.size ≠ A := by have := (Array.getElem?_eq_some_iff.1 HO0.out.a).1; omega
                            have hXT : wo.heap.size ≠ T := by have := (Array.getElem?_eq_some_iff.1 HO0.out.t).1; omega
                            have HX := Lib.hid hX
                            have HYY := Lib.hid hy
                            clear hOj hpx hX hy
                            go_wp2_with (go_at_call 22; refine C1.out.mono ?_; rintro e wz ⟨rfl, hOz, hkz⟩)
                            go_roundw
                            case rel => exact ⟨j + 1, by go_num, by have := HJL.out; omega, by rw [take_at HYY.out, ← List.append_assoc, ← ix_nat]; exact hOz, (hkz _ hXA hXT).trans HX.out⟩
                            case measure => have := HJL.out; simp [intOf]; omega
                        · as_aux_lemma =>
                            obtain rfl : j = x.args.length := by omega
                            rw [List.take_length] at hOj
                            have HOJ := Lib.hid hOj
                            have b7 : wr.cell? ⟨wo.heap.size, 7, none⟩ = some (.slice ca x.cs.length ccp) := by rw [cell_of_row _ _ _ _ _ (0, 0) hX]; rfl
                            clear hOj hX
                            go_wp2_with fail
                            go_loopw [124] (fun s124 wy => ∃ j : Nat, s124 = .int .i64 j ∧ j ≤ x.cs.length ∧ OS w2 wy A T W5.heap.size f.g.xs.length f.g.ts.length (f.g.xs.flatMap (·.kids) ++ (f.g.ts.take i).flatMap TM.ux ++ ix x.e ++ x.args) ((f.g.ts.take i).flatMap TM.ut ++ ix x.i ++ (x.cs.map (·.2)).take j)) (fun s124 _ => x.cs.length - (intOf s124).toNat)
                            case atStart => exact ⟨0, rfl, Nat.zero_le _, by simpa using HOJ.out⟩
                            case round =>
                              as_aux_lemma =>
                                clear b7 HOJ
                                obtain ⟨j, rfl, hj, hOj⟩ := hrel
                                by_cases hjl : j < x.cs.length
                                · as_aux_lemma =>
                                    obtain ⟨y, hy⟩ : ∃ y, x.cs[j]? = some y := ⟨_, List.getElem?_eq_getElem hjl⟩
                                    obtain ⟨k, hca, hk, c0, c1⟩ := cas_at (HCS.out.below CaC.kept hOj.b) hy
                                    subst hca
                                    have hy2 : (x.cs.map (·.2))[j]? = some y.2 := by rw [List.getElem?_map, hy]; rfl
                                    have hpt : (f.g.ts.take i).flatMap TM.ut ++ ix x.i ++ (x.cs.map (·.2)).take j ++ ix (y.2 : Int) <+: UT f := by
                                      have h0 : ix x.i ++ (x.cs.map (·.2)).take (j + 1) <+: x.ut := (List.prefix_append_right_inj _).2 (List.take_prefix _ _)
                                      have h2 := pre_flat TM.ut hx h0
                                      rw [take_at hy2, ← List.append_assoc, ← List.append_assoc, ← ix_nat] at h2
                                      exact h2.trans (List.prefix_append _ _)
                                    have hb := (HO.out.o.t i x hx).2.2.2 y (List.mem_of_getElem? hy)
                                    have hO1 := hOj.alloc (.cells #[.int .u64 (y.1 : Int), .int .i64 (y.2 : Int)] 74)
                                    have HJL := Lib.hid hjl
                                    have C1 := Lib.hid (hO1.ct HO.out f.g.ts.length (y.2 : Int) (i : Int) (by omega) (by omega) hpt)
                                    have hX := heap_alloc_new wr (.cells #[.int .u64 (y.1 : Int), .int .i64 (y.2 : Int)] 74)
                                    have e1 : (wr.alloc (.cells #[.int .u64 (y.1 : Int), .int .i64 (y.2 : Int)] 74)).cell? ⟨wr.heap.size, 1, none⟩ = some (.int .i64 (y.2 : Int)) := by rw [cell_of_row _ _ _ _ _ (0, 0) hX]; rfl
                                    have HY2 := Lib.hid hy2
                                    clear hOj hpt hX hO1 hy hy2
                                    go_wp2_with (go_at_call 22; refine C1.out.mono ?_; rintro e wz ⟨rfl, hOz, hkz⟩)
                                    go_roundw
                                    case rel => exact ⟨j + 1, by go_num, by have := HJL.out; omega, by rw [take_at HY2.out, ← List.append_assoc, ← ix_nat]; exact hOz⟩
                                    case measure => have := HJL.out; simp [intOf]; omega
                                · as_aux_lemma =>
                                    obtain rfl : j = x.cs.length := by omega
                                    rw [show (x.cs.map (·.2)).take x.cs.length = x.cs.map (·.2) from List.take_of_length_le (by rw [List.length_map]; exact Nat.le_refl _)] at hOj
                                    have HOJ := Lib.hid hOj
                                    clear hOj
                                    go_wp2_with fail
                                    go_roundw
                                    case rel => exact ⟨i + 1, by go_num, by omega, by rw [take_flat TM.ux hx, take_flat TM.ut hx, show x.ux = ix x.e ++ x.args from rfl, show x.ut = ix x.i ++ x.cs.map (·.2) from rfl, ← List.append_assoc, ← List.append_assoc, ← List.append_assoc]; exact HOJ.out⟩
                                    case measure => simp [intOf]; omega
                · as_aux_lemma =>
                    obtain rfl : i = f.g.ts.length := by omega
                    rw [List.take_length] at hO
                    have p2 : wo.cell? ⟨g1, 2, none⟩ = some (.slice ab f.ss.length cb) := (hO.b.cell (p := ⟨g1, 2, none⟩) hgl).trans E2.out
                    have HOO := Lib.hid hO
                    clear hO
                    go_wp2_with fail
                    go_loopw [141] (fun s141 wr => ∃ i : Nat, s141 = .int .i64 i ∧ i ≤ f.ss.length ∧ OS w2 wr A T W5.heap.size f.g.xs.length f.g.ts.length (f.g.xs.flatMap (·.kids) ++ f.g.ts.flatMap TM.ux ++ (f.ss.take i).flatMap (fun s : SM => s.is.flatMap IM.ux)) (f.g.ts.flatMap TM.ut ++ (f.ss.take i).flatMap (fun s : SM => s.is.flatMap IM.ut))) (fun s141 _ => f.ss.length - (intOf s141).toNat)
                    case atStart => exact ⟨0, rfl, Nat.zero_le _, by simpa using HOO.out⟩
                    case round =>
                      as_aux_lemma =>
                        clear HOO p2
                        obtain ⟨i, rfl, hi', hO⟩ := hrel
                        rename World => wo
                        by_cases hlt : i < f.ss.length
                        · as_aux_lemma =>
                            obtain ⟨x, hx⟩ : ∃ x, f.ss[i]? = some x := ⟨_, List.getElem?_eq_getElem hlt⟩
                            obtain ⟨k, pv, iv, hax, hk, c0, c1, c2, hps, his⟩ := ss_at S2.out hx
                            subst hax
                            obtain ⟨pa, pc, rfl, -⟩ := hps.shape
                            obtain ⟨ia, icp, rfl, hs1, hs2⟩ := his.shape
                            unfold maxLen at hs2
                            have b0 := (hO.b.cell (p := ⟨k, i * 3, none⟩) hk).trans c0
                            have b1 := (hO.b.cell (p := ⟨k, i * 3 + 1, none⟩) hk).trans c1
                            have b2 := (hO.b.cell (p := ⟨k, i * 3 + 2, none⟩) hk).trans c2
                            have HIS := Lib.hid his
                            have hX := heap_alloc_new wo (.cells #[.string (bs x.s), .slice pa x.ps.length pc, .slice ia x.is.length icp] 61)
                            have b4 : (wo.alloc (.cells #[.string (bs x.s), .slice pa x.ps.length pc, .slice ia x.is.length icp] 61)).cell? ⟨wo.heap.size, 2, none⟩ = some (.slice ia x.is.length icp) := by rw [cell_of_row _ _ _ _ _ (0, 0) hX]; rfl
                            have hO1 := Lib.hid (hO.alloc (.cells #[.string (bs x.s), .slice pa x.ps.length pc, .slice ia x.is.length icp] 61))
                            clear c0 c1 c2 hps his hX hO
                            go_wp2_with fail
                            go_loopw [148] (fun s148 wy => ∃ j : Nat, s148 = .int .i64 j ∧ j ≤ x.is.length ∧ OS w2 wy A T W5.heap.size f.g.xs.length f.g.ts.length (f.g.xs.flatMap (·.kids) ++ f.g.ts.flatMap TM.ux ++ (f.ss.take i).flatMap (fun s : SM => s.is.flatMap IM.ux) ++ (x.is.take j).flatMap IM.ux) (f.g.ts.flatMap TM.ut ++ (f.ss.take i).flatMap (fun s : SM => s.is.flatMap IM.ut) ++ (x.is.take j).flatMap IM.ut)) (fun s148 _ => x.is.length - (intOf s148).toNat)
                            case atStart => exact ⟨0, rfl, Nat.zero_le _, by simpa using hO1.out⟩
                            case round =>
                              as_aux_lemma =>
                                clear b0 b1 b2 b4 hO1
                                obtain ⟨j, rfl, hj, hOj⟩ := hrel
                                by_cases hjl : j < x.is.length
                                · as_aux_lemma =>
                                    obtain ⟨y, hy⟩ : ∃ y, x.is[j]? = some y := ⟨_, List.getElem?_eq_getElem hjl⟩
                                    obtain ⟨k, sv, hia, hk, c0, c1, c2, c3, c4, c5, c6, c7, c8, hsub⟩ := is_at (HIS.out.below IrC.kept hOj.b) hy
                                    subst hia
                                    obtain ⟨sa, sc, rfl, -⟩ := hsub.shape
                                    obtain ⟨g1', g2'⟩ := HO.out.i x (List.mem_of_getElem? hx) y (List.mem_of_getElem? hy)
                                    have hpt : f.g.ts.flatMap TM.ut ++ (f.ss.take i).flatMap (fun s : SM => s.is.flatMap IM.ut) ++ (x.is.take j).flatMap IM.ut ++ ix y.t <+: UT f := by
                                      have h1 := pre_flat IM.ut hy (List.prefix_refl _)
                                      have h2 := pre_flat (fun s : SM => s.is.flatMap IM.ut) hx h1
                                      unfold UT UTs
                                      rw [List.append_assoc, List.append_assoc]
                                      exact (List.prefix_append_right_inj _).2 h2
                                    have hpx : f.g.xs.flatMap (·.kids) ++ f.g.ts.flatMap TM.ux ++ (f.ss.take i).flatMap (fun s : SM => s.is.flatMap IM.ux) ++ (x.is.take j).flatMap IM.ux ++ ix y.wh <+: UX f := by
                                      have h1 := pre_flat IM.ux hy (List.prefix_refl _)
                                      have h2 := pre_flat (fun s : SM => s.is.flatMap IM.ux) hx h1
                                      unfold UX UXs
                                      rw [List.append_assoc, List.append_assoc]
                                      exact (List.prefix_append_right_inj _).2 h2
                                    have hO1 := hOj.alloc (.cells #[.string (bs y.s), .int .i64 y.t, .int .i64 (y.der : Int), .string (bs y.a), .string (bs y.b), .int .i64 y.wh, .int .i64 (y.size : Int), .bool y.little, .slice sa y.subs.length sc] 78)
                                    have HJL := Lib.hid hjl
                                    have C1 := Lib.hid (hO1.ct HO.out f.g.ts.length y.t f.g.ts.length g1' (HO.out.klt2 hpt) hpt)
                                    have HOJ := Lib.hid hOj
                                    have HPX := Lib.hid hpx
                                    have HY := Lib.hid hy
                                    have hX := heap_alloc_new wr (.cells #[.string (bs y.s), .int .i64 y.t, .int .i64 (y.der : Int), .string (bs y.a), .string (bs y.b), .int .i64 y.wh, .int .i64 (y.size : Int), .bool y.little, .slice sa y.subs.length sc] 78)
                                    have e1 : (wr.alloc (.cells #[.string (bs y.s), .int .i64 y.t, .int .i64 (y.der : Int), .string (bs y.a), .string (bs y.b), .int .i64 y.wh, .int .i64 (y.size : Int), .bool y.little, .slice sa y.subs.length sc] 78)).cell? ⟨wr.heap.size, 1, none⟩ = some (.int .i64 y.t) := by rw [cell_of_row _ _ _ _ _ (0, 0) hX]; rfl
                                    clear hOj hpt hpx hX hO1 hsub hy
                                    go_wp2_with (go_at_call 22; first | ((with_reducible refine C1.out.mono ?_); rintro e wz ⟨rfl, hOz, hkz⟩; have hX := HOJ.out.new hkz; have e5 : wz.cell? ⟨wr.heap.size, 5, none⟩ = some (.int .i64 y.wh) := (by rw [cell_of_row _ _ _ _ _ (0, 0) hX]; rfl); have C2 := Lib.hid (hOz.cx HO.out f.g.xs.length y.wh f.g.xs.length g2' (HO.out.klt HPX.out) HPX.out); clear hOz hkz hX) | ((with_reducible refine C2.out.mono ?_); rintro e wu ⟨rfl, hOu, hku⟩))
                                    go_roundw
                                    case rel => exact ⟨j + 1, by go_num, by have := HJL.out; omega, by rw [take_flat IM.ux HY.out, take_flat IM.ut HY.out, ← List.append_assoc, ← List.append_assoc]; exact hOu⟩
                                    case measure => have := HJL.out; simp [intOf]; omega
                                · as_aux_lemma =>
                                    obtain rfl : j = x.is.length := by omega
                                    rw [List.take_length] at hOj
                                    have HOJ := Lib.hid hOj
                                    clear hOj
                                    go_wp2_with fail
                                    go_roundw
                                    case rel => exact ⟨i + 1, by go_num, by omega, by rw [take_flat (fun s : SM => s.is.flatMap IM.ux) hx, take_flat (fun s : SM => s.is.flatMap IM.ut) hx, ← List.append_assoc, ← List.append_assoc]; exact HOJ.out⟩
                                    case measure => simp [intOf]; omega
                        · as_aux_lemma =>
                            obtain rfl : i = f.ss.length := by omega
                            rw [List.take_length] at hO
                            have hl1 : rowN f.g.xs.length (f.g.xs.flatMap (·.kids) ++ f.g.ts.flatMap TM.ux ++ UXs f) = List.replicate f.g.xs.length (.int .i64 1) := rowN_ones HO.out.x
                            have hl2 : rowN f.g.ts.length (f.g.ts.flatMap TM.ut ++ UTs f) = List.replicate f.g.ts.length (.int .i64 1) := rowN_ones HO.out.t
                            have ha : IRow A f.g.xs.length (f.g.xs.flatMap (·.kids) ++ f.g.ts.flatMap TM.ux ++ UXs f) wo := hO.a
                            have ht : IRow T f.g.ts.length (f.g.ts.flatMap TM.ut ++ UTs f) wo := hO.t
                            unfold IRow at ht
                            rw [hl2] at ht
                            have hw := ha.owns hnx
                            rw [hl1] at hw
                            have hK5 := hO.b.size
                            have HK := Lib.hid hO.k
                            have HB := Lib.hid hO.b
                            have hAK := hO.a.off hO.k
                            have HNE := Lib.hid hO.ne
                            obtain ⟨i0, hi0, hz0, hz1, hz2⟩ := info_parts info_int1o
                            have HT := Lib.hid ht
                            have HWN := Lib.hid hw
                            clear hO ha ht hw hl1 hl2
                            go_wp2_with (refine list_many rfl _ _ 45 rfl 3 i0 _ 1 8 Tryz.underlying45 hi0 hz0 hz1 hz2 rfl (by decide) (.slice (some ⟨A, 0, none⟩) f.g.xs.length f.g.xs.length) f.g.xs.length (List.replicate f.g.xs.length (.int .i64 1)) rfl HWN.out T f.g.ts.length f.g.ts.length (List.replicate f.g.ts.length (.int .i64 1)) rfl (by simp) HT.out (fun u hu => by (rw [(List.mem_replicate.1 hu).2]; rfl)) (by unfold maxLen; omega) (by omega) ?_; intro v' w8 hown hgrow; obtain ⟨va, vc, rfl⟩ := ownsRow_shape hown; rw [List.replicate_append_replicate] at hown; have HOW := Lib.hid hown; have HG := Lib.hid hgrow; clear hown hgrow)
                            have hKlt : W5.heap.size < wo.heap.size := (Array.getElem?_eq_some_iff.1 HK.out).1
                            have hK8 : w8.heap[W5.heap.size]? = some (.cells #[.bool true] 4 (0, 0)) := (HG.out.block _ hKlt fun e => hAK (by simpa [Value.ownBlock] using e)).trans HK.out
                            have hB8 : Below w2.heap.size w2 w8 := HB.out.grown HG.out (by exact hK5) fun k hk => by (simp only [Value.ownBlock, Option.some.injEq] at hk; subst hk; exact la)
                            have hW5 : w2.heap.size ≤ W5.heap.size := hWl
                            go_loopw [172] (fun s172 wr => ∃ j : Nat, s172 = .int .i64 j ∧ j ≤ f.g.xs.length + f.g.ts.length ∧ wr.heap[W5.heap.size]? = some (.cells #[.bool true] 4 (0, 0)) ∧ wr.ownsRow 0 3 1 (.slice va (f.g.xs.length + f.g.ts.length) vc) (f.g.xs.length + f.g.ts.length) (List.replicate (f.g.xs.length + f.g.ts.length) (.int .i64 1)) ∧ Below w2.heap.size w2 wr) (fun s172 _ => f.g.xs.length + f.g.ts.length - (intOf s172).toNat)
                            case atStart => exact ⟨0, rfl, Nat.zero_le _, hK8, HOW.out, hB8⟩
                            case round =>
                              as_aux_lemma =>
                                obtain ⟨j, rfl, hj, hK, hown, hbw⟩ := hrel
                                have hK5 := hW5
                                by_cases hlt : j < f.g.xs.length + f.g.ts.length
                                · as_aux_lemma =>
                                    obtain ⟨G, rfl, c0⟩ := own_cell hown hlt
                                    rw [List.getElem?_replicate, if_pos hlt] at c0
                                    have k0 : wr.cell? ⟨W5.heap.size, 0, none⟩ = some (.bool true) := by rw [cell_of_row _ _ _ _ _ (0, 0) hK]; rfl
                                    have kf : ∀ i, wr.frozen? ⟨W5.heap.size, i, none⟩ = false := fun i => by simp [World.frozen?, hK]
                                    have hne : (Value.slice (some ⟨G, 0, none⟩) (f.g.xs.length + f.g.ts.length) vc).ownBlock ≠ some W5.heap.size := ownsRow_off hown hK (by decide)
                                    have HW := Lib.hid hown
                                    have HK := Lib.hid hK
                                    clear hown hK
                                    go_wp2_with fail
                                    go_roundw
                                    case rel => exact ⟨j + 1, by go_num, by omega, cell_set_row HK.out (by simp) _, ownsRow_same HW.out fun i hi' => Below.heap_setCell _ _ _ _ (show i ≠ W5.heap.size from fun e => hne (by rw [← e]; exact hi')), hbw.setCell (show w2.heap.size ≤ W5.heap.size from hK5) _⟩
                                    case measure => simp [intOf]; omega
                                · as_aux_lemma =>
                                    obtain rfl : j = f.g.xs.length + f.g.ts.length := by omega
                                    have k0 : wr.cell? ⟨W5.heap.size, 0, none⟩ = some (.bool true) := by rw [cell_of_row _ _ _ _ _ (0, 0) hK]; rfl
                                    clear hown hK
                                    go_wp2_with fail
                                    go_ret
                                    exact ⟨rfl, B2.out.trans (hbw.mono B2.out.size)⟩
theorem ParseOrder_walk (s : ByteArray) (w : World) (ws : s.size ≤ maxLen) (hE : Env w) (hK : KEnv (fun b => b < w.heap.size) w) :
    Calls Tryz.prog 7 #[.string s] w fun e w' => e = .returned (.bool true) ∧ Below w.heap.size w w' := by
  by_cases h : frE (parseL s.data.toList) = 0
  · obtain ⟨f, hf⟩ := or_zero h
    exact order_all s w hE hK f hf (ordF hf)
  · exact order_err s w hE hK _ rfl h
end Go.Proofs.YtcdbdfhikbfbpaaGreatDoor
