/- Layer 8: Expr and Type of a File. · Layer 8: wakes; what is tidy is parsed to the same File. · The walk of the law ShowBack. -/
import Derived.Test.YthcdohggffpopaaGreatDoorC2ShEg
import Derived.Deep.RegionWith
import Derived.Test.YthcdohggffpopaaGreatDoorC2LexV
namespace Go.Proofs.YthcdohggffpopaaGreatDoor
open Go.Lib (hid)
open Go.ChangeShapes Go.WideShapes Go.ChangeAt Go.RowKit
set_option maxHeartbeats 4000000 in
set_option maxRecDepth 100000 in
theorem shExprCl {W0 : World} {g G : Nat} {F : GF} (hF : FileG G W0 F) (hN : NEnv W0) (hG : GfOK F) {W w : World} {l : List UInt8} (h : SW W0 g (fp G) W l w) {ka kf : Nat} (at' : Int) (ha : W0.cell? ⟨ka, 0, none⟩ = some (.int .i64 at')) (hf : W0.cell? ⟨kf, 0, none⟩ = some (fp G)) (hla : ka < W0.heap.size) (hlf : kf < W0.heap.size) :
    Calls Tryz.prog 78 #[.pointer (some ⟨g, 0, none⟩), .pointer (some ⟨ka, 0, none⟩), .pointer (some ⟨kf, 0, none⟩)] w (PostW W0 g (fp G) w (exprW F.xs F.xs.length at' l)) := by
  obtain ⟨R, hR⟩ : ∃ R, exprW F.xs F.xs.length at' l = R := ⟨_, rfl⟩
  obtain ⟨ac', cc', bs', cs', ax', cx', at2, ct, -, -, h3, h4, -, -, -, -, hg⟩ := hF.look
  have q := (h.base.cell (p := ⟨G, 3, none⟩) hg).trans h3
  have qa := (h.base.cell (p := ⟨ka, 0, none⟩) hla).trans ha
  have qf : w.cell? ⟨kf, 0, none⟩ = some (.pointer (some ⟨G, 1, none⟩)) := (h.base.cell (p := ⟨kf, 0, none⟩) hlf).trans hf
  have S1 := hid (h.start.keep (Below.refl w.heap.size w).drew)
  have C1 := hid ((shExprs hF hN hG F.xs.length (Nat.le_refl _)).1 at' _ _ _ S1.out)
  rw [hR] at C1 ⊢
  clear hR h3 h4 hg ha hf hla hlf h hF hN hG
  go_enter Tryz.func78, Tryz.ntmps78
  go_wp2_with fail
  go_region_with (go_at_call 79; (with_reducible refine C1.out.mono ?_); intro e' w2 hp; rcases R with _ | l2; (· obtain ⟨rfl, hf⟩ := hp; exact ⟨rfl, rfl, S1.out.fr.trans hf⟩); obtain ⟨rfl, h1⟩ := hp; have S2 := hid (S1.out.next h1); clear h1)
  all_goals
    go_wp2_with fail
    go_end0
    exact ⟨rfl, S2.out⟩
set_option maxHeartbeats 2000000 in
set_option maxRecDepth 100000 in
theorem write_Expr {G ka kf : Nat} {w : World} {r : Option (List UInt8)} (hC : ∀ wr, SW w w.heap.size (fp G) wr [] wr → Calls Tryz.prog 78 #[.pointer (some ⟨w.heap.size, 0, none⟩), .pointer (some ⟨ka, 0, none⟩), .pointer (some ⟨kf, 0, none⟩)] wr (PostW w w.heap.size (fp G) wr r)) :
    Calls Tryz.prog 71 #[.pointer (some ⟨G, 1, none⟩), (.func (.func 78) #[] #[.pointer (some ⟨ka, 0, none⟩), .pointer (some ⟨kf, 0, none⟩)])] w fun e w' => WrPost r e ∧ Below w.heap.size w w' := by
  have S0 := hid (SW.new w (fp G))
  have C := hid (hC _ S0.out)
  clear hC
  go_enter_defers Tryz.func71, Tryz.ntmps71
  go_wp2_with fail
  refine C.out.mono ?_
  intro e w1 hp
  cases r with
  | none =>
    obtain ⟨rfl, hf⟩ := hp
    have HF := hid ((below_box w (.cells #[.pointer (some ⟨G, 1, none⟩), .pointer none, .slice none 0 0] 211)).trans hf.below)
    clear hf C S0
    go_wp2_with fail
    refine leaves_cons (f := 115) (args := #[]) (by simp) (by simp [go_sem]) ?_
    refine (catch8_panics _).mono ?_
    rintro e u' w'' ⟨rfl, rfl, rfl⟩
    refine ⟨.tuple #[.string ⟨#[]⟩, .bool false], by simp [results, Tryz.results71, go_sem], rfl, HF.out⟩
  | some l =>
    obtain ⟨rfl, hS⟩ := hp
    have S1 := hid hS
    have C2 := hid (String8 _ hS.pr)
    clear hS C S0
    go_wp2_with (go_at_call 43; (with_reducible refine C2.out.mono ?_); rintro e' w2 ⟨rfl, hb⟩; have HF := hid (S1.out.base.trans hb); clear hb)
    refine leaves_cons (f := 115) (args := #[]) (by simp) (by simp [go_sem]) ?_
    refine (catch8_idle _).mono ?_
    rintro e u' w'' ⟨rfl, rfl, rfl⟩
    refine ⟨.tuple #[.string (bs l), .bool true], by simp [results, Tryz.results71, go_sem], rfl, HF.out⟩
def partExpr (F : GF) (at' : Int) : List UInt8 := match textF F with
  | none => []
  | some _ => (exprW F.xs F.xs.length at' []).getD []
set_option maxHeartbeats 4000000 in
set_option maxRecDepth 100000 in
theorem part_Expr {G : Nat} {F : GF} (w : World) (hF : FileG G w F) (hO : FileOK F) (hE : Env w) (hK : KEnv (fun b => b < w.heap.size) w) (hN : NEnv w) {ka kf : Nat} (at' : Int) (ha : w.cell? ⟨ka, 0, none⟩ = some (.int .i64 at')) (hf : w.cell? ⟨kf, 0, none⟩ = some (fp G)) (hla : ka < w.heap.size) (hlf : kf < w.heap.size) :
    Calls Tryz.prog 75 #[.pointer (some ⟨G, 1, none⟩), (.func (.func 78) #[] #[.pointer (some ⟨ka, 0, none⟩), .pointer (some ⟨kf, 0, none⟩)])] w fun e w' => e = .returned (.string (bs (partExpr F at'))) ∧ Below w.heap.size w w' := by
  have CT := hid (Text_any w hF hO hE hK hN)
  have CW : Hid (∀ w', Below w.heap.size w w' → Calls Tryz.prog 71 #[.pointer (some ⟨G, 1, none⟩), (.func (.func 78) #[] #[.pointer (some ⟨ka, 0, none⟩), .pointer (some ⟨kf, 0, none⟩)])] w' fun e w2 => WrPost (exprW F.xs F.xs.length at' []) e ∧ Below w'.heap.size w' w2) := hid fun w' hb =>
    write_Expr fun wr h => shExprCl (hF.below hb) (hN.below hb) hO.g h at' ((hb.cell (p := ⟨ka, 0, none⟩) hla).trans ha) ((hb.cell (p := ⟨kf, 0, none⟩) hlf).trans hf) (Nat.lt_of_lt_of_le hla hb.size) (Nat.lt_of_lt_of_le hlf hb.size)
  obtain ⟨R, hR⟩ : ∃ R, exprW F.xs F.xs.length at' [] = R := ⟨_, rfl⟩
  have HP : Hid (partExpr F at' = match textF F with
    | none => []
    | some _ => R.getD []) := hid (by unfold partExpr; rw [hR])
  rw [hR] at CW
  clear hR hF hO hE hK hN ha hf hla hlf
  go_enter Tryz.func75, Tryz.ntmps75
  go_wp2_with fail
  refine CT.out.mono ?_
  rintro e w1 ⟨hp, hb1⟩
  have HB1 := hid hb1
  clear CT hb1
  rcases hq : textF F with _ | t
  · rw [hq] at hp HP
    obtain rfl := hp
    clear hq
    go_wp2_with fail
    go_ret
    exact ⟨by rw [HP.out]; rfl, HB1.out⟩
  · rw [hq] at hp HP
    obtain rfl := hp
    clear hq
    go_wp2_with fail
    refine (CW.out _ HB1.out).mono ?_
    rintro e w2 ⟨hp, hb2⟩
    have HB2 := hid (HB1.out.trans (hb2.mono HB1.out.size))
    clear hb2
    cases R with
    | none =>
      obtain rfl := hp
      go_wp2_with fail
      go_ret
      exact ⟨by rw [HP.out]; rfl, HB2.out⟩
    | some l =>
      obtain rfl := hp
      go_wp2_with fail
      go_ret
      exact ⟨by rw [HP.out]; rfl, HB2.out⟩
set_option maxHeartbeats 4000000 in
set_option maxRecDepth 100000 in
theorem Expr_any {G : Nat} {F : GF} (w : World) (hF : FileG G w F) (hO : FileOK F) (hE : Env w) (hK : KEnv (fun b => b < w.heap.size) w) (hN : NEnv w) (at' : Int) :
    Calls Tryz.prog 37 #[.pointer (some ⟨G, 1, none⟩), .int .i64 at'] w fun e w' => e = .returned (.string (bs (partExpr F at'))) ∧ Below w.heap.size w w' := by
  have hB : Below w.heap.size w ((w.alloc (.cells #[.pointer (some ⟨G, 1, none⟩)] 22)).alloc (.cells #[.int .i64 at'] 3)) := (below_box _ _).alloc (by simp) _
  have h0 := heap_alloc_new w (.cells #[.pointer (some ⟨G, 1, none⟩)] 22)
  have hs1 : (w.alloc (.cells #[.pointer (some ⟨G, 1, none⟩)] 22)).heap.size = w.heap.size + 1 := by simp
  have h1 := heap_alloc_new (w.alloc (.cells #[.pointer (some ⟨G, 1, none⟩)] 22)) (.cells #[.int .i64 at'] 3)
  rw [hs1] at h1
  have h0 : ((w.alloc (.cells #[.pointer (some ⟨G, 1, none⟩)] 22)).alloc (.cells #[.int .i64 at'] 3)).heap[w.heap.size]? = some (.cells #[.pointer (some ⟨G, 1, none⟩)] 22 (0, 0)) := by rw [Below.heap_alloc _ _ _ (by omega)]; exact h0
  have CP := hid (part_Expr _ (hF.below hB) hO (hE.below hB) (hK.low hB) (hN.below hB) (ka := w.heap.size + 1) (kf := w.heap.size) at' (cells1c h1) (cells1c h0) (Array.getElem?_eq_some_iff.1 h1).1 (Array.getElem?_eq_some_iff.1 h0).1)
  have z0 := cells1c h0
  have HB := hid hB
  clear hF hO hE hK hN hB h0 hs1 h1
  go_enter Tryz.func37, Tryz.ntmps37
  go_wp2_with (go_at_call 75; (with_reducible refine CP.out.mono ?_); rintro e w2 ⟨rfl, hb⟩; have HB2 := hid (HB.out.trans (hb.mono HB.out.size)); clear hb)
  go_ret
  exact ⟨rfl, HB2.out⟩
set_option maxHeartbeats 4000000 in
set_option maxRecDepth 100000 in
theorem shTypeCl {W0 : World} {g G : Nat} {F : GF} (hF : FileG G W0 F) (hN : NEnv W0) (hG : GfOK F) {W w : World} {l : List UInt8} (h : SW W0 g (fp G) W l w) {ka kf : Nat} (at' : Int) (ha : W0.cell? ⟨ka, 0, none⟩ = some (.int .i64 at')) (hf : W0.cell? ⟨kf, 0, none⟩ = some (fp G)) (hla : ka < W0.heap.size) (hlf : kf < W0.heap.size) :
    Calls Tryz.prog 76 #[.pointer (some ⟨g, 0, none⟩), .pointer (some ⟨ka, 0, none⟩), .pointer (some ⟨kf, 0, none⟩)] w (PostW W0 g (fp G) w (typW F.xs F.ts F.ts.length at' l)) := by
  obtain ⟨R, hR⟩ : ∃ R, typW F.xs F.ts F.ts.length at' l = R := ⟨_, rfl⟩
  obtain ⟨ac', cc', bs', cs', ax', cx', at2, ct, -, -, h3, h4, -, -, -, -, hg⟩ := hF.look
  have q := (h.base.cell (p := ⟨G, 4, none⟩) hg).trans h4
  have qa := (h.base.cell (p := ⟨ka, 0, none⟩) hla).trans ha
  have qf : w.cell? ⟨kf, 0, none⟩ = some (.pointer (some ⟨G, 1, none⟩)) := (h.base.cell (p := ⟨kf, 0, none⟩) hlf).trans hf
  have S1 := hid (h.start.keep (Below.refl w.heap.size w).drew)
  have C1 := hid (shTyps hF hN hG F.ts.length (Nat.le_refl _) at' _ _ _ S1.out)
  rw [hR] at C1 ⊢
  clear hR h3 h4 hg ha hf hla hlf h hF hN hG
  go_enter Tryz.func76, Tryz.ntmps76
  go_wp2_with fail
  go_region_with (go_at_call 77; (with_reducible refine C1.out.mono ?_); intro e' w2 hp; rcases R with _ | l2; (· obtain ⟨rfl, hf⟩ := hp; exact ⟨rfl, rfl, S1.out.fr.trans hf⟩); obtain ⟨rfl, h1⟩ := hp; have S2 := hid (S1.out.next h1); clear h1)
  all_goals
    go_wp2_with fail
    go_end0
    exact ⟨rfl, S2.out⟩
set_option maxHeartbeats 2000000 in
set_option maxRecDepth 100000 in
theorem write_Type {G ka kf : Nat} {w : World} {r : Option (List UInt8)} (hC : ∀ wr, SW w w.heap.size (fp G) wr [] wr → Calls Tryz.prog 76 #[.pointer (some ⟨w.heap.size, 0, none⟩), .pointer (some ⟨ka, 0, none⟩), .pointer (some ⟨kf, 0, none⟩)] wr (PostW w w.heap.size (fp G) wr r)) :
    Calls Tryz.prog 71 #[.pointer (some ⟨G, 1, none⟩), (.func (.func 76) #[] #[.pointer (some ⟨ka, 0, none⟩), .pointer (some ⟨kf, 0, none⟩)])] w fun e w' => WrPost r e ∧ Below w.heap.size w w' := by
  have S0 := hid (SW.new w (fp G))
  have C := hid (hC _ S0.out)
  clear hC
  go_enter_defers Tryz.func71, Tryz.ntmps71
  go_wp2_with fail
  refine C.out.mono ?_
  intro e w1 hp
  cases r with
  | none =>
    obtain ⟨rfl, hf⟩ := hp
    have HF := hid ((below_box w (.cells #[.pointer (some ⟨G, 1, none⟩), .pointer none, .slice none 0 0] 211)).trans hf.below)
    clear hf C S0
    go_wp2_with fail
    refine leaves_cons (f := 115) (args := #[]) (by simp) (by simp [go_sem]) ?_
    refine (catch8_panics _).mono ?_
    rintro e u' w'' ⟨rfl, rfl, rfl⟩
    refine ⟨.tuple #[.string ⟨#[]⟩, .bool false], by simp [results, Tryz.results71, go_sem], rfl, HF.out⟩
  | some l =>
    obtain ⟨rfl, hS⟩ := hp
    have S1 := hid hS
    have C2 := hid (String8 _ hS.pr)
    clear hS C S0
    go_wp2_with (go_at_call 43; (with_reducible refine C2.out.mono ?_); rintro e' w2 ⟨rfl, hb⟩; have HF := hid (S1.out.base.trans hb); clear hb)
    refine leaves_cons (f := 115) (args := #[]) (by simp) (by simp [go_sem]) ?_
    refine (catch8_idle _).mono ?_
    rintro e u' w'' ⟨rfl, rfl, rfl⟩
    refine ⟨.tuple #[.string (bs l), .bool true], by simp [results, Tryz.results71, go_sem], rfl, HF.out⟩
def partType (F : GF) (at' : Int) : List UInt8 := match textF F with
  | none => []
  | some _ => (typW F.xs F.ts F.ts.length at' []).getD []
set_option maxHeartbeats 4000000 in
set_option maxRecDepth 100000 in
theorem part_Type {G : Nat} {F : GF} (w : World) (hF : FileG G w F) (hO : FileOK F) (hE : Env w) (hK : KEnv (fun b => b < w.heap.size) w) (hN : NEnv w) {ka kf : Nat} (at' : Int) (ha : w.cell? ⟨ka, 0, none⟩ = some (.int .i64 at')) (hf : w.cell? ⟨kf, 0, none⟩ = some (fp G)) (hla : ka < w.heap.size) (hlf : kf < w.heap.size) :
    Calls Tryz.prog 75 #[.pointer (some ⟨G, 1, none⟩), (.func (.func 76) #[] #[.pointer (some ⟨ka, 0, none⟩), .pointer (some ⟨kf, 0, none⟩)])] w fun e w' => e = .returned (.string (bs (partType F at'))) ∧ Below w.heap.size w w' := by
  have CT := hid (Text_any w hF hO hE hK hN)
  have CW : Hid (∀ w', Below w.heap.size w w' → Calls Tryz.prog 71 #[.pointer (some ⟨G, 1, none⟩), (.func (.func 76) #[] #[.pointer (some ⟨ka, 0, none⟩), .pointer (some ⟨kf, 0, none⟩)])] w' fun e w2 => WrPost (typW F.xs F.ts F.ts.length at' []) e ∧ Below w'.heap.size w' w2) := hid fun w' hb =>
    write_Type fun wr h => shTypeCl (hF.below hb) (hN.below hb) hO.g h at' ((hb.cell (p := ⟨ka, 0, none⟩) hla).trans ha) ((hb.cell (p := ⟨kf, 0, none⟩) hlf).trans hf) (Nat.lt_of_lt_of_le hla hb.size) (Nat.lt_of_lt_of_le hlf hb.size)
  obtain ⟨R, hR⟩ : ∃ R, typW F.xs F.ts F.ts.length at' [] = R := ⟨_, rfl⟩
  have HP : Hid (partType F at' = match textF F with
    | none => []
    | some _ => R.getD []) := hid (by unfold partType; rw [hR])
  rw [hR] at CW
  clear hR hF hO hE hK hN ha hf hla hlf
  go_enter Tryz.func75, Tryz.ntmps75
  go_wp2_with fail
  refine CT.out.mono ?_
  rintro e w1 ⟨hp, hb1⟩
  have HB1 := hid hb1
  clear CT hb1
  rcases hq : textF F with _ | t
  · rw [hq] at hp HP
    obtain rfl := hp
    clear hq
    go_wp2_with fail
    go_ret
    exact ⟨by rw [HP.out]; rfl, HB1.out⟩
  · rw [hq] at hp HP
    obtain rfl := hp
    clear hq
    go_wp2_with fail
    refine (CW.out _ HB1.out).mono ?_
    rintro e w2 ⟨hp, hb2⟩
    have HB2 := hid (HB1.out.trans (hb2.mono HB1.out.size))
    clear hb2
    cases R with
    | none =>
      obtain rfl := hp
      go_wp2_with fail
      go_ret
      exact ⟨by rw [HP.out]; rfl, HB2.out⟩
    | some l =>
      obtain rfl := hp
      go_wp2_with fail
      go_ret
      exact ⟨by rw [HP.out]; rfl, HB2.out⟩
set_option maxHeartbeats 4000000 in
set_option maxRecDepth 100000 in
theorem Type_any {G : Nat} {F : GF} (w : World) (hF : FileG G w F) (hO : FileOK F) (hE : Env w) (hK : KEnv (fun b => b < w.heap.size) w) (hN : NEnv w) (at' : Int) :
    Calls Tryz.prog 36 #[.pointer (some ⟨G, 1, none⟩), .int .i64 at'] w fun e w' => e = .returned (.string (bs (partType F at'))) ∧ Below w.heap.size w w' := by
  have hB : Below w.heap.size w ((w.alloc (.cells #[.pointer (some ⟨G, 1, none⟩)] 22)).alloc (.cells #[.int .i64 at'] 3)) := (below_box _ _).alloc (by simp) _
  have h0 := heap_alloc_new w (.cells #[.pointer (some ⟨G, 1, none⟩)] 22)
  have hs1 : (w.alloc (.cells #[.pointer (some ⟨G, 1, none⟩)] 22)).heap.size = w.heap.size + 1 := by simp
  have h1 := heap_alloc_new (w.alloc (.cells #[.pointer (some ⟨G, 1, none⟩)] 22)) (.cells #[.int .i64 at'] 3)
  rw [hs1] at h1
  have h0 : ((w.alloc (.cells #[.pointer (some ⟨G, 1, none⟩)] 22)).alloc (.cells #[.int .i64 at'] 3)).heap[w.heap.size]? = some (.cells #[.pointer (some ⟨G, 1, none⟩)] 22 (0, 0)) := by rw [Below.heap_alloc _ _ _ (by omega)]; exact h0
  have CP := hid (part_Type _ (hF.below hB) hO (hE.below hB) (hK.low hB) (hN.below hB) (ka := w.heap.size + 1) (kf := w.heap.size) at' (cells1c h1) (cells1c h0) (Array.getElem?_eq_some_iff.1 h1).1 (Array.getElem?_eq_some_iff.1 h0).1)
  have z0 := cells1c h0
  have HB := hid hB
  clear hF hO hE hK hN hB h0 hs1 h1
  go_enter Tryz.func36, Tryz.ntmps36
  go_wp2_with (go_at_call 75; (with_reducible refine CP.out.mono ?_); rintro e w2 ⟨rfl, hb⟩; have HB2 := hid (HB.out.trans (hb.mono HB.out.size)); clear hb)
  go_ret
  exact ⟨rfl, HB2.out⟩
end Go.Proofs.YthcdohggffpopaaGreatDoor
namespace Go.Proofs.YthcdohggffpopaaGreatDoor
open Go.Lib (hid)
open Go.ChangeShapes Go.WideShapes Go.ChangeAt Go.RowKit
theorem tidy_back {s t : List UInt8} {f : FM} (h : parseL s = .ok f) (ht : textW f.gf = some t) : parseL t = .ok f := by
  obtain ⟨cs, ss, rfl, vc, vs, lc, ls⟩ := parse_tree h
  have hw := ht
  unfold textW fileW at ht
  by_cases hb : (putF cs ss).gf.xs.length ≤ maxText ∧ (putF cs ss).gf.ts.length ≤ maxText
  · have h1 : (putF cs ss).g.xs.length ≤ maxText := by have := hb.1; simpa [FM.gf] using this
    have h2 : (putF cs ss).g.ts.length ≤ maxText := by have := hb.2; simpa [FM.gf] using this
    rw [textW_eq cs ss (fun x hx => (vs x hx).2.1) h1 h2] at hw
    split at hw
    · rename_i hl
      cases hw
      exact tree_back vc vs lc ls hl
    · cases hw
  · rw [if_neg hb] at ht
    cases ht
theorem textF_of {s t : List UInt8} {f : FM} (h : parseL s = .ok f) (ht : textW f.gf = some t) : textF f.gf = some t := by
  unfold textF
  rw [ht, Option.bind_some, tidy_back h ht]
  exact if_pos rfl
def w8T : List UInt8 := [115, 116, 114, 117, 99, 116, 32, 83, 123, 110, 58, 117, 56, 32, 119, 104, 101, 114, 101, 32, 40, 110, 43, 49, 41, 42, 50, 60, 48, 120, 49, 48, 59, 125]
def w8S : List UInt8 := [115, 116, 114, 117, 99, 116, 32, 83, 32, 123, 10, 32, 32, 110, 58, 32, 117, 56, 32, 119, 104, 101, 114, 101, 32, 40, 110, 32, 43, 32, 49, 41, 32, 42, 32, 50, 32, 60, 32, 49, 54, 59, 10, 125, 10]
def w8C : Bool := match parseL w8T with
  | .ok f => decide (textW f.gf = some w8S) && decide (exprW f.gf.xs f.gf.xs.length 2 [] = some [110, 32, 43, 32, 49]) && decide (typW f.gf.xs f.gf.ts f.gf.ts.length 0 [] = some [117, 56])
  | .bad _ _ => false
theorem w8C_true : w8C = true := by decide +kernel
theorem wake8 : ∃ f, parseL w8T = .ok f ∧ textW f.gf = some w8S ∧ partExpr f.gf 2 = [110, 32, 43, 32, 49] ∧ partType f.gf 0 = [117, 56] := by
  have h := w8C_true
  unfold w8C at h
  cases hp : parseL w8T with
  | bad p x => rw [hp] at h; cases h
  | ok f =>
    rw [hp] at h
    simp only [Bool.and_eq_true, decide_eq_true_eq] at h
    refine ⟨f, rfl, h.1.1, ?_, ?_⟩
    · unfold partExpr
      rw [textF_of hp h.1.1, h.1.2]
      rfl
    · unfold partType
      rw [textF_of hp h.1.1, h.2]
      rfl
theorem file_ok {g : Nat} {w : World} {f : FM} {s : List UInt8} (hp : parseL s = .ok f) (h : FileR g w f) (hl : f.g.xs.length + f.g.ts.length ≤ 60000) (hc : f.cs.length ≤ 64) (hs : f.ss.length ≤ 64) : FileOK f.gf := by
  obtain ⟨h1, h2⟩ := gf_ok h (parse_nums hp) hl
  exact ⟨h1, h2, by show f.cs.length < _; omega, by show f.ss.length < _; omega⟩
theorem Parse_ok {s : List UInt8} {f : FM} (h : parseL s = .ok f) (a : ByteArray) (ha : a.data.toList = s) (w : World) (hE : Env w) (hK : KEnv (fun b => b < w.heap.size) w) :
    Calls Tryz.prog 14 #[.string a] w fun e w' => (∃ g, e = .returned (.tuple #[.pointer (some ⟨g, 1, none⟩), .agg #[.int .i64 0, .int .i64 0], .int .i64 0]) ∧ FileR g w' f ∧ FileOK f.gf) ∧ Below w.heap.size w w' := by
  subst ha
  refine (Parse_any a w hE hK).mono ?_
  rintro e w' ⟨hp, hb⟩
  rw [h] at hp
  obtain ⟨⟨g, rfl, hF⟩, h1, h2, h3⟩ := hp
  exact ⟨⟨g, rfl, hF, file_ok h hF h1 h2 h3⟩, hb⟩
theorem Tidy_ok {s t : List UInt8} {f : FM} (h : parseL s = .ok f) (ht : textW f.gf = some t) (a : ByteArray) (ha : a.data.toList = s) (w : World) (hE : Env w) (hK : KEnv (fun b => b < w.heap.size) w) (hN : NEnv w) :
    Calls Tryz.prog 30 #[.string a] w fun e w' => e = .returned (.tuple #[.string (bs t), .agg #[.int .i64 0, .int .i64 0], .int .i64 0]) ∧ Below w.heap.size w w' := by
  subst ha
  refine (Tidy_any a w hE hK hN).mono ?_
  rintro e w' ⟨hp, hb⟩
  rw [h] at hp
  have hp : TidyOf (textW f.gf) e := hp
  rw [ht] at hp
  exact ⟨hp, hb⟩
set_option maxHeartbeats 4000000 in
set_option maxRecDepth 100000 in
theorem wakes8_any (w : World) (hE : Env w) (hK : KEnv (fun b => b < w.heap.size) w) (hN : NEnv w) :
    Calls Tryz.prog 32 #[] w fun e w' => e = .returned (.bool true) ∧ Below w.heap.size w w' := by
  obtain ⟨f, h1, h2, h3, h4⟩ := wake8
  have CT := hid (Tidy_ok h1 h2 ⟨#[115, 116, 114, 117, 99, 116, 32, 83, 123, 110, 58, 117, 56, 32, 119, 104, 101, 114, 101, 32, 40, 110, 43, 49, 41, 42, 50, 60, 48, 120, 49, 48, 59, 125]⟩ rfl w hE hK hN)
  rw [show bs w8S = ⟨#[115, 116, 114, 117, 99, 116, 32, 83, 32, 123, 10, 32, 32, 110, 58, 32, 117, 56, 32, 119, 104, 101, 114, 101, 32, 40, 110, 32, 43, 32, 49, 41, 32, 42, 32, 50, 32, 60, 32, 49, 54, 59, 10, 125, 10]⟩ from rfl] at CT
  have CP := hid fun w' (hb : Below w.heap.size w w') => Parse_ok (tidy_back h1 h2) ⟨#[115, 116, 114, 117, 99, 116, 32, 83, 32, 123, 10, 32, 32, 110, 58, 32, 117, 56, 32, 119, 104, 101, 114, 101, 32, 40, 110, 32, 43, 32, 49, 41, 32, 42, 32, 50, 32, 60, 32, 49, 54, 59, 10, 125, 10]⟩ rfl w' (hE.below hb) (hK.low hb)
  have CX : Hid (∀ g w', Below w.heap.size w w' → FileG g w' f.gf → FileOK f.gf → Calls Tryz.prog 33 #[.pointer (some ⟨g, 1, none⟩)] w' fun e w2 => e = .returned (.tuple #[.string ⟨#[115, 116, 114, 117, 99, 116, 32, 83, 32, 123, 10, 32, 32, 110, 58, 32, 117, 56, 32, 119, 104, 101, 114, 101, 32, 40, 110, 32, 43, 32, 49, 41, 32, 42, 32, 50, 32, 60, 32, 49, 54, 59, 10, 125, 10]⟩, .int .i64 0]) ∧ Below w'.heap.size w' w2) := hid fun g w' hb hf ho => by
    have := Text_any w' hf ho (hE.below hb) (hK.low hb) (hN.below hb)
    rw [textF_of h1 h2] at this
    exact this
  have CE : Hid (∀ g w', Below w.heap.size w w' → FileG g w' f.gf → FileOK f.gf → Calls Tryz.prog 37 #[.pointer (some ⟨g, 1, none⟩), .int .i64 2] w' fun e w2 => e = .returned (.string ⟨#[110, 32, 43, 32, 49]⟩) ∧ Below w'.heap.size w' w2) := hid fun g w' hb hf ho => by
    have := Expr_any w' hf ho (hE.below hb) (hK.low hb) (hN.below hb) 2
    rw [h3] at this
    exact this
  have CY : Hid (∀ g w', Below w.heap.size w w' → FileG g w' f.gf → FileOK f.gf → Calls Tryz.prog 36 #[.pointer (some ⟨g, 1, none⟩), .int .i64 0] w' fun e w2 => e = .returned (.string ⟨#[117, 56]⟩) ∧ Below w'.heap.size w' w2) := hid fun g w' hb hf ho => by
    have := Type_any w' hf ho (hE.below hb) (hK.low hb) (hN.below hb) 0
    rw [h4] at this
    exact this
  clear hE hK hN h1 h2 h3 h4
  go_enter Tryz.func32, Tryz.ntmps32
  go_wp2_with (first | (go_at_call 30; (with_reducible refine CT.out.mono ?_); rintro e w1 ⟨rfl, hb⟩; have HB1 := hid (hb.trans ((below_box w1 (.cells #[.int .i64 0, .int .i64 0] 24)).mono hb.size)); clear hb) | (go_at_call 14; (with_reducible refine (CP.out _ HB1.out).mono ?_); rintro e w2 ⟨⟨g, rfl, hF, ho⟩, hb⟩; have HO := hid ho; have HF := hid (hF.gf.below (below_box w2 (.cells #[.int .i64 0, .int .i64 0] 24))); have HB2 := hid (HB1.out.trans ((hb.trans ((below_box w2 (.cells #[.int .i64 0, .int .i64 0] 24)).mono hb.size)).mono HB1.out.size)); clear hb hF ho) | (go_at_call 33; (with_reducible refine (CX.out _ _ HB2.out HF.out HO.out).mono ?_); rintro e w3 ⟨rfl, hb⟩; have HF3 := hid (HF.out.below hb); have HB3 := hid (HB2.out.trans (hb.mono HB2.out.size)); clear hb) | (go_at_call 37; (with_reducible refine (CE.out _ _ HB3.out HF3.out HO.out).mono ?_); rintro e w4 ⟨rfl, hb⟩; have HF4 := hid (HF3.out.below hb); have HB4 := hid (HB3.out.trans (hb.mono HB3.out.size)); clear hb) | (go_at_call 36; (with_reducible refine (CY.out _ _ HB4.out HF4.out HO.out).mono ?_); rintro e w5 ⟨rfl, hb⟩; have HB5 := hid (HB4.out.trans (hb.mono HB4.out.size)); clear hb))
  go_ret
  exact ⟨rfl, HB5.out⟩
end Go.Proofs.YthcdohggffpopaaGreatDoor
namespace Go.Proofs.YthcdohggffpopaaGreatDoor
open Go.Lib (hid)
open Go.ChangeShapes Go.WideShapes Go.ChangeAt Go.RowKit
theorem parse_bad {s : List UInt8} {p : Ps} {x : Nat} (h : parseL s = .bad p x) : x ≠ 0 := by
  unfold parseL at h
  cases hl : lexL s with
  | bad q e =>
    rw [hl] at h
    cases h
    exact (lexL_bad_at hl).2
  | ok ts =>
    rw [hl] at h
    dsimp only at h
    cases hf : fileP ts with
    | ok a l => rw [hf] at h; cases h
    | bad l e =>
      rw [hf] at h
      have hg := good_fileL (fuel ts) [] [] ts (lexL_wf hl)
      rw [show fileL (fuel ts) [] [] ts = .bad l e from hf] at hg
      cases h
      exact hg.2.2
theorem Tidy_no {s : ByteArray} (hno : ¬ ∃ f t, parseL s.data.toList = .ok f ∧ textW f.gf = some t) (w : World) (hE : Env w) (hK : KEnv (fun b => b < w.heap.size) w) (hN : NEnv w) :
    Calls Tryz.prog 30 #[.string s] w fun e w' => (∃ (x p q : Int), e = .returned (.tuple #[.string ⟨#[]⟩, .agg #[.int .i64 p, .int .i64 q], .int .i64 x]) ∧ (x != 0) = true) ∧ Below w.heap.size w w' := by
  refine (Tidy_any s w hE hK hN).mono ?_
  rintro e w' ⟨hp, hb⟩
  refine ⟨?_, hb⟩
  cases hr : parseL s.data.toList with
  | bad p x =>
    rw [hr] at hp
    have hx := parse_bad hr
    exact ⟨(x : Int), (p.1 : Int), (p.2 : Int), hp, by simp; omega⟩
  | ok f =>
    rw [hr] at hp
    have hp : TidyOf (textW f.gf) e := hp
    cases hq : textW f.gf with
    | some t => exact absurd ⟨f, t, hr, hq⟩ hno
    | none =>
      rw [hq] at hp
      exact ⟨7, 1, 1, hp, rfl⟩
set_option maxHeartbeats 4000000 in
set_option maxRecDepth 100000 in
theorem ShowBack_walk (s : ByteArray) (w : World) (ws : s.size ≤ maxLen) (hE : Env w) (hK : KEnv (fun b => b < w.heap.size) w) (hN : NEnv w) :
    Calls Tryz.prog 8 #[.string s] w fun e w' => e = .returned (.bool true) ∧ Below w.heap.size w w' := by
  have HW := hid fun w' (hb : Below w.heap.size w w') => wakes8_any w' (hE.below hb) (hK.low hb) (hN.below hb)
  by_cases hno : ∃ f t, parseL s.data.toList = .ok f ∧ textW f.gf = some t
  · obtain ⟨f, t, hp, ht⟩ := hno
    have CT := hid (Tidy_ok hp ht s rfl w hE hK hN)
    have CU := hid fun w' (hb : Below w.heap.size w w') => Tidy_ok (tidy_back hp ht) ht (bs t) (bs_data t) w' (hE.below hb) (hK.low hb) (hN.below hb)
    have CP := hid fun w' (hb : Below w.heap.size w w') => Parse_ok hp s rfl w' (hE.below hb) (hK.low hb)
    have CQ := hid fun w' (hb : Below w.heap.size w w') => Parse_ok (tidy_back hp ht) (bs t) (bs_data t) w' (hE.below hb) (hK.low hb)
    have CE : Hid (∀ g1 g2 w', FileG g1 w' f.gf → FileG g2 w' f.gf → Calls Tryz.prog 38 #[.pointer (some ⟨g1, 1, none⟩), .pointer (some ⟨g2, 1, none⟩)] w' fun e w2 => e = .returned (.bool true) ∧ Below w'.heap.size w' w2) := hid fun g1 g2 w' h1 h2 => (Equal_any w' h1 h2).mono fun e w2 h => ⟨by rw [h.1, decide_eq_true rfl], h.2⟩
    clear hE hK hN hp ht ws
    generalize bs t = b at CT CU CQ
    go_enter Tryz.func8, Tryz.ntmps8
    go_wp2_with (first | (go_at_call_of 30 s; (with_reducible refine CT.out.mono ?_); rintro e w1 ⟨rfl, hb⟩; have HB1 := hid (hb.trans ((below_box w1 (.cells #[.int .i64 0, .int .i64 0] 24)).mono hb.size)); clear hb) | (go_at_call 32; (with_reducible refine (HW.out _ HB1.out).mono ?_); rintro e w2 ⟨rfl, hb⟩; have HB2 := hid (HB1.out.trans (hb.mono HB1.out.size)); clear hb) | (go_at_call_of 14 s; (with_reducible refine (CP.out _ HB2.out).mono ?_); rintro e w3 ⟨⟨g1, rfl, hF, -⟩, hb⟩; have HF1 := hid (hF.gf.below (below_box w3 (.cells #[.int .i64 0, .int .i64 0] 24))); clear hF; have HB3 := hid (HB2.out.trans ((hb.trans ((below_box w3 (.cells #[.int .i64 0, .int .i64 0] 24)).mono hb.size)).mono HB2.out.size)); clear hb) | (go_at_call_of 14 b; (with_reducible refine (CQ.out _ HB3.out).mono ?_); rintro e w4 ⟨⟨g2, rfl, hF, -⟩, hb⟩; have HF2 := hid (hF.gf.below (below_box w4 (.cells #[.int .i64 0, .int .i64 0] 24))); have HG1 := hid ((HF1.out.below hb).below (below_box w4 (.cells #[.int .i64 0, .int .i64 0] 24))); clear hF; have HB4 := hid (HB3.out.trans ((hb.trans ((below_box w4 (.cells #[.int .i64 0, .int .i64 0] 24)).mono hb.size)).mono HB3.out.size)); clear hb) | (go_at_call_of 30 b; (with_reducible refine (CU.out _ HB4.out).mono ?_); rintro e w5 ⟨rfl, hb⟩; have HG2 := hid ((HF2.out.below hb).below (below_box w5 (.cells #[.int .i64 0, .int .i64 0] 24))); have HG3 := hid ((HG1.out.below hb).below (below_box w5 (.cells #[.int .i64 0, .int .i64 0] 24))); have HB5 := hid (HB4.out.trans ((hb.trans ((below_box w5 (.cells #[.int .i64 0, .int .i64 0] 24)).mono hb.size)).mono HB4.out.size)); clear hb) | (go_at_call 38; (with_reducible refine (CE.out _ _ _ HG3.out HG2.out).mono ?_); rintro e w6 ⟨rfl, hb⟩; have HB6 := hid (HB5.out.trans (hb.mono HB5.out.size)); clear hb))
    go_ret
    exact ⟨rfl, HB6.out⟩
  · have CT := hid (Tidy_no hno w hE hK hN)
    clear hE hK hN ws hno
    go_enter Tryz.func8, Tryz.ntmps8
    go_wp2_with (first | (go_at_call 30; (with_reducible refine CT.out.mono ?_); rintro e w1 ⟨⟨x, p, q, rfl, hx⟩, hb⟩; have HB1 := hid (hb.trans ((below_box w1 (.cells #[.int .i64 p, .int .i64 q] 24)).mono hb.size)); clear hb) | (go_at_call 32; (first | ((with_reducible refine (HW.out _ HB2.out).mono ?_); rintro e w3 ⟨rfl, hb⟩; have HB3 := hid (HB2.out.trans (hb.mono HB2.out.size)); clear hb) | ((with_reducible refine (HW.out _ HB1.out).mono ?_); rintro e w2 ⟨rfl, hb⟩; have HB2 := hid (HB1.out.trans (hb.mono HB1.out.size)); clear hb))))
    go_ret
    exact ⟨rfl, HB3.out⟩
end Go.Proofs.YthcdohggffpopaaGreatDoor
