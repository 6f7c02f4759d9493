/- Layer 7: the program's parser: switches. · A call of a Go function, and an append, at a step of a region that draws its order. · Layer 7: the program's parser: readSwitch. · Layer 7: the program's parser: readType, whole. -/
import Derived.Test.YtomimkgaelkaoaaGreatDoorC13ParU
import Derived.Deep.RegionHeld3
set_option linter.unusedVariables false
set_option linter.unusedSimpArgs false
namespace Go.Proofs.YtomimkgaelkaoaaGreatDoor
open Go.Lib (hid)
open Go.ChangeShapes Go.WideShapes Go.ChangeAt Go.RowKit
theorem info_case : (Tryz.prog.info? 198).map (fun i => (i.zero, i.size, i.bytes)) = some (some (.agg #[.int .u64 0, .int .i64 0]), 2, 16) := by kernel_rfl
def TCell (k : Nat) (w : World) (x i : Int) (v : Value) : Prop := w.heap[k]? = some (.cells #[.int .i64 9, .int .i64 0, .bool false, .string ⟨#[]⟩, .slice none 0 0, .int .i64 x, .int .i64 i, v] 44 (0, 0))
theorem TCell.cells {k : Nat} {w : World} {x i : Int} {v : Value} (h : TCell k w x i v) : w.cell? ⟨k, 5, none⟩ = some (.int .i64 x) ∧ w.cell? ⟨k, 6, none⟩ = some (.int .i64 i) ∧ w.cell? ⟨k, 7, none⟩ = some v ∧ (∀ j, w.frozen? ⟨k, j, none⟩ = false) ∧ k < w.heap.size := by
 obtain ⟨⟨_, _, _, _, _, a, b, c⟩, d, e⟩ := cells8 h
 exact ⟨a, b, c, d, e⟩
theorem TCell.own {X : Nat → Prop} {g b k : Nat} {w w' : World} {l : List Tok} {d : Nat} {f : FM} {x i : Int} {v : Value} (h : TCell k w x i v) (hI : PInv X g b w l d f) (hk : X k) (hS : St layP g w w') : TCell k w' x i v := (hI.own hk hS).trans h
theorem TCell.setX {k : Nat} {w : World} {x i : Int} {v : Value} (h : TCell k w x i v) (y : Int) : TCell k (w.setCell ⟨k, 5, none⟩ (.int .i64 y)) y i v := cell_set_row h (by simp) _
theorem TCell.setI {k : Nat} {w : World} {x i : Int} {v : Value} (h : TCell k w x i v) (y : Int) : TCell k (w.setCell ⟨k, 6, none⟩ (.int .i64 y)) x y v := cell_set_row h (by simp) _
theorem TCell.setV {k : Nat} {w : World} {x i : Int} {v : Value} (h : TCell k w x i v) (u : Value) : TCell k (w.setCell ⟨k, 7, none⟩ u) x i u := cell_set_row h (by simp) _
def swG : TA → GM → GM
 | .sw e cs els, g => (putT els (putT cs (putE e g)).1).1
 | _, g => g
def swM : TA → GM → TM
 | .sw e cs els, g => ⟨9, 0, false, [], [], (putE e g).x, if els.isNil then -1 else (putT els (putT cs (putE e g)).1).1.t, (putT cs (putE e g)).2⟩
 | _, g => ⟨9, 0, false, [], [], -1, -1, []⟩
theorem CasesV.st {X : Nat → Prop} {g b : Nat} {w w' : World} {l : List Tok} {d : Nat} {f : FM} {v : Value} {ks : List (Nat × Nat)} (h : CasesV layP w v ks) (hI : PInv (wthV X v) g b w l d f) (hS : St layP g w w') : CasesV layP w' v ks := ownsRow_same h fun k hk => hI.own (.inr hk) hS
theorem CasesV.snoc {w : World} {v : Value} {ks : List (Nat × Nat)} {n t : Nat} (h : w.ownsRow 0 198 2 v (ks.length + 1) (ks.flatMap (fun c : Nat × Nat => [Value.int .u64 (c.1 : Int), Value.int .i64 (c.2 : Int)]) ++ [.int .u64 (n : Int), .int .i64 (t : Int)])) : CasesV layP w v (ks ++ [(n, t)]) := by
 unfold CasesV
 rw [List.length_append, List.flatMap_append]
 exact h
def SwPost (X : Nat → Prop) (g b d : Nat) (f : FM) (W : World) (k : Nat) (r : PR TA) (e' : Ending) (w' : World) : Prop :=
 (match r with
  | .ok t l' => e' = .returned (.tuple #[]) ∧ PInv X g b w' l' d (f.setG (swG t f.g)) ∧ ∃ va, TCell k w' (swM t f.g).e (swM t f.g).i va ∧ CasesV layP w' va (swM t f.g).cs ∧ Nest (Pub X layP g w') va
  | .bad l' x => e' = .panicked (flt l' x)) ∧ St layP g W w'
def CSw (n : Nat) : Prop := ∀ (X : Nat → Prop) (g b : Nat) (l : List Tok) (d : Nat) (f : FM) (w W : World) (k : Nat), PInv X g b w l d f → X k → TCell k w (-1) (-1) (.slice none 0 0) → St layP g W w → g < W.heap.size → W.heap.size ≤ k → (∀ i, X i → i = k ∨ i < W.heap.size) → 8 * l.length + 4 ≤ n →
 Calls Tryz.prog 238 #[.pointer (some ⟨g, 0, none⟩), .pointer (some ⟨k, 0, none⟩)] w (SwPost X g b d f W k (switchP n d l))
theorem need_sRc {X : Nat → Prop} {g b : Nat} {l : List Tok} {d : Nat} {f : FM} (w : World) (h : PInv X g b w l d f) : Calls Tryz.prog 122 #[.pointer (some ⟨g, 0, none⟩), .string ⟨#[125]⟩] w (PostP X g (b - 3) w d (need sRc l) (fun _ => .tuple #[]) fun _ => f) := need_any sRc (by decide) w h
theorem single1_of {l : List Tok} (hb : begT l = true) (h0 : isT kBytes l = false) (h1 : isT kZero l = false) (h2 : isT kSkip l = false) (h3 : isT kWindow l = false) (h4 : isT kAt l = false) (h5 : isT kRest l = false) (h6 : isT kTail l = false) (h7 : isT kNone l = false) (h8 : isT kSwitch l = false) : single1 l := by
 unfold begT at hb
 simp only [Bool.or_eq_true] at hb
 rcases hb with (hb | hb) | hb
 ·rw [List.contains_iff_mem] at hb
  simp only [tyW, List.mem_cons, List.mem_nil_iff, or_false] at hb
  unfold isT at h0 h1 h2 h3 h4 h5 h6 h7 h8
  simp only [decide_eq_false_iff_not] at h0 h1 h2 h3 h4 h5 h6 h7 h8
  rcases hb with hb | hb | hb | hb | hb | hb | hb | hb | hb
  ·exact absurd hb h0
  ·exact absurd hb h1
  ·exact absurd hb h2
  ·exact absurd hb h3
  ·exact absurd hb h4
  ·exact absurd hb h5
  ·exact absurd hb h6
  ·exact absurd hb h7
  ·exact absurd hb h8
 ·exact .inl hb
 ·exact .inr hb
theorem good_cases : ∀ (n : Nat), (∀ m, m < n → ∀ d l, Good 1 l (branchP m d l)) → ∀ d c cs l, Good 0 l (casesL n d c cs l)
 | 0, _, d, c, cs, l => by rw [casesL]; exact .bad _ _ (by decide)
 | n + 1, hb, d, c, cs, l => by
  rw [casesL]
  split
  ·rename_i h
   refine Good.mono (s := 0 + (1 + (1 + 0)))  ?_ (by omega)
   refine (good_room c l).bind fun _ l1 hr => ?_
   obtain ⟨rfl, _⟩ := room_same hr
   refine Good.mono (s := 1 + (1 + 0) + 1) (Good.isT h (by decide) ((good_num _).bind fun _ _ _ => (hb n (by omega) _ _).bind fun _ _ _ => good_cases n (fun m hm => hb m (by omega)) _ _ _ _)) (by omega)
  ·exact .ok _ _
theorem good_types : ∀ n, (∀ d l, Good 1 l (typP n d l)) ∧ (∀ d l, Good 1 l (innerP n d l)) ∧ (∀ d l, Good 1 l (branchP n d l)) ∧ (∀ d l, Good 1 l (switchP n d l)) := by
 intro n
 induction n using Nat.strongRecOn with
 | ind n ih =>
  cases n with
  | zero => exact ⟨fun d l => by rw [typP]; exact .bad _ _ (by decide), fun d l => by rw [innerP]; exact .bad _ _ (by decide), fun d l => by rw [branchP]; exact .bad _ _ (by decide), fun d l => by rw [switchP]; exact .bad _ _ (by decide)⟩
  | succ n =>
   obtain ⟨i1, i2, i3, i4⟩ := ih n (by omega)
   refine ⟨fun d l => ?_, fun d l => ?_, fun d l => ?_, fun d l => ?_⟩
   ·rw [typP]
    split
    ·exact .bad _ _ (by decide)
    rename_i hbt
    iterate 3 (split; · rename_i h; exact Good.mono (s := 3 + 0 + 1) (Good.isT h (by decide) ((good_idx _ _ _).bind fun _ _ _ => .ok _ _)) (by omega))
    iterate 2 (split; · rename_i h; exact Good.mono (s := 3 + (1 + 0) + 1) (Good.isT h (by decide) ((good_idx _ _ _).bind fun _ _ _ => (i2 _ _).bind fun _ _ _ => .ok _ _)) (by omega))
    split
    ·rename_i h; exact Good.mono (s := 1 + 0 + 1) (Good.isT h (by decide) ((i2 _ _).bind fun _ _ _ => .ok _ _)) (by omega)
    iterate 2 (split; · rename_i h; exact Good.isT h (by decide) (.ok _ _))
    split
    ·rename_i h; exact Good.mono (s := 1 + 1) (Good.isT h (by decide) (i4 _ _)) (by omega)
    ·rename_i h0 h1 h2 h3 h4 h5 h6 h7 h8
     exact good_elem _ _ _ (single1_of (by simpa using hbt) (by simpa using h0) (by simpa using h1) (by simpa using h2) (by simpa using h3) (by simpa using h4) (by simpa using h5) (by simpa using h6) (by simpa using h7) (by simpa using h8))
   ·rw [innerP]
    exact Good.mono (s := 0 + 1) ((good_enter _ _ _).bind fun _ _ _ => i1 _ _) (by omega)
   ·rw [branchP]
    exact Good.mono (s := 1 + (1 + (1 + 0))) ((good_need _ _ (by decide)).bind fun _ _ _ => (i2 _ _).bind fun _ _ _ => (good_need _ _ (by decide)).bind fun _ _ _ => .ok _ _) (by omega)
   ·rw [switchP]
    refine Good.mono (s := 1 + (1 + (1 + (1 + (0 + 1))))) ((good_need _ _ (by decide)).bind fun _ _ _ => (good_bin _ _ _ _ (Nat.le_refl _)).bind fun _ _ _ => (good_need _ _ (by decide)).bind fun _ _ _ => (good_need _ _ (by decide)).bind fun _ _ _ => (good_cases n (fun m hm d l => (ih m (by omega)).2.2.1 d l) _ _ _ _).bind fun _ l5 _ => ?_) (by omega)
    split
    ·rename_i h; exact Good.mono (s := 1 + (1 + 0) + 1) (Good.isT h (by decide) ((i3 _ _).bind fun _ _ _ => (good_need _ _ (by decide)).bind fun _ _ _ => .ok _ _)) (by omega)
    ·exact Good.mono (s := 1 + 0) ((good_need _ _ (by decide)).bind fun _ _ _ => .ok _ _) (by omega)
end Go.Proofs.YtomimkgaelkaoaaGreatDoor
namespace Go.Proofs.YtomimkgaelkaoaaGreatDoor
open Go.Lib (hid)
open Go.ChangeShapes Go.WideShapes Go.ChangeAt Go.RowKit
theorem step_call {P : Program} {w : World} {ops : Array Oper} {o : Oper} {a : Act} {K : Act → World → Prop} {Q : Exit → Act → World → Prop} {F : Prop} (hgd : o.guard = none) (f : FuncId) (s : Operand) (t : TypeId)
  (ho : o.op = .call { callee := .value (.func f), args := #[s], argTypes := #[t] }) (he : ∀ args w, (callFunc f args).run P w = .ok (.enter f args) w) {R : Ending → World → Prop} (v : Value)
  (hs : a.eval s = v) (hc : Calls P f #[v] w R)
  (h : ∀ e w', R e w' → match e, w' with | .returned v, w'' => K (a.put o.dst v) w'' | .panicked chain, w'' => Q (.panic chain) a w'' | .outgrown, _ => LetsOut Q) :
  if Region.wanted o (yielded ops a.tmps) = true then Oper.wp P o a w K Q else F := by
 have hw : Region.wanted o (yielded ops a.tmps) = true := by simp [Region.wanted, hgd]
 rw [if_pos hw]
 have hr : (execOp a.eval o).run P w = .ok (.enter f #[v]) w := by
  have hf : a.eval (.func f) = .func (.func f) #[] #[] := rfl
  unfold execOp
  generalize a.eval = ev at hs hf
  simp [ho, resolve, invoke, hs, hf, he, Deferred.ofValue]
 unfold Oper.wp
 rw [hr, Oper.upon_enter]
 exact hc.mono h
end Go.Proofs.YtomimkgaelkaoaaGreatDoor
namespace Go.Proofs.YtomimkgaelkaoaaGreatDoor
open Go.Lib (hid)
open Go.ChangeShapes Go.WideShapes Go.ChangeAt Go.RowKit
theorem case_len {n d : Nat} {l l' : List Tok} {t : TA} (hw : WF l) (h : branchP n d l = .ok t l') : l'.length < l.length ∧ WF l' := by
 have := (good_types n).2.2.1 d l hw
 rw [h] at this
 exact ⟨by have := this.2; omega, this.1⟩
theorem num_len {l l' : List Tok} {v : Nat} (hw : WF l) (h : numP l = .ok v l') : l'.length < l.length ∧ WF l' := by
 have := good_num l hw
 rw [h] at this
 exact ⟨by have := this.2; omega, this.1⟩
theorem enter_branch (args : Array Value) (w : World) : (callFunc 282 args).run Tryz.prog w = .ok (.enter 282 args) w :=
 Go.MuLone.run_callFunc_enter Tryz.func282 (by kernel_rfl) (c := (Tryz.f282.body).getD default) (by kernel_rfl) args w
theorem s_alloc {w : World} {k j : Nat} {v : Value} (h1 : w.cell? ⟨k, j, none⟩ = some v) (h2 : w.frozen? ⟨k, j, none⟩ = false) (h3 : k < w.heap.size) (o : Obj) : (w.alloc o).cell? ⟨k, j, none⟩ = some v ∧ (w.alloc o).frozen? ⟨k, j, none⟩ = false ∧ k < (w.alloc o).heap.size :=
 ⟨((below_box w o).cell (p := ⟨k, j, none⟩) h3).trans h1, ((below_box w o).frozen (p := ⟨k, j, none⟩) h3).trans h2, by simp; omega⟩
theorem elem_nil {n d : Nat} {l l' : List Tok} {t : TA} (h : elemP n d l = .ok t l') : t.isNil = false := by
 unfold elemP at h
 rcases hS : singleP n d l with ⟨s, l1⟩ | ⟨l1, x⟩
 all_goals rw [hS] at h
 ·rw [PR.bind_ok] at h
  split at h
  ·rcases hX : idxP n d l1 with ⟨e, l2⟩ | ⟨l2, x⟩
   all_goals rw [hX] at h; cases h
   rfl
  ·cases h
   unfold singleP at hS
   split at hS
   ·cases hS; rfl
   ·split at hS
    ·rcases hA : argsP n d l.tail.tail with ⟨es, l4⟩ | ⟨l4, x⟩
     all_goals rw [hA] at hS; cases hS
     rfl
    ·cases hS; rfl
 ·cases h
theorem bind_nil {α : Type} {r : PR α} {f : α → List Tok → PR TA} {t : TA} {l' : List Tok} (h : r.bind f = .ok t l') (hf : ∀ a l1, f a l1 = .ok t l' → t.isNil = false) : t.isNil = false := by
 cases r with
 | ok a l1 => exact hf a l1 h
 | bad l1 x => cases h
theorem typ_nil {n d : Nat} {l l' : List Tok} {t : TA} (h : typP n d l = .ok t l') : t.isNil = false := by
 cases n with
 | zero => rw [typP] at h; cases h
 | succ n =>
  rw [typP] at h
  split at h
  ·cases h
  iterate 3 (split at h; · exact bind_nil h fun a l1 e => by cases e; rfl)
  iterate 2 (split at h; · exact bind_nil h fun a l1 e => bind_nil e fun a l1 e => by cases e; rfl)
  split at h
  ·exact bind_nil h fun a l1 e => by cases e; rfl
  split at h
  ·cases h; rfl
  split at h
  ·cases h; rfl
  split at h
  ·cases n with
   | zero => rw [switchP] at h; cases h
   | succ n =>
    rw [switchP] at h
    refine bind_nil h fun _ _ e => bind_nil e fun _ _ e => bind_nil e fun _ _ e => bind_nil e fun _ _ e => bind_nil e fun _ l5 e => ?_
    split at e
    ·exact bind_nil e fun _ _ e => bind_nil e fun _ _ e => by cases e; rfl
    ·exact bind_nil e fun _ _ e => by cases e; rfl
  ·exact elem_nil h
theorem branch_nil {n d : Nat} {l l' : List Tok} {t : TA} (h : branchP n d l = .ok t l') : t.isNil = false := by
 cases n with
 | zero => rw [branchP] at h; cases h
 | succ n =>
  rw [branchP] at h
  refine bind_nil h fun _ l1 e => ?_
  rcases hI : innerP n d l1 with ⟨s, l2⟩ | ⟨l2, x⟩
  all_goals rw [hI] at e
  ·rw [PR.bind_ok] at e
   rcases hN : need sSemi l2 with ⟨u, l3⟩ | ⟨l3, x⟩
   all_goals rw [hN] at e; cases e
   cases n with
   | zero => rw [innerP] at hI; cases hI
   | succ n =>
    rw [innerP] at hI
    exact bind_nil hI fun _ _ e => typ_nil e
  ·cases e
set_option maxHeartbeats 4000000 in
set_option maxRecDepth 100000 in
theorem switch_step {n : Nat} (IB : ∀ m, m ≤ n → CBr m) : CSw (n + 1) := by
 intro X g b l d f w W k h hXk ht hSW hgW hk hXW hn
 have htop := h.top
 have hw := h.wf
 have HT := hid ht
 have HSW := hid hSW
 have HXW := hid hXW
 obtain ⟨i0, hi, hz0, hz1, hz2⟩ := info_parts info_case
 clear ht hSW hXW
 rw [switchP]
 have c1 : ∀ w1, PInv X g b w1 l d f → _ := fun w1 hi => need_sLp w1 hi
 rcases h1 : need sLp l with ⟨u1, l1⟩ | ⟨lx, xx⟩
 all_goals rw [h1] at c1; have C1 := hid c1; clear c1
 ·rw [PR.bind_ok]
  obtain ⟨hl1, hw1⟩ := need_len (by decide) hw h1
  have D1 := hid (C1.out _ h)
  clear h1
  have c2 : ∀ w1, PInv X g (b - 3) w1 l1 d f → _ := fun w1 hi => expr_any n X g (b - 3) l1 d f w1 hi (by omega)
  rcases h2 : bin n 1 d l1 with ⟨e, l2⟩ | ⟨lx, xx⟩
  all_goals rw [h2] at c2; have C2 := hid c2; clear c2
  ·rw [PR.bind_ok]
   obtain ⟨hl2, hw2⟩ := bin_wf (Nat.le_refl _) hw1 h2
   clear h2
   have c3 : ∀ w1, PInv X g (b - 3) w1 l2 d (f.setG (putE e f.g)) → _ := fun w1 hi => need_sRp w1 hi
   rcases h3 : need sRp l2 with ⟨u3, l3⟩ | ⟨lx, xx⟩
   all_goals rw [h3] at c3; have C3 := hid c3; clear c3
   ·rw [PR.bind_ok]
    obtain ⟨hl3, hw3⟩ := need_len (by decide) hw2 h3
    clear h3
    have c4 : ∀ w1, PInv X g (b - 3 - 3) w1 l3 d (f.setG (putE e f.g)) → _ := fun w1 hi => need_sLc w1 hi
    rcases h4 : need sLc l3 with ⟨u4, l4⟩ | ⟨lx, xx⟩
    all_goals rw [h4] at c4; have C4 := hid c4; clear c4
    ·rw [PR.bind_ok]
     obtain ⟨hl4, hw4⟩ := need_len (by decide) hw3 h4
     obtain ⟨R, HR⟩ : ∃ R, Hid (R = casesL n d 0 .nil l4) := ⟨_, hid rfl⟩
     rw [← HR.out]
     clear h4
     go_enter Tryz.func238, Tryz.ntmps238
     go_wp2_with (first | (go_at_call 122; first | ((with_reducible refine D1.out.mono ?_); rintro e1 w1 ⟨rfl, hI1, hS1⟩; have D2 := hid (C2.out _ hI1)) | ((with_reducible refine D3.out.mono ?_); rintro e3 w3 ⟨rfl, hI3, hS3⟩; have D4 := hid (C4.out _ hI3)) | ((with_reducible refine D4.out.mono ?_); rintro e4 w4 ⟨rfl, hI4, hS4⟩)) | (go_at_call 183; ((with_reducible refine D2.out.mono ?_); rintro e2 w2 ⟨rfl, hI2, hS2⟩; have D3 := hid (C3.out _ (hI2.local hXk 5 (.int .i64 ((putE e f.g).x : Int)))); have ht2 := (HT.out.own h hXk hS1).own hI1 hXk hS2; obtain ⟨k5, k6, k7, kf, kl⟩ := ht2.cells; have HT3 := hid (ht2.setX ((putE e f.g).x : Int)); clear ht2)))
     have ht4 := ((HT3.out.own (hI2.local hXk 5 (.int .i64 ((putE e f.g).x : Int))) hXk hS3).own hI3 hXk hS4)
     have hs4 : St layP g W w4 := (((((HSW.out).trans hS1).trans hS2).fresh hgW hk _ _).trans hS3).trans hS4
     have IBH := hid IB
     clear IB
     go_loopw [4] (fun s4 wr => ∃ (m c : Nat) (cs : TA) (v : Value) (l' : List Tok), PInv (wthV X v) g b wr l' d (f.setG (putT cs (putE e f.g)).1) ∧ TCell k wr ((putE e f.g).x : Int) (-1) v ∧ CasesV layP wr v (putT cs (putE e f.g)).2 ∧ (putT cs (putE e f.g)).2.length = c ∧ c ≤ 64 ∧ (∀ i, v.ownBlock = some i → W.heap.size ≤ i) ∧ St layP g W wr ∧ Hid (R = casesL m d c cs l') ∧ 8 * l'.length + 4 ≤ m ∧ m ≤ n) (fun _ wr => tokN g wr)
     case atStart =>
      exact ⟨n, 0, .nil, .slice none 0 0, l4, (hI4.nilV 0 0).mono (by omega) htop, ht4, World.ownsRow_nil _ _ _ _, rfl, by omega, (fun i hi => by cases hi), hs4, HR, by omega, Nat.le_refl _⟩
     case round =>
      obtain ⟨m, c, cs, v, l', hI, hT, hV, hcl, hc64, hlo, hS, H, hm, hmn⟩ := hrel
      have hl := hI.wf.pos
      have htok := hid hI.tokN
      obtain ⟨m, rfl⟩ : ∃ m', m = m' + 1 := ⟨m - 1, by omega⟩
      have hpot := hI.pot
      have hw' := hI.wf
      obtain ⟨va, vc, hsh⟩ := ownsRow_shape hV
      rw [hcl] at hsh
      subst hsh
      obtain ⟨k5', k6', k7', kf', kl'⟩ := hT.cells
      have hvk : (Value.slice va c vc).ownBlock ≠ some k := ownsRow_off hV hT (by decide)
      have HV := hid hV
      have HI := hid hI
      have HS := hid hS
      have HTC := hid hT
      have HLO := hid hlo
      have HCL := hid hcl
      clear hI hT hV hlo hS hcl k5 k6 k7 kf kl
      have A := fun q (hq : isT kCase l' = q) => at_kCase wr HI.out hq
      cases e1 : isT kCase l'
      ·have HA := hid (A false e1)
       have HF : Hid (R = .ok cs l') := hid (by rw [H.out, casesL, if_neg (by rw [e1]; decide)])
       clear A H
       cases e2 : isT kElse l'
       ·have T := hid (takeN_kElse wr HI.out e2)
        have c5 := need_sRc wr HI.out
        rcases h5 : need sRc l' with ⟨u, l5⟩ | ⟨l5, x⟩
        all_goals
         rw [h5] at c5
         have C5 := hid c5
         have H5 := hid h5
         have E2 := hid e2
         clear c5 h5 e1 e2
         go_wp2_with (first | (go_at_call 75; go_must (refine HA.out.mono ?_; rintro e w' ⟨rfl, rfl⟩)) | (go_at_call 125; go_must (refine T.out.mono ?_; rintro e w' ⟨rfl, rfl⟩)) | (go_at_call 122; go_must (refine C5.out.mono ?_; rintro e5 w5 ⟨rfl, hI5, hS5⟩)))
        ·go_end0
         rw [HF.out, PR.bind_ok, if_neg (by rw [E2.out]; decide), H5.out]
         have hpub : ∀ i, (Value.slice va c vc).ownBlock = some i → Pub X layP g w5 i := fun i hi => ⟨hI5.priv i (.inr hi), fun hx => (HXW.out i hx).elim (fun e => hvk (e ▸ hi)) fun e => by have := HLO.out i hi; omega⟩
         exact ⟨⟨rfl, hI5.bareV.mono (by omega) htop, _, HTC.out.own HI.out (.inl hXk) hS5, HV.out.st HI.out hS5, hpub⟩, HS.out.trans hS5⟩
        ·rw [HF.out, PR.bind_ok, if_neg (by rw [E2.out]; decide), H5.out]
         exact ⟨rfl, rfl, HS.out.trans hS5⟩
       ·have T := hid (takeY_kElse wr HI.out e2)
        have htl : l'.tail.length = l'.length - 1 := List.length_tail
        have c5 : ∀ w5, PInv (wthV X (.slice va c vc)) g (b - 3) w5 l'.tail d (f.setG (putT cs (putE e f.g)).1) → Calls Tryz.prog 282 #[.pointer (some ⟨g, 0, none⟩)] w5 (PostP (wthV X (.slice va c vc)) g (b - 3) w5 d (branchP n d l'.tail) (fun t => .int .i64 ((putT t (putT cs (putE e f.g)).1).1.t : Int)) fun t => f.setG (putT t (putT cs (putE e f.g)).1).1) := fun w5 hi => IBH.out n (Nat.le_refl _) _ g (b - 3) l'.tail d _ w5 hi (by omega)
        rcases h5 : branchP n d l'.tail with ⟨t, l6⟩ | ⟨l6, x⟩
        all_goals rw [h5] at c5; have C5 := hid c5; have H5 := hid h5; have E2 := hid e2; clear c5 e1 e2
        ·have hnil := branch_nil h5
         have c6 : ∀ w6, PInv (wthV X (.slice va c vc)) g (b - 3) w6 l6 d (f.setG (putT t (putT cs (putE e f.g)).1).1) → _ := fun w6 hi => need_sRc w6 hi
         have HN := hid hnil
         clear hnil h5
         rcases h6 : need sRc l6 with ⟨u, l7⟩ | ⟨l7, x⟩
         all_goals
          rw [h6] at c6
          have C6 := hid c6
          have H6 := hid h6
          clear c6 h6
          go_wp2_with (first | (go_at_call 75; go_must (refine HA.out.mono ?_; rintro e w' ⟨rfl, rfl⟩)) | (go_at_call 125; go_must (refine T.out.mono ?_; rintro e w5 ⟨rfl, hI5, hS5⟩; have D5 := hid (C5.out w5 hI5); have HT5 := hid (HTC.out.own HI.out (.inl hXk) hS5); have HV5 := hid (HV.out.st HI.out hS5); have HI5 := hid hI5; clear hI5 k5' k6' k7' kf' kl')) | (go_at_call 282; go_must (refine D5.out.mono ?_; rintro e6 w6 ⟨rfl, hI6, hS6⟩; have HT6 := hid (HT5.out.own HI5.out (.inl hXk) hS6); have HV6 := hid (HV5.out.st HI5.out hS6); obtain ⟨m5, m6, m7, mf, ml⟩ := HT6.out.cells; have hl6 := hI6.local (.inl hXk) 6 (.int .i64 ((putT t (putT cs (putE e f.g)).1).1.t : Int)); have HL6 := hid hl6; have HI6 := hid hI6; have D6 := hid (C6.out _ hl6); clear hI6 hl6)) | (go_at_call 122; go_must (refine D6.out.mono ?_; rintro e7 w7 ⟨rfl, hI7, hS7⟩)))
         ·go_end0
          rw [HF.out, PR.bind_ok, if_pos E2.out, H5.out, PR.bind_ok, H6.out]
          have hv6 : CasesV layP (w6.setCell ⟨k, 6, none⟩ (.int .i64 ((putT t (putT cs (putE e f.g)).1).1.t : Int))) (.slice va c vc) (putT cs (putE e f.g)).2 := ownsRow_same HV6.out fun i hi => Below.heap_setCell _ _ _ _ fun e => hvk ((show i = k from e) ▸ hi)
          have hpub : ∀ i, (Value.slice va c vc).ownBlock = some i → Pub X layP g w7 i := fun i hi => ⟨hI7.priv i (.inr hi), fun hx => (HXW.out i hx).elim (fun e => hvk (e ▸ hi)) fun e => by have := HLO.out i hi; omega⟩
          have ht7 := (HT6.out.setI ((putT t (putT cs (putE e f.g)).1).1.t : Int)).own HL6.out (.inl hXk) hS7
          refine ⟨⟨rfl, hI7.bareV.mono (by omega) htop, _, ?_, hv6.st HL6.out hS7, hpub⟩, (((HS.out.trans hS5).trans hS6).fresh hgW hk _ _).trans hS7⟩
          show TCell k w7 ((putE e f.g).x : Int) (if t.isNil then -1 else ((putT t (putT cs (putE e f.g)).1).1.t : Int)) _
          rw [HN.out]
          exact ht7
         ·rw [HF.out, PR.bind_ok, if_pos E2.out, H5.out, PR.bind_ok, H6.out]
          exact ⟨rfl, rfl, (((HS.out.trans hS5).trans hS6).fresh hgW hk _ _).trans hS7⟩
        ·clear h5
         go_wp2_with (first | (go_at_call 75; go_must (refine HA.out.mono ?_; rintro e w' ⟨rfl, rfl⟩)) | (go_at_call 125; go_must (refine T.out.mono ?_; rintro e w5 ⟨rfl, hI5, hS5⟩; have D5 := hid (C5.out w5 hI5); clear hI5)) | (go_at_call 282; go_must (refine D5.out.mono ?_; rintro e6 w6 ⟨rfl, hI6, hS6⟩)))
         rw [HF.out, PR.bind_ok, if_pos E2.out, H5.out]
         exact ⟨rfl, rfl, (HS.out.trans hS5).trans hS6⟩
      ·have HA := hid (A true e1)
       have hR2 : R = (roomP c l').bind fun _ _ => (numP l'.tail).bind fun v l1 => (branchP m d l1).bind fun t l2 => casesL m d (c + 1) (.snoc cs v t) l2 := by rw [H.out, casesL, if_pos e1]
       have hwt := hw'.isT e1 (by decide)
       have htl : l'.tail.length = l'.length - 1 := List.length_tail
       clear A H
       by_cases h64 : 64 ≤ c
       ·have hR3 : R = .bad l' 10 := by rw [hR2, roomP, if_pos h64]; rfl
        have HR3 := hid hR3
        have cr := room_any c hc64 wr HI.out
        rw [if_pos h64] at cr
        have CR := hid cr
        clear hR2 hR3 cr
        go_wp2_with (first | (go_at_call 75; go_must (refine HA.out.mono ?_; rintro e w' ⟨rfl, rfl⟩)) | (go_at_call 76; go_must (refine CR.out.mono ?_; rintro e w' ⟨rfl, rfl⟩)))
        rw [HR3.out, PR.bind_bad]
        exact ⟨rfl, rfl, HS.out⟩
       ·rw [roomP, if_neg h64, PR.bind_ok] at hR2
        have cr := room_any c hc64 wr HI.out
        rw [if_neg h64] at cr
        have CR := hid cr
        have CRD := hid (read_any wr HI.out hwt)
        have c6 : ∀ w6, PInv (wthV X (.slice va c vc)) g (b - 3) w6 l'.tail d (f.setG (putT cs (putE e f.g)).1) → _ := fun w6 hi => number_any w6 hi
        rcases h6 : numP l'.tail with ⟨q, l6⟩ | ⟨l6, x⟩
        all_goals rw [h6] at c6 hR2; have C6 := hid c6; clear c6 cr
        ·obtain ⟨hl6, hw6⟩ := num_len hwt h6
         rw [PR.bind_ok] at hR2
         have c7 : ∀ w7, PInv (wthV X (.slice va c vc)) g (b - 3 - 3) w7 l6 d (f.setG (putT cs (putE e f.g)).1) → Calls Tryz.prog 282 #[.pointer (some ⟨g, 0, none⟩)] w7 (PostP (wthV X (.slice va c vc)) g (b - 3 - 3) w7 d (branchP m d l6) (fun t => .int .i64 ((putT t (putT cs (putE e f.g)).1).1.t : Int)) fun t => f.setG (putT t (putT cs (putE e f.g)).1).1) := fun w7 hi => IBH.out m (by omega) _ g (b - 3 - 3) l6 d _ w7 hi (by omega)
         rcases h7 : branchP m d l6 with ⟨t, l7⟩ | ⟨l7, x⟩
         all_goals rw [h7] at c7 hR2; have C7 := hid c7; clear c7
         ·obtain ⟨hl7, hw7⟩ := case_len hw6 h7
          rw [PR.bind_ok] at hR2
          have HR3 := hid hR2
          clear hR2 h6 h7 e1
          go_wp2_with (first | (go_at_call 75; go_must (refine HA.out.mono ?_; rintro e w' ⟨rfl, rfl⟩)) | (go_at_call 76; go_must (refine CR.out.mono ?_; rintro e w' ⟨rfl, rfl⟩)) | (go_at_call 178; go_must (refine CRD.out.mono ?_; rintro e w5 ⟨rfl, hI5, hS5⟩; have D6 := hid (C6.out w5 hI5); have HT5 := hid (HTC.out.own HI.out (.inl hXk) hS5); have HV5 := hid (HV.out.st HI.out hS5); have HI5 := hid hI5; clear hI5 k5' k6' k7' kf' kl')) | (go_at_call 124; go_must (refine D6.out.mono ?_; rintro e6 w6 ⟨rfl, hI6, hS6⟩; have D7 := hid (C7.out w6 hI6); have HT6 := hid (HT5.out.own HI5.out (.inl hXk) hS6); have HV6 := hid (HV5.out.st HI5.out hS6); have HI6 := hid hI6; obtain ⟨m5, m6, m7, mf, ml⟩ := HT6.out.cells; clear hI6 m5 m6)))
          have HI6d := hid (HI6.out.below ((Below.refl _ w6).drew))
          have HT6d : Hid (TCell k w6.drew ((putE e f.g).x : Int) (-1) (.slice va c vc)) := hid HT6.out
          have HV6d : Hid (CasesV layP w6.drew (.slice va c vc) (putT cs (putE e f.g)).2) := hid (RowR.below HV6.out ((Below.refl _ w6).drew))
          have D8 := hid (C7.out w6.drew HI6d.out)
          go_region_law (first | (refine step_call (by rfl) 282 _ 188 (by rfl) enter_branch _ (by rfl) D8.out ?_; rintro e7 w7 ⟨rfl, hI7, hS7⟩; have HT7 := hid (HT6d.out.own HI6d.out (.inl hXk) hS7); have HV7 := hid (HV6d.out.st HI6d.out hS7); obtain ⟨p5, p6, p7, pf, pl⟩ := HT7.out.cells; have HI7 := hid hI7; clear hI7 p5 p6) | (refine step_one _ (by rfl) _ _ 42 (by rfl) 198 i0 _ 2 16 Tryz.underlying42 hi hz0 hz1 hz2 rfl (by decide) (.slice va c vc) (putT cs (putE e f.g)).2.length _ (by rfl) (RowR.below HV7.out (below_box _ _)) _ _ [.int .u64 (q : Int), .int .i64 ((putT t (putT cs (putE e f.g)).1).1.t : Int)] (by rfl) rfl (heap_alloc_new _ _) (by simp [Value.oneCell']) (by rw [HCL.out]; unfold maxLen; omega) (by rw [HCL.out]; omega) ?_; intro v' w9 hown hgrow hat; obtain ⟨va', vc', rfl⟩ := ownsRow_shape hown; have HOW := hid hown; have HG := hid hgrow; have HAT := hid hat; have hw9 : w9.heap[k]? = w7.heap[k]? := (HG.out.block k (by simp; omega) fun e => hvk e.symm).trans ((below_box w7 _).block k pl); obtain ⟨_, _, n7, nf', nl⟩ := TCell.cells (hw9.trans HT7.out); have nf := nf' 7; clear hown hgrow hat))
          all_goals
           have hI9 := (HI7.out.below (below_box w7 (.cells #[.int .u64 (q : Int), .int .i64 ((putT t (putT cs (putE e f.g)).1).1.t : Int)] 198))).grow HG.out HAT.out fun i hi => (World.ownsRow.lt HOW.out i hi).2
           have hV9 := CasesV.snoc HOW.out
           have hk9 := ownsRow_off HOW.out (hw9.trans HT7.out) (by decide)
           have hI10 := hI9.local (k := k) (.inl hXk) 7 (.slice va' ((putT cs (putE e f.g)).2.length + 1) vc')
           have HI10 := hid hI10
           have HV9 := hid hV9
           have HT9 := hid (TCell.setV (hw9.trans HT7.out) (.slice va' ((putT cs (putE e f.g)).2.length + 1) vc'))
           have hlo9 : ∀ i, (Value.slice va' ((putT cs (putE e f.g)).2.length + 1) vc').ownBlock = some i → W.heap.size ≤ i := fun i hi => by
            rcases HAT.out with e | e
            ·exact HLO.out i (by rw [← e]; exact hi)
            ·rw [e, Option.some.injEq] at hi
             have h1 := ((HS.out.trans hS5).trans hS6).size
             have h2 := hS7.size
             simp at hi h2
             omega
           have hS9 : St layP g W (w9.setCell ⟨k, 7, none⟩ (.slice va' ((putT cs (putE e f.g)).2.length + 1) vc')) := ((((((HS.out.trans hS5).trans hS6).drew HI6.out.lt).trans hS7).alloc HI7.out.lt _).grown hgW HG.out fun i hi => HLO.out i hi).fresh hgW hk _ _
           have HS9 := hid hS9
           clear hI9 hV9 hI10 hS9 n7 nf nl nf' p7 pf pl hw9 m7 mf ml
           go_wp2_with fail
           refine ⟨⟨m, c + 1, .snoc cs q t, _, l7, HI10.out.mono (by omega) htop, HT9.out, ownsRow_same HV9.out fun i hi => Below.heap_setCell _ _ _ _ fun e => hk9 ((show i = k from e) ▸ hi), ?_, by omega, hlo9, HS9.out, hid HR3.out, by omega, by omega⟩, ?_⟩
           ·show ((putT cs (putE e f.g)).2 ++ [(q, (putT t (putT cs (putE e f.g)).1).1.t)]).length = c + 1
            rw [List.length_append, HCL.out, List.length_singleton]
           ·have := HI10.out.tokN
            rw [this, htok.out]
            omega
         ·rw [PR.bind_bad] at hR2
          have HR3 := hid hR2
          clear hR2 h6 h7 e1
          go_wp2_with (first | (go_at_call 75; go_must (refine HA.out.mono ?_; rintro e w' ⟨rfl, rfl⟩)) | (go_at_call 76; go_must (refine CR.out.mono ?_; rintro e w' ⟨rfl, rfl⟩)) | (go_at_call 178; go_must (refine CRD.out.mono ?_; rintro e w5 ⟨rfl, hI5, hS5⟩; have D6 := hid (C6.out w5 hI5); have HT5 := hid (HTC.out.own HI.out (.inl hXk) hS5); have HI5 := hid hI5; clear hI5 k5' k6' k7' kf' kl')) | (go_at_call 124; go_must (refine D6.out.mono ?_; rintro e6 w6 ⟨rfl, hI6, hS6⟩; have HT6 := hid (HT5.out.own HI5.out (.inl hXk) hS6); have HI6 := hid hI6; obtain ⟨m5, m6, m7, mf, ml⟩ := HT6.out.cells; clear hI6 m5 m6)))
          have HI6d := hid (HI6.out.below ((Below.refl _ w6).drew))
          have D8 := hid (C7.out w6.drew HI6d.out)
          refine wp_region_any (by kernel_rfl) ?_
          change wpAny _ _ _ _ _ _ _ (World.drew _)
          refine wpAny_take (i := 0) (v := ?_) rfl (by kernel_rfl) (by kernel_rfl) (by kernel_rfl) (fun _ _ _ h => h) (Or.inl ⟨by rfl, ?_⟩) ?_
          rotate_left
          ·intro w; go_simp; try (with_reducible rfl)
          refine wpAny_take (i := 1) (v := ?_) rfl (by kernel_rfl) (by kernel_rfl) (by kernel_rfl) (fun _ _ _ h => h) (Or.inl ⟨by rfl, ?_⟩) ?_
          rotate_left
          ·intro w; go_simp; try (with_reducible rfl)
          refine wpAny_take (i := 2) (v := ?_) rfl (by kernel_rfl) (by kernel_rfl) (by kernel_rfl) (fun _ _ _ h => h) (Or.inl ⟨by rfl, ?_⟩) ?_
          rotate_left
          ·intro w; go_simp; try (with_reducible rfl)
          refine wpAny_take (i := 3) (v := ?_) rfl (by kernel_rfl) (by kernel_rfl) (by kernel_rfl) (fun _ _ _ h => h) (Or.inl ⟨by rfl, ?_⟩) ?_
          rotate_left
          ·intro w; go_simp; try (with_reducible rfl)
          refine wpAny_take (i := 5) (v := ?_) rfl (by kernel_rfl) (by kernel_rfl) (by kernel_rfl) (fun _ _ _ h => h) (Or.inl ⟨by rfl, ?_⟩) ?_
          rotate_left
          ·intro w; go_simp; try (with_reducible rfl)
          refine wpAny_take (i := 6) (v := ?_) rfl (by kernel_rfl) (by kernel_rfl) (by kernel_rfl) (fun _ _ _ h => h) (Or.inl ⟨by rfl, ?_⟩) ?_
          rotate_left
          ·intro w; go_simp; try (with_reducible rfl)
          refine wpAny_ready (rs := [4, 7]) (by kernel_rfl) (by simp) ?_
          refine AllReady.cons rfl (fun K hK => ?_) ?_
          ·go_simp
           refine hK _ _ ?_
           clear hK K
           refine wpAny_ready (rs := [7]) (by kernel_rfl) (by simp) ?_
           refine AllReady.cons rfl (fun K hK => ?_) AllReady.nil
           (refine step_call (by rfl) 282 _ 188 (by rfl) enter_branch _ (by rfl) D8.out ?_; rintro e7 w7 ⟨rfl, -, hS7⟩; refine ⟨rfl, ?_⟩; rw [HR3.out, PR.bind_bad]; exact ⟨rfl, (((HS.out.trans hS5).trans hS6).drew HI6.out.lt).trans hS7⟩)
          refine AllReady.cons rfl (fun K hK => ?_) AllReady.nil
          (refine step_call (by rfl) 282 _ 188 (by rfl) enter_branch _ (by rfl) D8.out ?_; rintro e7 w7 ⟨rfl, -, hS7⟩; refine ⟨rfl, ?_⟩; rw [HR3.out, PR.bind_bad]; exact ⟨rfl, (((HS.out.trans hS5).trans hS6).drew HI6.out.lt).trans hS7⟩)
        ·rw [PR.bind_bad] at hR2
         have HR3 := hid hR2
         clear hR2 h6 e1
         go_wp2_with (first | (go_at_call 75; go_must (refine HA.out.mono ?_; rintro e w' ⟨rfl, rfl⟩)) | (go_at_call 76; go_must (refine CR.out.mono ?_; rintro e w' ⟨rfl, rfl⟩)) | (go_at_call 178; go_must (refine CRD.out.mono ?_; rintro e w5 ⟨rfl, hI5, hS5⟩; have D6 := hid (C6.out w5 hI5); clear hI5)) | (go_at_call 124; go_must (refine D6.out.mono ?_; rintro e6 w6 ⟨rfl, hI6, hS6⟩)))
         rw [HR3.out, PR.bind_bad]
         exact ⟨rfl, rfl, (HS.out.trans hS5).trans hS6⟩
    ·rw [PR.bind_bad]
     clear h4
     go_enter Tryz.func238, Tryz.ntmps238
     go_wp2_with (first | (go_at_call 122; first | ((with_reducible refine D1.out.mono ?_); rintro e1 w1 ⟨rfl, hI1, hS1⟩; have D2 := hid (C2.out _ hI1)) | ((with_reducible refine D3.out.mono ?_); rintro e3 w3 ⟨rfl, hI3, hS3⟩; have D4 := hid (C4.out _ hI3)) | ((with_reducible refine D4.out.mono ?_); rintro e4 w4 ⟨rfl, hI4, hS4⟩)) | (go_at_call 183; ((with_reducible refine D2.out.mono ?_); rintro e2 w2 ⟨rfl, hI2, hS2⟩; have D3 := hid (C3.out _ (hI2.local hXk 5 (.int .i64 ((putE e f.g).x : Int)))); have ht2 := (HT.out.own h hXk hS1).own hI1 hXk hS2; obtain ⟨k5, k6, k7, kf, kl⟩ := ht2.cells; have HT3 := hid (ht2.setX ((putE e f.g).x : Int)); clear ht2)))
     exact ⟨rfl, rfl, (((((HSW.out).trans hS1).trans hS2).fresh hgW hk _ _).trans hS3).trans hS4⟩
   ·rw [PR.bind_bad]
    clear h3
    go_enter Tryz.func238, Tryz.ntmps238
    go_wp2_with (first | (go_at_call 122; first | ((with_reducible refine D1.out.mono ?_); rintro e1 w1 ⟨rfl, hI1, hS1⟩; have D2 := hid (C2.out _ hI1)) | ((with_reducible refine D3.out.mono ?_); rintro e3 w3 ⟨rfl, hI3, hS3⟩)) | (go_at_call 183; ((with_reducible refine D2.out.mono ?_); rintro e2 w2 ⟨rfl, hI2, hS2⟩; have D3 := hid (C3.out _ (hI2.local hXk 5 (.int .i64 ((putE e f.g).x : Int)))); have ht2 := (HT.out.own h hXk hS1).own hI1 hXk hS2; obtain ⟨k5, k6, k7, kf, kl⟩ := ht2.cells; have HT3 := hid (ht2.setX ((putE e f.g).x : Int)); clear ht2)))
    exact ⟨rfl, rfl, ((((HSW.out).trans hS1).trans hS2).fresh hgW hk _ _).trans hS3⟩
  ·rw [PR.bind_bad]
   clear h2
   go_enter Tryz.func238, Tryz.ntmps238
   go_wp2_with (first | (go_at_call 122; ((with_reducible refine D1.out.mono ?_); rintro e1 w1 ⟨rfl, hI1, hS1⟩; have D2 := hid (C2.out _ hI1))) | (go_at_call 183; ((with_reducible refine D2.out.mono ?_); rintro e2 w2 ⟨rfl, hI2, hS2⟩)))
   exact ⟨rfl, rfl, ((HSW.out).trans hS1).trans hS2⟩
 ·rw [PR.bind_bad]
  have D1 := hid (C1.out _ h)
  clear h1
  go_enter Tryz.func238, Tryz.ntmps238
  go_wp2_with (first | (go_at_call 122; ((with_reducible refine D1.out.mono ?_); rintro e1 w1 ⟨rfl, hI1, hS1⟩)))
  exact ⟨rfl, rfl, (HSW.out).trans hS1⟩
end Go.Proofs.YtomimkgaelkaoaaGreatDoor
namespace Go.Proofs.YtomimkgaelkaoaaGreatDoor
open Go.Lib (hid)
open Go.ChangeShapes Go.WideShapes Go.ChangeAt Go.RowKit
theorem bind_sw {α : Type} {r : PR α} {f : α → List Tok → PR TA} {t : TA} {l' : List Tok} (h : r.bind f = .ok t l') (hf : ∀ a l1, f a l1 = .ok t l' → ∃ e cs els, t = .sw e cs els) : ∃ e cs els, t = .sw e cs els := by
 cases r with
 | ok a l1 => exact hf a l1 h
 | bad l1 x => cases h
theorem sw_put {n d : Nat} {l l' : List Tok} {t : TA} (h : switchP n d l = .ok t l') (g : GM) : (putT t g).1 = (swG t g).addT (swM t g) := by
 have : ∃ e cs els, t = .sw e cs els := by
  cases n with
  | zero => rw [switchP] at h; cases h
  | succ n =>
   rw [switchP] at h
   refine bind_sw h fun _ _ e => bind_sw e fun _ _ e => bind_sw e fun _ _ e => bind_sw e fun _ _ e => bind_sw e fun _ l5 e => ?_
   split at e
   ·exact bind_sw e fun _ _ e => bind_sw e fun _ _ e => by cases e; exact ⟨_, _, _, rfl⟩
   ·exact bind_sw e fun _ _ e => by cases e; exact ⟨_, _, _, rfl⟩
 obtain ⟨e, cs, els, rfl⟩ := this
 rfl
theorem addT_sw {X : Nat → Prop} {g b : Nat} {l : List Tok} {d : Nat} {f : FM} (t : TA) (a : Option Addr) (c : Nat) (w : World) (h : PInv X g b w l d (f.setG (swG t f.g))) (hb : b < 60000) (hV : CasesV layP w (.slice a (swM t f.g).cs.length c) (swM t f.g).cs) (hN : Nest (Pub X layP g w) (.slice a (swM t f.g).cs.length c)) :
  Calls Tryz.prog 240 #[.pointer (some ⟨g, 0, none⟩), .agg #[.int .i64 9, .int .i64 0, .bool false, .string ⟨#[]⟩, .slice none 0 0, .int .i64 (swM t f.g).e, .int .i64 (swM t f.g).i, .slice a (swM t f.g).cs.length c]] w
   fun e' w' => e' = .returned (.int .i64 (((swG t f.g).addT (swM t f.g)).t : Int)) ∧ PInv X g (b + 1) w' l d (f.setG ((swG t f.g).addT (swM t f.g))) ∧ St layP g w w' := by
 refine addT_any (f := f.setG (swG t f.g)) (swM t f.g) _ _ _ _ _ _ _ _ w h hb ⟨.slice none 0 0, _, ?_, ?_, Nest.none _ _ _, hV, hN⟩
 ·cases t <;> rfl
 ·have : (swM t f.g).args = [] := by cases t <;> rfl
  rw [this]
  exact World.ownsRow_nil _ _ _ _
set_option maxHeartbeats 4000000 in
set_option maxRecDepth 100000 in
theorem type_switch {n : Nat} (IS : CSw n) {X : Nat → Prop} {g b : Nat} {l : List Tok} {d : Nat} {f : FM} (w : World) (h : PInv X g b w l d f) (hn : 8 * l.length + 4 ≤ n + 1) (hb : begT l = true) (h0' : isT kBytes l = false) (h1' : isT kZero l = false) (h2' : isT kSkip l = false) (h3' : isT kWindow l = false) (h4' : isT kAt l = false) (h5' : isT kRest l = false) (h6' : isT kTail l = false) (h7' : isT kNone l = false) (h8' : isT kSwitch l = true) :
  Calls Tryz.prog 181 #[.pointer (some ⟨g, 0, none⟩)] w (PostP X g b w d (typP (n + 1) d l) (fun t => .int .i64 ((putT t f.g).1.t : Int)) fun t => f.setG (putT t f.g).1) := by
 have htop := h.top
 have hw := h.wf
 have hg := h.lt
 have hpos := hw.pos
 have hpot := h.pot
 have htl : l.tail.length = l.length - 1 := List.length_tail
 have cb := begT_any w h
 rw [hb] at cb
 have CB := hid cb
 have CX := hid (expect_yes w h)
 have h0 := h.hide (.cells #[.int .i64 0, .int .i64 0, .bool false, .string ⟨#[]⟩, .slice none 0 0, .int .i64 (-1), .int .i64 (-1), .slice none 0 0] 44)
 have hs0 : St layP g w (w.alloc (.cells #[.int .i64 0, .int .i64 0, .bool false, .string ⟨#[]⟩, .slice none 0 0, .int .i64 (-1), .int .i64 (-1), .slice none 0 0] 44)) := St.below hg (below_box _ _)
 have hc0 := heap_alloc_new w (.cells #[.int .i64 0, .int .i64 0, .bool false, .string ⟨#[]⟩, .slice none 0 0, .int .i64 (-1), .int .i64 (-1), .slice none 0 0] 44)
 have T0 := hid (takeN_kBytes _ h0 h0')
 have T1 := hid (takeN_kZero _ h0 h1')
 have T2 := hid (takeN_kSkip _ h0 h2')
 have T3 := hid (takeN_kWindow _ h0 h3')
 have T4 := hid (takeN_kAt _ h0 h4')
 have T5 := hid (takeN_kRest _ h0 h5')
 have T6 := hid (takeN_kTail _ h0 h6')
 have T7 := hid (takeN_kNone _ h0 h7')
 have T8 := hid (takeY_kSwitch _ h0 h8')
 rw [typP, if_neg (by rw [hb]; decide), if_neg (by rw [h0']; decide), if_neg (by rw [h1']; decide), if_neg (by rw [h2']; decide), if_neg (by rw [h3']; decide), if_neg (by rw [h4']; decide), if_neg (by rw [h5']; decide), if_neg (by rw [h6']; decide), if_neg (by rw [h7']; decide), if_pos h8']
 have hwt := hw.isT h8' (by decide)
 have hXlt : ∀ i, X i → i < w.heap.size := fun i hi => (h.priv i hi).lt
 have c3 : ∀ w2, PInv (wth X w.heap.size) g (b - 3) w2 l.tail d f → TCell w.heap.size w2 (-1) (-1) (.slice none 0 0) → St layP g w w2 → _ := fun w2 hi ht hs => IS (wth X w.heap.size) g (b - 3) l.tail d f w2 w w.heap.size hi (.inr rfl) ht hs hg (Nat.le_refl _) (fun i hi => hi.elim (fun e => .inr (hXlt i e)) .inl) (by omega)
 rcases hX : switchP n d l.tail with ⟨t, l3⟩ | ⟨l3, x⟩
 all_goals rw [hX] at c3; have C3 := hid c3; have HC0 := hid hc0; have H0 := hid h0; have HS0 := hid hs0; clear c3 hc0 h0 hs0; clear cb hb h h0' h1' h2' h3' h4' h5' h6' h7' h8'
 ·have hput := sw_put hX f.g
  have HP := hid hput
  clear hput hX
  go_enter Tryz.func181, Tryz.ntmps181
  go_wp2_with (first | (go_at_call 235; go_must (refine CB.out.mono ?_; rintro e w' ⟨rfl, rfl⟩)) | (go_at_call 127; go_must (refine CX.out.mono ?_; rintro e w' ⟨rfl, rfl⟩)) | (go_at_call 125; first | ((with_reducible refine T0.out.mono ?_); rintro e w' ⟨rfl, rfl⟩) | ((with_reducible refine T1.out.mono ?_); rintro e w' ⟨rfl, rfl⟩) | ((with_reducible refine T2.out.mono ?_); rintro e w' ⟨rfl, rfl⟩) | ((with_reducible refine T3.out.mono ?_); rintro e w' ⟨rfl, rfl⟩) | ((with_reducible refine T4.out.mono ?_); rintro e w' ⟨rfl, rfl⟩) | ((with_reducible refine T5.out.mono ?_); rintro e w' ⟨rfl, rfl⟩) | ((with_reducible refine T6.out.mono ?_); rintro e w' ⟨rfl, rfl⟩) | ((with_reducible refine T7.out.mono ?_); rintro e w' ⟨rfl, rfl⟩) | ((with_reducible refine T8.out.mono ?_); rintro e2 w2 ⟨rfl, hI2, hS2⟩; have hq := (H0.out.own (.inr rfl) hS2).trans HC0.out; obtain ⟨⟨d0, d1, d2, d3, d4, d5, d6, d7⟩, df, dl⟩ := cells8 hq; have hq2 : TCell w.heap.size (w2.setCell ⟨w.heap.size, 0, none⟩ (.int .i64 9)) (-1) (-1) (.slice none 0 0) := cell_set_row hq (by decide) _; have D3 := hid (C3.out _ (hI2.local (.inr rfl) 0 (.int .i64 9)) hq2 ((HS0.out.trans hS2).fresh hg (Nat.le_refl _) _ _)); clear hq hq2 hI2)) | (go_at_call 238; go_must (refine D3.out.mono ?_; rintro e3 w3 ⟨⟨rfl, hI3, va, hT3, hV3, hN3⟩, hS3⟩; obtain ⟨a', c', rfl⟩ := ownsRow_shape hV3; clear d0 d1 d2 d3 d4 d5 d6 d7 df dl; obtain ⟨⟨d0, d1, d2, d3, d4, d5, d6, d7⟩, df, dl⟩ := cells8 hT3; have CU := hid (addT_sw t a' c' w3 hI3 (by omega) hV3 hN3); clear hI3 hT3 hV3 hN3)) | (go_at_call 240; go_must (refine CU.out.mono ?_; rintro e4 w4 ⟨rfl, hI4, hS4⟩; have HI4 := hid hI4; clear hI4)))
  go_ret
  have hI := HI4.out.bare.mono (b' := b) (by omega) htop
  have hp := HP.out
  refine ⟨retI (by rw [hp]), ?_, hS3.trans hS4⟩
  rw [← hp] at hI
  exact hI
 ·clear hX
  go_enter Tryz.func181, Tryz.ntmps181
  go_wp2_with (first | (go_at_call 235; go_must (refine CB.out.mono ?_; rintro e w' ⟨rfl, rfl⟩)) | (go_at_call 127; go_must (refine CX.out.mono ?_; rintro e w' ⟨rfl, rfl⟩)) | (go_at_call 125; first | ((with_reducible refine T0.out.mono ?_); rintro e w' ⟨rfl, rfl⟩) | ((with_reducible refine T1.out.mono ?_); rintro e w' ⟨rfl, rfl⟩) | ((with_reducible refine T2.out.mono ?_); rintro e w' ⟨rfl, rfl⟩) | ((with_reducible refine T3.out.mono ?_); rintro e w' ⟨rfl, rfl⟩) | ((with_reducible refine T4.out.mono ?_); rintro e w' ⟨rfl, rfl⟩) | ((with_reducible refine T5.out.mono ?_); rintro e w' ⟨rfl, rfl⟩) | ((with_reducible refine T6.out.mono ?_); rintro e w' ⟨rfl, rfl⟩) | ((with_reducible refine T7.out.mono ?_); rintro e w' ⟨rfl, rfl⟩) | ((with_reducible refine T8.out.mono ?_); rintro e2 w2 ⟨rfl, hI2, hS2⟩; have hq := (H0.out.own (.inr rfl) hS2).trans HC0.out; obtain ⟨⟨d0, d1, d2, d3, d4, d5, d6, d7⟩, df, dl⟩ := cells8 hq; have hq2 : TCell w.heap.size (w2.setCell ⟨w.heap.size, 0, none⟩ (.int .i64 9)) (-1) (-1) (.slice none 0 0) := cell_set_row hq (by decide) _; have D3 := hid (C3.out _ (hI2.local (.inr rfl) 0 (.int .i64 9)) hq2 ((HS0.out.trans hS2).fresh hg (Nat.le_refl _) _ _)); clear hq hq2 hI2)) | (go_at_call 238; go_must (refine D3.out.mono ?_; rintro e3 w3 ⟨rfl, hS3⟩)))
  exact ⟨rfl, rfl, trivial, hS3⟩
theorem type_step {n : Nat} (II : CIn n) (IS : CSw n) : CT (n + 1) := by
 intro X g b l d f w h hn
 cases hb : begT l
 ·have cb := begT_any w h
  rw [hb] at cb
  have CB := hid cb
  have CX := hid (expect_no w h)
  have hr : typP (n + 1) d l = .bad l 4 := by rw [typP, if_pos hb]
  rw [hr]
  clear cb hb h hr II IS
  go_enter Tryz.func181, Tryz.ntmps181
  go_wp2_with (first | (go_at_call 235; go_must (refine CB.out.mono ?_; rintro e w' ⟨rfl, rfl⟩)) | (go_at_call 127; go_must (refine CX.out.mono ?_; rintro e w' ⟨rfl, rfl⟩)))
  exact ⟨rfl, rfl, trivial, St.refl _ _ _⟩
 ·cases e0 : isT kBytes l
  ·cases e1 : isT kZero l
   ·cases e2 : isT kSkip l
    ·cases e3 : isT kWindow l
     ·cases e4 : isT kAt l
      ·cases e5 : isT kRest l
       ·cases e6 : isT kTail l
        ·cases e7 : isT kNone l
         ·cases e8 : isT kSwitch l
          ·exact type_elem w h hn hb e0 e1 e2 e3 e4 e5 e6 e7 e8
          ·exact type_switch IS w h hn hb e0 e1 e2 e3 e4 e5 e6 e7 e8
         ·exact type_none w h hn hb e0 e1 e2 e3 e4 e5 e6 e7
        ·exact type_tail w h hn hb e0 e1 e2 e3 e4 e5 e6
       ·exact type_rest II w h hn hb e0 e1 e2 e3 e4 e5
      ·exact type_at II w h hn hb e0 e1 e2 e3 e4
     ·exact type_window II w h hn hb e0 e1 e2 e3
    ·exact type_skip w h hn hb e0 e1 e2
   ·exact type_zero w h hn hb e0 e1
  ·exact type_bytes w h hn hb e0
theorem types_all : ∀ n, CT n ∧ CIn n ∧ CBr n ∧ CSw n := by
 intro n
 induction n using Nat.strongRecOn with
 | ind n ih =>
  cases n with
  | zero => exact ⟨fun X g b l d f w h hn => absurd hn (by omega), fun X g b l d f w h hn => absurd hn (by omega), fun X g b l d f w h hn => absurd hn (by have := h.wf.pos; omega), fun X g b l d f w W k h _ _ _ _ _ _ hn => absurd hn (by omega)⟩
  | succ n =>
   obtain ⟨i1, i2, i3, i4⟩ := ih n (by omega)
   exact ⟨type_step i2 i4, inner_step i1, branch_step i2, switch_step fun m hm => (ih m (by omega)).2.2.1⟩
end Go.Proofs.YtomimkgaelkaoaaGreatDoor
