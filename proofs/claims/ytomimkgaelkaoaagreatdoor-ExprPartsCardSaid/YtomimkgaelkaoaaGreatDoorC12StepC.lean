/- Layer 7: the program's parser: switches. · A call of a Go function, and an append, at a step of a region that draws its order. -/
import Derived.Test.YtomimkgaelkaoaaGreatDoorC12ParU
import Derived.Deep.RegionHeld3
set_option linter.unusedVariables false
set_option linter.unusedSimpArgs false
namespace Go.Proofs.YtomimkgaelkaoaaGreatDoor
open Go.ChangeShapes Go.WideShapes Go.ChangeAt Go.RowKit
theorem info_case : (Tryz.prog.info? 198).map (fun i => (i.zero, i.size, i.bytes)) = some (some (.agg #[.int .u64 0, .int .i64 0]), 2, 16) := by kernel_rfl
def TCell (k : Nat) (w : World) (x i : Int) (v : Value) : Prop := w.heap[k]? = some (.cells #[.int .i64 9, .int .i64 0, .bool false, .string ⟨#[]⟩, .slice none 0 0, .int .i64 x, .int .i64 i, v] 44 (0, 0))
theorem TCell.cells {k : Nat} {w : World} {x i : Int} {v : Value} (h : TCell k w x i v) : w.cell? ⟨k, 5, none⟩ = some (.int .i64 x) ∧ w.cell? ⟨k, 6, none⟩ = some (.int .i64 i) ∧ w.cell? ⟨k, 7, none⟩ = some v ∧ (∀ j, w.frozen? ⟨k, j, none⟩ = false) ∧ k < w.heap.size := by
 obtain ⟨⟨_, _, _, _, _, a, b, c⟩, d, e⟩ := cells8 h
 exact ⟨a, b, c, d, e⟩
theorem TCell.own {X : Nat → Prop} {g b k : Nat} {w w' : World} {l : List Tok} {d : Nat} {f : FM} {x i : Int} {v : Value} (h : TCell k w x i v) (hI : PInv X g b w l d f) (hk : X k) (hS : St layP g w w') : TCell k w' x i v := (hI.own hk hS).trans h
theorem TCell.setX {k : Nat} {w : World} {x i : Int} {v : Value} (h : TCell k w x i v) (y : Int) : TCell k (w.setCell ⟨k, 5, none⟩ (.int .i64 y)) y i v := cell_set_row h (by simp) _
theorem TCell.setI {k : Nat} {w : World} {x i : Int} {v : Value} (h : TCell k w x i v) (y : Int) : TCell k (w.setCell ⟨k, 6, none⟩ (.int .i64 y)) x y v := cell_set_row h (by simp) _
theorem TCell.setV {k : Nat} {w : World} {x i : Int} {v : Value} (h : TCell k w x i v) (u : Value) : TCell k (w.setCell ⟨k, 7, none⟩ u) x i u := cell_set_row h (by simp) _
def swG : TA → GM → GM
 | .sw e cs els, g => (putT els (putT cs (putE e g)).1).1
 | _, g => g
def swM : TA → GM → TM
 | .sw e cs els, g => ⟨9, 0, false, [], [], (putE e g).x, if els.isNil then -1 else (putT els (putT cs (putE e g)).1).1.t, (putT cs (putE e g)).2⟩
 | _, g => ⟨9, 0, false, [], [], -1, -1, []⟩
theorem CasesV.st {X : Nat → Prop} {g b : Nat} {w w' : World} {l : List Tok} {d : Nat} {f : FM} {v : Value} {ks : List (Nat × Nat)} (h : CasesV layP w v ks) (hI : PInv (wthV X v) g b w l d f) (hS : St layP g w w') : CasesV layP w' v ks := ownsRow_same h fun k hk => hI.own (.inr hk) hS
theorem CasesV.snoc {w : World} {v : Value} {ks : List (Nat × Nat)} {n t : Nat} (h : w.ownsRow 0 198 2 v (ks.length + 1) (ks.flatMap (fun c : Nat × Nat => [Value.int .u64 (c.1 : Int), Value.int .i64 (c.2 : Int)]) ++ [.int .u64 (n : Int), .int .i64 (t : Int)])) : CasesV layP w v (ks ++ [(n, t)]) := by
 unfold CasesV
 rw [List.length_append, List.flatMap_append]
 exact h
def SwPost (X : Nat → Prop) (g b d : Nat) (f : FM) (W : World) (k : Nat) (r : PR TA) (e' : Ending) (w' : World) : Prop :=
 (match r with
  | .ok t l' => e' = .returned (.tuple #[]) ∧ PInv X g b w' l' d (f.setG (swG t f.g)) ∧ ∃ va, TCell k w' (swM t f.g).e (swM t f.g).i va ∧ CasesV layP w' va (swM t f.g).cs ∧ Nest (Pub X layP g w') va
  | .bad l' x => e' = .panicked (flt l' x)) ∧ St layP g W w'
def CSw (n : Nat) : Prop := ∀ (X : Nat → Prop) (g b : Nat) (l : List Tok) (d : Nat) (f : FM) (w W : World) (k : Nat), PInv X g b w l d f → X k → TCell k w (-1) (-1) (.slice none 0 0) → St layP g W w → g < W.heap.size → W.heap.size ≤ k → (∀ i, X i → i = k ∨ i < W.heap.size) → 8 * l.length + 4 ≤ n →
 Calls Tryz.prog 238 #[.pointer (some ⟨g, 0, none⟩), .pointer (some ⟨k, 0, none⟩)] w (SwPost X g b d f W k (switchP n d l))
theorem need_sRc {X : Nat → Prop} {g b : Nat} {l : List Tok} {d : Nat} {f : FM} (w : World) (h : PInv X g b w l d f) : Calls Tryz.prog 122 #[.pointer (some ⟨g, 0, none⟩), .string ⟨#[125]⟩] w (PostP X g (b - 3) w d (need sRc l) (fun _ => .tuple #[]) fun _ => f) := need_any sRc (by decide) w h
theorem single1_of {l : List Tok} (hb : begT l = true) (h0 : isT kBytes l = false) (h1 : isT kZero l = false) (h2 : isT kSkip l = false) (h3 : isT kWindow l = false) (h4 : isT kAt l = false) (h5 : isT kRest l = false) (h6 : isT kTail l = false) (h7 : isT kNone l = false) (h8 : isT kSwitch l = false) : single1 l := by
 unfold begT at hb
 simp only [Bool.or_eq_true] at hb
 rcases hb with (hb | hb) | hb
 ·rw [List.contains_iff_mem] at hb
  simp only [tyW, List.mem_cons, List.mem_nil_iff, or_false] at hb
  unfold isT at h0 h1 h2 h3 h4 h5 h6 h7 h8
  simp only [decide_eq_false_iff_not] at h0 h1 h2 h3 h4 h5 h6 h7 h8
  rcases hb with hb | hb | hb | hb | hb | hb | hb | hb | hb
  ·exact absurd hb h0
  ·exact absurd hb h1
  ·exact absurd hb h2
  ·exact absurd hb h3
  ·exact absurd hb h4
  ·exact absurd hb h5
  ·exact absurd hb h6
  ·exact absurd hb h7
  ·exact absurd hb h8
 ·exact .inl hb
 ·exact .inr hb
theorem good_cases : ∀ (n : Nat), (∀ m, m < n → ∀ d l, Good 1 l (branchP m d l)) → ∀ d c cs l, Good 0 l (casesL n d c cs l)
 | 0, _, d, c, cs, l => by rw [casesL]; exact .bad _ _ (by decide)
 | n + 1, hb, d, c, cs, l => by
  rw [casesL]
  split
  ·rename_i h
   refine Good.mono (s := 0 + (1 + (1 + 0)))  ?_ (by omega)
   refine (good_room c l).bind fun _ l1 hr => ?_
   obtain ⟨rfl, _⟩ := room_same hr
   refine Good.mono (s := 1 + (1 + 0) + 1) (Good.isT h (by decide) ((good_num _).bind fun _ _ _ => (hb n (by omega) _ _).bind fun _ _ _ => good_cases n (fun m hm => hb m (by omega)) _ _ _ _)) (by omega)
  ·exact .ok _ _
theorem good_types : ∀ n, (∀ d l, Good 1 l (typP n d l)) ∧ (∀ d l, Good 1 l (innerP n d l)) ∧ (∀ d l, Good 1 l (branchP n d l)) ∧ (∀ d l, Good 1 l (switchP n d l)) := by
 intro n
 induction n using Nat.strongRecOn with
 | ind n ih =>
  cases n with
  | zero => exact ⟨fun d l => by rw [typP]; exact .bad _ _ (by decide), fun d l => by rw [innerP]; exact .bad _ _ (by decide), fun d l => by rw [branchP]; exact .bad _ _ (by decide), fun d l => by rw [switchP]; exact .bad _ _ (by decide)⟩
  | succ n =>
   obtain ⟨i1, i2, i3, i4⟩ := ih n (by omega)
   refine ⟨fun d l => ?_, fun d l => ?_, fun d l => ?_, fun d l => ?_⟩
   ·rw [typP]
    split
    ·exact .bad _ _ (by decide)
    rename_i hbt
    iterate 3 (split; · rename_i h; exact Good.mono (s := 3 + 0 + 1) (Good.isT h (by decide) ((good_idx _ _ _).bind fun _ _ _ => .ok _ _)) (by omega))
    iterate 2 (split; · rename_i h; exact Good.mono (s := 3 + (1 + 0) + 1) (Good.isT h (by decide) ((good_idx _ _ _).bind fun _ _ _ => (i2 _ _).bind fun _ _ _ => .ok _ _)) (by omega))
    split
    ·rename_i h; exact Good.mono (s := 1 + 0 + 1) (Good.isT h (by decide) ((i2 _ _).bind fun _ _ _ => .ok _ _)) (by omega)
    iterate 2 (split; · rename_i h; exact Good.isT h (by decide) (.ok _ _))
    split
    ·rename_i h; exact Good.mono (s := 1 + 1) (Good.isT h (by decide) (i4 _ _)) (by omega)
    ·rename_i h0 h1 h2 h3 h4 h5 h6 h7 h8
     exact good_elem _ _ _ (single1_of (by simpa using hbt) (by simpa using h0) (by simpa using h1) (by simpa using h2) (by simpa using h3) (by simpa using h4) (by simpa using h5) (by simpa using h6) (by simpa using h7) (by simpa using h8))
   ·rw [innerP]
    exact Good.mono (s := 0 + 1) ((good_enter _ _ _).bind fun _ _ _ => i1 _ _) (by omega)
   ·rw [branchP]
    exact Good.mono (s := 1 + (1 + (1 + 0))) ((good_need _ _ (by decide)).bind fun _ _ _ => (i2 _ _).bind fun _ _ _ => (good_need _ _ (by decide)).bind fun _ _ _ => .ok _ _) (by omega)
   ·rw [switchP]
    refine Good.mono (s := 1 + (1 + (1 + (1 + (0 + 1))))) ((good_need _ _ (by decide)).bind fun _ _ _ => (good_bin _ _ _ _ (Nat.le_refl _)).bind fun _ _ _ => (good_need _ _ (by decide)).bind fun _ _ _ => (good_need _ _ (by decide)).bind fun _ _ _ => (good_cases n (fun m hm d l => (ih m (by omega)).2.2.1 d l) _ _ _ _).bind fun _ l5 _ => ?_) (by omega)
    split
    ·rename_i h; exact Good.mono (s := 1 + (1 + 0) + 1) (Good.isT h (by decide) ((i3 _ _).bind fun _ _ _ => (good_need _ _ (by decide)).bind fun _ _ _ => .ok _ _)) (by omega)
    ·exact Good.mono (s := 1 + 0) ((good_need _ _ (by decide)).bind fun _ _ _ => .ok _ _) (by omega)
end Go.Proofs.YtomimkgaelkaoaaGreatDoor
namespace Go.Proofs.YtomimkgaelkaoaaGreatDoor
open Go.ChangeShapes Go.WideShapes Go.ChangeAt Go.RowKit
theorem step_call {P : Program} {w : World} {ops : Array Oper} {o : Oper} {a : Act} {K : Act → World → Prop} {Q : Exit → Act → World → Prop} {F : Prop} (hgd : o.guard = none) (f : FuncId) (s : Operand) (t : TypeId)
  (ho : o.op = .call { callee := .value (.func f), args := #[s], argTypes := #[t] }) (he : ∀ args w, (callFunc f args).run P w = .ok (.enter f args) w) {R : Ending → World → Prop} (v : Value)
  (hs : a.eval s = v) (hc : Calls P f #[v] w R)
  (h : ∀ e w', R e w' → match e, w' with | .returned v, w'' => K (a.put o.dst v) w'' | .panicked chain, w'' => Q (.panic chain) a w'' | .outgrown, _ => LetsOut Q) :
  if Region.wanted o (yielded ops a.tmps) = true then Oper.wp P o a w K Q else F := by
 have hw : Region.wanted o (yielded ops a.tmps) = true := by simp [Region.wanted, hgd]
 rw [if_pos hw]
 have hr : (execOp a.eval o).run P w = .ok (.enter f #[v]) w := by
  have hf : a.eval (.func f) = .func (.func f) #[] #[] := rfl
  unfold execOp
  generalize a.eval = ev at hs hf
  simp [ho, resolve, invoke, hs, hf, he, Deferred.ofValue]
 unfold Oper.wp
 rw [hr, Oper.upon_enter]
 exact hc.mono h
end Go.Proofs.YtomimkgaelkaoaaGreatDoor
