/- Layer 7: how often each expression and each type is used: two rows of numbers in memory. -/
import Derived.Test.YtcdbdfhikbfbpaaGreatDoorParUs
import Derived.Test.YtcdbdfhikbfbpaaGreatDoorParJn
import Derived.Test.YtcdbdfhikbfbpaaGreatDoorParWk
namespace Go.Proofs.YtcdbdfhikbfbpaaGreatDoor
open Go.ChangeShapes Go.WideShapes Go.ChangeAt Go.RowKit
set_option linter.unusedVariables false

theorem or_file {s : ByteArray} {f : FM} (h : parseL s.data.toList = .ok f) (w : World) (hE : Env w) (hK : KEnv (fun b => b < w.heap.size) w) :
    Calls Tryz.prog 10 #[.string s] w fun e w' => (∃ g, e = .returned (.tuple #[.pointer (some ⟨g, 1, none⟩), .agg #[.int .i64 0, .int .i64 0], .int .i64 0]) ∧ FileR g w' f) ∧ (f.g.xs.length + f.g.ts.length ≤ 60000 ∧ f.cs.length ≤ 64 ∧ f.ss.length ≤ 64) ∧ Below w.heap.size w w' := by
  refine (Parse_any s w hE hK).mono ?_
  rintro e w' ⟨hp, hb⟩
  rw [h] at hp
  exact ⟨hp.1, hp.2, hb⟩
theorem or_zero {s : List UInt8} (h : frE (parseL s) = 0) : ∃ f, parseL s = .ok f := by
  unfold parseL at h ⊢
  cases hl : lexL s with
  | bad p e => rw [hl] at h; exact absurd h (lexL_bad_at hl).2
  | ok ts =>
    rw [hl] at h
    dsimp only at h ⊢
    cases hf : fileP ts with
    | ok a l => exact ⟨_, rfl⟩
    | bad l e =>
      exfalso
      have hg := good_fileL (fuel ts) [] [] ts (lexL_wf hl)
      rw [show fileL (fuel ts) [] [] ts = .bad l e from hf] at hg
      rw [hf] at h
      exact hg.2.2 h
theorem info_int1o : (Tryz.prog.info? 3).map (fun i => (i.zero, i.size, i.bytes)) = some (some (.int .i64 0), 1, 8) := by kernel_rfl
/-! What is used. -/
def UXs (f : FM) : List Nat := f.ss.flatMap fun s => s.is.flatMap IM.ux
def UTs (f : FM) : List Nat := f.ss.flatMap fun s => s.is.flatMap IM.ut
def UX (f : FM) : List Nat := f.g.xs.flatMap (·.kids) ++ f.g.ts.flatMap TM.ux ++ UXs f
def UT (f : FM) : List Nat := f.g.ts.flatMap TM.ut ++ UTs f
theorem foldI_all (P : IM → Prop) (hP : ∀ x g, P (putI x g).2) : ∀ (l : List IA) (g : GM) (ks : List IM), (∀ y ∈ ks, P y) → ∀ y ∈ (l.foldl stepI (g, ks)).2, P y
  | [], g, ks, h => h
  | x :: r, g, ks, h => by
    rw [List.foldl_cons]
    refine foldI_all P hP r _ _ fun y hy => ?_
    rcases List.mem_append.1 hy with hy | hy
    · exact h y hy
    · rw [List.mem_singleton.1 hy]; exact hP x g
theorem foldS_all (P : SM → Prop) (hP : ∀ x g, P (putS x g).2) : ∀ (l : List SA) (g : GM) (ks : List SM), (∀ y ∈ ks, P y) → ∀ y ∈ (l.foldl stepS (g, ks)).2, P y
  | [], g, ks, h => h
  | x :: r, g, ks, h => by
    rw [List.foldl_cons]
    refine foldS_all P hP r _ _ fun y hy => ?_
    rcases List.mem_append.1 hy with hy | hy
    · exact h y hy
    · rw [List.mem_singleton.1 hy]; exact hP x g
theorem putI_ge (x : IA) (g : GM) : -1 ≤ (putI x g).2.t ∧ -1 ≤ (putI x g).2.wh := by
  cases x with
  | pack z li ss => exact ⟨Int.le_refl _, Int.le_refl _⟩
  | field s t d wh =>
    refine ⟨?_, ?_⟩
    · show (-1 : Int) ≤ ((putT t g).1.t : Int); omega
    · cases wh with
      | none => exact Int.le_refl _
      | some e => show (-1 : Int) ≤ ((putE e (putT t g).1).x : Int); omega
/-- What holds of a File that is read. -/
structure OrdF (f : FM) : Prop where
  o : Ord f.g
  x : ∀ k, (UX f).count k = iR 0 f.g.xs.length k
  t : ∀ k, (UT f).count k = iR 0 f.g.ts.length k
  i : ∀ s ∈ f.ss, ∀ y ∈ s.is, -1 ≤ y.t ∧ -1 ≤ y.wh
theorem ordF {s : List UInt8} {f : FM} (h : parseL s = .ok f) : OrdF f := by
  obtain ⟨ts, cs, ss, l, h1, h2, rfl⟩ := parse_ok h
  have hw : ∀ x ∈ ss, wfS x := file_wf (fuel ts) [] [] ts (fun x hx => by cases hx) (cs, ss) l h2
  obtain ⟨o, u1, u2⟩ := use_F cs ss hw
  refine ⟨o, fun k => ?_, fun k => ?_, fun y hy => ?_⟩
  · have := u1 k
    unfold cX at this
    unfold UX UXs
    rw [List.count_append, List.count_append]
    exact this
  · have := u2 k
    unfold cT at this
    unfold UT UTs
    rw [List.count_append]
    exact this
  · exact foldS_all (fun s => ∀ y ∈ s.is, -1 ≤ y.t ∧ -1 ≤ y.wh) (fun x g => foldI_all _ putI_ge x.is g [] fun y hy => by cases hy) ss gm0 [] (fun y hy => by cases hy) y hy
theorem iR_lt {n k : Nat} {L : List Nat} (h : L.count k = iR 0 n k) (hk : k ∈ L) : k < n := by
  have := List.count_pos_iff.2 hk
  rw [h] at this
  unfold iR at this
  split at this
  · omega
  · omega
theorem iR_one {n k : Nat} (h : k < n) : iR 0 n k = 1 := by unfold iR; rw [if_pos ⟨Nat.zero_le _, h⟩]
theorem OrdF.xlt {f : FM} (h : OrdF f) {k : Nat} (hk : k ∈ UX f) : k < f.g.xs.length := iR_lt (h.x k) hk
theorem OrdF.tlt {f : FM} (h : OrdF f) {k : Nat} (hk : k ∈ UT f) : k < f.g.ts.length := iR_lt (h.t k) hk
theorem ix_mem {i : Int} (h : 0 ≤ i) : i.toNat ∈ ix i := by unfold ix; rw [if_neg (by omega)]; exact List.mem_singleton.2 rfl
/-- The numbers of how often each is used. -/
def rowN (n : Nat) (L : List Nat) : List Value := (List.range n).map fun k => Value.int .i64 (L.count k : Int)
theorem rowN_length (n : Nat) (L : List Nat) : (rowN n L).length = n := by unfold rowN; simp
theorem rowN_at {n k : Nat} (L : List Nat) (h : k < n) : (rowN n L)[k]? = some (.int .i64 (L.count k : Int)) := by
  unfold rowN
  rw [List.getElem?_map, List.getElem?_range h]
  rfl
theorem rowN_set {n k : Nat} (L : List Nat) (h : k < n) : (rowN n L).set k (.int .i64 ((L.count k : Int) + 1)) = rowN n (L ++ [k]) := by
  apply List.ext_getElem?
  intro j
  by_cases hj : j < n
  · rw [rowN_at _ hj, List.getElem?_set, rowN_at _ hj, rowN_length]
    rw [List.count_append, count_one]
    unfold i1
    by_cases hkj : k = j
    · subst hkj
      rw [if_pos rfl, if_pos hj, if_pos rfl]
      congr 2
    · rw [if_neg hkj, if_neg hkj, Nat.add_zero]
  · rw [List.getElem?_eq_none (by rw [List.length_set, rowN_length]; omega), List.getElem?_eq_none (by rw [rowN_length]; omega)]
theorem rowN_new (n : Nat) : madeCells #[Value.int .i64 0] n = (rowN n []).toArray := by
  apply Array.toList_inj.1
  rw [toList_madeCells_one]
  apply List.ext_getElem?
  intro j
  by_cases hj : j < n
  · rw [List.getElem?_replicate, if_pos hj, rowN_at _ hj]; rfl
  · rw [List.getElem?_replicate, if_neg hj, List.getElem?_eq_none (by rw [rowN_length]; omega)]
theorem rowN_ones {n : Nat} {L : List Nat} (h : ∀ k, L.count k = iR 0 n k) : rowN n L = List.replicate n (.int .i64 1) := by
  apply List.ext_getElem?
  intro j
  by_cases hj : j < n
  · rw [List.getElem?_replicate, if_pos hj, rowN_at _ hj, h, iR_one hj]; rfl
  · rw [List.getElem?_replicate, if_neg hj, List.getElem?_eq_none (by rw [rowN_length]; omega)]
def IRow (A n : Nat) (L : List Nat) (w : World) : Prop := w.heap[A]? = some (.cells (rowN n L).toArray 3 (0, 0))
/-- 'make([]int, n)' at a step of a region that draws its order. -/
theorem step_make {P : Program} (w : World) {ops : Array Oper} {o : Oper} {a : Act} {K : Act → World → Prop} {Q : Exit → Act → World → Prop} {F : Prop} (hgd : o.guard = none) (l c : Operand) (t : TypeId)
    (ho : o.op = Op.makeSlice t l c) (e : TypeId) (i : TypeInfo) (ht : P.underlying t = some (.slice e)) (hi : P.info? e = some i) (hz : i.zero = some (.int .i64 0)) (hsize : i.size = 1) (hby : i.bytes = 8)
    (n : Nat) (hl : a.eval l = .int .i64 (n : Int)) (hc : a.eval c = .int .i64 (n : Int)) (hn : n ≤ 1000000)
    (h : K (a.put o.dst (.slice (some ⟨w.heap.size, 0, none⟩) n n)) (w.alloc (.cells (rowN n []).toArray e))) :
    if Region.wanted o (yielded ops a.tmps) = true then Oper.wp P o a w K Q else F := by
  have hw : Region.wanted o (yielded ops a.tmps) = true := by simp [Region.wanted, hgd]
  rw [if_pos hw]
  have hr := run_make (P := P) w t e i (.int .i64 0) ht hi hz .i64 .i64 n n (by omega) (Int.le_refl _) (by rw [hby]; omega) (by omega)
  rw [hsize, Int.toNat_natCast, Nat.mul_one, show (Value.int .i64 0).cells = #[Value.int .i64 0] from rfl, rowN_new] at hr
  unfold Oper.wp execOp
  simp only [ho, hl, hc, Sem.run_bind, Sem.run_pure, hr, Result.andThen_ok]
  exact h
theorem make_ints (n : Nat) (hn : n ≤ 1000000) (w : World) : (Instr.makeSlice 45 (.int .i64 (n : Int)) (.int .i64 (n : Int))).run Tryz.prog w = .ok (.slice (some ⟨w.heap.size, 0, none⟩) n n) (w.alloc (.cells (rowN n []).toArray 3)) := by
  obtain ⟨i, hi, hz, hsize, hby⟩ := info_parts info_int1o
  have hr := run_make (P := Tryz.prog) w 45 3 i (.int .i64 0) Tryz.underlying45 hi hz .i64 .i64 n n (by omega) (Int.le_refl _) (by rw [hby]; omega) (by omega)
  rw [hsize, Int.toNat_natCast, Nat.mul_one, show (Value.int .i64 0).cells = #[Value.int .i64 0] from rfl, rowN_new] at hr
  exact hr
/-- The two rows, and what may be said at the end. -/
structure OS (W w : World) (A T K nx nt : Nat) (L1 L2 : List Nat) : Prop where
  a : IRow A nx L1 w
  t : IRow T nt L2 w
  k : w.heap[K]? = some (.cells #[.bool true] 4 (0, 0))
  b : Below W.heap.size W w
  la : W.heap.size ≤ A
  lt : W.heap.size ≤ T
  ne : A ≠ T
/-- All but the two rows is as it was. -/
def Kept2 (A T : Nat) (w w' : World) : Prop := ∀ i, i ≠ A → i ≠ T → w'.heap[i]? = w.heap[i]?
theorem OS.alloc {W w : World} {A T K nx nt : Nat} {L1 L2 : List Nat} (h : OS W w A T K nx nt L1 L2) (o : Obj) : OS W (w.alloc o) A T K nx nt L1 L2 := by
  have hb := below_box w o
  have q : ∀ {i x}, w.heap[i]? = some x → (w.alloc o).heap[i]? = some x := fun e => (hb.block _ (Array.getElem?_eq_some_iff.1 e).1).trans e
  exact ⟨q h.a, q h.t, q h.k, chain h.b (Nat.le_refl _) hb, h.la, h.lt, h.ne⟩
theorem IRow.off {A n K : Nat} {L : List Nat} {w : World} (h : IRow A n L w) (hk : w.heap[K]? = some (.cells #[.bool true] 4 (0, 0))) : K ≠ A := fun e => by
  subst e
  unfold IRow at h
  rw [h] at hk
  simp only [Option.some.injEq, Obj.cells.injEq] at hk
  exact absurd hk.2.1 (by decide)
theorem IRow.cell {A n : Nat} {L : List Nat} {w : World} (h : IRow A n L w) {k : Nat} (hk : k < n) : w.cell? ⟨A, k, none⟩ = some (.int .i64 (L.count k : Int)) := by
  rw [cell_of_row _ _ _ _ _ (0, 0) h, List.getElem?_toArray, rowN_at _ hk]
theorem IRow.store {A n : Nat} {L : List Nat} {w : World} (h : IRow A n L w) {k : Nat} (hk : k < n) : IRow A n (L ++ [k]) (w.setCell ⟨A, k, none⟩ (.int .i64 ((L.count k : Int) + 1))) := by
  unfold IRow
  rw [cell_set_row h (by rw [List.size_toArray, rowN_length]; exact hk), ← rowN_set L hk]
  simp
set_option maxHeartbeats 1000000 in
/-- The closure 'use'. -/
theorem use_any (K A n : Nat) (L : List Nat) (c : Nat) (k before : Int) (w : World) (ha : IRow A n L w) (h1 : -1 ≤ k) (h2 : k < before) (h3 : k < n) (hL : ∀ j, L.count j ≤ 1000000) :
    Calls Tryz.prog 22 #[.slice (some ⟨A, 0, none⟩) n c, .int .i64 k, .int .i64 before, .pointer (some ⟨K, 0, none⟩)] w fun e w' => e = .returned (.tuple #[]) ∧ IRow A n (L ++ ix k) w' ∧ (∀ i, i ≠ A → w'.heap[i]? = w.heap[i]?) ∧ ∀ B, B ≤ A → Below B w w' := by
  have d1 : ¬ before ≤ k := by omega
  have d2 : ¬ k < -1 := by omega
  by_cases hk : k < 0
  · have d3 : ¬ 0 ≤ k := by omega
    have HA := Lib.hid ha
    have HX : Hid (ix k = []) := Lib.hid (by unfold ix; rw [if_pos hk])
    clear ha
    go_enter Tryz.func22, Tryz.ntmps22
    go_wp2_with fail
    first | go_end0 | refine bodyPost_ret (results_none rfl _ _ _) rfl ?_
    exact ⟨rfl, by rw [HX.out, List.append_nil]; exact HA.out, fun _ _ => rfl, fun B _ => Below.refl _ _⟩
  · obtain ⟨j, rfl⟩ : ∃ j : Nat, k = (j : Int) := ⟨k.toNat, by omega⟩
    have d3 : (0 : Int) ≤ (j : Int) := by omega
    have hj : j < n := by omega
    have c0 := ha.cell hj
    have hf : w.frozen? ⟨A, j, none⟩ = false := by unfold IRow at ha; simp [World.frozen?, ha]
    have hc := hL j
    have hw : IntKind.i64.wrap ((L.count j : Int) + 1) = (L.count j : Int) + 1 := IntWalk.i64_in _ (by omega)
    have HA := Lib.hid (ha.store hj)
    have HX : Hid (ix (j : Int) = [j]) := Lib.hid (ix_nat j)
    clear ha hk
    go_enter Tryz.func22, Tryz.ntmps22
    go_wp2_with fail
    first | go_end0 | refine bodyPost_ret (results_none rfl _ _ _) rfl ?_
    exact ⟨rfl, by rw [HX.out]; exact HA.out, fun i hi => Below.heap_setCell _ _ _ _ hi, fun B hB => (Below.refl B w).setCell hB _⟩
theorem OS.usex {W w w' : World} {A T K nx nt : Nat} {L1 L2 L1' : List Nat} (h : OS W w A T K nx nt L1 L2) (h1 : IRow A nx L1' w') (h2 : ∀ i, i ≠ A → w'.heap[i]? = w.heap[i]?) (h3 : ∀ B, B ≤ A → Below B w w') : OS W w' A T K nx nt L1' L2 :=
  ⟨h1, (h2 T h.ne.symm).trans h.t, (h2 K (h.a.off h.k)).trans h.k, h.b.trans (h3 _ h.la), h.la, h.lt, h.ne⟩
theorem OS.uset {W w w' : World} {A T K nx nt : Nat} {L1 L2 L2' : List Nat} (h : OS W w A T K nx nt L1 L2) (h1 : IRow T nt L2' w') (h2 : ∀ i, i ≠ T → w'.heap[i]? = w.heap[i]?) (h3 : ∀ B, B ≤ T → Below B w w') : OS W w' A T K nx nt L1 L2' :=
  ⟨(h2 A h.ne).trans h.a, h1, (h2 K (h.t.off h.k)).trans h.k, h.b.trans (h3 _ h.lt), h.la, h.lt, h.ne⟩
theorem OS.callx {W w : World} {A T K nx nt : Nat} {L1 L2 : List Nat} (h : OS W w A T K nx nt L1 L2) (c : Nat) (k before : Int) (h1 : -1 ≤ k) (h2 : k < before) (h3 : k < nx) (hL : ∀ j, L1.count j ≤ 1000000) :
    Calls Tryz.prog 22 #[.slice (some ⟨A, 0, none⟩) nx c, .int .i64 k, .int .i64 before, .pointer (some ⟨K, 0, none⟩)] w fun e w' => e = .returned (.tuple #[]) ∧ OS W w' A T K nx nt (L1 ++ ix k) L2 ∧ Kept2 A T w w' := by
  refine (use_any K A nx L1 c k before w h.a h1 h2 h3 hL).mono ?_
  rintro e w' ⟨rfl, q1, q2, q3⟩
  exact ⟨rfl, h.usex q1 q2 q3, fun i hi _ => q2 i hi⟩
theorem OS.callt {W w : World} {A T K nx nt : Nat} {L1 L2 : List Nat} (h : OS W w A T K nx nt L1 L2) (c : Nat) (k before : Int) (h1 : -1 ≤ k) (h2 : k < before) (h3 : k < nt) (hL : ∀ j, L2.count j ≤ 1000000) :
    Calls Tryz.prog 22 #[.slice (some ⟨T, 0, none⟩) nt c, .int .i64 k, .int .i64 before, .pointer (some ⟨K, 0, none⟩)] w fun e w' => e = .returned (.tuple #[]) ∧ OS W w' A T K nx nt L1 (L2 ++ ix k) ∧ Kept2 A T w w' := by
  refine (use_any K T nt L2 c k before w h.t h1 h2 h3 hL).mono ?_
  rintro e w' ⟨rfl, q1, q2, q3⟩
  exact ⟨rfl, h.uset q1 q2 q3, fun i _ hi => q2 i hi⟩
/-- A block that was made behind the rows. -/
theorem OS.new {W w w' : World} {A T K nx nt : Nat} {L1 L2 : List Nat} (h : OS W w A T K nx nt L1 L2) {o : Obj} (hk : Kept2 A T (w.alloc o) w') : w'.heap[w.heap.size]? = some o := by
  have ha := (Array.getElem?_eq_some_iff.1 h.a).1
  have ht := (Array.getElem?_eq_some_iff.1 h.t).1
  exact (hk _ (by omega) (by omega)).trans (heap_alloc_new w o)
theorem Kept2.trans {A T : Nat} {w w' w'' : World} (h : Kept2 A T w w') (k : Kept2 A T w' w'') : Kept2 A T w w'' := fun i h1 h2 => (k i h1 h2).trans (h i h1 h2)
theorem Kept2.refl (A T : Nat) (w : World) : Kept2 A T w w := fun _ _ _ => rfl
theorem OS.start {W w : World} {A T nx nt : Nat} (ra : IRow A nx [] w) (rt : IRow T nt [] w) (hb : Below W.heap.size W w) (la : W.heap.size ≤ A) (lt : W.heap.size ≤ T) (ne : A ≠ T) : OS W (w.alloc (.cells #[.bool true] 4)) A T w.heap.size nx nt [] [] := by
  have hbb := below_box w (.cells #[.bool true] 4)
  have q : ∀ {i x}, w.heap[i]? = some x → (w.alloc (.cells #[.bool true] 4)).heap[i]? = some x := fun e => (hbb.block _ (Array.getElem?_eq_some_iff.1 e).1).trans e
  exact ⟨q ra, q rt, heap_alloc_new w _, chain hb (Nat.le_refl _) hbb, la, lt, ne⟩
theorem heap_first (w : World) (A B : Obj) : ((w.alloc A).alloc B).drew.heap[w.heap.size]? = some A := (Below.heap_alloc _ _ _ (by simp)).trans (heap_alloc_new w A)
/-- 'append' of a row onto a row of the call's own: the walk's arm. -/
theorem list_many {P : Program} {w : World} {ops : Array Oper} {rest : List Oper} {o : Oper} {a : Act} {Q : Exit → Act → World → Prop} (hgd : o.guard = none) (s x : Operand) (t : TypeId)
    (ho : o.op = .call { callee := .builtin .append, args := #[s, x], argTypes := #[t, t] })
    (e : TypeId) (i : TypeInfo) (z : Value) (size bytes : Nat) (ht : P.underlying t = some (.slice e)) (hi : P.info? e = some i) (hz : i.zero = some z)
    (hsize : i.size = size) (hby : i.bytes = bytes) (hzs : z.cells.size = size) (hpos : 0 < size)
    (v : Value) (n : Nat) (xs : List Value) (hs : a.eval s = v) (hown : w.ownsRow 0 e size v n xs)
    (H m c : Nat) (news : List Value) (hx : a.eval x = .slice (some ⟨H, 0, none⟩) m c) (hl : news.length = m * size) (hh : w.heap[H]? = some (.cells news.toArray e (0, 0))) (h1 : ∀ u ∈ news, u.oneCell' = true)
    (h63 : n + m ≤ maxLen) (hbytes : (n + m) * bytes ≤ 140737488355328)
    (h : ∀ v' w', w'.ownsRow 0 e size v' (n + m) (xs ++ news) → w.grownBy w' v.ownBlock → wpList P ops Q rest (a.put o.dst v') w') : wpList P ops Q (o :: rest) a w :=
  wpList_plain hgd fun K hK => by
    obtain ⟨v', w', hr, h2, h3, _, h5⟩ := run_append_own_at (P := P) w 0 t o.type e i z size bytes ht hi hz hsize hby hzs hpos v n xs hown ⟨H, 0, none⟩ m c news hl
      (fun j u hu => by
        rw [show (⟨H, 0, none⟩ : Addr).add j = ⟨H, j, none⟩ from by unfold Addr.add; split <;> simp_all, cell_of_row _ _ _ _ _ (0, 0) hh]
        simpa using hu) h1 h63 hbytes (Nat.zero_le _)
    have hKK := hK _ _ (h v' w' h2 h3)
    unfold Oper.wp execOp
    simp only [ho, resolve, invoke, builtin, Sem.run_bind, Sem.run_pure, Result.andThen_ok, List.map_toArray, List.map_cons, List.map_nil, hs, hx, hr]
    exact hKK
theorem IRow.owns {A n : Nat} {L : List Nat} {w : World} (h : IRow A n L w) (hn : n ≤ 1000000) : w.ownsRow 0 3 1 (.slice (some ⟨A, 0, none⟩) n n) n (rowN n L) :=
  ⟨by rw [rowN_length, Nat.mul_one], .inr ⟨A, n, _, rfl, Nat.zero_le _, h, Nat.le_refl _, by unfold maxLen; omega, by rw [List.size_toArray, rowN_length, Nat.mul_one], by rw [List.take_of_length_le (by simp [rowN_length])]⟩⟩
theorem own_cell {w : World} {E : TypeId} {va : Option Addr} {n c : Nat} {xs : List Value} (h : w.ownsRow 0 E 1 (.slice va n c) n xs) {j : Nat} (hj : j < n) : ∃ G, va = some ⟨G, 0, none⟩ ∧ w.cell? ⟨G, j, none⟩ = xs[j]? := by
  have h' := h
  rcases h.2 with ⟨e, h0⟩ | ⟨G, cap, cur, e, hG, hh, r⟩
  · omega
  · simp only [Value.slice.injEq] at e
    obtain ⟨rfl, -, rfl⟩ := e
    exact ⟨G, rfl, World.ownsRow.cellAt h' j (by omega)⟩
/-! Beginnings of what is used. -/
theorem take_at {α : Type} {l : List α} {i : Nat} {x : α} (h : l[i]? = some x) : l.take (i + 1) = l.take i ++ [x] := by rw [List.take_add_one, h]; rfl
theorem take_flat {α : Type} (F : α → List Nat) {l : List α} {i : Nat} {x : α} (h : l[i]? = some x) : (l.take (i + 1)).flatMap F = (l.take i).flatMap F ++ F x := by rw [take_at h, List.flatMap_append]; simp
theorem pre_flat {α : Type} (F : α → List Nat) {l : List α} {i : Nat} {x : α} (h : l[i]? = some x) {q : List Nat} (hq : q <+: F x) : (l.take i).flatMap F ++ q <+: l.flatMap F := by
  obtain ⟨r, hr⟩ := hq
  have e : l = l.take (i + 1) ++ l.drop (i + 1) := (List.take_append_drop _ _).symm
  refine ⟨r ++ (l.drop (i + 1)).flatMap F, ?_⟩
  conv => rhs; rw [e, List.flatMap_append, take_flat F h, ← hr]
  simp
theorem pre_len {M L : List Nat} {n : Nat} (h : L <+: M) (hM : ∀ k, M.count k = iR 0 n k) (j : Nat) : L.count j ≤ 1 := by
  refine Nat.le_trans (h.sublist.count_le j) ?_
  rw [hM]
  unfold iR
  split <;> omega
theorem pre_mem {M L : List Nat} {k : Int} (h : L ++ ix k <+: M) (hk : 0 ≤ k) : k.toNat ∈ M := h.sublist.subset (List.mem_append_right _ (ix_mem hk))
theorem OrdF.klt {f : FM} (hF : OrdF f) {L : List Nat} {k : Int} (h : L ++ ix k <+: UX f) : k < f.g.xs.length := by
  by_cases hk : 0 ≤ k
  · have := hF.xlt (pre_mem h hk); omega
  · omega
theorem OrdF.klt2 {f : FM} (hF : OrdF f) {L : List Nat} {k : Int} (h : L ++ ix k <+: UT f) : k < f.g.ts.length := by
  by_cases hk : 0 ≤ k
  · have := hF.tlt (pre_mem h hk); omega
  · omega
theorem OS.cx {f : FM} (hF : OrdF f) {W w : World} {A T K : Nat} {L1 L2 : List Nat} (h : OS W w A T K f.g.xs.length f.g.ts.length L1 L2) (c : Nat) (k before : Int) (h1 : -1 ≤ k) (h2 : k < before) (hp : L1 ++ ix k <+: UX f) :
    Calls Tryz.prog 22 #[.slice (some ⟨A, 0, none⟩) f.g.xs.length c, .int .i64 k, .int .i64 before, .pointer (some ⟨K, 0, none⟩)] w fun e w' => e = .returned (.tuple #[]) ∧ OS W w' A T K f.g.xs.length f.g.ts.length (L1 ++ ix k) L2 ∧ Kept2 A T w w' :=
  h.callx c k before h1 h2 (hF.klt hp) fun j => Nat.le_trans (pre_len ((List.prefix_append _ _).trans hp) hF.x j) (by omega)
theorem OS.ct {f : FM} (hF : OrdF f) {W w : World} {A T K : Nat} {L1 L2 : List Nat} (h : OS W w A T K f.g.xs.length f.g.ts.length L1 L2) (c : Nat) (k before : Int) (h1 : -1 ≤ k) (h2 : k < before) (hp : L2 ++ ix k <+: UT f) :
    Calls Tryz.prog 22 #[.slice (some ⟨T, 0, none⟩) f.g.ts.length c, .int .i64 k, .int .i64 before, .pointer (some ⟨K, 0, none⟩)] w fun e w' => e = .returned (.tuple #[]) ∧ OS W w' A T K f.g.xs.length f.g.ts.length L1 (L2 ++ ix k) ∧ Kept2 A T w w' :=
  h.callt c k before h1 h2 (hF.klt2 hp) fun j => Nat.le_trans (pre_len ((List.prefix_append _ _).trans hp) hF.t j) (by omega)
end Go.Proofs.YtcdbdfhikbfbpaaGreatDoor
