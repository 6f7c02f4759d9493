/- Layer 10: the operands of an expression; its value by theirs. -/
import Derived.Test.YtoengahfkfmfeaaExB
import Derived.Test.YtoengahfkfmfeaaExM
import Derived.Test.YtoengahfkfmfeaaExQ
import Derived.Test.YtoengahfkfmfeaaWordC
import Derived.Test.YtoengahfkfmfeaaLexA
import Derived.BigQuiet
import Derived.Deep.CutBlock
import Derived.StillTailTactics
set_option linter.unusedVariables false
set_option linter.unusedSimpArgs false
namespace Go.Proofs.Ytoengahfkfmfeaa
open Go.ChangeShapes Go.WideShapes Go.ChangeAt Go.RowKit

/-- The slice v holds the integers l, wherever they lie. -/
def KidR (w : World) (v : Value) (l : List Int) : Prop :=
  ∃ a c, v = .slice a l.length c ∧ l.length < 4611686018427387904 ∧ ∀ (j : Nat) x, l[j]? = some x → (∃ p : Addr, a = some p ∧ p.block < w.heap.size ∧ w.cell? (p.add j) = some (.int .i64 x)) ∧ -9223372036854775808 ≤ x ∧ x ≤ 9223372036854775807
theorem addr_block (x : Addr) (n : Nat) : (x.add n).block = x.block := by unfold Addr.add; split <;> rfl
theorem KidR.below {w w' : World} {v : Value} {l : List Int} (h : KidR w v l) (hb : Below w.heap.size w w') : KidR w' v l := by
  obtain ⟨a, c, h1, h2, h3⟩ := h
  refine ⟨a, c, h1, h2, fun j x hx => ?_⟩
  obtain ⟨⟨p, p1, p2, p3⟩, p4⟩ := h3 j x hx
  exact ⟨⟨p, p1, Nat.lt_of_lt_of_le p2 hb.size, (hb.cell (by rw [addr_block]; exact p2)).trans p3⟩, p4⟩
theorem bdrewN {B : Nat} {a w : World} (h : Below B a w) (n : Nat) : Below B a (w.drewN n) := ⟨h.os, h.tape, h.output, h.size, h.block⟩
/-- The cells of an expression. -/
def ExC (w : World) (c : List Value) (x : XE) : Prop := ∃ kv, c = [.int .i64 x.k, .string (bs x.op), .int .u64 x.n, .string (bs x.s), kv] ∧ KidR w kv x.kids

/-- What operands answers. -/
def OpsPost (x : XE) (kv : Value) (e : Ending) : Prop := e = .returned (.tuple #[if x.k = 2 ∨ x.k = 3 then kv else .slice none 0 0, .bool (opsX x).isSome])
theorem opsPost {x : XE} {kv v : Value} {b : Bool} (hv : (if x.k = 2 ∨ x.k = 3 then kv else .slice none 0 0) = v) (hb : (opsX x).isSome = b) : OpsPost x kv (.returned (.tuple #[v, .bool b])) := by
  unfold OpsPost; rw [hv, hb]
theorem isSome1 {op : List UInt8} {n : Int} {s : List UInt8} (l : List Int) : (opsX ⟨2, op, n, s, l⟩).isSome = ((l.length : Int) == 1) := by
  unfold opsX
  by_cases h : l.length = 1
  · simp [h]
  · have : ¬ (l.length : Int) = 1 := by omega
    simp [h, this]
theorem isSome2 {op : List UInt8} {n : Int} {s : List UInt8} (l : List Int) : (opsX ⟨3, op, n, s, l⟩).isSome = ((l.length : Int) == 2) := by
  unfold opsX
  by_cases h : l.length = 2
  · simp [h]
  · have : ¬ (l.length : Int) = 2 := by omega
    simp [h, this]
set_option maxHeartbeats 2000000 in
theorem operands_any (x : XE) (kv : Value) (w : World) (hk : KidR w kv x.kids) :
    Calls Try.prog 57 #[.agg #[.int .i64 x.k, .string (bs x.op), .int .u64 x.n, .string (bs x.s), kv]] w fun e w' => OpsPost x kv e ∧ Below w.heap.size w w' := by
  obtain ⟨a, c, rfl, hl, -⟩ := hk
  have hb : Below w.heap.size w (w.alloc (.cells #[.int .i64 x.k, .string (bs x.op), .int .u64 x.n, .string (bs x.s), .slice a x.kids.length c] 83)) := (Below.refl _ _).alloc (Nat.le_refl _) _
  have E : ∀ v b, (if x.k = 2 ∨ x.k = 3 then .slice a x.kids.length c else .slice none 0 0) = v → (opsX x).isSome = b → OpsPost x (.slice a x.kids.length c) (.returned (.tuple #[v, .bool b])) := fun v b h1 h2 => opsPost h1 h2
  have HE := Lib.hid E
  have HB := Lib.hid hb
  clear E hb
  obtain ⟨k, op, n, s, kids⟩ := x
  simp only at hl HE HB ⊢
  generalize hP : OpsPost _ _ = P at HE ⊢
  clear hP
  generalize bs op = O at HB ⊢
  generalize bs s = T at HB ⊢
  go_enter Try.func57, Try.ntmps57
  by_cases h0 : k = 0
  · subst h0
    go_wp2_with fail
    go_ret2
    exact ⟨HE.out _ _ rfl rfl, HB.out⟩
  by_cases h1 : k = 1
  · subst h1
    go_wp2_with fail
    go_ret2
    exact ⟨HE.out _ _ rfl rfl, HB.out⟩
  by_cases h2 : k = 2
  · subst h2
    go_wp2_with fail
    go_quiet (fail)
    go_wp2_with fail
    go_ret2
    exact ⟨HE.out _ _ rfl (isSome1 kids), bdrewN HB.out _⟩
  by_cases h3 : k = 3
  · subst h3
    go_wp2_with fail
    go_quiet (fail)
    go_wp2_with fail
    go_ret2
    exact ⟨HE.out _ _ rfl (isSome2 kids), bdrewN HB.out _⟩
  go_wp2_with fail
  go_ret2
  exact ⟨HE.out _ _ (by simp [h2, h3]) (by simp [opsX, h0, h1, h2, h3]), HB.out⟩

theorem kids1 {x : XE} (h : (opsX x).isSome = true) (hk : x.k = 2) : ∃ k0, x.kids = [k0] := by
  unfold opsX at h
  rw [hk] at h
  simp at h
  match x.kids, h with
  | [k0], _ => exact ⟨k0, rfl⟩
theorem kids2 {x : XE} (h : (opsX x).isSome = true) (hk : x.k = 3) : ∃ k0 k1, x.kids = [k0, k1] := by
  unfold opsX at h
  rw [hk] at h
  simp at h
  match x.kids, h with
  | [k0, k1], _ => exact ⟨k0, k1, rfl⟩
/-- What evaluate answers. -/
def EvPost (x : XE) (e : EnvL) (G : Int → Int × Int) (q : Ending) : Prop := q = .returned (.agg #[.int .u64 (evX x e G).1, .int .i64 (evX x e G).2])
theorem evPost {x : XE} {e : EnvL} {G : Int → Int × Int} {u v : Int} (h : evX x e G = (u, v)) : EvPost x e G (.returned (.agg #[.int .u64 u, .int .i64 v])) := by unfold EvPost; rw [h]
theorem Duo.set0 {W : World} {B : Nat} {t : TypeId} {u v : Value} (h : Duo W B t u v) (u' : Value) : Duo (W.setCell ⟨B, 0, none⟩ u') B t u' v := by
  unfold Duo at h ⊢
  obtain ⟨hlt, hk⟩ := Array.getElem?_eq_some_iff.1 h
  show (W.heap.modify B _)[B]? = _
  rw [Array.getElem?_eq_getElem (by rw [Array.size_modify]; exact hlt), Array.getElem_modify_self, hk]
  rfl
theorem Duo.set1 {W : World} {B : Nat} {t : TypeId} {u v : Value} (h : Duo W B t u v) (v' : Value) : Duo (W.setCell ⟨B, 1, none⟩ v') B t u v' := by
  unfold Duo at h ⊢
  obtain ⟨hlt, hk⟩ := Array.getElem?_eq_some_iff.1 h
  show (W.heap.modify B _)[B]? = _
  rw [Array.getElem?_eq_getElem (by rw [Array.size_modify]; exact hlt), Array.getElem_modify_self, hk]
  rfl
theorem Duo.set2 {W : World} {B : Nat} {t : TypeId} {u v : Value} (h : Duo W B t u v) (u' v' : Value) : Duo ((W.setCell ⟨B, 0, none⟩ u').setCell ⟨B, 1, none⟩ v') B t u' v' := (h.set0 u').set1 v'
theorem Duo.f {W : World} {B : Nat} {t : TypeId} {u v : Value} (h : Duo W B t u v) (j : Nat) : W.frozen? ⟨B, j, none⟩ = false := by simp [World.frozen?, show W.heap[B]? = _ from h]
theorem Duo.below {W W' : World} {B C : Nat} {t : TypeId} {u v : Value} (h : Duo W B t u v) (hb : Below C W W') (hC : B < C) : Duo W' B t u v := (hb.block B hC).trans h
theorem bset2 {w W : World} {B : Nat} (h : Below B w W) {g : Nat} (hg : B ≤ g) (u v : Value) : Below B w ((W.setCell ⟨g, 0, none⟩ u).setCell ⟨g, 1, none⟩ v) := (h.setCell (p := ⟨g, 0, none⟩) hg _).setCell (p := ⟨g, 1, none⟩) hg _
theorem run_out0 (x y : Value) (W : World) : (Instr.field 95 (.agg #[x, y]) 0).run Try.prog W = .ok x W := by
  simp [Instr.field, run_underlying Try.underlying95, asAgg, go_sem]
theorem run_out1 (x y : Value) (W : World) : (Instr.field 95 (.agg #[x, y]) 1).run Try.prog W = .ok y W := by
  simp [Instr.field, run_underlying Try.underlying95, asAgg, go_sem]
/-- The operands of an expression of two, three: what the map says of them. -/
theorem kid_at {w : World} {a : Option Addr} {n c : Nat} {l : List Int} (h : KidR w (.slice a n c) l) {j : Nat} {x : Int} (hx : l[j]? = some x) : ∃ p : Addr, a = some p ∧ w.cell? (p.add j) = some (.int .i64 x) ∧ -9223372036854775808 ≤ x ∧ x ≤ 9223372036854775807 := by
  obtain ⟨a', c', h1, h2, h3⟩ := h
  simp only [Value.slice.injEq] at h1
  obtain ⟨rfl, rfl, rfl⟩ := h1
  obtain ⟨⟨p, p1, p2, p3⟩, p4⟩ := h3 j x hx
  exact ⟨p, p1, p3, p4⟩
theorem kid_len {w : World} {a : Option Addr} {n c : Nat} {l : List Int} (h : KidR w (.slice a n c) l) : n = l.length := by
  obtain ⟨a', c', h1, h2, h3⟩ := h
  simp only [Value.slice.injEq] at h1
  exact h1.2.1
set_option maxHeartbeats 4000000 in
set_option maxRecDepth 100000 in
theorem evaluate_any (x : XE) (kv : Value) (e : EnvL) (sv : Value) (b n : Nat) (G : Int → Int × Int) (w : World) (hk : KidR w kv x.kids) (he : EnvAt w.heap.size w sv e) (hm : ValM w b n G) (ho : (opsX x).isSome = true) (hG : ∀ k ∈ x.kids, W64 (G k).1) :
    Calls Try.prog 34 #[.agg #[.int .i64 x.k, .string (bs x.op), .int .u64 x.n, .string (bs x.s), kv], sv, .map (some b)] w fun q w' => EvPost x e G q ∧ Below w.heap.size w w' := by
  have E : ∀ u v, evX x e G = (u, v) → EvPost x e G (.returned (.agg #[.int .u64 u, .int .i64 v])) := fun u v h => evPost h
  have HE := Lib.hid E
  clear E
  generalize hP : EvPost _ _ _ = P at HE ⊢
  clear hP
  have hv : ∃ a l c, sv = .slice a l c := by obtain ⟨a, c, rfl, _⟩ := he; exact ⟨_, _, _, rfl⟩
  have hkv : ∃ a l c, kv = .slice a l c := by obtain ⟨a, c, rfl, _⟩ := hk; exact ⟨_, _, _, rfl⟩
  have H1 := Lib.hid fun h => kids1 (x := x) ho h
  have H2 := Lib.hid fun h => kids2 (x := x) ho h
  have H3 := Lib.hid (show x.k = 0 ∨ x.k = 1 ∨ x.k = 2 ∨ x.k = 3 from by
    by_cases a : x.k = 0 ∨ x.k = 1
    · omega
    by_cases b : x.k = 2
    · omega
    by_cases c : x.k = 3
    · omega
    unfold opsX at ho
    simp [a, b, c] at ho)
  have HG := Lib.hid hG
  have CG := Lib.hid fun (w' : World) (h : EnvAt w'.heap.size w' sv e) => Get_any sv e x.s w' h
  have CO := Lib.hid fun (u v : Int) (hu : W64 u) (hv : W64 v) (w' : World) => Op_any (bs x.op) u v hu hv w'
  obtain ⟨O, hO⟩ : ∃ O, bs x.op = O := ⟨_, rfl⟩
  obtain ⟨S, hS⟩ : ∃ S, bs x.s = S := ⟨_, rfl⟩
  rw [show (⟨x.s.toArray⟩ : ByteArray) = S from hS] at CG
  rw [show (bs x.op).toList = x.op from by rw [ByteArray.toList_eq]; rfl, hO] at CO
  rw [hO, hS]
  clear hO hS
  have hb1 : Below w.heap.size w ((w.alloc (.cells #[.int .i64 x.k, .string O, .int .u64 x.n, .string S, kv] 83)).alloc (.cells #[.int .u64 0, .int .i64 0] 95)) := ((Below.refl _ _).alloc (Nat.le_refl _) _).alloc (by simp) _
  have K1 := Lib.hid (hk.below hb1)
  have V1 := Lib.hid (hm.below hb1 hm.lt)
  have E1 := Lib.hid (he.below hb1)
  have HB := Lib.hid hb1
  clear hk hm he ho hG hb1
  obtain ⟨sa, sl, sc, rfl⟩ := hv
  obtain ⟨ka, kl, kc, rfl⟩ := hkv
  obtain ⟨k, op, m, s, kids⟩ := x
  simp only at HE K1 V1 E1 HB H1 H2 H3 HG CG CO ⊢
  have D2 := Lib.hid (show Duo ((w.alloc (.cells #[.int .i64 k, .string O, .int .u64 m, .string S, .slice ka kl kc] 83)).alloc (.cells #[.int .u64 0, .int .i64 0] 95)) (w.heap.size + 1) 95 (.int .u64 0) (.int .i64 0) from by
    have := World.alloc_heap_new (w.alloc (.cells #[.int .i64 k, .string O, .int .u64 m, .string S, .slice ka kl kc] 83)) (.cells #[.int .u64 0, .int .i64 0] 95)
    rwa [World.size_alloc] at this)
  have B5 := (Below.heap_alloc (w.alloc (.cells #[.int .i64 k, .string O, .int .u64 m, .string S, .slice ka kl kc] 83)) (.cells #[.int .u64 0, .int .i64 0] 95) w.heap.size (by simp)).trans (World.alloc_heap_new w _)
  have hsz : ((w.alloc (.cells #[.int .i64 k, .string O, .int .u64 m, .string S, .slice ka kl kc] 83)).alloc (.cells #[.int .u64 0, .int .i64 0] 95)).heap.size = w.heap.size + 2 := by simp
  go_enter Try.func34, Try.ntmps34
  go_upto_region 1 with fail
  generalize (w.alloc (.cells #[.int .i64 k, .string O, .int .u64 m, .string S, .slice ka kl kc] 83)).alloc (.cells #[.int .u64 0, .int .i64 0] 95) = W at *
  have B5h := Lib.hid B5
  have c0 : W.cell? ⟨w.heap.size, 0, none⟩ = some (.int .i64 k) := by simp [World.cell?, B5]
  have c1 : W.cell? ⟨w.heap.size, 1, none⟩ = some (.string O) := by simp [World.cell?, B5]
  have c2 : W.cell? ⟨w.heap.size, 2, none⟩ = some (.int .u64 m) := by simp [World.cell?, B5]
  have c3 : W.cell? ⟨w.heap.size, 3, none⟩ = some (.string S) := by simp [World.cell?, B5]
  have c4 : W.cell? ⟨w.heap.size, 4, none⟩ = some (.slice ka kl kc) := by simp [World.cell?, B5]
  have d0 := D2.out.c0
  have d1 := D2.out.c1
  have f0 := D2.out.f 0
  have f1 := D2.out.f 1
  clear B5
  by_cases h0 : k = 0
  · subst h0
    go_wp2_with fail
    have q := D2.out.set2 (.int .u64 m) (.int .i64 0)
    refine bodyPost_ret (v := .agg #[.int .u64 m, .int .i64 0]) (by simp [results, Try.results34, go_sem, q.c0, q.c1]) rfl ⟨HE.out _ _ rfl, bset2 HB.out (Nat.le_succ _) _ _⟩
  by_cases h1 : k = 1
  · subst h1
    have EW : EnvAt W.heap.size W (.slice sa sl sc) e := by
      obtain ⟨a, c, q1, q2, q3⟩ := E1.out
      exact ⟨a, c, q1, q2, fun i x hx => by obtain ⟨k, k1, k2, k3⟩ := q3 i x hx; exact ⟨k, k1, by omega, k3⟩⟩
    have CC := Lib.hid (CG.out W EW)
    clear EW
    cases hg : getE e s with
    | none =>
      rw [hg] at CC
      go_wp2_with (go_at_call 58; refine CC.out.mono ?_; rintro q w2 ⟨rfl, hb2⟩; have q0 := D2.out.below hb2 (by omega); have d0 := q0.c0; have d1 := q0.c1; have f0 := q0.f 0; have f1 := q0.f 1; have Q0 := Lib.hid q0; have HB2 := Lib.hid (HB.out.trans (hb2.mono (by omega))); clear q0 hb2)
      have q := Q0.out.set2 (.int .u64 0) (.int .i64 11)
      refine bodyPost_ret (v := .agg #[.int .u64 0, .int .i64 11]) (by simp [results, Try.results34, go_sem, q.c0, q.c1]) rfl ⟨HE.out _ _ (by unfold evX; simp [hg]), bset2 HB2.out (Nat.le_succ _) _ _⟩
    | some u =>
      rw [hg] at CC
      go_wp2_with (go_at_call 58; refine CC.out.mono ?_; rintro q w2 ⟨rfl, hb2⟩; have q0 := D2.out.below hb2 (by omega); have d0 := q0.c0; have d1 := q0.c1; have f0 := q0.f 0; have f1 := q0.f 1; have Q0 := Lib.hid q0; have HB2 := Lib.hid (HB.out.trans (hb2.mono (by omega))); clear q0 hb2)
      have q := Q0.out.set2 (.int .u64 u) (.int .i64 0)
      refine bodyPost_ret (v := .agg #[.int .u64 u, .int .i64 0]) (by simp [results, Try.results34, go_sem, q.c0, q.c1]) rfl ⟨HE.out _ _ (by unfold evX; simp [hg]), bset2 HB2.out (Nat.le_succ _) _ _⟩
  have ro0 := run_out0
  have ro1 := run_out1
  by_cases h2 : k = 2
  · subst h2
    obtain ⟨k0, rfl⟩ := H1.out rfl
    obtain ⟨p, rfl, ck, r1, r2⟩ := kid_at K1.out (j := 0) rfl
    obtain rfl := kid_len K1.out
    rw [show p.add 0 = p from rfl] at ck
    have LK := V1.out.look ⟨r1, r2⟩
    by_cases hE : (G k0).2 = 0
    · go_wp2_with fail
      refine wp_loop_rounds 2 ?_
      rw [rounds_succ]
      go_wp2_with fail
      rw [rounds_succ]
      go_wp2_with (go_at_call 42; refine (Truth_any _ _).mono ?_; rintro q w2 ⟨rfl, rfl⟩)
      have q := D2.out.set2 (.int .u64 (truthV ((G k0).1 == 0))) (.int .i64 0)
      refine bodyPost_ret (v := .agg #[.int .u64 (truthV ((G k0).1 == 0)), .int .i64 0]) (by simp [results, Try.results34, go_sem, q.c0, q.c1]) rfl ⟨HE.out _ _ (by unfold evX; simp [hE]; rfl), bset2 HB.out (Nat.le_succ _) _ _⟩
    · go_wp2_with fail
      refine wp_loop_rounds 2 ?_
      rw [rounds_succ]
      go_wp2_with fail
      have q := D2.out.set2 (.int .u64 (G k0).1) (.int .i64 (G k0).2)
      refine bodyPost_ret (v := .agg #[.int .u64 (G k0).1, .int .i64 (G k0).2]) (by simp [results, Try.results34, go_sem, q.c0, q.c1]) rfl ⟨HE.out _ _ (by unfold evX; simp [hE]), bset2 HB.out (Nat.le_succ _) _ _⟩
  by_cases h3 : k = 3
  · subst h3
    obtain ⟨k0, k1, rfl⟩ := H2.out rfl
    obtain ⟨p, rfl, ck, r1, r2⟩ := kid_at K1.out (j := 0) rfl
    obtain ⟨p', hp', ck1, r3, r4⟩ := kid_at K1.out (j := 1) rfl
    cases hp'
    obtain rfl := kid_len K1.out
    rw [show p.add 0 = p from rfl] at ck
    rw [show p.add 1 = ⟨p.block, p.off + 1, none⟩ from rfl] at ck1
    have LK := V1.out.look ⟨r1, r2⟩
    have LJ := V1.out.look ⟨r3, r4⟩
    by_cases hE : (G k0).2 = 0
    · by_cases hF : (G k1).2 = 0
      · have CP : Hid (∀ w', Calls Try.prog 22 #[.string O, .int .u64 (G k0).1, .int .u64 (G k1).1] w' fun q w'' => q = .returned (.tuple #[.int .u64 (opR op (G k0).1 (G k1).1).1, .int .i64 (opR op (G k0).1 (G k1).1).2]) ∧ w' = w'') := Lib.hid fun w' => CO.out _ _ (HG.out k0 (by simp)) (HG.out k1 (by simp)) w'
        go_wp2_with fail
        refine wp_loop_rounds 3 ?_
        rw [rounds_succ]
        go_wp2_with fail
        rw [rounds_succ]
        go_wp2_with fail
        rw [rounds_succ]
        go_wp2_with fail
        have LE : ∀ n, (Instr.lookup 93 (.map (some b)) (.int .i64 k1) false).run Try.prog (W.drewN n) = .ok (.agg #[.int .u64 (G k1).1, .int .i64 (G k1).2]) (W.drewN n) := fun i => (show ValM (W.drewN i) b n G from V1.out).look (k := k1) ⟨r3, r4⟩
        refine wp_region_quiet_lit (by kernel_rfl) (by kernel_rfl) ?_
        iterate 10 (with_reducible refine wpQuiet_step (fun K hK => ?_); go_simp; with_reducible refine hK _ ?_; clear hK K)
        with_reducible refine wpQuiet_step (fun K hK => ?_)
        go_simp
        refine ⟨_, fun a => (CP.out _).mono (fun q w'' h => ⟨h.1, a, h.2.symm⟩), hK _ ?_⟩
        clear hK K
        iterate 5 (with_reducible refine wpQuiet_step (fun K hK => ?_); go_simp; with_reducible refine hK _ ?_; clear hK K)
        refine wpQuiet_nil ?_
        intro _ hw'
        obtain ⟨nq, hw''⟩ := hw'
        subst hw''
        go_wp2_with fail
        have q := (show Duo (W.drewN nq) _ _ _ _ from D2.out).set2 (.int .u64 (opR op (G k0).1 (G k1).1).1) (.int .i64 (opR op (G k0).1 (G k1).1).2)
        refine bodyPost_ret (v := .agg #[.int .u64 (opR op (G k0).1 (G k1).1).1, .int .i64 (opR op (G k0).1 (G k1).1).2]) (by simp [results, Try.results34, go_sem, q.c0, q.c1]) rfl ⟨HE.out _ _ (by unfold evX; simp [hE, hF]), bset2 (bdrewN HB.out nq) (Nat.le_succ _) _ _⟩
      · go_wp2_with fail
        refine wp_loop_rounds 3 ?_
        rw [rounds_succ]
        go_wp2_with fail
        rw [rounds_succ]
        go_wp2_with fail
        have q := D2.out.set2 (.int .u64 (G k1).1) (.int .i64 (G k1).2)
        refine bodyPost_ret (v := .agg #[.int .u64 (G k1).1, .int .i64 (G k1).2]) (by simp [results, Try.results34, go_sem, q.c0, q.c1]) rfl ⟨HE.out _ _ (by unfold evX; simp [hE, hF]), bset2 HB.out (Nat.le_succ _) _ _⟩
    · go_wp2_with fail
      refine wp_loop_rounds 3 ?_
      rw [rounds_succ]
      go_wp2_with fail
      have q := D2.out.set2 (.int .u64 (G k0).1) (.int .i64 (G k0).2)
      refine bodyPost_ret (v := .agg #[.int .u64 (G k0).1, .int .i64 (G k0).2]) (by simp [results, Try.results34, go_sem, q.c0, q.c1]) rfl ⟨HE.out _ _ (by unfold evX; simp [hE]), bset2 HB.out (Nat.le_succ _) _ _⟩
  exact absurd (H3.out) (by simp [h0, h1, h2, h3])
end Go.Proofs.Ytoengahfkfmfeaa
