/- Layer 10: the law's environments. -/
import Derived.Test.YtomimkgaelkaoaaGreatDoorC12ExW
set_option linter.unusedVariables false
set_option linter.unusedSimpArgs false
namespace Go.Proofs.YtomimkgaelkaoaaGreatDoor
open Go.Lib (hid)
open Go.ChangeShapes Go.WideShapes Go.ChangeAt Go.RowKit
def ArgV (w : World) (a : Option Addr) (c : Nat) (l : EnvL) : Prop :=
 l.length ≤ c ∧ c ≤ maxLen ∧ ∀ (i : Nat) x, l[i]? = some x → W64 x.2 ∧ ∃ p : Addr, a = some p ∧ p.block < w.heap.size ∧ w.cell? (p.add (i * 2)) = some (.string ⟨x.1.toArray⟩) ∧ w.cell? (p.add (i * 2 + 1)) = some (.int .u64 x.2)
theorem ArgV.below {w w' : World} {a : Option Addr} {c : Nat} {l : EnvL} (h : ArgV w a c l) (hb : Below w.heap.size w w') : ArgV w' a c l := by
 obtain ⟨h1, h2, h3⟩ := h
 refine ⟨h1, h2, fun i x hx => ?_⟩
 obtain ⟨q0, p, q1, q2, q3, q4⟩ := h3 i x hx
 exact ⟨q0, p, q1, Nat.lt_of_lt_of_le q2 hb.size, (hb.cell (by rw [addr_block]; exact q2)).trans q3, (hb.cell (by rw [addr_block]; exact q2)).trans q4⟩
def EnvD (B : Nat) (w : World) (v : Value) (e : EnvL) : Prop := w.ownsRow B 164 2 v e.length (e.flatMap vaC)
theorem ex_info_dvar : (Tryz.prog.info? 164).map (fun i => (i.zero, i.size, i.bytes)) = some (some (.agg #[.string ⟨#[]⟩, .int .u64 0]), 2, 24) := by kernel_rfl
theorem flat_take (l : EnvL) {i : Nat} {x : List UInt8 × Int} (h : l[i]? = some x) : (l.take (i + 1)) = l.take i ++ [x] := by rw [List.take_add_one, h]; rfl
theorem step_row {P : Program} (w : World) {ops : Array Oper} {o : Oper} {a : Act} {K : Act → World → Prop} {Q : Exit → Act → World → Prop} {F : Prop} (hgd : o.guard = none) (s x : Operand) (t : TypeId)
  (ho : o.op = .call { callee := .builtin .append, args := #[s, x], argTypes := #[t, t] })
  (B : Nat) (e : TypeId) (i : TypeInfo) (z : Value) (size bytes : Nat) (ht : P.underlying t = some (.slice e)) (hi : P.info? e = some i) (hz : i.zero = some z)
  (hsize : i.size = size) (hby : i.bytes = bytes) (hzs : z.cells.size = size) (hpos : 0 < size)
  (v : Value) (n : Nat) (xs : List Value) (hs : a.eval s = v) (hown : w.ownsRow B e size v n xs)
  (H c : Nat) (news : List Value) (hx : a.eval x = .slice (some ⟨H, 0, none⟩) 1 c) (hl : news.length = size) (hh : w.heap[H]? = some (.cells news.toArray e (0, 0))) (h1 : ∀ u ∈ news, u.oneCell' = true)
  (h63 : n + 1 ≤ maxLen) (hbytes : (n + 1) * bytes ≤ 140737488355328) (hbase : B ≤ w.heap.size)
  (h : ∀ v' w', w'.ownsRow B e size v' (n + 1) (xs ++ news) → w.grownBy w' v.ownBlock → K (a.put o.dst v') w') :
  if Region.wanted o (yielded ops a.tmps) = true then Oper.wp P o a w K Q else F := by
 have hw : Region.wanted o (yielded ops a.tmps) = true := by simp [Region.wanted, hgd]
 rw [if_pos hw]
 obtain ⟨v', w', hr, h2, h3, _, h5⟩ := run_append_own_at (P := P) w B t o.type e i z size bytes ht hi hz hsize hby hzs hpos v n xs hown ⟨H, 0, none⟩ 1 c news (by omega)
  (fun j u hu => by
   rw [show (⟨H, 0, none⟩ : Addr).add j = ⟨H, j, none⟩ from by unfold Addr.add; split <;> simp_all, cell_of_row _ _ _ _ _ (0, 0) hh]
   simpa using hu) h1 h63 hbytes hbase
 have hK := h v' w' h2 h3
 unfold Oper.wp execOp
 simp only [ho, resolve, invoke, builtin, Sem.run_bind, Sem.run_pure, Result.andThen_ok, List.map_toArray, List.map_cons, List.map_nil, hs, hx, hr]
 exact hK
theorem heap_fst (w : World) (A B : Obj) : ((w.alloc A).alloc B).heap[w.heap.size]? = some A := (Below.heap_alloc _ _ _ (by simp)).trans (World.alloc_heap_new _ _)
theorem heap_snd (w : World) (A B : Obj) : ((w.alloc A).alloc B).heap[w.heap.size + 1]? = some B := by
 have := World.alloc_heap_new (w.alloc A) B
 rwa [World.size_alloc] at this
theorem own_ne {w : World} {B B' : Nat} {e e' : TypeId} {s s' : Nat} {v v' : Value} {n n' : Nat} {xs xs' : List Value} (h : w.ownsRow B e s v n xs) (h' : w.ownsRow B' e' s' v' n' xs') (hne : e ≠ e') : v.ownBlock = none ∨ v.ownBlock ≠ v'.ownBlock := by
 rcases h.2 with ⟨rfl, _⟩ | ⟨g, cap, cur, rfl, _, hg, _⟩
 ·exact .inl rfl
 ·rcases h'.2 with ⟨rfl, _⟩ | ⟨g', cap', cur', rfl, _, hg', _⟩
  ·exact .inr (by simp [Value.ownBlock])
  ·refine .inr fun q => ?_
   simp [Value.ownBlock] at q
   subst q
   rw [hg] at hg'
   cases hg'
   exact hne rfl
theorem env_snoc {B : Nat} {w : World} {v : Value} {l : EnvL} {i : Nat} {x : List UInt8 × Int} (hq : (l.take i).length = i) (hx : l[i]? = some x) (h : w.ownsRow B 85 2 v (i + 1) ((l.take i).flatMap vaC ++ [.string ⟨x.1.toArray⟩, .int .u64 x.2])) : EnvO B w v (l.take (i + 1)) := by
 unfold EnvO
 rw [flat_take l hx, List.flatMap_append, List.length_append, hq]
 exact h
theorem envD_snoc {B : Nat} {w : World} {v : Value} {l : EnvL} {i : Nat} {x : List UInt8 × Int} (hq : (l.take i).length = i) (hx : l[i]? = some x) (h : w.ownsRow B 164 2 v (i + 1) ((l.take i).flatMap vaC ++ [.string ⟨x.1.toArray⟩, .int .u64 x.2])) : EnvD B w v (l.take (i + 1)) := by
 unfold EnvD
 rw [flat_take l hx, List.flatMap_append, List.length_append, hq]
 exact h
theorem ownsRow_below {w w' : World} {B : Nat} {e : TypeId} {size : Nat} {v : Value} {n : Nat} {xs : List Value} (h : w.ownsRow B e size v n xs) (hb : Below w.heap.size w w') : w'.ownsRow B e size v n xs := by
 have hl := World.ownsRow.lt h
 obtain ⟨h1, h2⟩ := h
 refine ⟨h1, ?_⟩
 rcases h2 with h2 | ⟨g', cap', cur, rfl, hg, hh, r⟩
 ·exact Or.inl h2
 ·exact Or.inr ⟨g', cap', cur, rfl, hg, (hb.block g' (hl g' rfl).2).trans hh, r⟩
set_option maxHeartbeats 4000000 in
set_option maxRecDepth 100000 in
theorem envs_any (a : Option Addr) (c : Nat) (l : EnvL) (w : World) (h : ArgV w a c l) :
  Calls Tryz.prog 24 #[.slice a l.length c] w fun q w' => ∃ v1 v2, q = .returned (.tuple #[v1, v2]) ∧ EnvO w.heap.size w' v1 (l.take 20) ∧ EnvD w.heap.size w' v2 (l.take 20) ∧ Below w.heap.size w w' := by
 obtain ⟨i0, hi, hz0, hz1, hz2⟩ := info_parts ex_info_var
 obtain ⟨j0, hj, hy0, hy1, hy2⟩ := info_parts ex_info_dvar
 have hlc := h.1
 have hcm := h.2.1
 have H := hid h
 clear h
 replace hcm : c ≤ 9223372036854775807 := by unfold maxLen at hcm; omega
 obtain ⟨m, hm⟩ : ∃ m : Nat, (l.take 20).length = m := ⟨_, rfl⟩
 have hm2 : m = min 20 l.length := by rw [← hm, List.length_take]
 have hmin : min (l.length : Int) 20 = (m : Int) := by omega
 have hmax : max (m : Int) 0 = (m : Int) := by omega
 have hm20 : (m : Int) ≤ 20 := by omega
 have hml : (m : Int) ≤ (l.length : Int) := by omega
 have HM := hid hm
 have HM2 := hid hm2
 clear hm hm2
 go_enter Tryz.func24, Tryz.ntmps24
 go_wp2_with fail
 go_loopw [4, 5, 14] (fun s4 s5 s14 wr => ∃ (i : Nat), s14 = .int .i64 i ∧ i ≤ m ∧ EnvO w.heap.size wr s4 (l.take i) ∧ EnvD w.heap.size wr s5 (l.take i) ∧ Below w.heap.size w wr) (fun s4 s5 s14 _ => m - (intOf s14).toNat)
 case atStart => exact ⟨0, rfl, Nat.zero_le _, World.ownsRow_nil w _ _ _, World.ownsRow_nil w _ _ _, Below.refl _ _⟩
 case round =>
  obtain ⟨i, rfl, him, hO, hD, hB⟩ := hrel
  have hqi : (l.take i).length = i := by rw [List.length_take]; have := HM2.out; omega
  unfold EnvO at hO
  unfold EnvD at hD
  rw [hqi] at hO hD
  obtain ⟨va, vc, rfl⟩ := ownsRow_shape hO
  obtain ⟨ua, uc, rfl⟩ := ownsRow_shape hD
  by_cases hi2 : i < m
  ·obtain ⟨x, hx⟩ : ∃ x, l[i]? = some x := ⟨_, List.getElem?_eq_getElem (by have := HM2.out; omega)⟩
   obtain ⟨q0, p, rfl, q2, k0, k1⟩ := H.out.2.2 i x hx
   replace k0 := (hB.cell (by rw [addr_block]; exact q2)).trans k0
   replace k1 := (hB.cell (by rw [addr_block]; exact q2)).trans k1
   rw [← Addr.add_add] at k1
   replace k1 : wr.cell? ⟨(p.add (i * 2)).block, (p.add (i * 2)).off + 1, none⟩ = some (.int .u64 x.2) := k1
   have hx0 := World.alloc_heap_new wr (.cells #[.string ⟨x.1.toArray⟩, .int .u64 x.2] 163)
   have hi2' : (i : Int) < (m : Int) := by omega
   have hil : (i : Int) < (l.length : Int) := by omega
   have HO := hid hO
   have HD := hid hD
   have HB := hid hB
   have HQ := hid hqi
   clear hO hD hB hqi
   have hB5 := (Below.refl wr.heap.size wr).alloc (Nat.le_refl _) (.cells #[.string ⟨x.1.toArray⟩, .int .u64 x.2] 163)
   have HO5 := hid (ownsRow_below HO.out hB5)
   have HD5 := hid (ownsRow_below HD.out hB5)
   have HB5 := hid (HB.out.trans (hB5.mono HB.out.size))
   have HBW := hid hB5
   have hbx : wr.heap.size < (wr.alloc (.cells #[.string ⟨x.1.toArray⟩, .int .u64 x.2] 163)).heap.size := by simp
   clear hB5
   go_wp2_with fail
   generalize wr.alloc (.cells #[.string ⟨x.1.toArray⟩, .int .u64 x.2] 163) = W at *
   have d0 := (show Duo _ _ _ _ _ from hx0).c0
   have d1 := (show Duo _ _ _ _ _ from hx0).c1
   have hn1 : i + 1 ≤ maxLen := by unfold maxLen; omega
   have hn2 : (i + 1) * 24 ≤ 140737488355328 := by omega
   have hone : ∀ u ∈ [Value.string ⟨x.1.toArray⟩, .int .u64 x.2], u.oneCell' = true := by intro u hu; simp at hu; rcases hu with rfl | rfl <;> rfl
   have n1 := own_ne HO5.out HD5.out (by decide)
   have n2 := own_ne HD5.out HO5.out (by decide)
   have hsW := HB5.out.size
   have la := World.ownsRow.lt HO.out
   have lb := World.ownsRow.lt HD.out
   go_region_law (first
    | (refine step_row _ (by rfl) (.tmp 18) (.tmp 20) 69 (by rfl) w.heap.size 85 i0 _ 2 24 Tryz.underlying69 hi hz0 hz1 hz2 rfl (by decide) (.slice va i vc) i ((l.take i).flatMap vaC) (by rfl) (by first | exact World.ownsRow.alloc HO5.out _ | exact World.ownsRow.alloc (World.ownsRow.alloc HO5.out _) _ | exact World.ownsRow.kept (World.ownsRow.drew (World.ownsRow.alloc (World.ownsRow.alloc HO5.out _) _)) hgrow2 n1 | exact World.ownsRow.alloc (World.ownsRow.kept (World.ownsRow.drew (World.ownsRow.alloc HO5.out _)) hgrow2 n1) _) _ _ [.string ⟨x.1.toArray⟩, .int .u64 x.2] (by rfl) rfl (by first | exact World.alloc_heap_new _ _ | exact heap_fst _ _ _ | exact heap_snd _ _ _ | exact (hgrow2.block _ (by first | (simp; done) | (simp; omega)) (fun q => by have := (lb _ q.symm).2; omega)).trans (heap_fst _ _ _) | exact (hgrow2.block _ (by first | (simp; done) | (simp; omega)) (fun q => by have := (lb _ q.symm).2; omega)).trans (heap_snd _ _ _)) hone hn1 hn2 (by first | exact hsW | (simp; omega) | (have := hgrow2.size; simp at *; omega)) ?_; intro v1 w1 hown1 hgrow1; obtain ⟨a1, c1, rfl⟩ := ownsRow_shape hown1; have bx1 : w1.heap[wr.heap.size]? = some (.cells #[.string ⟨x.1.toArray⟩, .int .u64 x.2] 163 (0, 0)) := (hgrow1.block wr.heap.size (by first | (simp; omega) | (have := hgrow2.size; simp at *; omega)) (fun q => by have := (la _ q.symm).2; omega)).trans (by first | exact (Below.heap_alloc _ _ _ hbx).trans hx0 | exact (Below.heap_alloc _ _ _ (by simp; omega)).trans ((Below.heap_alloc _ _ _ hbx).trans hx0) | exact bx2 | exact (Below.heap_alloc _ _ _ (by have := hgrow2.size; simp at *; omega)).trans bx2); (try (have ub1 : w1.ownsRow w.heap.size 164 2 (.slice ua i uc) i ((l.take i).flatMap vaC) := (by first | exact World.ownsRow.kept (World.ownsRow.drew (World.ownsRow.alloc HD5.out _)) hgrow1 n2 | exact World.ownsRow.kept (World.ownsRow.drew (World.ownsRow.alloc (World.ownsRow.alloc HD5.out _) _)) hgrow1 n2))); have B1 : Below w.heap.size w w1 := Below.grown (by first | exact (HB5.out.alloc hsW _).drew | exact ((HB5.out.alloc hsW _).alloc (by simp; omega) _).drew | exact B2 | exact B2.alloc B2.size _) hgrow1 (by first | exact B2.size | (simp; omega) | (have := B2.size; simp; omega)) (fun g hg => (la g hg).1); have by1 := (show Duo _ _ _ _ _ from bx1).c0; have bz1 := (show Duo _ _ _ _ _ from bx1).c1)
    | (refine step_row _ (by rfl) (.tmp 22) (.tmp 24) 70 (by rfl) w.heap.size 164 j0 _ 2 24 Tryz.underlying70 hj hy0 hy1 hy2 rfl (by decide) (.slice ua i uc) i ((l.take i).flatMap vaC) (by rfl) (by first | exact World.ownsRow.alloc HD5.out _ | exact World.ownsRow.alloc (World.ownsRow.alloc HD5.out _) _ | exact World.ownsRow.kept (World.ownsRow.drew (World.ownsRow.alloc (World.ownsRow.alloc HD5.out _) _)) hgrow1 n2 | exact World.ownsRow.alloc (World.ownsRow.kept (World.ownsRow.drew (World.ownsRow.alloc HD5.out _)) hgrow1 n2) _) _ _ [.string ⟨x.1.toArray⟩, .int .u64 x.2] (by rfl) rfl (by first | exact World.alloc_heap_new _ _ | exact heap_fst _ _ _ | exact heap_snd _ _ _ | exact (hgrow1.block _ (by first | (simp; done) | (simp; omega)) (fun q => by have := (la _ q.symm).2; omega)).trans (heap_fst _ _ _) | exact (hgrow1.block _ (by first | (simp; done) | (simp; omega)) (fun q => by have := (la _ q.symm).2; omega)).trans (heap_snd _ _ _)) hone hn1 hn2 (by first | exact hsW | (simp; omega) | (have := hgrow1.size; simp at *; omega)) ?_; intro v2 w2 hown2 hgrow2; obtain ⟨a2, c2, rfl⟩ := ownsRow_shape hown2; have bx2 : w2.heap[wr.heap.size]? = some (.cells #[.string ⟨x.1.toArray⟩, .int .u64 x.2] 163 (0, 0)) := (hgrow2.block wr.heap.size (by first | (simp; omega) | (have := hgrow1.size; simp at *; omega)) (fun q => by have := (lb _ q.symm).2; omega)).trans (by first | exact (Below.heap_alloc _ _ _ hbx).trans hx0 | exact (Below.heap_alloc _ _ _ (by simp; omega)).trans ((Below.heap_alloc _ _ _ hbx).trans hx0) | exact bx1 | exact (Below.heap_alloc _ _ _ (by have := hgrow1.size; simp at *; omega)).trans bx1); (try (have va2 : w2.ownsRow w.heap.size 85 2 (.slice va i vc) i ((l.take i).flatMap vaC) := (by first | exact World.ownsRow.kept (World.ownsRow.drew (World.ownsRow.alloc HO5.out _)) hgrow2 n1 | exact World.ownsRow.kept (World.ownsRow.drew (World.ownsRow.alloc (World.ownsRow.alloc HO5.out _) _)) hgrow2 n1))); have B2 : Below w.heap.size w w2 := Below.grown (by first | exact (HB5.out.alloc hsW _).drew | exact ((HB5.out.alloc hsW _).alloc (by simp; omega) _).drew | exact B1 | exact B1.alloc B1.size _) hgrow2 (by first | exact B1.size | (simp; omega) | (have := B1.size; simp; omega)) (fun g hg => (lb g hg).1); have by2 := (show Duo _ _ _ _ _ from bx2).c0; have bz2 := (show Duo _ _ _ _ _ from bx2).c1))
   all_goals
    go_wp2_with fail
    refine ⟨⟨i + 1, by go_num, by omega, ?_, ?_, ?_⟩, by simp [intOf]; omega⟩
    ·refine env_snoc HQ.out hx ?_
     first | exact hown1 | exact World.ownsRow.kept hown1 hgrow2 (own_ne hown1 ub1 (by decide)) | exact World.ownsRow.kept (World.ownsRow.alloc hown1 _) hgrow2 (own_ne hown1 ub1 (by decide))
    ·refine envD_snoc HQ.out hx ?_
     first | exact hown2 | exact World.ownsRow.kept hown2 hgrow1 (own_ne hown2 va2 (by decide)) | exact World.ownsRow.kept (World.ownsRow.alloc hown2 _) hgrow1 (own_ne hown2 va2 (by decide))
    ·first | exact B2 | exact B1
  ·obtain rfl : i = m := by omega
   have e1 : l.take i = l.take 20 := by
    have := HM2.out
    rcases Nat.le_total 20 l.length with h1 | h1
    ·rw [show i = 20 from by omega]
    ·rw [show i = l.length from by omega, List.take_length, List.take_of_length_le h1]
   rw [e1] at hO hD hqi
   have hO' : EnvO w.heap.size wr (.slice va i vc) (l.take 20) := by unfold EnvO; rw [hqi]; exact hO
   have hD' : EnvD w.heap.size wr (.slice ua i uc) (l.take 20) := by unfold EnvD; rw [hqi]; exact hD
   have HO := hid hO'
   have HD := hid hD'
   have HB := hid hB
   clear hO hD hB e1 hO' hD' hqi
   have hi2' : ¬ ((i : Int) < (i : Int)) := by omega
   go_wp2_with fail
   go_ret2
   exact ⟨_, _, rfl, HO.out, HD.out, HB.out⟩
end Go.Proofs.YtomimkgaelkaoaaGreatDoor
