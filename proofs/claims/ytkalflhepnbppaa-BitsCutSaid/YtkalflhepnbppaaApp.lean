/- 'append' of the cells of a slice onto a slice of the call's own, at a step of a region that draws its order; integers. No program. -/
import Derived.Test.YtkalflhepnbppaaRd
import Derived.RegionTactic
namespace Go.Proofs.Ytkalflhepnbppaa
open Go.RowKit
set_option linter.unusedVariables false

/-- What is read from the address on. -/
def Src (k : IntKind) (w : World) (x : Addr) (l : List Int) : Prop := ∀ j, j < l.length → w.cell? (x.add j) = some (.int k (el l j))
theorem Src.of_rd {k : IntKind} {w : World} {x : Addr} {l : List Int} (h : Rd k w (some x) l) : Src k w x l := fun j hj => by
  obtain ⟨y, hy, _, hc⟩ := h.at_ hj
  obtain rfl : x = y := by simpa using hy
  exact hc
theorem Src.take {k : IntKind} {w : World} {x : Addr} {l : List Int} (h : Src k w x l) (n : Nat) : Src k w x (l.take n) := fun j hj => by
  rw [List.length_take] at hj
  rw [h j (by omega), show el (l.take n) j = el l j from by simp [el, show j < n from by omega]]
theorem Src.drop {k : IntKind} {w : World} {x : Addr} {l : List Int} (h : Src k w x l) (n : Nat) : Src k w (x.add n) (l.drop n) := fun j hj => by
  rw [List.length_drop] at hj
  rw [add_add, h _ (by omega)]
  simp [el]
theorem Src.void {k : IntKind} {w : World} {x : Addr} {l : List Int} (h : l.length = 0) : Src k w x l := fun j hj => absurd hj (by omega)
theorem Src.lit {k : IntKind} {w : World} {t : TypeId} (l : List Int) {H : Nat} (hH : H = w.heap.size) : Src k (w.alloc (.cells (l.map (Value.int k)).toArray t)) ⟨H, 0, none⟩ l := fun j hj => by
  subst hH
  rw [show (⟨w.heap.size, 0, none⟩ : Addr).add j = ⟨w.heap.size, j, none⟩ from by unfold Addr.add; split <;> simp_all, cell_of_row _ _ _ _ _ (0, 0) (heap_alloc_new w _)]
  simp [el, hj]
theorem Src.below {k : IntKind} {w w' : World} {x : Addr} {l : List Int} (h : Src k w x l) (hx : l.length = 0 ∨ x.block < w.heap.size) (hb : Below w.heap.size w w') : Src k w' x l := fun j hj => by
  rw [hb.cell (by rw [block_add]; omega)]; exact h j hj

theorem step_app {P : Program} (w : World) {ops : Array Oper} {o : Oper} {a : Act} {K : Act → World → Prop} {Q : Exit → Act → World → Prop} {F : Prop} (hgd : o.guard = none) (s x : Operand) (t : TypeId)
    (ho : o.op = .call { callee := .builtin .append, args := #[s, x], argTypes := #[t, t] })
    (B : Nat) (e : TypeId) (i : TypeInfo) (z : Value) (bytes : Nat) (ht : P.underlying t = some (.slice e)) (hi : P.info? e = some i) (hz : i.zero = some z)
    (hsize : i.size = 1) (hby : i.bytes = bytes) (hzs : z.cells.size = 1)
    (kk : IntKind) (v : Value) (xs : List Int) (hs : a.eval s = v) (hown : Own e kk B w v xs)
    (ad : Addr) (m c : Nat) (news : List Int) (hx : a.eval x = .slice (some ad) m c) (hm : m = news.length) (hnews : Src kk w ad news)
    (h63 : xs.length + news.length ≤ maxLen) (hbytes : (xs.length + news.length) * bytes ≤ 140737488355328) (hbase : B ≤ w.heap.size)
    (h : ∀ v' w', Own e kk B w' v' (xs ++ news) → Below B w w' → (v = .slice none 0 0 → Below w.heap.size w w') → K (a.put o.dst v') w') :
    if Region.wanted o (yielded ops a.tmps) = true then Oper.wp P o a w K Q else F := by
  have hw : Region.wanted o (yielded ops a.tmps) = true := by simp [Region.wanted, hgd]
  rw [if_pos hw]
  subst hm
  obtain ⟨v', w', hr, h2, h3, _, _⟩ := run_append_own_at (P := P) w B t o.type e i z 1 bytes ht hi hz hsize hby hzs (by decide) v xs.length (xs.map (Value.int kk)) hown ad news.length c (news.map (Value.int kk)) (by simp)
    (fun j u hu => by
      rw [List.getElem?_map] at hu
      obtain ⟨y, hy, rfl⟩ := Option.map_eq_some_iff.1 hu
      have hj : j < news.length := (List.getElem?_eq_some_iff.1 hy).1
      rw [hnews j hj]
      simp [el, hy])
    (by intro u hu; obtain ⟨y, _, rfl⟩ := List.mem_map.1 hu; rfl) h63 hbytes hbase
  have hg : ∀ g, v.ownBlock = some g → B ≤ g := fun g hg => (hown.lt g hg).1
  have hK := h v' w' (Own.of h2 (by simp) (by simp)) ((Below.refl B w).grown h3 hbase hg) (fun hv => (Below.refl _ w).grown h3 (Nat.le_refl _) (by rw [hv]; simp [Value.ownBlock]))
  unfold Oper.wp execOp
  simp only [ho, resolve, invoke, builtin, Sem.run_bind, Sem.run_pure, Result.andThen_ok, List.map_toArray, List.map_cons, List.map_nil, hs, hx, hr]
  exact hK

end Go.Proofs.Ytkalflhepnbppaa
