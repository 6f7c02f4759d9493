/- Layer 6: what the rows' conditions give the walks. -/
import Derived.Test.YtioddoojjmeknaaDoorRows
import Derived.Test.YtioddoojjmeknaaDoorLexN
import Derived.Shelf.Vars
import Derived.Stop.LaidErr
import Derived.OpenShut
import Derived.MakeChecks
namespace Go.Proofs.YtioddoojjmeknaaDoor
open Go.ChangeShapes Go.WideShapes Go.ChangeAt Go.RowKit
set_option linter.unusedVariables false

theorem star : "*errors.errorString" = "*" ++ "errors.errorString" := by decide
theorem row_err (u : TypeId) (h : Tryd.prog.typeName? 3 u = some "*errors.errorString") : u = 122 :=
  typeName_ptr_named (nm := "errors.errorString") (by rw [← star]; kernel_rfl) (by kernel_rfl) (by decide) u (by rw [← star]; exact h)

theorem signs_of_trod {H : Type} {enc : TypeId × Value → H} {w : World} {base : Nat} {sp : Nat → Bool} {held : Bool} {fuel : Nat} {cs : List Value} {p : List MemPlace}
    (h : DataW.trod enc Tryd.prog w base sp held fuel 75 cs = some (Rows.laid_calliper_lex_signs, p)) : cs.toArray = sgA := by
  obtain ⟨xs, m, rfl, hx, hlen, hn, hel⟩ := DataW.trod_array Tryd.underlying75 h
  have c1 : Tryd.prog.cellsOf 9 = 1 := by kernel_rfl
  have c29 : Tryd.prog.cellsOf 75 = 29 := by kernel_rfl
  rw [c29] at hlen
  have hd : Rows.laid_calliper_lex_signs (H := H) = .agg (sgs.map fun g => .lit (.string g)) := rfl
  rw [hd] at hx
  simp only [Prod.mk.injEq, DataW.agg.injEq] at hx
  have e : cs = sgs.map fun g => Value.string (bs g) := by
    apply List.ext_getElem?
    intro i
    by_cases hi : i < 29
    · have h1 := hel i hi
      rw [c1, Nat.mul_one] at h1
      have hxi : i < xs.length := by omega
      rw [List.getElem?_eq_getElem hxi] at h1
      obtain ⟨s, e1, e2, _⟩ := DataW.trod_string Tryd.underlying9 h1
      have h2 : cs[i]? = some (.string s) := by
        have := congrArg (·[0]?) e1
        simpa [List.getElem?_take, List.getElem?_drop] using this
      have h3 : (xs.map (·.1))[i]? = some (.lit (.string s.data.toList)) := by rw [List.getElem?_map, List.getElem?_eq_getElem hxi, e2]; rfl
      rw [← hx.1, List.getElem?_map] at h3
      obtain ⟨g, hg, hgs⟩ := Option.map_eq_some_iff.1 h3
      simp only [DataW.lit.injEq, Lit.string.injEq] at hgs
      rw [h2, List.getElem?_map, hg, Option.map_some, hgs, bs_of]
    · rw [List.getElem?_eq_none (by omega), List.getElem?_eq_none (by rw [List.length_map, show sgs.length = 29 from rfl]; omega)]
  rw [e]
  rfl

theorem env_of {W : World} {r0 r1 r2 r3 r5 : String × DataW Unit} {rest : List (String × DataW Unit)} (hsh : W.ShapedOpen Tryd.prog)
    (h : laidMet Tryd.prog (r0 :: r1 :: r2 :: r3 :: ("strconv.ErrRange", Rows.laid_strconv_ErrRange) :: r5 :: ("calliper/lex.signs", Rows.laid_calliper_lex_signs) :: rest) W) : Env W := by
  refine ⟨?_, ?_, ?_⟩
  · obtain ⟨ps, ⟨g0, t0, cs0, f0, p0, q0, hg0, ht0, hv0, hd0, _, _⟩, _⟩ := h.tail.tail.tail.tail.tail.tail
    obtain rfl := Option.some.inj ((show Tryd.prog.globalNamed "calliper/lex.signs" = some 0 by kernel_rfl).symm.trans hg0)
    obtain rfl := Option.some.inj ((show (Tryd.prog.globals[0]?).map (·.type) = some 75 by kernel_rfl).symm.trans ht0)
    have hc := signs_of_trod hd0
    simp only [World.var?, hg0, Option.bind_some] at hv0
    split at hv0
    · rename_i c t fr hh
      obtain rfl : c = cs0 := by simpa using hv0
      refine ⟨t, fr, ?_⟩
      rw [hh, ← hc]
    · cases hv0
  · exact cell_of_shapedOpen_int (zero := #[.int .i64 0]) (t := 3) hsh (of_decide_eq_true (by kernel_rfl)) (by kernel_rfl) rfl (by kernel_rfl) (by kernel_rfl) Tryd.underlying3
  · obtain ⟨a0, s0, hv, _⟩ := laid_sentinel h.tail.tail.tail.tail (show Tryd.prog.globalNamed "strconv.ErrRange" = some 5 by kernel_rfl) (show (Tryd.prog.globals[5]?).map (·.type) = some 69 by kernel_rfl)
      Tryd.underlying69 row_err Tryd.underlying122 Tryd.underlying124 rfl rfl Tryd.underlying9 (by kernel_rfl) (by kernel_rfl)
    refine ⟨.iface 122 (.pointer (some a0)), ?_, .inr ⟨_, _, rfl⟩⟩
    have := World.var?_cell (show Tryd.prog.globalNamed "strconv.ErrRange" = some 5 by kernel_rfl) hv 0
    simpa using this
end Go.Proofs.YtioddoojjmeknaaDoor
