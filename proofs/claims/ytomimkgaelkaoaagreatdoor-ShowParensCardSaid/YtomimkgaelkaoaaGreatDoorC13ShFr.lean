/- Layer 7: what the rows' conditions give the walks. · Layer 8: what the rows' conditions give the walks: the table of powers of ten. -/
import Derived.Test.YtomimkgaelkaoaaGreatDoorRows
import Derived.Test.YtomimkgaelkaoaaGreatDoorC13ParA
import Derived.Shelf.Vars
import Derived.Stop.LaidErr
import Derived.OpenShut
import Derived.MakeChecks
import Derived.Test.YtomimkgaelkaoaaGreatDoorC13ShN
import Derived.Lib.LaidTab
set_option linter.unusedVariables false
set_option linter.unusedSimpArgs false
namespace Go.Proofs.YtomimkgaelkaoaaGreatDoor
open Go.ChangeShapes Go.WideShapes Go.ChangeAt Go.RowKit
theorem star : "*errors.errorString" = "*" ++ "errors.errorString" := by decide
theorem row_err (u : TypeId) (h : Tryz.prog.typeName? 3 u = some "*errors.errorString") : u = 389 :=
 typeName_ptr_named (nm := "errors.errorString") (by rw [← star]; kernel_rfl) (by kernel_rfl) (by decide) u (by rw [← star]; exact h)
theorem signs_of_trod {H : Type} {enc : TypeId × Value → H} {w : World} {base : Nat} {sp : Nat → Bool} {held : Bool} {fuel : Nat} {cs : List Value} {p : List MemPlace}
  (h : DataW.trod enc Tryz.prog w base sp held fuel 247 cs = some (Rows.laid_calliper_lex_signs, p)) : cs.toArray = sgA := by
 obtain ⟨xs, m, rfl, hx, hlen, hn, hel⟩ := DataW.trod_array Tryz.underlying247 h
 have c1 : Tryz.prog.cellsOf 9 = 1 := by kernel_rfl
 have c29 : Tryz.prog.cellsOf 247 = 29 := by kernel_rfl
 rw [c29] at hlen
 have hd : Rows.laid_calliper_lex_signs (H := H) = .agg (sgs.map fun g => .lit (.string g)) := rfl
 rw [hd] at hx
 simp only [Prod.mk.injEq, DataW.agg.injEq] at hx
 have e : cs = sgs.map fun g => Value.string (bs g) := by
  apply List.ext_getElem?
  intro i
  by_cases hi : i < 29
  ·have h1 := hel i hi
   rw [c1, Nat.mul_one] at h1
   have hxi : i < xs.length := by omega
   rw [List.getElem?_eq_getElem hxi] at h1
   obtain ⟨s, e1, e2, _⟩ := DataW.trod_string Tryz.underlying9 h1
   have h2 : cs[i]? = some (.string s) := by
    have := congrArg (·[0]?) e1
    simpa [List.getElem?_take, List.getElem?_drop] using this
   have h3 : (xs.map (·.1))[i]? = some (.lit (.string s.data.toList)) := by rw [List.getElem?_map, List.getElem?_eq_getElem hxi, e2]; rfl
   rw [← hx.1, List.getElem?_map] at h3
   obtain ⟨g, hg, hgs⟩ := Option.map_eq_some_iff.1 h3
   simp only [DataW.lit.injEq, Lit.string.injEq] at hgs
   rw [h2, List.getElem?_map, hg, Option.map_some, hgs, bs_of]
  ·rw [List.getElem?_eq_none (by omega), List.getElem?_eq_none (by rw [List.length_map, show sgs.length = 29 from rfl]; omega)]
 rw [e]
 rfl
theorem keywords_of_trod {H : Type} {enc : TypeId × Value → H} {w : World} {base : Nat} {sp : Nat → Bool} {held : Bool} {fuel : Nat} {cs : List Value} {p : List MemPlace}
  (h : DataW.trod enc Tryz.prog w base sp held fuel 132 cs = some (Rows.laid_calliper_parse_keywords, p)) : cs.toArray = kwA := by
 obtain ⟨xs, m, rfl, hx, hlen, hn, hel⟩ := DataW.trod_array Tryz.underlying132 h
 have c1 : Tryz.prog.cellsOf 9 = 1 := by kernel_rfl
 have c19 : Tryz.prog.cellsOf 132 = 19 := by kernel_rfl
 rw [c19] at hlen
 have hd : Rows.laid_calliper_parse_keywords (H := H) = .agg (kwL.map fun g => .lit (.string g)) := rfl
 rw [hd] at hx
 simp only [Prod.mk.injEq, DataW.agg.injEq] at hx
 have e : cs = kwL.map fun g => Value.string (bs g) := by
  apply List.ext_getElem?
  intro i
  by_cases hi : i < 19
  ·have h1 := hel i hi
   rw [c1, Nat.mul_one] at h1
   have hxi : i < xs.length := by omega
   rw [List.getElem?_eq_getElem hxi] at h1
   obtain ⟨s, e1, e2, _⟩ := DataW.trod_string Tryz.underlying9 h1
   have h2 : cs[i]? = some (.string s) := by
    have := congrArg (·[0]?) e1
    simpa [List.getElem?_take, List.getElem?_drop] using this
   have h3 : (xs.map (·.1))[i]? = some (.lit (.string s.data.toList)) := by rw [List.getElem?_map, List.getElem?_eq_getElem hxi, e2]; rfl
   rw [← hx.1, List.getElem?_map] at h3
   obtain ⟨g, hg, hgs⟩ := Option.map_eq_some_iff.1 h3
   simp only [DataW.lit.injEq, Lit.string.injEq] at hgs
   rw [h2, List.getElem?_map, hg, Option.map_some, hgs, bs_of]
  ·rw [List.getElem?_eq_none (by omega), List.getElem?_eq_none (by rw [List.length_map, show kwL.length = 19 from rfl]; omega)]
 rw [e]
 rfl
theorem sizes_of_trod {H : Type} {enc : TypeId × Value → H} {w : World} {base : Nat} {sp : Nat → Bool} {held : Bool} {fuel : Nat} {cs : List Value} {p : List MemPlace}
  (h : DataW.trod enc Tryz.prog w base sp held fuel 220 cs = some (Rows.laid_calliper_parse_sizes, p)) : cs.toArray = szA := by
 obtain ⟨xs, m, rfl, hx, hlen, hn, hel⟩ := DataW.trod_array Tryz.underlying220 h
 have c1 : Tryz.prog.cellsOf 3 = 1 := by kernel_rfl
 have c5 : Tryz.prog.cellsOf 220 = 5 := by kernel_rfl
 rw [c5] at hlen
 have hd : Rows.laid_calliper_parse_sizes (H := H) = .agg ([1, 2, 3, 4, 8].map fun g : Int => .lit (.int .i64 g)) := rfl
 rw [hd] at hx
 simp only [Prod.mk.injEq, DataW.agg.injEq] at hx
 have e : cs = [1, 2, 3, 4, 8].map fun g : Int => Value.int .i64 g := by
  apply List.ext_getElem?
  intro i
  by_cases hi : i < 5
  ·have h1 := hel i hi
   rw [c1, Nat.mul_one] at h1
   have hxi : i < xs.length := by omega
   rw [List.getElem?_eq_getElem hxi] at h1
   obtain ⟨s, e1, e2, _⟩ := DataW.trod_int Tryz.underlying3 h1
   have h2 : cs[i]? = some (.int .i64 s) := by
    have := congrArg (·[0]?) e1
    simpa [List.getElem?_take, List.getElem?_drop] using this
   have h3 : (xs.map (·.1))[i]? = some (.lit (.int .i64 s)) := by rw [List.getElem?_map, List.getElem?_eq_getElem hxi, e2]; rfl
   rw [← hx.1, List.getElem?_map] at h3
   obtain ⟨g, hg, hgs⟩ := Option.map_eq_some_iff.1 h3
   simp only [DataW.lit.injEq, Lit.int.injEq, true_and] at hgs
   rw [h2, List.getElem?_map, hg, Option.map_some, hgs]
  ·rw [List.getElem?_eq_none (by omega), List.getElem?_eq_none (by simp only [List.length_map, List.length_cons, List.length_nil]; omega)]
 rw [e]
 rfl
theorem env_of {W : World} {r0 r1 r2 r3 r5 : String × DataW Unit} {rest : List (String × DataW Unit)} (hsh : W.ShapedOpen Tryz.prog)
  (h : laidMet Tryz.prog (r0 :: r1 :: r2 :: r3 :: ("strconv.ErrRange", Rows.laid_strconv_ErrRange) :: r5 :: ("calliper/lex.signs", Rows.laid_calliper_lex_signs) :: rest) W) : Env W := by
 refine ⟨?_, ?_, ?_⟩
 ·obtain ⟨ps, ⟨g0, t0, cs0, f0, p0, q0, hg0, ht0, hv0, hd0, _, _⟩, _⟩ := h.tail.tail.tail.tail.tail.tail
  obtain rfl := Option.some.inj ((show Tryz.prog.globalNamed "calliper/lex.signs" = some 2 by kernel_rfl).symm.trans hg0)
  obtain rfl := Option.some.inj ((show (Tryz.prog.globals[2]?).map (·.type) = some 247 by kernel_rfl).symm.trans ht0)
  have hc := signs_of_trod hd0
  simp only [World.var?, hg0, Option.bind_some] at hv0
  split at hv0
  ·rename_i c t fr hh
   obtain rfl : c = cs0 := by simpa using hv0
   refine ⟨t, fr, ?_⟩
   rw [hh, ← hc]
  ·cases hv0
 ·exact cell_of_shapedOpen_int (zero := #[.int .i64 0]) (t := 3) hsh (of_decide_eq_true (by kernel_rfl)) (by kernel_rfl) rfl (by kernel_rfl) (by kernel_rfl) Tryz.underlying3
 ·obtain ⟨a0, s0, hv, _⟩ := laid_sentinel h.tail.tail.tail.tail (show Tryz.prog.globalNamed "strconv.ErrRange" = some 8 by kernel_rfl) (show (Tryz.prog.globals[8]?).map (·.type) = some 256 by kernel_rfl) Tryz.underlying256 row_err Tryz.underlying389 Tryz.underlying391 rfl rfl Tryz.underlying9 (by kernel_rfl) (by kernel_rfl)
  refine ⟨.iface 389 (.pointer (some a0)), ?_, .inr ⟨_, _, rfl⟩⟩
  have := World.var?_cell (show Tryz.prog.globalNamed "strconv.ErrRange" = some 8 by kernel_rfl) hv 0
  simpa using this
theorem kenv_of {W : World} {r0 r1 r2 r3 r4 r5 r6 : String × DataW Unit} {rest : List (String × DataW Unit)}
  (h : laidMet Tryz.prog (r0 :: r1 :: r2 :: r3 :: r4 :: r5 :: r6 :: ("calliper/parse.sizes", Rows.laid_calliper_parse_sizes) :: ("calliper/parse.keywords", Rows.laid_calliper_parse_keywords) :: rest) W) : KEnv (fun b => b < W.heap.size) W := by
 refine ⟨?_, ?_⟩
 ·obtain ⟨ps, ⟨g0, t0, cs0, f0, p0, q0, hg0, ht0, hv0, hd0, _, _⟩, _⟩ := h.tail.tail.tail.tail.tail.tail.tail.tail
  obtain rfl := Option.some.inj ((show Tryz.prog.globalNamed "calliper/parse.keywords" = some 0 by kernel_rfl).symm.trans hg0)
  obtain rfl := Option.some.inj ((show (Tryz.prog.globals[0]?).map (·.type) = some 132 by kernel_rfl).symm.trans ht0)
  have hc := keywords_of_trod hd0
  simp only [World.var?, hg0, Option.bind_some] at hv0
  split at hv0
  ·rename_i c t fr hh
   obtain rfl : c = cs0 := by simpa using hv0
   refine ⟨t, fr, ?_, (Array.getElem?_eq_some_iff.1 hh).1⟩
   rw [hh, ← hc]
  ·cases hv0
 ·obtain ⟨ps, ⟨g0, t0, cs0, f0, p0, q0, hg0, ht0, hv0, hd0, _, _⟩, _⟩ := h.tail.tail.tail.tail.tail.tail.tail
  obtain rfl := Option.some.inj ((show Tryz.prog.globalNamed "calliper/parse.sizes" = some 1 by kernel_rfl).symm.trans hg0)
  obtain rfl := Option.some.inj ((show (Tryz.prog.globals[1]?).map (·.type) = some 220 by kernel_rfl).symm.trans ht0)
  have hc := sizes_of_trod hd0
  simp only [World.var?, hg0, Option.bind_some] at hv0
  split at hv0
  ·rename_i c t fr hh
   obtain rfl : c = cs0 := by simpa using hv0
   refine ⟨t, fr, ?_, (Array.getElem?_eq_some_iff.1 hh).1⟩
   rw [hh, ← hc]
  ·cases hv0
end Go.Proofs.YtomimkgaelkaoaaGreatDoor
namespace Go.Proofs.YtomimkgaelkaoaaGreatDoor
open Go.ChangeShapes Go.WideShapes Go.ChangeAt Go.RowKit
theorem pow_tab : Rows.laid_internal_strconv_uint64pow10 (H := Unit) = Lib.tabData .u64 Lib.pow10Tab := by kernel_rfl
theorem nenv_of {W : World} {r0 r1 : String × DataW Unit} {rest : List (String × DataW Unit)}
  (h : laidMet Tryz.prog (r0 :: r1 :: ("internal/strconv.uint64pow10", Rows.laid_internal_strconv_uint64pow10) :: rest) W) : NEnv W := by
 have h2 := h.tail.tail
 rw [pow_tab] at h2
 exact Lib.tabIs_of_head (g := 4) (t := 361) (e := 37) (n := 20) (by kernel_rfl) (by kernel_rfl) Tryz.underlying361 Tryz.underlying37 (by kernel_rfl) (by kernel_rfl) h2
end Go.Proofs.YtomimkgaelkaoaaGreatDoor
