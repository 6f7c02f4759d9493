/- Layer 8: Text of a File. · Layer 8: Expr and Type of a File. · Layer 8: wakes; what is tidy is parsed to the same File. · TopBlanks: what the law's own check of the program answers; the law's builder. · What a walk is told of a slice of integers that came in. No program. · The walk of the law TopBlanks. -/
import Derived.Test.YthcdohggffpopaaGreatDoorC4ShEf
import Derived.Test.YthcdohggffpopaaGreatDoorC4ShY
import Derived.Deep.RegionWith
import Derived.Test.YthcdohggffpopaaGreatDoorC4TbP
import Derived.Test.YthcdohggffpopaaGreatDoorC4LexL
import Derived.Test.YthcdohggffpopaaGreatDoorC4Shelf
import Derived.WalkKit
import Derived.OpenShut
namespace Go.Proofs.YthcdohggffpopaaGreatDoor
open Go.Lib (hid)
open Go.ChangeShapes Go.WideShapes Go.ChangeAt Go.RowKit
set_option maxRecDepth 100000 in
theorem Equal_nilR (g : Nat) (w : World) :
    Calls Tryz.prog 38 #[.pointer (some ⟨g, 1, none⟩), .pointer none] w fun e w' => e = .returned (.bool false) ∧ w' = w := by
  go_enter Tryz.func38, Tryz.ntmps38
  go_wp2_with fail
  go_ret
  exact ⟨rfl, rfl⟩
set_option maxRecDepth 100000 in
theorem Equal_nil (w : World) :
    Calls Tryz.prog 38 #[.pointer none, .pointer none] w fun e w' => e = .returned (.bool true) ∧ w' = w := by
  go_enter Tryz.func38, Tryz.ntmps38
  go_wp2_with fail
  go_ret
  exact ⟨rfl, rfl⟩
def textF (F : GF) : Option (List UInt8) := (textW F).bind fun t => match parseL t with
  | .ok f => if f.gf = F then some t else none
  | .bad _ _ => none
def TextOf (r : Option (List UInt8)) (e : Ending) : Prop :=
  match r with
  | some t => e = .returned (.tuple #[.string (bs t), .int .i64 0])
  | none => e = .returned (.tuple #[.string ⟨#[]⟩, .int .i64 4])
structure FileOK (F : GF) : Prop where
  g : GfOK F
  s : ∀ x ∈ F.ss, SmOK x
  cl : F.cs.length < 9223372036854775808
  sl : F.ss.length < 9223372036854775808
theorem bs_data (l : List UInt8) : (bs l).data.toList = l := by simp [bs]
set_option maxHeartbeats 4000000 in
set_option maxRecDepth 100000 in
theorem Text_any {G : Nat} {F : GF} (w : World) (hF : FileG G w F) (hO : FileOK F) (hE : Env w) (hK : KEnv (fun b => b < w.heap.size) w) (hN : NEnv w) :
    Calls Tryz.prog 33 #[.pointer (some ⟨G, 1, none⟩)] w fun e w' => TextOf (textF F) e ∧ Below w.heap.size w w' := by
  have CW := hid (write_all (G := G) (w := w) (r := textW F) fun wr h => shAll hF hN hO.g hO.s hO.cl hO.sl h)
  have HF := hid hF
  have HE := hid hE
  have HK := hid hK
  clear hF hO hE hK hN
  go_enter Tryz.func33, Tryz.ntmps33
  go_wp2_with fail
  refine CW.out.mono ?_
  rintro e w1 ⟨hp, hb1⟩
  have HB1 := hid hb1
  clear CW hb1
  rcases hq : textW F with _ | t
  · rw [hq] at hp
    obtain rfl := hp
    have HD : Hid (textF F = none) := hid (by unfold textF; rw [hq]; rfl)
    clear hq
    go_wp2_with fail
    refine bodyPost_ret (v := .tuple #[.string ⟨#[]⟩, .int .i64 4]) (by simp [results, Tryz.results33, go_sem]) rfl ⟨by rw [HD.out]; rfl, HB1.out⟩
  · rw [hq] at hp
    obtain rfl := hp
    have CP := hid (Parse_any (bs t) _ (HE.out.below HB1.out) (HK.out.low HB1.out))
    have hD0 : textF F = match parseL t with
      | .ok f => if f.gf = F then some t else none
      | .bad _ _ => none := by unfold textF; rw [hq]; rfl
    have HD := hid hD0
    clear hq hD0
    rw [bs_data] at CP
    generalize parseL t = r at CP HD
    go_wp2_with fail
    refine CP.out.mono ?_
    rintro e w2 ⟨hp, hb2⟩
    have HB2 := hid (HB1.out.trans (hb2.mono HB1.out.size))
    clear CP hb2
    cases r with
    | bad p x =>
      obtain ⟨p1, p2⟩ := p
      obtain ⟨rfl, -⟩ := hp
      have HB3 := hid (HB2.out.trans ((below_box w2 (.cells #[.int .i64 (p1 : Nat), .int .i64 (p2 : Nat)] 24)).mono HB2.out.size))
      have CE := hid fun w => Equal_nilR G w
      go_wp2_with (go_at_call 38; (with_reducible refine (CE.out _).mono ?_); rintro e w4 ⟨rfl, rfl⟩)
      refine bodyPost_ret (v := .tuple #[.string ⟨#[]⟩, .int .i64 4]) (by simp [results, Tryz.results33, go_sem]) rfl ⟨by rw [HD.out]; rfl, HB3.out⟩
    | ok f =>
      obtain ⟨⟨g, rfl, hf⟩, -⟩ := hp
      have HB3 := hid (HB2.out.trans ((below_box w2 (.cells #[.int .i64 0, .int .i64 0] 24)).mono HB2.out.size))
      have CE := hid (Equal_any (f1 := F) (f2 := f.gf) _ (HF.out.below HB3.out) (hf.gf.below (below_box w2 (.cells #[.int .i64 0, .int .i64 0] 24))))
      clear hf
      by_cases he : F = f.gf
      · have hd : decide (F = f.gf) = true := decide_eq_true he
        have HD2 : Hid (textF F = some t) := hid (HD.out.trans (if_pos he.symm))
        clear he
        go_wp2_with (go_at_call 38; (with_reducible refine CE.out.mono ?_); rintro e w4 ⟨rfl, hb⟩; have HB4 := hid (HB3.out.trans (hb.mono HB3.out.size)); clear hb)
        refine bodyPost_ret (v := .tuple #[.string (bs t), .int .i64 0]) (by simp [results, Tryz.results33, go_sem]) rfl ⟨by rw [HD2.out]; rfl, HB4.out⟩
      · have hd : decide (F = f.gf) = false := decide_eq_false he
        have HD2 : Hid (textF F = none) := hid (HD.out.trans (if_neg fun e => he e.symm))
        clear he
        go_wp2_with (go_at_call 38; (with_reducible refine CE.out.mono ?_); rintro e w4 ⟨rfl, hb⟩; have HB4 := hid (HB3.out.trans (hb.mono HB3.out.size)); clear hb)
        refine bodyPost_ret (v := .tuple #[.string ⟨#[]⟩, .int .i64 4]) (by simp [results, Tryz.results33, go_sem]) rfl ⟨by rw [HD2.out]; rfl, HB4.out⟩
end Go.Proofs.YthcdohggffpopaaGreatDoor
namespace Go.Proofs.YthcdohggffpopaaGreatDoor
open Go.Lib (hid)
open Go.ChangeShapes Go.WideShapes Go.ChangeAt Go.RowKit
end Go.Proofs.YthcdohggffpopaaGreatDoor
namespace Go.Proofs.YthcdohggffpopaaGreatDoor
open Go.Lib (hid)
open Go.ChangeShapes Go.WideShapes Go.ChangeAt Go.RowKit
theorem tidy_back {s t : List UInt8} {f : FM} (h : parseL s = .ok f) (ht : textW f.gf = some t) : parseL t = .ok f := by
  obtain ⟨cs, ss, rfl, vc, vs, lc, ls⟩ := parse_tree h
  have hw := ht
  unfold textW fileW at ht
  by_cases hb : (putF cs ss).gf.xs.length ≤ maxText ∧ (putF cs ss).gf.ts.length ≤ maxText
  · have h1 : (putF cs ss).g.xs.length ≤ maxText := by have := hb.1; simpa [FM.gf] using this
    have h2 : (putF cs ss).g.ts.length ≤ maxText := by have := hb.2; simpa [FM.gf] using this
    rw [textW_eq cs ss (fun x hx => (vs x hx).2.1) h1 h2] at hw
    split at hw
    · rename_i hl
      cases hw
      exact tree_back vc vs lc ls hl
    · cases hw
  · rw [if_neg hb] at ht
    cases ht
theorem textF_of {s t : List UInt8} {f : FM} (h : parseL s = .ok f) (ht : textW f.gf = some t) : textF f.gf = some t := by
  unfold textF
  rw [ht, Option.bind_some, tidy_back h ht]
  exact if_pos rfl
theorem file_ok {g : Nat} {w : World} {f : FM} {s : List UInt8} (hp : parseL s = .ok f) (h : FileR g w f) (hl : f.g.xs.length + f.g.ts.length ≤ 60000) (hc : f.cs.length ≤ 64) (hs : f.ss.length ≤ 64) : FileOK f.gf := by
  obtain ⟨h1, h2⟩ := gf_ok h (parse_nums hp) hl
  exact ⟨h1, h2, by show f.cs.length < _; omega, by show f.ss.length < _; omega⟩
theorem Parse_ok {s : List UInt8} {f : FM} (h : parseL s = .ok f) (a : ByteArray) (ha : a.data.toList = s) (w : World) (hE : Env w) (hK : KEnv (fun b => b < w.heap.size) w) :
    Calls Tryz.prog 14 #[.string a] w fun e w' => (∃ g, e = .returned (.tuple #[.pointer (some ⟨g, 1, none⟩), .agg #[.int .i64 0, .int .i64 0], .int .i64 0]) ∧ FileR g w' f ∧ FileOK f.gf) ∧ Below w.heap.size w w' := by
  subst ha
  refine (Parse_any a w hE hK).mono ?_
  rintro e w' ⟨hp, hb⟩
  rw [h] at hp
  obtain ⟨⟨g, rfl, hF⟩, h1, h2, h3⟩ := hp
  exact ⟨⟨g, rfl, hF, file_ok h hF h1 h2 h3⟩, hb⟩
end Go.Proofs.YthcdohggffpopaaGreatDoor
namespace Go.Proofs.YthcdohggffpopaaGreatDoor
open Go.Lib (hid)
open Go.ChangeShapes Go.WideShapes Go.ChangeAt Go.RowKit
def w08T : List UInt8 := [115, 116, 114, 117, 99, 116, 32, 83, 32, 123, 32, 110, 58, 32, 117, 56, 59, 32, 125]
def w08S : List UInt8 := [115, 116, 114, 117, 99, 116, 32, 83, 32, 123, 10, 32, 32, 110, 58, 32, 117, 56, 59, 10, 125, 10]
def w08C : Bool := (match parseL w08T with
  | .ok f => decide (textW f.gf = some w08S)
  | .bad _ _ => false) && (match lexL w08T with
  | .ok ts => decide (ts.length = 9)
  | .bad _ _ => false)
theorem w08C_true : w08C = true := by decide +kernel
theorem wake08 : ∃ f ts, parseL w08T = .ok f ∧ textW f.gf = some w08S ∧ lexL w08T = .ok ts ∧ ts.length = 9 := by
  have h := w08C_true
  unfold w08C at h
  cases hp : parseL w08T with
  | bad p x => rw [hp] at h; cases h
  | ok f =>
    cases hl : lexL w08T with
    | bad p x => rw [hp, hl] at h; simp at h
    | ok ts =>
      rw [hp, hl] at h
      simp only [Bool.and_eq_true, decide_eq_true_eq] at h
      exact ⟨f, ts, rfl, h.1, rfl, h.2⟩
theorem Lex_ok {s : List UInt8} {ts : List Tok} (h : lexL s = .ok ts) (a : ByteArray) (ha : a.data.toList = s) (w : World) (hE : Env w) :
    Calls Tryz.prog 40 #[.string a] w fun e w' => (∃ g c, e = .returned (.tuple #[.slice g ts.length c, .agg #[.int .i64 0, .int .i64 0], .int .i64 0]) ∧ TkS w' g ts ∧ ts.length ≤ c ∧ c ≤ maxLen) ∧ Below w.heap.size w w' := by
  subst ha
  refine (Lex_any a w hE).mono ?_
  rintro e w' ⟨v, rfl, hT, hb⟩
  rw [h] at hT ⊢
  obtain ⟨g, c, rfl⟩ := ownsRow_shape hT
  refine ⟨⟨g, c, rfl, hT.rd, ?_⟩, hb⟩
  obtain ⟨-, hc | ⟨g', c', cur, hv, -, -, hle, hc2, -⟩⟩ := hT
  · obtain ⟨hv, hl⟩ := hc
    simp only [Value.slice.injEq] at hv
    have : ts.length = 0 := hl
    omega
  · simp only [Value.slice.injEq] at hv
    obtain ⟨-, -, rfl⟩ := hv
    exact ⟨hle, hc2⟩
set_option maxHeartbeats 4000000 in
set_option maxRecDepth 100000 in
theorem wakes08_any (w : World) (hE : Env w) (hK : KEnv (fun b => b < w.heap.size) w) (hN : NEnv w) :
    Calls Tryz.prog 41 #[] w fun e w' => e = .returned (.bool true) ∧ Below w.heap.size w w' := by
  obtain ⟨f, ts, h1, h2, h3, h4⟩ := wake08
  have CL := hid (Lex_ok h3 ⟨#[115, 116, 114, 117, 99, 116, 32, 83, 32, 123, 32, 110, 58, 32, 117, 56, 59, 32, 125]⟩ rfl w hE)
  rw [h4] at CL
  have CP := hid fun w' (hb : Below w.heap.size w w') => Parse_ok h1 ⟨#[115, 116, 114, 117, 99, 116, 32, 83, 32, 123, 32, 110, 58, 32, 117, 56, 59, 32, 125]⟩ rfl w' (hE.below hb) (hK.low hb)
  have CX : Hid (∀ g w', Below w.heap.size w w' → FileG g w' f.gf → FileOK f.gf → Calls Tryz.prog 33 #[.pointer (some ⟨g, 1, none⟩)] w' fun e w2 => e = .returned (.tuple #[.string ⟨#[115, 116, 114, 117, 99, 116, 32, 83, 32, 123, 10, 32, 32, 110, 58, 32, 117, 56, 59, 10, 125, 10]⟩, .int .i64 0]) ∧ Below w'.heap.size w' w2) := hid fun g w' hb hf ho => by
    have := Text_any w' hf ho (hE.below hb) (hK.low hb) (hN.below hb)
    rw [textF_of h1 h2] at this
    exact this
  clear hE hK hN h1 h2 h3 h4
  go_enter Tryz.func41, Tryz.ntmps41
  go_wp2_with (first | (go_at_call 40; (with_reducible refine CL.out.mono ?_); rintro e w1 ⟨⟨gl, cl, rfl, -⟩, hb⟩; have HB1 := hid (hb.trans ((below_box w1 (.cells #[.int .i64 0, .int .i64 0] 24)).mono hb.size)); clear hb) | (go_at_call 14; (with_reducible refine (CP.out _ HB1.out).mono ?_); rintro e w2 ⟨⟨g, rfl, hF, ho⟩, hb⟩; have HO := hid ho; have HF := hid (hF.gf.below (below_box w2 (.cells #[.int .i64 0, .int .i64 0] 24))); have HB2 := hid (HB1.out.trans ((hb.trans ((below_box w2 (.cells #[.int .i64 0, .int .i64 0] 24)).mono hb.size)).mono HB1.out.size)); clear hb hF ho) | (go_at_call 33; (with_reducible refine (CX.out _ _ HB2.out HF.out HO.out).mono ?_); rintro e w3 ⟨rfl, hb⟩; have HB3 := hid (HB2.out.trans (hb.mono HB2.out.size)); clear hb))
  go_ret
  exact ⟨rfl, HB3.out⟩
def Bld (b : Nat) (l : List UInt8) (w : World) : Prop := Lib.IsBuilder 103 5 b b (Lib.byteCells l) w
theorem byteCells_app (a b : List UInt8) : Lib.byteCells (a ++ b) = Lib.byteCells a ++ Lib.byteCells b := by simp [Lib.byteCells]
theorem byteCells_len (a : List UInt8) : (Lib.byteCells a).length = a.length := by simp [Lib.byteCells]
theorem bwrite (b : Nat) (l s : List UInt8) (w : World) (h : Bld b l w) (hlen : l.length + s.length ≤ 1000000) (hb : b ≤ w.heap.size) :
    Calls Tryz.prog 42 #[.pointer (some ⟨b, 0, none⟩), .string (bs s)] w fun e w' => e = .returned (.tuple #[.int .i64 s.length, .nilIface]) ∧ Bld b (l ++ s) w' ∧ Below b w w' := by
  refine (Any.Builder_WriteString { Tryz.lays156 with } Tryz.Builder_Extra_156 b b (Lib.byteCells l) (bs s) w h (by rw [byteCells_len]; show l.length + s.length ≤ _; omega) hb).mono ?_
  rintro e w' ⟨rfl, h1, h2⟩
  refine ⟨rfl, ?_, h2⟩
  rw [strCells_bs, ← byteCells_app] at h1
  exact .inr h1
theorem btext (b : Nat) (l : List UInt8) (w : World) (h : Bld b l w) (hb : b ≤ w.heap.size) :
    Calls Tryz.prog 43 #[.pointer (some ⟨b, 0, none⟩)] w fun e w' => e = .returned (.string (bs l)) ∧ Below b w w' :=
  Any.Builder_String_any { Tryz.lays156 with } Tryz.Builder_Extra_156 b b l w h hb
theorem bnew (w : World) : Bld w.heap.size [] (w.alloc (.cells #[.pointer none, .slice none 0 0] 103)) :=
  .inl ⟨Nat.le_refl _, _, heap_alloc_new w _, World.ownsRow_nil _ _ _ _, by simp [Value.ownBlock]⟩
theorem Bld.keep {b : Nat} {l : List UInt8} {w w' : World} (h : Bld b l w) (hb : Below w.heap.size w w') : Bld b l w' := by
  rcases h with ⟨h1, v, h2, h3, h4⟩ | ⟨h1, v, h2, h3, h4⟩
  · exact .inl ⟨h1, v, (hb.block b (Array.getElem?_eq_some_iff.1 h2).1).trans h2, ownsRow_same h3 fun g hg => hb.block g (World.ownsRow.lt h3 g hg).2, h4⟩
  · exact .inr ⟨h1, v, (hb.block b (Array.getElem?_eq_some_iff.1 h2).1).trans h2, ownsRow_same h3 fun g hg => hb.block g (World.ownsRow.lt h3 g hg).2, h4⟩
end Go.Proofs.YthcdohggffpopaaGreatDoor
namespace Go.Proofs.YthcdohggffpopaaGreatDoor
open Go.Lib (hid)
def IsRow (k : IntKind) (w : World) (a : Option Addr) (len cap : Nat) (zs : List Int) : Prop :=
  (a = none ∧ len = 0 ∧ cap = 0 ∧ zs = []) ∨
  ∃ x, a = some x ∧ len ≤ cap ∧ cap ≤ maxLen ∧ zs.length = cap ∧ (∀ i, i < zs.length → w.cell? (x.add i) = some (.int k (zs.getD i 0))) ∧ ∀ n ∈ zs, (Lit.int k n).wf = true
end Go.Proofs.YthcdohggffpopaaGreatDoor
namespace Go.Proofs.YthcdohggffpopaaGreatDoor
open Go.Lib (hid)
open Go.ChangeShapes Go.WideShapes Go.ChangeAt Go.RowKit
def RP (r : FR) (P : Value) (x : Int) (w : World) : Prop :=
  match r with
  | .ok f => ∃ g, P = .pointer (some ⟨g, 1, none⟩) ∧ x = 0 ∧ FileG g w f.gf
  | .bad _ y => P = .pointer none ∧ x = (y : Nat)
theorem RP.below {r : FR} {P : Value} {x : Int} {w w' : World} (h : RP r P x w) (hb : Below w.heap.size w w') : RP r P x w' := by
  cases r with
  | ok f => obtain ⟨g, h1, h2, h3⟩ := h; exact ⟨g, h1, h2, h3.below hb⟩
  | bad p y => exact h
theorem rp_of {r : FR} {e : Ending} {w : World} (h : ParsePost r e w) : ∃ P p1 p2 x, e = .returned (.tuple #[P, .agg #[.int .i64 p1, .int .i64 p2], .int .i64 x]) ∧ RP r P x w := by
  cases r with
  | ok f => obtain ⟨⟨g, rfl, hF⟩, -⟩ := h; exact ⟨_, _, _, _, rfl, g, rfl, rfl, hF.gf⟩
  | bad p y => obtain ⟨rfl, -⟩ := h; exact ⟨_, _, _, _, rfl, rfl, rfl⟩
theorem row_at {w : World} {a : Option Addr} {len cap : Nat} {z : List Int} (h : IsRow .u8 w a len cap z) (hl : len ≠ 0) (k : Nat) : ∃ x v, a = some x ∧ len ≤ cap ∧ (v : Nat) = (z.getD (k % len) 0).toNat ∧ w.cell? (x.add (k % len)) = some (.int .u8 (v : Int)) := by
  rcases h with ⟨rfl, h0, -⟩ | ⟨x, rfl, h1, h2, h3, h4, h5⟩
  · exact absurd h0 hl
  · have hm : k % len < len := Nat.mod_lt _ (by omega)
    have hz : k % len < z.length := by omega
    refine ⟨x, _, rfl, h1, rfl, ?_⟩
    rw [h4 _ hz]
    have hw := h5 _ (List.getElem_mem hz)
    have e : z.getD (k % len) 0 = z[k % len] := by rw [List.getD_eq_getElem?_getD, List.getElem?_eq_getElem hz]; rfl
    rw [e]
    have hb : 0 ≤ z[k % len] ∧ z[k % len] ≤ 255 := by simpa [Lit.wf, IntKind.min, IntKind.max, IntKind.signed, IntKind.bits] using hw
    rw [show ((z[k % len].toNat : Nat) : Int) = z[k % len] by omega]
theorem sumL_take : ∀ (l : List Tok) (k : Nat), sumL (l.take k) ≤ sumL l
  | [], k => by simp [sumL]
  | t :: r, 0 => by simp [sumL]
  | t :: r, k + 1 => by
    have := sumL_take r k
    rw [List.take_succ_cons]; simp only [sumL]; omega
def gapF (len : Nat) (z : List Int) (k : Nat) : List UInt8 := if len = 0 then [32] else fillsL.getD ((z.getD (k % len) 0).toNat % 8) [32]
theorem gapF_mem (len : Nat) (z : List Int) (k : Nat) : gapF len z k ∈ fillsL := by
  unfold gapF
  split
  · decide
  · have h : (z.getD (k % len) 0).toNat % 8 < fillsL.length := Nat.mod_lt _ (by decide)
    rw [List.getD_eq_getElem?_getD, List.getElem?_eq_getElem h, Option.getD_some]
    exact List.getElem_mem h
set_option maxHeartbeats 16000000 in
set_option maxRecDepth 100000 in
theorem TopBlanks_walk (s : ByteArray) (a : Option Addr) (len cap : Nat) (z : List Int) (w : World) (ws : s.size ≤ maxLen) (wz : IsRow .u8 w a len cap z) (hE : Env w) (hK : KEnv (fun b => b < w.heap.size) w) (hN : NEnv w) :
    Calls Tryz.prog 11 #[.string s, .slice a len cap] w fun e w' => e = .returned (.bool true) ∧ Below w.heap.size w w' := by
  have HW := hid fun w' (hb : Below w.heap.size w w') => wakes08_any w' (hE.below hb) (hK.low hb) (hN.below hb)
  have HEN := hid (fun w' (hb : Below w.heap.size w w') => (⟨hE.below hb, hK.low hb⟩ : Env w' ∧ KEnv (fun b => b < w'.heap.size) w'))
  have HZ := hid wz
  unfold maxLen at ws
  clear hE hK hN wz
  go_enter Tryz.func11, Tryz.ntmps11
  go_upto_region 2 with fail
  generalize hs1 : s.extract 0 (min ((s.size : Nat) : Int) 1500).toNat = s1
  have hz1 : s1.size ≤ 1500 := by rw [← hs1, ByteArray.size_extract]; omega
  have hz2 : s1.data.toList.length = s1.size := by simp
  have HZ2 := hid hz2
  clear hs1 hz2
  cases hl : lexL s1.data.toList with
  | bad p x =>
    have hx := (lexL_bad_at hl).2
    have hp : parseL s1.data.toList = .bad p x := by unfold parseL; rw [hl]
    have hxI : ((x : Int) != 0) = true := by simp; omega
    have CL := hid (Lex_any s1 w (HEN.out w (Below.refl _ _)).1)
    rw [hl] at CL
    have CP := hid fun w' (hb : Below w.heap.size w w') => (Parse_any s1 w' (HEN.out w' hb).1 (HEN.out w' hb).2).mono fun e w2 h => by
      rw [hp] at h
      exact (⟨h.1.1, h.2⟩ : e = .returned (.tuple #[.pointer none, .agg #[.int .i64 (p.1 : Nat), .int .i64 (p.2 : Nat)], .int .i64 (x : Nat)]) ∧ Below w'.heap.size w' w2)
    have CL : Hid (Calls Tryz.prog 40 #[.string s1] w fun e w' => (∃ g n c, e = .returned (.tuple #[.slice g n c, .agg #[.int .i64 (p.1 : Nat), .int .i64 (p.2 : Nat)], .int .i64 (x : Nat)])) ∧ Below w.heap.size w w') := hid (CL.out.mono fun e w' h => by
      obtain ⟨v, rfl, hT, hb⟩ := h
      obtain ⟨g, c, rfl⟩ := ownsRow_shape hT
      exact ⟨⟨g, _, c, rfl⟩, hb⟩)
    clear hl hp hx HEN
    go_wp2_with fail
    refine CL.out.mono ?_
    rintro e w1 ⟨⟨gl, nl, cl, rfl⟩, hb⟩
    have HB1 := hid (hb.trans ((below_box w1 (.cells #[.int .i64 (p.1 : Nat), .int .i64 (p.2 : Nat)] 24)).mono hb.size))
    clear hb CL
    go_wp2_with fail
    refine (CP.out _ HB1.out).mono ?_
    rintro e w2 ⟨rfl, hb⟩
    have HB2 := hid (HB1.out.trans ((hb.trans ((below_box w2 (.cells #[.int .i64 (p.1 : Nat), .int .i64 (p.2 : Nat)] 24)).mono hb.size)).mono HB1.out.size))
    clear hb CP
    go_wp2_with fail
    refine (HW.out _ HB2.out).mono ?_
    rintro e w3 ⟨rfl, hb⟩
    have HB3 := hid (HB2.out.trans (hb.mono HB2.out.size))
    clear hb
    go_wp2_with fail
    refine (HW.out _ HB3.out).mono ?_
    rintro e w4 ⟨rfl, hb⟩
    have HB4 := hid (HB3.out.trans (hb.mono HB3.out.size))
    clear hb
    go_wp2_with fail
    go_ret
    exact ⟨rfl, HB4.out⟩
  | ok ts =>
    obtain ⟨hr1, hr2⟩ := lexL_room hl
    rw [HZ2.out] at hr1 hr2
    have hsl := spaced_len (gapF_mem len z) ts 0
    obtain ⟨us, hu1, hu2⟩ := relex hl (gapF_mem len z) (by omega)
    have HPS := hid (parse_same hl hu1 hu2)
    have HSP : Hid (∀ k, (spaced (gapF len z) (ts.take k) 0).length ≤ 20000) := hid fun k => by
      have h1 := spaced_len (gapF_mem len z) (ts.take k) 0
      have h2 : sumL (ts.take k) ≤ sumL ts := sumL_take ts k
      have h3 : (ts.take k).length ≤ ts.length := by rw [List.length_take]; omega
      omega
    have CL := hid (Lex_ok hl s1 rfl w (HEN.out w (Below.refl _ _)).1)
    clear hl hu1 hu2 hsl
    -- what Parse gives of either text
    obtain ⟨r, hr⟩ : ∃ r, parseL s1.data.toList = r := ⟨_, rfl⟩
    have CP := hid fun w' (hb : Below w.heap.size w w') => Parse_any s1 w' (HEN.out w' hb).1 (HEN.out w' hb).2
    rw [hr] at HPS CP
    have HNM : Hid (∀ f, r = .ok f → NumOK f) := hid fun f h => parse_nums (hr.trans h)
    clear hr
    go_wp2_with fail
    refine CL.out.mono ?_
    rintro e w1 ⟨⟨gl, cl, rfl, hT, hc1, hc2⟩, hb⟩
    have HT1 := hid (hT.below (below_box w1 (.cells #[.int .i64 0, .int .i64 0] 24)))
    have HB1 := hid (hb.trans ((below_box w1 (.cells #[.int .i64 0, .int .i64 0] 24)).mono hb.size))
    clear hb CL hT
    go_wp2_with fail
    refine (CP.out _ HB1.out).mono ?_
    rintro e w2 ⟨hp, hb⟩
    obtain ⟨P, p1, p2, x, rfl, hR⟩ := rp_of hp
    have hR2 := hR.below (below_box w2 (.cells #[.int .i64 p1, .int .i64 p2] 24))
    have HB2 := hid (HB1.out.trans ((hb.trans ((below_box w2 (.cells #[.int .i64 p1, .int .i64 p2] 24)).mono hb.size)).mono HB1.out.size))
    have HT2 := hid ((HT1.out.below hb).below (below_box w2 (.cells #[.int .i64 p1, .int .i64 p2] 24)))
    have HR2 := hid hR2
    clear hb CP hp hR hR2 HT1
    go_wp2_with fail
    refine (HW.out _ HB2.out).mono ?_
    rintro e w3 ⟨rfl, hb⟩
    have HB3 := hid (HB2.out.trans (hb.mono HB2.out.size))
    have HT3 := hid (HT2.out.below hb)
    have HR3 := hid (HR2.out.below hb)
    clear hb HT2 HR2 HB2
    have hs5 : (w3.alloc (.cells #[.string ⟨#[32]⟩, .string ⟨#[10]⟩, .string ⟨#[9, 32]⟩, .string ⟨#[32, 47, 47, 32, 120, 10]⟩, .string ⟨#[13, 10]⟩, .string ⟨#[32, 32]⟩, .string ⟨#[32, 47, 47, 10]⟩, .string ⟨#[10, 10]⟩] 9)).heap.size = w3.heap.size + 1 := by simp
    have hF := heap_alloc_new w3 (.cells #[.string ⟨#[32]⟩, .string ⟨#[10]⟩, .string ⟨#[9, 32]⟩, .string ⟨#[32, 47, 47, 32, 120, 10]⟩, .string ⟨#[13, 10]⟩, .string ⟨#[32, 32]⟩, .string ⟨#[32, 47, 47, 10]⟩, .string ⟨#[10, 10]⟩] 9)
    have hF6 : ((w3.alloc (.cells #[.string ⟨#[32]⟩, .string ⟨#[10]⟩, .string ⟨#[9, 32]⟩, .string ⟨#[32, 47, 47, 32, 120, 10]⟩, .string ⟨#[13, 10]⟩, .string ⟨#[32, 32]⟩, .string ⟨#[32, 47, 47, 10]⟩, .string ⟨#[10, 10]⟩] 9)).alloc (.cells #[.pointer none, .slice none 0 0] 103)).heap[w3.heap.size]? = some (.cells #[.string ⟨#[32]⟩, .string ⟨#[10]⟩, .string ⟨#[9, 32]⟩, .string ⟨#[32, 47, 47, 32, 120, 10]⟩, .string ⟨#[13, 10]⟩, .string ⟨#[32, 32]⟩, .string ⟨#[32, 47, 47, 10]⟩, .string ⟨#[10, 10]⟩] 9 (0, 0)) := by rw [Below.heap_alloc _ _ _ (by omega)]; exact hF
    have HFC : Hid (∀ q, q < 8 → ((w3.alloc (.cells #[.string ⟨#[32]⟩, .string ⟨#[10]⟩, .string ⟨#[9, 32]⟩, .string ⟨#[32, 47, 47, 32, 120, 10]⟩, .string ⟨#[13, 10]⟩, .string ⟨#[32, 32]⟩, .string ⟨#[32, 47, 47, 10]⟩, .string ⟨#[10, 10]⟩] 9)).alloc (.cells #[.pointer none, .slice none 0 0] 103)).cell? ⟨w3.heap.size, q, none⟩ = some (.string (bs (fillsL.getD q [32])))) := hid fun q hq => by
      rw [cell_of_row _ _ _ _ _ (0, 0) hF6]
      match q, hq with
      | 0, _ => rfl
      | 1, _ => rfl
      | 2, _ => rfl
      | 3, _ => rfl
      | 4, _ => rfl
      | 5, _ => rfl
      | 6, _ => rfl
      | 7, _ => rfl
    have hbld := bnew (w3.alloc (.cells #[.string ⟨#[32]⟩, .string ⟨#[10]⟩, .string ⟨#[9, 32]⟩, .string ⟨#[32, 47, 47, 32, 120, 10]⟩, .string ⟨#[13, 10]⟩, .string ⟨#[32, 32]⟩, .string ⟨#[32, 47, 47, 10]⟩, .string ⟨#[10, 10]⟩] 9))
    rw [hs5] at hbld
    have hB6 : Below w3.heap.size w3 ((w3.alloc (.cells #[.string ⟨#[32]⟩, .string ⟨#[10]⟩, .string ⟨#[9, 32]⟩, .string ⟨#[32, 47, 47, 32, 120, 10]⟩, .string ⟨#[13, 10]⟩, .string ⟨#[32, 32]⟩, .string ⟨#[32, 47, 47, 10]⟩, .string ⟨#[10, 10]⟩] 9)).alloc (.cells #[.pointer none, .slice none 0 0] 103)) := (below_box _ _).alloc (by simp) _
    have hs6 : ((w3.alloc (.cells #[.string ⟨#[32]⟩, .string ⟨#[10]⟩, .string ⟨#[9, 32]⟩, .string ⟨#[32, 47, 47, 32, 120, 10]⟩, .string ⟨#[13, 10]⟩, .string ⟨#[32, 32]⟩, .string ⟨#[32, 47, 47, 10]⟩, .string ⟨#[10, 10]⟩] 9)).alloc (.cells #[.pointer none, .slice none 0 0] 103)).heap.size = w3.heap.size + 2 := by simp
    have HB6 := hid hB6
    have HBL := hid hbld
    clear hF hF6 hs5 hB6 hbld
    go_wp2_with fail
    generalize ((w3.alloc (.cells #[.string ⟨#[32]⟩, .string ⟨#[10]⟩, .string ⟨#[9, 32]⟩, .string ⟨#[32, 47, 47, 32, 120, 10]⟩, .string ⟨#[13, 10]⟩, .string ⟨#[32, 32]⟩, .string ⟨#[32, 47, 47, 10]⟩, .string ⟨#[10, 10]⟩] 9)).alloc (.cells #[.pointer none, .slice none 0 0] 103)) = W6 at HFC HBL HB6 hs6 ⊢
    obtain ⟨b, hb⟩ : ∃ b, w3.heap.size + 1 = b := ⟨_, rfl⟩
    rw [hb] at HBL ⊢
    go_loopw [45] (fun s1 wr => ∃ k : Nat, s1 = .int .i64 k ∧ k ≤ ts.length ∧ Bld b (spaced (gapF len z) (ts.take k) 0) wr ∧ Below b W6 wr) (fun s1 _ => ts.length - (intOf s1).toNat)
    case atStart => exact ⟨0, rfl, Nat.zero_le _, HBL.out, Below.refl _ _⟩
    case round =>
      obtain ⟨k, rfl, hk, hbd, hbr⟩ := hrel
      have h3r : Below w3.heap.size w3 wr := HB6.out.trans (hbr.mono (by omega))
      have hsz : b < wr.heap.size := by have := hbr.size; omega
      have HBD := hid hbd
      have HBR := hid hbr
      have H3R := hid h3r
      clear hbd hbr
      by_cases hlk : k < ts.length
      · obtain ⟨t, htk⟩ : ∃ t, ts[k]? = some t := ⟨_, List.getElem?_eq_getElem hlk⟩
        obtain ⟨g, rfl, hg, c0, c1, c2, c3, c4⟩ := (HT3.out.below h3r) k t htk
        have HST := hid (spaced_take (gapF len z) htk)
        have hL1 := HSP.out (k + 1)
        have hL0 := HSP.out k
        rw [HST.out, List.length_append, List.length_append] at hL1
        obtain ⟨⟨kk, tt, nn⟩, ⟨px, py⟩⟩ := t
        simp only at c0 c1 c2 c3 c4 hL1
        have hkI : (k : Int) < (ts.length : Int) := by omega
        have hb7 := below_box wr (.cells #[.int .i64 kk, .string (bs tt), .int .u64 nn, .int .i64 px, .int .i64 py] 106)
        have HB7 := hid hb7
        have CW := hid (bwrite b _ tt _ (HBD.out.keep hb7) (by omega) (Nat.le_of_lt (Nat.lt_of_lt_of_le hsz hb7.size)))
        have hs7 : (wr.alloc (.cells #[.int .i64 kk, .string (bs tt), .int .u64 nn, .int .i64 px, .int .i64 py] 106)).heap.size = wr.heap.size + 1 := by simp
        clear hb7 h3r htk
        go_wp2_with fail
        refine CW.out.mono ?_
        rintro e w8 ⟨rfl, hbd8, hbr8⟩
        have HBR8 := hid (HBR.out.trans ((HB7.out.mono (Nat.le_of_lt hsz)).trans hbr8))
        have hsz8 : b < w8.heap.size := by have := hbr8.size; omega
        have HBD8 := hid hbd8
        clear hbd8 hbr8 CW HB7 c0 c1 c2 c3 c4 hs7
        by_cases hl0 : len = 0
        · subst hl0
          have CW2 := hid (bwrite b _ [32] w8 HBD8.out (by simp only [List.length_append, List.length_cons, List.length_nil]; omega) (Nat.le_of_lt hsz8))
          have HU : Hid (spaced (gapF 0 z) (ts.take k) 0 ++ tt ++ [32] = spaced (gapF 0 z) (ts.take (k + 1)) 0) := hid (by rw [HST.out, List.append_assoc]; rfl)
          go_wp2_with fail
          refine CW2.out.mono ?_
          rintro e w9 ⟨rfl, hbd9, hbr9⟩
          rw [HU.out] at hbd9
          have HBD9 := hid hbd9
          have HBR9 := hid (HBR8.out.trans hbr9)
          clear hbd9 hbr9 CW2
          go_wp2_with fail
          go_roundw
          case rel => exact ⟨k + 1, by go_num, hlk, HBD9.out, HBR9.out⟩
          case measure => simp [intOf]; omega
        · have hlb : ((len : Int) == 0) = false := by rw [beq_eq_false_iff_ne]; omega
          have h3w : Below w.heap.size w w8 := HB3.out.trans ((HB6.out.trans (HBR8.out.mono (by omega))).mono HB3.out.size)
          obtain ⟨xa, v, rfl, hlc, hv, hcell⟩ := row_at HZ.out hl0 k
          have hg8 := (h3w.cell (p := xa.add (k % len)) (World.block_lt_of_cell? w _ hcell)).trans hcell
          have hf8 := (HBR8.out.cell (p := ⟨w3.heap.size, v % 8, none⟩) (by show w3.heap.size < b; omega)).trans (HFC.out (v % 8) (Nat.mod_lt _ (by decide)))
          have e0 : 0 ≤ (k : Int) % (len : Int) := Int.emod_nonneg _ (by omega)
          have e1 : (k : Int) % (len : Int) < (len : Int) := Int.emod_lt_of_pos _ (by omega)
          have f0 : 0 ≤ (v : Int) % 8 := by omega
          have f1 : (v : Int) % 8 < 8 := by omega
          have hq : (fillsL.getD (v % 8) [32]).length ≤ 6 := (fill_skip _ (by
            have h := gapF_mem len z k
            unfold gapF at h
            rw [if_neg hl0, ← hv] at h
            exact h)).2.1
          have HGQ : Hid (gapF len z k = fillsL.getD (v % 8) [32]) := hid (by unfold gapF; rw [if_neg hl0, ← hv])
          obtain ⟨q, hqq⟩ : ∃ q, fillsL.getD (v % 8) [32] = q := ⟨_, rfl⟩
          rw [hqq] at hf8 hq HGQ
          have CW2 := hid (bwrite b _ q w8 HBD8.out (by simp only [List.length_append]; omega) (Nat.le_of_lt hsz8))
          have HU : Hid (spaced (gapF len z) (ts.take k) 0 ++ tt ++ q = spaced (gapF len z) (ts.take (k + 1)) 0) := hid (by rw [HST.out, HGQ.out, List.append_assoc])
          clear hqq hv hcell h3w
          go_wp2_with fail
          refine CW2.out.mono ?_
          rintro e w9 ⟨rfl, hbd9, hbr9⟩
          rw [HU.out] at hbd9
          have HBD9 := hid hbd9
          have HBR9 := hid (HBR8.out.trans hbr9)
          clear hbd9 hbr9 CW2 hg8 hf8
          go_wp2_with fail
          go_roundw
          case rel => exact ⟨k + 1, by go_num, hlk, HBD9.out, HBR9.out⟩
          case measure => simp [intOf]; omega
      · obtain rfl : k = ts.length := by omega
        rw [List.take_length] at HBD
        obtain ⟨tx, htx⟩ : ∃ tx, spaced (gapF len z) ts 0 = tx := ⟨_, rfl⟩
        rw [htx] at HBD HPS
        have CB := hid (btext b tx wr HBD.out (Nat.le_of_lt hsz))
        have CQ := hid fun w' (hb : Below w.heap.size w w') => Parse_any (bs tx) w' (HEN.out w' hb).1 (HEN.out w' hb).2
        have hdt : (bs tx).data.toList = tx := bs_data tx
        rw [hdt] at CQ
        clear htx h3r hdt
        go_wp2_with fail
        refine CB.out.mono ?_
        rintro e w10 ⟨rfl, hb10⟩
        have H3T : Below w3.heap.size w3 w10 := HB6.out.trans ((HBR.out.trans hb10).mono (by omega))
        have HRT := hid (HR3.out.below H3T)
        have HBT := hid (HB3.out.trans (H3T.mono HB3.out.size))
        clear hb10 CB HBD HBR H3R H3T HR3 HB3 HB6 HT3 HFC HZ HBL HSP HW
        have CQ2 := hid (CQ.out w10 HBT.out)
        generalize bs tx = bx at CQ2 ⊢
        go_wp2_with fail
        refine CQ2.out.mono ?_
        rintro e w11 ⟨hp, hb11⟩
        obtain ⟨P2, q1, q2, x2, rfl, hR⟩ := rp_of hp
        have HR11 := hid (hR.below (below_box w11 (.cells #[.int .i64 q1, .int .i64 q2] 24)))
        have HRT2 := hid ((HRT.out.below hb11).below (below_box w11 (.cells #[.int .i64 q1, .int .i64 q2] 24)))
        have HB11 := hid (HBT.out.trans ((hb11.trans ((below_box w11 (.cells #[.int .i64 q1, .int .i64 q2] 24)).mono hb11.size)).mono HBT.out.size))
        clear hb11 hp hR HRT HBT CQ CQ2 HEN
        cases r with
        | ok f =>
          have hpt := HPS.out.1 f rfl
          rw [hpt] at HR11
          obtain ⟨g1, rfl, rfl, hg1⟩ := HRT2.out
          obtain ⟨g2, rfl, rfl, hg2⟩ := HR11.out
          have CE := hid (Equal_any _ hg1 hg2)
          rw [decide_eq_true (rfl : f.gf = f.gf)] at CE
          clear hg1 hg2 HR11 HRT2 HPS hpt
          go_wp2_with (go_at_call 38; (with_reducible refine CE.out.mono ?_); rintro e w12 ⟨rfl, hb12⟩; have HB12 := hid (HB11.out.trans (hb12.mono HB11.out.size)); clear hb12)
          go_ret
          exact ⟨rfl, HB12.out⟩
        | bad pp y =>
          obtain ⟨p', hpt⟩ := HPS.out.2 pp y rfl
          rw [hpt] at HR11
          obtain ⟨rfl, rfl⟩ := HRT2.out
          obtain ⟨rfl, rfl⟩ := HR11.out
          have CE := hid fun w' => Equal_nil w'
          clear HR11 HRT2 HPS hpt
          go_wp2_with (go_at_call 38; (with_reducible refine (CE.out _).mono ?_); rintro e w12 ⟨rfl, rfl⟩)
          go_ret
          exact ⟨rfl, HB11.out⟩
end Go.Proofs.YthcdohggffpopaaGreatDoor
