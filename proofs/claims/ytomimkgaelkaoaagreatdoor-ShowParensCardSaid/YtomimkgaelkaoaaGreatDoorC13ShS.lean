/- Layer 8: the printer's packs. · Layer 8: the printer's structs. -/
import Derived.Test.YtomimkgaelkaoaaGreatDoorC13ShM
import Derived.Deep.RegionWith
set_option linter.unusedVariables false
set_option linter.unusedSimpArgs false
namespace Go.Proofs.YtomimkgaelkaoaaGreatDoor
open Go.Lib (hid)
open Go.ChangeShapes Go.WideShapes Go.ChangeAt Go.RowKit
def sbW (s : List UInt8 × Nat) : OW := wPuts [[32], s.1, [58, 32], decL s.2, [59]]
def sbsW (subs : List (List UInt8 × Nat)) (i : Nat) : OW := wSeq (wAll ((subs.drop i).map sbW)) (wSeq (wPuts [[32, 125]]) some)
theorem sbsW_step {subs : List (List UInt8 × Nat)} {i : Nat} {s : List UInt8 × Nat} (h : subs[i]? = some s) : sbsW subs i = wSeq (sbW s) (sbsW subs (i + 1)) := by
 unfold sbsW
 have hlt := (List.getElem?_eq_some_iff.1 h).1
 rw [List.drop_eq_getElem_cons hlt, (List.getElem?_eq_some_iff.1 h).2, List.map_cons, wAll_cons, wSeq_assoc]
theorem sbsW_end {subs : List (List UInt8 × Nat)} : sbsW subs subs.length = wSeq (wPuts [[32, 125]]) some := by
 unfold sbsW
 rw [List.drop_length]
 rfl
theorem pack_eq8 (x : IM) : packW x = wSeq (wPuts [kPack ++ [32], wordN x.size x.little, [32, 123]]) (sbsW x.subs 0) := by
 unfold packW sbsW
 rw [List.drop_zero, wPuts_three, wPuts_one]
 have h : (x.subs.map fun s => wAll [wPut [32], wPut s.1, wPut [58, 32], wPut (decL s.2), wPut [59]]) = x.subs.map sbW := rfl
 rw [h]
 simp only [wAll_cons, wAll_nil, wSeq_assoc]
set_option maxHeartbeats 8000000 in
set_option maxRecDepth 100000 in
theorem shPack {W0 : World} {g G : Nat} {F : GF} (hF : FileG G W0 F) (hN : NEnv W0) (hG : GfOK F) {W w : World} {l : List UInt8} (h : SW W0 g (fp G) W l w) (c0 c1 c2 c3 c4 c5 : Value) (z : Nat) (li : Bool) (subs : List (List UInt8 × Nat)) {sa : Option Addr} {sc : Nat} (hs : SlR 2 SuC W0 (.slice sa subs.length sc) subs) (hb : ∀ u ∈ subs, u.2 < 9223372036854775808) (hcl : subs.length < 9223372036854775808) :
  Calls Tryz.prog 136 #[.pointer (some ⟨g, 0, none⟩), .agg #[c0, c1, c2, c3, c4, c5, .int .i64 (z : Int), .bool li, .slice sa subs.length sc]] w (PostW W0 g (fp G) w (wSeq (wPuts [kPack ++ [32], wordN z li, [32, 123]]) (sbsW subs 0) l)) := by
 obtain ⟨R, hR⟩ : ∃ R, wSeq (wPuts [kPack ++ [32], wordN z li, [32, 123]]) (sbsW subs 0) l = R := ⟨_, rfl⟩
 rw [hR]
 have HR1 := hid hR
 have HNE := hid h.ne
 have S1 := hid (h.start.alloc (.cells #[c0, c1, c2, c3, c4, c5, .int .i64 (z : Int), .bool li, .slice sa subs.length sc] 129))
 have HX1 := hid (heap_alloc_new w (.cells #[c0, c1, c2, c3, c4, c5, .int .i64 (z : Int), .bool li, .slice sa subs.length sc] 129))
 have HN := hid hN
 have HS := hid hs
 have HB := hid hb
 have HCL := hid hcl
 clear hR hF hN hG h hs hb hcl
 obtain ⟨⟨d0, d1, d2, d3, d4, d5, d6, d7, d8⟩, df, dl⟩ := cells9 HX1.out
 go_enter Tryz.func136, Tryz.ntmps136
 go_wp2_with (first | (go_at_call 94; (first | ((with_reducible refine (Word_any (z : Int) li _).mono ?_); rintro e' w2' ⟨rfl, rfl⟩; have C1 := hid (shPut S1.out [kPack ++ [32], wordN z li, [32, 123]] (by simp) 3 rfl #[.string ⟨#[112, 97, 99, 107, 32]⟩, .string (bs (wordL (z : Int) li)), .string ⟨#[32, 123]⟩] (by rw [wordL_N]; rfl) (w.heap.size + 1) (by simp))))) | (go_at_call 88; (first | ((with_reducible refine C1.out.mono ?_); intro e' w2 hp; rcases hr : wPuts [kPack ++ [32], wordN z li, [32, 123]] l with _ | l2; (· rw [hr] at hp; obtain ⟨rfl, hf⟩ := hp; obtain rfl := step_none HR1.out hr; exact ⟨rfl, rfl, S1.out.fr.trans hf⟩); rw [hr] at hp; obtain ⟨rfl, h1⟩ := hp; have S2 := hid (S1.out.next h1); have HR2 := hid (step_some HR1.out hr); have HX2 := hid (h1.fr.keep _ _ _ _ HX1.out HNE.out (by decide)); clear d0 d1 d2 d3 d4 d5 d6 d7 d8 df dl; obtain ⟨⟨d0, d1, d2, d3, d4, d5, d6, d7, d8⟩, df, dl⟩ := cells9 HX2.out; clear hr h1))))
 clear C1 S1 HX1 HR1
 go_loopw [17] (fun s17 wr => ∃ (i : Nat) (l' : List UInt8), s17 = .int .i64 (i : Int) ∧ i ≤ subs.length ∧ SW W0 g (fp G) w l' wr ∧ Hid (sbsW subs i l' = R)) (fun s17 _ => subs.length - (match s17 with | .int _ i => i.toNat | _ => 0))
 case atStart => exact ⟨0, l2, rfl, Nat.zero_le _, S2.out, HR2⟩
 case round =>
  obtain ⟨i, l', rfl, hi, hS, HRR⟩ := hrel
  clear S2 HX2 HR2
  by_cases hlt : i < subs.length
  ·have hltI : (i : Int) < (subs.length : Int) := by omega
   obtain ⟨c, hc⟩ : ∃ c, subs[i]? = some c := ⟨subs[i], List.getElem?_eq_getElem hlt⟩
   have HBC := hid (HB.out c (List.mem_of_getElem? hc))
   have HR1 : Hid (wSeq (sbW c) (sbsW subs (i + 1)) l' = R) := hid (by rw [← HRR.out, sbsW_step hc])
   obtain ⟨kc, rfl, hkl, q0, q1⟩ := subs_at HS.out hc
   have hw1 : IntKind.i64.wrap ((i : Int) + 1) = (i : Int) + 1 := IntWalk.i64_in _ (by have := HCL.out; omega)
   have q0 := (hS.base.cell (p := ⟨kc, i * 2, none⟩) hkl).trans q0
   have q1 := (hS.base.cell (p := ⟨kc, i * 2 + 1, none⟩) hkl).trans q1
   have S1 := hid (hS.alloc (.cells #[.string (bs c.1), .int .i64 (c.2 : Int)] 131))
   have HNB := hid hS.ne
   have HY1 := hid (heap_alloc_new wr (.cells #[.string (bs c.1), .int .i64 (c.2 : Int)] 131))
   clear hS HRR hkl
   obtain ⟨⟨b0, b1⟩, bf, bl⟩ := cells2c HY1.out
   have S1' := hid (S1.out.keep (Below.refl (wr.alloc (.cells #[.string (bs c.1), .int .i64 (c.2 : Int)] 131)).heap.size (wr.alloc (.cells #[.string (bs c.1), .int .i64 (c.2 : Int)] 131))).drew)
   have HI := hid (Itoa_any c.2 HBC.out _ (HN.out.below S1'.out.base))
   go_wp2_with fail
   go_region_with (first | (go_at_call 186; (first | ((with_reducible refine HI.out.mono ?_); rintro e' w2 ⟨rfl, hb⟩; have S2 := hid (S1'.out.keep hb); have HY2 := (Fr.of (g := g) hb S1'.out.lo).keep _ _ _ _ HY1.out HNB.out (by decide); obtain ⟨⟨v0, v1⟩, vf, vl⟩ := cells2c HY2; have C2 := hid (shPut S2.out [[32], c.1, [58, 32], decL c.2, [59]] (by simp) 5 rfl #[.string ⟨#[32]⟩, .string (bs c.1), .string ⟨#[58, 32]⟩, .string (bs (decL c.2)), .string ⟨#[59]⟩] rfl _ rfl); clear HY2))) | (go_at_call 88; (first | ((with_reducible refine C2.out.mono ?_); intro e' w3 hp; rcases hr : wPuts [[32], c.1, [58, 32], decL c.2, [59]] l' with _ | l3; (· rw [hr] at hp; obtain ⟨rfl, hf⟩ := hp; obtain rfl := step_none HR1.out hr; exact ⟨rfl, rfl, S2.out.fr.trans hf⟩); rw [hr] at hp; obtain ⟨rfl, h1⟩ := hp; have S3 := hid (S2.out.next h1); have HR3 := hid (step_some HR1.out hr); clear hr h1))))
   all_goals
    go_wp2_with fail
    go_roundw
    case rel => exact ⟨i + 1, l3, by go_num, by omega, S3.out, HR3⟩
    case measure => simp; omega
  ·have hi2 : i = subs.length := by omega
   subst hi2
   have HR1 : Hid (wSeq (wPuts [[32, 125]]) some l' = R) := hid (by rw [← HRR.out, sbsW_end])
   have S1 := hid hS
   clear hS HRR
   have C1 := hid (shPut S1.out [[32, 125]] (by simp) 1 rfl #[.string ⟨#[32, 125]⟩] rfl _ rfl)
   go_wp2_with (first | (go_at_call 88; (first | ((with_reducible refine C1.out.mono ?_); intro e' w2 hp; rcases hr : wPuts [[32, 125]] l' with _ | l2; (· rw [hr] at hp; obtain ⟨rfl, hf⟩ := hp; obtain rfl := step_none HR1.out hr; exact ⟨rfl, rfl, S1.out.fr.trans hf⟩); rw [hr] at hp; obtain ⟨rfl, h1⟩ := hp; have S2 := hid (S1.out.next h1); have HR2 := hid (step_some HR1.out hr); clear hr h1))))
   obtain rfl := HR2.out
   go_end0
   exact ⟨rfl, S2.out⟩
end Go.Proofs.YtomimkgaelkaoaaGreatDoor
namespace Go.Proofs.YtomimkgaelkaoaaGreatDoor
open Go.Lib (hid)
open Go.ChangeShapes Go.WideShapes Go.ChangeAt Go.RowKit
theorem drew_alloc8 (w : World) (o : Obj) : w.drew.alloc o = (w.alloc o).drew := rfl
set_option maxHeartbeats 4000000 in
set_option maxRecDepth 100000 in
theorem shParEl {W0 : World} {g G : Nat} {W w : World} {l : List UInt8} (h : SW W0 g (fp G) W l w) {bp bt ka n c i : Nat} {s : List UInt8} (hbp : w.cell? ⟨bp, 0, none⟩ = some (.pointer (some ⟨g, 0, none⟩))) (hbt : w.cell? ⟨bt, 1, none⟩ = some (.slice (some ⟨ka, 0, none⟩) n c)) (hi : i < n) (hlp : bp < w.heap.size) (ha : w.cell? ⟨ka, i, none⟩ = some (.string (bs s))) :
  Calls Tryz.prog 135 #[.int .i64 (i : Int), .pointer (some ⟨bp, 0, none⟩), .pointer (some ⟨bt, 0, none⟩)] w (PostW W0 g (fp G) w (wPut s l)) := by
 obtain ⟨R, hR⟩ : ∃ R, wPut s l = R := ⟨_, rfl⟩
 rw [hR]
 have HR1 : Hid (wSeq (wPuts [s]) some l = R) := hid (by rw [wSeq_some, wPuts_one]; exact hR)
 have hiI : (i : Int) < (n : Int) := by omega
 have S1 := hid (h.start.keep (Below.refl w.heap.size w).drew)
 have C1 := shPut S1.out [s] (by simp) 1 rfl #[.string (bs s)] rfl w.heap.size rfl
 rw [drew_alloc8] at C1
 have C1 := hid C1
 have hbp2 : (w.alloc (.cells #[.string (bs s)] 9)).cell? ⟨bp, 0, none⟩ = some (.pointer (some ⟨g, 0, none⟩)) := ((below_box w _).cell (p := ⟨bp, 0, none⟩) hlp).trans hbp
 clear hR h hi hlp
 go_enter Tryz.func135, Tryz.ntmps135
 go_region_with (first | (go_at_call 88; (first | ((with_reducible refine C1.out.mono ?_); intro e' w2 hp; rcases hr : wPuts [s] l with _ | l2; (· rw [hr] at hp; obtain ⟨rfl, hf⟩ := hp; obtain rfl := step_none HR1.out hr; exact ⟨rfl, rfl, S1.out.fr.trans hf⟩); rw [hr] at hp; obtain ⟨rfl, h1⟩ := hp; have S2 := hid (S1.out.next h1); have HR2 := hid (step_some HR1.out hr); clear hr h1))))
 all_goals
  go_wp2_with fail
  obtain rfl := HR2.out
  go_end0
  exact ⟨rfl, S2.out⟩
def itmW (xs : List XG) (ts : List TG) (x : IM) : OW := if 0 < x.subs.length then wSeq (wPuts [kPack ++ [32], wordN x.size x.little, [32, 123]]) (sbsW x.subs 0) else fieldW xs ts x
def itsW (xs : List XG) (ts : List TG) (is : List IM) (i : Nat) : OW := wSeq (wAll ((is.drop i).map (itemW xs ts))) (wSeq (wPuts [[125, 10]]) some)
theorem itsW_step {xs : List XG} {ts : List TG} {is : List IM} {i : Nat} {x : IM} (h : is[i]? = some x) : itsW xs ts is i = wSeq (wPuts [[32, 32]]) (wSeq (itmW xs ts x) (wSeq (wPuts [[10]]) (itsW xs ts is (i + 1)))) := by
 unfold itsW
 have hlt := (List.getElem?_eq_some_iff.1 h).1
 rw [List.drop_eq_getElem_cons hlt, (List.getElem?_eq_some_iff.1 h).2, List.map_cons, wAll_cons]
 unfold itemW itmW
 rw [pack_eq8]
 simp only [wPuts_one, wAll_cons, wAll_nil, wSeq_assoc, wSome_seq]
theorem itsW_end {xs : List XG} {ts : List TG} {is : List IM} : itsW xs ts is is.length = wSeq (wPuts [[125, 10]]) some := by
 unfold itsW
 rw [List.drop_length]
 rfl
theorem struct_eq8 (xs : List XG) (ts : List TG) (s : SM) : structW xs ts s = wSeq (wPuts [kStruct ++ [32], s.s]) (wSeq (wList s.ps.length fun i => wPut (s.ps.getD i [])) (wSeq (wPuts [[32, 123, 10]]) (itsW xs ts s.is 0))) := by
 unfold structW itsW
 rw [List.drop_zero, wPuts_two, wPuts_one, wPuts_one]
 simp only [wAll_cons, wAll_nil, wSeq_assoc]
structure SmOK (s : SM) : Prop where
 ps : s.ps.length < 9223372036854775808
 is : s.is.length < 9223372036854775808
 sl : ∀ x ∈ s.is, x.subs.length < 9223372036854775808
 sb : ∀ x ∈ s.is, ∀ u ∈ x.subs, u.2 < 9223372036854775808
theorem size_item8 : (Tryz.prog.info? 129).map (·.size) = some 9 := by kernel_rfl
theorem it_one (a : ByteArray) (b c : Int) (d e : ByteArray) (f g : Int) (h : Bool) (r : Option Addr) (k i : Nat) : #[Value.string a, Value.int .i64 b, Value.int .i64 c, Value.string d, Value.string e, Value.int .i64 f, Value.int .i64 g, Value.bool h, Value.slice r k i].all (fun v => v.oneCell') = true := row_one8 (l := [Value.string a, Value.int .i64 b, Value.int .i64 c, Value.string d, Value.string e, Value.int .i64 f, Value.int .i64 g, Value.bool h, Value.slice r k i]) fun u hu => by
 simp only [List.mem_cons, List.mem_nil_iff, or_false] at hu
 rcases hu with rfl | rfl | rfl | rfl | rfl | rfl | rfl | rfl | rfl <;> rfl
theorem cells3c {T : TypeId} {w : World} {k : Nat} {v0 v1 v2 : Value} (h : w.heap[k]? = some (.cells #[v0, v1, v2] T (0, 0))) : (w.cell? ⟨k, 0, none⟩ = some v0 ∧ w.cell? ⟨k, 1, none⟩ = some v1 ∧ w.cell? ⟨k, 2, none⟩ = some v2) ∧ (∀ j, w.frozen? ⟨k, j, none⟩ = false) ∧ k < w.heap.size := by
 refine ⟨⟨?_, ?_, ?_⟩, fun j => by simp [World.frozen?, h], (Array.getElem?_eq_some_iff.1 h).1⟩ <;> (rw [cell_of_row _ _ _ _ _ (0, 0) h]; rfl)
theorem cells1c {T : TypeId} {w : World} {k : Nat} {v0 : Value} (h : w.heap[k]? = some (.cells #[v0] T (0, 0))) : w.cell? ⟨k, 0, none⟩ = some v0 := by
 rw [cell_of_row _ _ _ _ _ (0, 0) h]; rfl
set_option maxHeartbeats 8000000 in
set_option maxRecDepth 100000 in
theorem shStruct {W0 : World} {g G : Nat} {F : GF} (hF : FileG G W0 F) (hN : NEnv W0) (hG : GfOK F) {W w : World} {l : List UInt8} (h : SW W0 g (fp G) W l w) (s : SM) (hsm : SmOK s) {pa ia : Option Addr} {pc ic : Nat} (hp : SlR 1 StrC W0 (.slice pa s.ps.length pc) s.ps) (hi : SlR 9 IrC W0 (.slice ia s.is.length ic) s.is) :
  Calls Tryz.prog 90 #[.pointer (some ⟨g, 0, none⟩), .agg #[.string (bs s.s), .slice pa s.ps.length pc, .slice ia s.is.length ic]] w (PostW W0 g (fp G) w (structW F.xs F.ts s l)) := by
 rw [struct_eq8]
 obtain ⟨R, hR⟩ : ∃ R, wSeq (wPuts [kStruct ++ [32], s.s]) (wSeq (wList s.ps.length fun i => wPut (s.ps.getD i [])) (wSeq (wPuts [[32, 123, 10]]) (itsW F.xs F.ts s.is 0))) l = R := ⟨_, rfl⟩
 rw [hR]
 have HR1 := hid hR
 have HNE := hid h.ne
 have S0 := hid (h.start.alloc (.cells #[.pointer (some ⟨g, 0, none⟩)] 119))
 have hp0 := heap_alloc_new w (.cells #[.pointer (some ⟨g, 0, none⟩)] 119)
 have hsz : (w.alloc (.cells #[.pointer (some ⟨g, 0, none⟩)] 119)).heap.size = w.heap.size + 1 := by simp
 have HNE2 := hid (S0.out.ne)
 rw [hsz] at HNE2
 have S1 := hid (S0.out.alloc (.cells #[.string (bs s.s), .slice pa s.ps.length pc, .slice ia s.is.length ic] 110))
 have hx1 := heap_alloc_new (w.alloc (.cells #[.pointer (some ⟨g, 0, none⟩)] 119)) (.cells #[.string (bs s.s), .slice pa s.ps.length pc, .slice ia s.is.length ic] 110)
 rw [hsz] at hx1
 have HX1 := hid hx1
 have HP1 : Hid (((w.alloc (.cells #[.pointer (some ⟨g, 0, none⟩)] 119)).alloc (.cells #[.string (bs s.s), .slice pa s.ps.length pc, .slice ia s.is.length ic] 110)).heap[w.heap.size]? = some (.cells #[.pointer (some ⟨g, 0, none⟩)] 119 (0, 0))) := hid (by rw [Below.heap_alloc _ _ _ (by omega)]; exact hp0)
 have C1 := hid (shPut S1.out [kStruct ++ [32], s.s] (by simp) 2 rfl #[.string ⟨#[115, 116, 114, 117, 99, 116, 32]⟩, .string (bs s.s)] rfl (w.heap.size + 1 + 1) (by simp))
 obtain ⟨⟨d0, d1, d2⟩, df, dl⟩ := cells3c HX1.out
 have e0 := cells1c HP1.out
 have HPS := hid hp
 have HIS := hid hi
 have HSM := hid hsm
 have HFF := hid hF
 have HNN := hid hN
 have HGG := hid hG
 have HEL : Hid (∀ (w2 : World), Fr W0.heap.size g ((w.alloc (.cells #[.pointer (some ⟨g, 0, none⟩)] 119)).alloc (.cells #[.string (bs s.s), .slice pa s.ps.length pc, .slice ia s.is.length ic] 110)) w2 → ∀ (i : Nat), i < s.ps.length → ∀ (l : List UInt8) (w3 : World), SW W0 g (fp G) w2 l w3 → Calls Tryz.prog 135 #[.int .i64 (i : Int), .pointer (some ⟨w.heap.size, 0, none⟩), .pointer (some ⟨w.heap.size + 1, 0, none⟩)] w3 (PostW W0 g (fp G) w3 (wPut (s.ps.getD i []) l))) := hid (by
  intro w2 hf2 i hi l w3 h3
  have hf := hf2.trans h3.fr
  have hx3 := hf.keep _ _ _ _ HX1.out HNE2.out (by decide)
  have hp3 := hf.keep _ _ _ _ HP1.out HNE.out (by decide)
  have hg : s.ps[i]? = some (s.ps.getD i []) := by rw [List.getD_eq_getElem?_getD, List.getElem?_eq_getElem hi]; rfl
  obtain ⟨ka, rfl, hk, hcell⟩ := strs_at HPS.out hg
  exact shParEl h3 (n := s.ps.length) (c := pc) (cells1c hp3) (cells3c hx3).1.2.1 hi (Array.getElem?_eq_some_iff.1 hp3).1 ((h3.base.cell (p := ⟨ka, i, none⟩) hk).trans hcell))
 clear hR hF hN hG h hx1 hp0 hsz hp hi hsm
 go_enter Tryz.func90, Tryz.ntmps90
 go_wp2_with (first | (go_at_call 88; (first | ((with_reducible refine C1.out.mono ?_); intro e' w2 hp; rcases hr : wPuts [kStruct ++ [32], s.s] l with _ | l2; (· rw [hr] at hp; obtain ⟨rfl, hf⟩ := hp; obtain rfl := step_none HR1.out hr; exact ⟨rfl, rfl, S1.out.fr.trans hf⟩); rw [hr] at hp; obtain ⟨rfl, h1⟩ := hp; have S2 := hid (S1.out.next h1); have HR2 := hid (step_some HR1.out hr); have HX2 := hid (h1.fr.keep _ _ _ _ HX1.out HNE2.out (by decide)); have HP2 := hid (h1.fr.keep _ _ _ _ HP1.out HNE.out (by decide)); clear d0 d1 d2 df dl e0; obtain ⟨⟨d0, d1, d2⟩, df, dl⟩ := cells3c HX2.out; have e0 := cells1c HP2.out; clear hr; have C2 := hid (shList_par S2.out.start s.ps.length HSM.out.ps (fun i => wPut (s.ps.getD i [])) _ _ (HEL.out w2 h1.fr)); clear h1) | ((with_reducible refine C3.out.mono ?_); intro e' w4 hp; rcases hr : wPuts [[32, 123, 10]] l3 with _ | l4; (· rw [hr] at hp; obtain ⟨rfl, hf⟩ := hp; obtain rfl := step_none HR3.out hr; exact ⟨rfl, rfl, S3.out.fr.trans hf⟩); rw [hr] at hp; obtain ⟨rfl, h1⟩ := hp; have S4 := hid (S3.out.next h1); have HR4 := hid (step_some HR3.out hr); have HX4 := hid (h1.fr.keep _ _ _ _ HX3.out HNE2.out (by decide)); have HP4 := hid (h1.fr.keep _ _ _ _ HP3.out HNE.out (by decide)); clear d0 d1 d2 df dl e0; obtain ⟨⟨d0, d1, d2⟩, df, dl⟩ := cells3c HX4.out; have e0 := cells1c HP4.out; clear hr; clear h1))) | (go_at_call 134; (first | ((with_reducible refine C2.out.mono ?_); intro e' w3 hp; rcases hr : wList s.ps.length (fun i => wPut (s.ps.getD i [])) l2 with _ | l3; (· rw [hr] at hp; obtain ⟨rfl, hf⟩ := hp; obtain rfl := step_none HR2.out hr; exact ⟨rfl, rfl, S2.out.fr.trans hf⟩); rw [hr] at hp; obtain ⟨rfl, h1⟩ := hp; have S3 := hid (S2.out.next h1); have HR3 := hid (step_some HR2.out hr); have HX3 := hid (h1.fr.keep _ _ _ _ HX2.out HNE2.out (by decide)); have HP3 := hid (h1.fr.keep _ _ _ _ HP2.out HNE.out (by decide)); clear d0 d1 d2 df dl e0; obtain ⟨⟨d0, d1, d2⟩, df, dl⟩ := cells3c HX3.out; have e0 := cells1c HP3.out; clear hr; have C3 := hid (shPut S3.out [[32, 123, 10]] (by simp) 1 rfl #[.string ⟨#[32, 123, 10]⟩] rfl _ rfl); clear h1))))
 clear C1 C2 C3 S0 S1 S2 S3 HX1 HX2 HX3 HP1 HP2 HP3 HR1 HR2 HR3 HEL HPS
 go_loopw [23] (fun s23 wr => ∃ (i : Nat) (l' : List UInt8), s23 = .int .i64 (i : Int) ∧ i ≤ s.is.length ∧ SW W0 g (fp G) w l' wr ∧ wr.heap[w.heap.size + 1]? = some (.cells #[.string (bs s.s), .slice pa s.ps.length pc, .slice ia s.is.length ic] 110 (0, 0)) ∧ wr.heap[w.heap.size]? = some (.cells #[.pointer (some ⟨g, 0, none⟩)] 119 (0, 0)) ∧ Hid (itsW F.xs F.ts s.is i l' = R)) (fun s23 _ => s.is.length - (match s23 with | .int _ i => i.toNat | _ => 0))
 case atStart => exact ⟨0, l4, rfl, Nat.zero_le _, S4.out, HX4.out, HP4.out, HR4⟩
 case round =>
  obtain ⟨i, l', rfl, hi, hS, hX, hP, HRR⟩ := hrel
  clear S4 HX4 HP4 HR4
  by_cases hlt : i < s.is.length
  ·have hltI : (i : Int) < (s.is.length : Int) := by omega
   obtain ⟨x, hx⟩ : ∃ x, s.is[i]? = some x := ⟨s.is[i], List.getElem?_eq_getElem hlt⟩
   have HM := hid (List.mem_of_getElem? hx)
   have HR1 : Hid (wSeq (wPuts [[32, 32]]) (wSeq (itmW F.xs F.ts x) (wSeq (wPuts [[10]]) (itsW F.xs F.ts s.is (i + 1)))) l' = R) := hid (by rw [← HRR.out, itsW_step hx])
   obtain ⟨kc, sv, hkc, hkl, q0, q1, q2, q3, q4, q5, q6, q7, q8, hsub⟩ := is_at HIS.out hx
   have hw1 : IntKind.i64.wrap ((i : Int) + 1) = (i : Int) + 1 := IntWalk.i64_in _ (by have := HSM.out.is; omega)
   obtain ⟨sa, sc, rfl, -⟩ := hsub.shape
   have HSUB := hid hsub
   have q0 := (hS.base.cell (p := ⟨kc, i * 9, none⟩) hkl).trans q0
   have q1 := (hS.base.cell (p := ⟨kc, i * 9 + 1, none⟩) hkl).trans q1
   have q2 := (hS.base.cell (p := ⟨kc, i * 9 + 2, none⟩) hkl).trans q2
   have q3 := (hS.base.cell (p := ⟨kc, i * 9 + 3, none⟩) hkl).trans q3
   have q4 := (hS.base.cell (p := ⟨kc, i * 9 + 4, none⟩) hkl).trans q4
   have q5 := (hS.base.cell (p := ⟨kc, i * 9 + 5, none⟩) hkl).trans q5
   have q6 := (hS.base.cell (p := ⟨kc, i * 9 + 6, none⟩) hkl).trans q6
   have q7 := (hS.base.cell (p := ⟨kc, i * 9 + 7, none⟩) hkl).trans q7
   have q8 := (hS.base.cell (p := ⟨kc, i * 9 + 8, none⟩) hkl).trans q8
   have S0 := hid hS
   have HX0 := hid hX
   have HP0 := hid hP
   have HNB := hid hS.ne
   have HBX := hid (heap_alloc_new wr (.cells #[.string ⟨#[]⟩, .int .i64 0, .int .i64 0, .string ⟨#[]⟩, .string ⟨#[]⟩, .int .i64 0, .int .i64 0, .bool false, .slice none 0 0] 129))
   have S1 := hid (hS.alloc (.cells #[.string (bs x.s), .int .i64 x.t, .int .i64 (x.der : Int), .string (bs x.a), .string (bs x.b), .int .i64 x.wh, .int .i64 (x.size : Int), .bool x.little, .slice sa x.subs.length sc] 129))
   have HY1 := hid (heap_alloc_new wr (.cells #[.string (bs x.s), .int .i64 x.t, .int .i64 (x.der : Int), .string (bs x.a), .string (bs x.b), .int .i64 x.wh, .int .i64 (x.size : Int), .bool x.little, .slice sa x.subs.length sc] 129))
   have hfa : Fr W0.heap.size g wr (wr.alloc (.cells #[.string (bs x.s), .int .i64 x.t, .int .i64 (x.der : Int), .string (bs x.a), .string (bs x.b), .int .i64 x.wh, .int .i64 (x.size : Int), .bool x.little, .slice sa x.subs.length sc] 129)) := Fr.of (below_box wr _) hS.lo
   have HX1 := hid (hfa.keep _ _ _ _ HX0.out HNE2.out (by decide))
   have HP1 := hid (hfa.keep _ _ _ _ HP0.out HNE.out (by decide))
   have C1 := hid (shPut S1.out [[32, 32]] (by simp) 1 rfl #[.string ⟨#[32, 32]⟩] rfl (wr.heap.size + 1) (by simp))
   obtain ⟨⟨d0, d1, d2⟩, df, dl⟩ := cells3c HX0.out
   have e0 := cells1c HP0.out
   clear hS HRR hkl hsub hX hP hfa
   subst hkc
   rcases Nat.eq_zero_or_pos x.subs.length with hsb | hsb
   ·have hz : (x.subs.length : Int) = 0 := by omega
    have hng : ¬ (0 : Int) < (x.subs.length : Int) := by omega
    have HR1 : Hid (wSeq (wPuts [[32, 32]]) (wSeq (fieldW F.xs F.ts x) (wSeq (wPuts [[10]]) (itsW F.xs F.ts s.is (i + 1)))) l' = R) := hid (by rw [← HR1.out]; unfold itmW; rw [if_neg (by omega)])
    clear hsb hz
    go_wp2_with (first | ((with_reducible refine at_list8 ?_); refine wpList_store_rowTo rfl 129 _ _ rfl rfl wr.heap.size #[.string (bs x.s), .int .i64 x.t, .int .i64 (x.der : Int), .string (bs x.a), .string (bs x.b), .int .i64 x.wh, .int .i64 (x.size : Int), .bool x.little, .slice sa x.subs.length sc] rfl rfl 129 _ HBX.out size_item8 rfl (it_one _ _ _ _ _ _ _ _ _ _ _) ?_; rw [World.setRow_alloc_new]; clear q0 q1 q2 q3 q4 q5 q6 q7 q8 HBX d0 d1 d2 df dl e0; have e0 := cells1c HP1.out; have y8 := (cells9 HY1.out).1.2.2.2.2.2.2.2.2) | ((with_reducible refine at_list8 ?_); refine wpList_load_row rfl 129 _ rfl wr.heap.size rfl 129 #[.string (bs x.s), .int .i64 x.t, .int .i64 (x.der : Int), .string (bs x.a), .string (bs x.b), .int .i64 x.wh, .int .i64 (x.size : Int), .bool x.little, .slice sa x.subs.length sc] (0, 0) _ HY2.out Tryz.underlying129 rfl size_item8 ?_) | (go_at_call 88; (first | ((with_reducible refine C1.out.mono ?_); intro e' w2 hp; rcases hr : wPuts [[32, 32]] l' with _ | l2; (· rw [hr] at hp; obtain ⟨rfl, hf⟩ := hp; obtain rfl := step_none HR1.out hr; exact ⟨rfl, rfl, S1.out.fr.trans hf⟩); rw [hr] at hp; obtain ⟨rfl, h1⟩ := hp; have S2 := hid (S1.out.next h1); have HR2 := hid (step_some HR1.out hr); have HX2 := hid (h1.fr.keep _ _ _ _ HX1.out HNE2.out (by decide)); have HP2 := hid (h1.fr.keep _ _ _ _ HP1.out HNE.out (by decide)); have HY2 := hid (h1.fr.keep _ _ _ _ HY1.out HNB.out (by decide)); clear e0 y8; have e0 := cells1c HP2.out; have y8 := (cells9 HY2.out).1.2.2.2.2.2.2.2.2; clear hr; have C2 := hid (shField HFF.out HNN.out HGG.out S2.out x (.int .i64 (x.size : Int)) (.bool x.little) (.slice sa x.subs.length sc)); clear h1) | ((with_reducible refine C3.out.mono ?_); intro e' w4 hp; rcases hr : wPuts [[10]] l3 with _ | l4; (· rw [hr] at hp; obtain ⟨rfl, hf⟩ := hp; obtain rfl := step_none HR3.out hr; exact ⟨rfl, rfl, S3.out.fr.trans hf⟩); rw [hr] at hp; obtain ⟨rfl, h1⟩ := hp; have S4 := hid (S3.out.next h1); have HR4 := hid (step_some HR3.out hr); have HX4 := hid (h1.fr.keep _ _ _ _ HX3.out HNE2.out (by decide)); have HP4 := hid (h1.fr.keep _ _ _ _ HP3.out HNE.out (by decide)); have HY4 := hid (h1.fr.keep _ _ _ _ HY3.out HNB.out (by decide)); clear e0 y8; have e0 := cells1c HP4.out; have y8 := (cells9 HY4.out).1.2.2.2.2.2.2.2.2; clear hr; clear h1))) | (go_at_call 137; (first | ((with_reducible refine C2.out.mono ?_); intro e' w3 hp; rcases hr : fieldW F.xs F.ts x l2 with _ | l3; (· rw [hr] at hp; obtain ⟨rfl, hf⟩ := hp; obtain rfl := step_none HR2.out hr; exact ⟨rfl, rfl, S2.out.fr.trans hf⟩); rw [hr] at hp; obtain ⟨rfl, h1⟩ := hp; have S3 := hid (S2.out.next h1); have HR3 := hid (step_some HR2.out hr); have HX3 := hid (h1.fr.keep _ _ _ _ HX2.out HNE2.out (by decide)); have HP3 := hid (h1.fr.keep _ _ _ _ HP2.out HNE.out (by decide)); have HY3 := hid (h1.fr.keep _ _ _ _ HY2.out HNB.out (by decide)); clear e0 y8; have e0 := cells1c HP3.out; have y8 := (cells9 HY3.out).1.2.2.2.2.2.2.2.2; clear hr; have C3 := hid (shPut S3.out [[10]] (by simp) 1 rfl #[.string ⟨#[10]⟩] rfl _ rfl); clear h1))))
    go_roundw
    case rel => exact ⟨i + 1, l4, by go_num, by omega, S4.out, HX4.out, HP4.out, HR4⟩
    case measure => simp; omega
   ·have hgz : (0 : Int) < (x.subs.length : Int) := by omega
    have HR1 : Hid (wSeq (wPuts [[32, 32]]) (wSeq (wSeq (wPuts [kPack ++ [32], wordN x.size x.little, [32, 123]]) (sbsW x.subs 0)) (wSeq (wPuts [[10]]) (itsW F.xs F.ts s.is (i + 1)))) l' = R) := hid (by rw [← HR1.out]; unfold itmW; rw [if_pos hsb])
    clear hsb
    go_wp2_with (first | ((with_reducible refine at_list8 ?_); refine wpList_store_rowTo rfl 129 _ _ rfl rfl wr.heap.size #[.string (bs x.s), .int .i64 x.t, .int .i64 (x.der : Int), .string (bs x.a), .string (bs x.b), .int .i64 x.wh, .int .i64 (x.size : Int), .bool x.little, .slice sa x.subs.length sc] rfl rfl 129 _ HBX.out size_item8 rfl (it_one _ _ _ _ _ _ _ _ _ _ _) ?_; rw [World.setRow_alloc_new]; clear q0 q1 q2 q3 q4 q5 q6 q7 q8 HBX d0 d1 d2 df dl e0; have e0 := cells1c HP1.out; have y8 := (cells9 HY1.out).1.2.2.2.2.2.2.2.2) | ((with_reducible refine at_list8 ?_); refine wpList_load_row rfl 129 _ rfl wr.heap.size rfl 129 #[.string (bs x.s), .int .i64 x.t, .int .i64 (x.der : Int), .string (bs x.a), .string (bs x.b), .int .i64 x.wh, .int .i64 (x.size : Int), .bool x.little, .slice sa x.subs.length sc] (0, 0) _ HY2.out Tryz.underlying129 rfl size_item8 ?_) | (go_at_call 88; (first | ((with_reducible refine C1.out.mono ?_); intro e' w2 hp; rcases hr : wPuts [[32, 32]] l' with _ | l2; (· rw [hr] at hp; obtain ⟨rfl, hf⟩ := hp; obtain rfl := step_none HR1.out hr; exact ⟨rfl, rfl, S1.out.fr.trans hf⟩); rw [hr] at hp; obtain ⟨rfl, h1⟩ := hp; have S2 := hid (S1.out.next h1); have HR2 := hid (step_some HR1.out hr); have HX2 := hid (h1.fr.keep _ _ _ _ HX1.out HNE2.out (by decide)); have HP2 := hid (h1.fr.keep _ _ _ _ HP1.out HNE.out (by decide)); have HY2 := hid (h1.fr.keep _ _ _ _ HY1.out HNB.out (by decide)); clear e0 y8; have e0 := cells1c HP2.out; have y8 := (cells9 HY2.out).1.2.2.2.2.2.2.2.2; clear hr; have C2 := hid (shPack HFF.out HNN.out HGG.out S2.out (.string (bs x.s)) (.int .i64 x.t) (.int .i64 (x.der : Int)) (.string (bs x.a)) (.string (bs x.b)) (.int .i64 x.wh) x.size x.little x.subs HSUB.out (HSM.out.sb x HM.out) (HSM.out.sl x HM.out)); clear h1) | ((with_reducible refine C3.out.mono ?_); intro e' w4 hp; rcases hr : wPuts [[10]] l3 with _ | l4; (· rw [hr] at hp; obtain ⟨rfl, hf⟩ := hp; obtain rfl := step_none HR3.out hr; exact ⟨rfl, rfl, S3.out.fr.trans hf⟩); rw [hr] at hp; obtain ⟨rfl, h1⟩ := hp; have S4 := hid (S3.out.next h1); have HR4 := hid (step_some HR3.out hr); have HX4 := hid (h1.fr.keep _ _ _ _ HX3.out HNE2.out (by decide)); have HP4 := hid (h1.fr.keep _ _ _ _ HP3.out HNE.out (by decide)); have HY4 := hid (h1.fr.keep _ _ _ _ HY3.out HNB.out (by decide)); clear e0 y8; have e0 := cells1c HP4.out; have y8 := (cells9 HY4.out).1.2.2.2.2.2.2.2.2; clear hr; clear h1))) | (go_at_call 136; (first | ((with_reducible refine C2.out.mono ?_); intro e' w3 hp; rcases hr : (wSeq (wPuts [kPack ++ [32], wordN x.size x.little, [32, 123]]) (sbsW x.subs 0)) l2 with _ | l3; (· rw [hr] at hp; obtain ⟨rfl, hf⟩ := hp; obtain rfl := step_none HR2.out hr; exact ⟨rfl, rfl, S2.out.fr.trans hf⟩); rw [hr] at hp; obtain ⟨rfl, h1⟩ := hp; have S3 := hid (S2.out.next h1); have HR3 := hid (step_some HR2.out hr); have HX3 := hid (h1.fr.keep _ _ _ _ HX2.out HNE2.out (by decide)); have HP3 := hid (h1.fr.keep _ _ _ _ HP2.out HNE.out (by decide)); have HY3 := hid (h1.fr.keep _ _ _ _ HY2.out HNB.out (by decide)); clear e0 y8; have e0 := cells1c HP3.out; have y8 := (cells9 HY3.out).1.2.2.2.2.2.2.2.2; clear hr; have C3 := hid (shPut S3.out [[10]] (by simp) 1 rfl #[.string ⟨#[10]⟩] rfl _ rfl); clear h1))))
    go_roundw
    case rel => exact ⟨i + 1, l4, by go_num, by omega, S4.out, HX4.out, HP4.out, HR4⟩
    case measure => simp; omega
  ·have hi2 : i = s.is.length := by omega
   subst hi2
   have HR1 : Hid (wSeq (wPuts [[125, 10]]) some l' = R) := hid (by rw [← HRR.out, itsW_end])
   have S1 := hid hS
   have e0 := cells1c hP
   clear hS HRR hX hP
   have C1 := hid (shPut S1.out [[125, 10]] (by simp) 1 rfl #[.string ⟨#[125, 10]⟩] rfl _ rfl)
   go_wp2_with (first | (go_at_call 88; (first | ((with_reducible refine C1.out.mono ?_); intro e' w2 hp; rcases hr : wPuts [[125, 10]] l' with _ | l2; (· rw [hr] at hp; obtain ⟨rfl, hf⟩ := hp; obtain rfl := step_none HR1.out hr; exact ⟨rfl, rfl, S1.out.fr.trans hf⟩); rw [hr] at hp; obtain ⟨rfl, h1⟩ := hp; have S2 := hid (S1.out.next h1); have HR2 := hid (step_some HR1.out hr); clear hr h1))))
   obtain rfl := HR2.out
   go_end0
   exact ⟨rfl, S2.out⟩
end Go.Proofs.YtomimkgaelkaoaaGreatDoor
