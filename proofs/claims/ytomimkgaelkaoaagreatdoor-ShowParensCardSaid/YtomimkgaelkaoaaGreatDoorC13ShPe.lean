/- Layer 8: Expr and Type of a File. · Layer 8: wakes; what is tidy is parsed to the same File. · Layer 8, mathematics (for ShowParens): the operands of each expression of a File stand ahead of it, as many as its kind asks. No program. · Layer 8 (for ShowParens): the closure that gives the text of an expression with each of its parts in parentheses. -/
import Derived.Test.YtomimkgaelkaoaaGreatDoorC13ShEg
import Derived.Deep.RegionWith
import Derived.Test.YtomimkgaelkaoaaGreatDoorC13ExAa
import Derived.Test.YtomimkgaelkaoaaGreatDoorC13ShPc
import Derived.Lib.QuietBelow
set_option linter.unusedVariables false
set_option linter.unusedSimpArgs false
namespace Go.Proofs.YtomimkgaelkaoaaGreatDoor
open Go.Lib (hid)
open Go.ChangeShapes Go.WideShapes Go.ChangeAt Go.RowKit
set_option maxHeartbeats 4000000 in
set_option maxRecDepth 100000 in
theorem shExprCl {W0:World} {g G:Nat} {F:GF} (hF:FileG G W0 F) (hN:NEnv W0) (hG:GfOK F) {W w:World} {l:List UInt8} (h:SW W0 g (fp G) W l w) {ka kf:Nat} (at':Int) (ha:W0.cell? ⟨ka,0,none⟩=some (.int .i64 at')) (hf:W0.cell? ⟨kf,0,none⟩=some (fp G)) (hla:ka<W0.heap.size) (hlf:kf<W0.heap.size):
  Calls Tryz.prog 47 #[.pointer (some ⟨g,0,none⟩), .pointer (some ⟨ka,0,none⟩), .pointer (some ⟨kf,0,none⟩)] w (PostW W0 g (fp G) w (exprW F.xs F.xs.length at' l)):=by
 obtain ⟨R,hR⟩: ∃R,exprW F.xs F.xs.length at' l=R:=⟨_,rfl⟩
 obtain ⟨ac',cc',bs',cs',ax',cx',at2,ct, -, -,h3,h4, -, -, -, -,hg⟩:=hF.look
 have q:=(h.base.cell (p:=⟨G,3,none⟩) hg).trans h3
 have qa:=(h.base.cell (p:=⟨ka,0,none⟩) hla).trans ha
 have qf:w.cell? ⟨kf,0,none⟩=some (.pointer (some ⟨G,1,none⟩)):=(h.base.cell (p:=⟨kf,0,none⟩) hlf).trans hf
 have S1:=hid (h.start.keep (Below.refl w.heap.size w).drew)
 have C1:=hid ((shExprs hF hN hG F.xs.length (Nat.le_refl _)).1 at' _ _ _ S1.out)
 rw [hR] at C1 ⊢
 clear hR h3 h4 hg ha hf hla hlf h hF hN hG
 go_enter Tryz.func47, Tryz.ntmps47
 go_wp2_with fail
 go_region_with (go_at_call 48;(with_reducible refine C1.out.mono ?_);intro e' w2 hp;rcases R with _|l2;(· obtain ⟨rfl,hf⟩:=hp;exact ⟨rfl,rfl,S1.out.fr.trans hf⟩);obtain ⟨rfl,h1⟩:=hp;have S2:=hid (S1.out.next h1);clear h1)
 all_goals
  go_wp2_with fail
  go_end0
  exact ⟨rfl,S2.out⟩
set_option maxHeartbeats 2000000 in
set_option maxRecDepth 100000 in
theorem write_Expr {G ka kf:Nat} {w:World} {r:Option (List UInt8)} (hC: ∀wr,SW w w.heap.size (fp G) wr [] wr→Calls Tryz.prog 47 #[.pointer (some ⟨w.heap.size,0,none⟩), .pointer (some ⟨ka,0,none⟩), .pointer (some ⟨kf,0,none⟩)] wr (PostW w w.heap.size (fp G) wr r)):
  Calls Tryz.prog 44 #[.pointer (some ⟨G,1,none⟩),(.func (.func 47) #[] #[.pointer (some ⟨ka,0,none⟩), .pointer (some ⟨kf,0,none⟩)])] w fun e w'=>WrPost r e∧Below w.heap.size w w':=by
 have S0:=hid (SW.new w (fp G))
 have C:=hid (hC _ S0.out)
 clear hC
 go_enter_defers Tryz.func44, Tryz.ntmps44
 go_wp2_with fail
 refine C.out.mono ?_
 intro e w1 hp
 cases r with
 |none=>
  obtain ⟨rfl,hf⟩:=hp
  have HF:=hid ((below_box w (.cells #[.pointer (some ⟨G,1,none⟩), .pointer none, .slice none 0 0] 206)).trans hf.below)
  clear hf C S0
  go_wp2_with fail
  refine leaves_cons (f:= 85) (args:= #[]) (by simp) (by simp [go_sem]) ?_
  refine (catch8_panics _).mono ?_
  rintro e u' w'' ⟨rfl,rfl,rfl⟩
  refine ⟨.tuple #[.string ⟨#[]⟩, .bool false],by simp [results, Tryz.results44,go_sem],rfl,HF.out⟩
 |some l=>
  obtain ⟨rfl,hS⟩:=hp
  have S1:=hid hS
  have C2:=hid (String8 _ hS.pr)
  clear hS C S0
  go_wp2_with (go_at_call 86;(with_reducible refine C2.out.mono ?_);rintro e' w2 ⟨rfl,hb⟩;have HF:=hid (S1.out.base.trans hb);clear hb)
  refine leaves_cons (f:= 85) (args:= #[]) (by simp) (by simp [go_sem]) ?_
  refine (catch8_idle _).mono ?_
  rintro e u' w'' ⟨rfl,rfl,rfl⟩
  refine ⟨.tuple #[.string (bs l), .bool true],by simp [results, Tryz.results44,go_sem],rfl,HF.out⟩
def partExpr (F:GF) (at':Int):List UInt8:=match textF F with
 |none=> []
 |some _=>(exprW F.xs F.xs.length at' []).getD []
set_option maxHeartbeats 4000000 in
set_option maxRecDepth 100000 in
theorem part_Expr {G:Nat} {F:GF} (w:World) (hF:FileG G w F) (hO:FileOK F) (hE:Env w) (hK:KEnv (fun b=>b<w.heap.size) w) (hN:NEnv w) {ka kf:Nat} (at':Int) (ha:w.cell? ⟨ka,0,none⟩=some (.int .i64 at')) (hf:w.cell? ⟨kf,0,none⟩=some (fp G)) (hla:ka<w.heap.size) (hlf:kf<w.heap.size):
  Calls Tryz.prog 46 #[.pointer (some ⟨G,1,none⟩),(.func (.func 47) #[] #[.pointer (some ⟨ka,0,none⟩), .pointer (some ⟨kf,0,none⟩)])] w fun e w'=>e= .returned (.string (bs (partExpr F at')))∧Below w.heap.size w w':=by
 have CT:=hid (Text_any w hF hO hE hK hN)
 have CW:Hid (∀w',Below w.heap.size w w'→Calls Tryz.prog 44 #[.pointer (some ⟨G,1,none⟩),(.func (.func 47) #[] #[.pointer (some ⟨ka,0,none⟩), .pointer (some ⟨kf,0,none⟩)])] w' fun e w2=>WrPost (exprW F.xs F.xs.length at' []) e∧Below w'.heap.size w' w2):=hid fun w' hb=>
  write_Expr fun wr h=>shExprCl (hF.below hb) (hN.below hb) hO.g h at' ((hb.cell (p:=⟨ka,0,none⟩) hla).trans ha) ((hb.cell (p:=⟨kf,0,none⟩) hlf).trans hf) (Nat.lt_of_lt_of_le hla hb.size) (Nat.lt_of_lt_of_le hlf hb.size)
 obtain ⟨R,hR⟩: ∃R,exprW F.xs F.xs.length at' []=R:=⟨_,rfl⟩
 have HP:Hid (partExpr F at'=match textF F with
  |none=> []
  |some _=>R.getD []):=hid (by unfold partExpr;rw [hR])
 rw [hR] at CW
 clear hR hF hO hE hK hN ha hf hla hlf
 go_enter Tryz.func46, Tryz.ntmps46
 go_wp2_with fail
 refine CT.out.mono ?_
 rintro e w1 ⟨hp,hb1⟩
 have HB1:=hid hb1
 clear CT hb1
 rcases hq:textF F with _|t
 ·rw [hq] at hp HP
  obtain rfl:=hp
  clear hq
  go_wp2_with fail
  go_ret
  exact ⟨by rw [HP.out];rfl,HB1.out⟩
 ·rw [hq] at hp HP
  obtain rfl:=hp
  clear hq
  go_wp2_with fail
  refine (CW.out _ HB1.out).mono ?_
  rintro e w2 ⟨hp,hb2⟩
  have HB2:=hid (HB1.out.trans (hb2.mono HB1.out.size))
  clear hb2
  cases R with
  |none=>
   obtain rfl:=hp
   go_wp2_with fail
   go_ret
   exact ⟨by rw [HP.out];rfl,HB2.out⟩
  |some l=>
   obtain rfl:=hp
   go_wp2_with fail
   go_ret
   exact ⟨by rw [HP.out];rfl,HB2.out⟩
set_option maxHeartbeats 4000000 in
set_option maxRecDepth 100000 in
theorem Expr_any {G:Nat} {F:GF} (w:World) (hF:FileG G w F) (hO:FileOK F) (hE:Env w) (hK:KEnv (fun b=>b<w.heap.size) w) (hN:NEnv w) (at':Int):
  Calls Tryz.prog 15 #[.pointer (some ⟨G,1,none⟩), .int .i64 at'] w fun e w'=>e= .returned (.string (bs (partExpr F at')))∧Below w.heap.size w w':=by
 have hB:Below w.heap.size w ((w.alloc (.cells #[.pointer (some ⟨G,1,none⟩)] 23)).alloc (.cells #[.int .i64 at'] 3)):=(below_box _ _).alloc (by simp) _
 have h0:=heap_alloc_new w (.cells #[.pointer (some ⟨G,1,none⟩)] 23)
 have hs1:(w.alloc (.cells #[.pointer (some ⟨G,1,none⟩)] 23)).heap.size=w.heap.size+1:=by simp
 have h1:=heap_alloc_new (w.alloc (.cells #[.pointer (some ⟨G,1,none⟩)] 23)) (.cells #[.int .i64 at'] 3)
 rw [hs1] at h1
 have h0:((w.alloc (.cells #[.pointer (some ⟨G,1,none⟩)] 23)).alloc (.cells #[.int .i64 at'] 3)).heap[w.heap.size]? =some (.cells #[.pointer (some ⟨G,1,none⟩)] 23 (0,0)):=by rw [Below.heap_alloc _ _ _ (by omega)];exact h0
 have CP:=hid (part_Expr _ (hF.below hB) hO (hE.below hB) (hK.low hB) (hN.below hB) (ka:=w.heap.size+1) (kf:=w.heap.size) at' (cells1c h1) (cells1c h0) (Array.getElem?_eq_some_iff.1 h1).1 (Array.getElem?_eq_some_iff.1 h0).1)
 have z0:=cells1c h0
 have HB:=hid hB
 clear hF hO hE hK hN hB h0 hs1 h1
 go_enter Tryz.func15, Tryz.ntmps15
 go_wp2_with (go_at_call 46;(with_reducible refine CP.out.mono ?_);rintro e w2 ⟨rfl,hb⟩;have HB2:=hid (HB.out.trans (hb.mono HB.out.size));clear hb)
 go_ret
 exact ⟨rfl,HB2.out⟩
set_option maxHeartbeats 4000000 in
set_option maxRecDepth 100000 in
theorem shTypeCl {W0:World} {g G:Nat} {F:GF} (hF:FileG G W0 F) (hN:NEnv W0) (hG:GfOK F) {W w:World} {l:List UInt8} (h:SW W0 g (fp G) W l w) {ka kf:Nat} (at':Int) (ha:W0.cell? ⟨ka,0,none⟩=some (.int .i64 at')) (hf:W0.cell? ⟨kf,0,none⟩=some (fp G)) (hla:ka<W0.heap.size) (hlf:kf<W0.heap.size):
  Calls Tryz.prog 49 #[.pointer (some ⟨g,0,none⟩), .pointer (some ⟨ka,0,none⟩), .pointer (some ⟨kf,0,none⟩)] w (PostW W0 g (fp G) w (typW F.xs F.ts F.ts.length at' l)):=by
 obtain ⟨R,hR⟩: ∃R,typW F.xs F.ts F.ts.length at' l=R:=⟨_,rfl⟩
 obtain ⟨ac',cc',bs',cs',ax',cx',at2,ct, -, -,h3,h4, -, -, -, -,hg⟩:=hF.look
 have q:=(h.base.cell (p:=⟨G,4,none⟩) hg).trans h4
 have qa:=(h.base.cell (p:=⟨ka,0,none⟩) hla).trans ha
 have qf:w.cell? ⟨kf,0,none⟩=some (.pointer (some ⟨G,1,none⟩)):=(h.base.cell (p:=⟨kf,0,none⟩) hlf).trans hf
 have S1:=hid (h.start.keep (Below.refl w.heap.size w).drew)
 have C1:=hid (shTyps hF hN hG F.ts.length (Nat.le_refl _) at' _ _ _ S1.out)
 rw [hR] at C1 ⊢
 clear hR h3 h4 hg ha hf hla hlf h hF hN hG
 go_enter Tryz.func49, Tryz.ntmps49
 go_wp2_with fail
 go_region_with (go_at_call 50;(with_reducible refine C1.out.mono ?_);intro e' w2 hp;rcases R with _|l2;(· obtain ⟨rfl,hf⟩:=hp;exact ⟨rfl,rfl,S1.out.fr.trans hf⟩);obtain ⟨rfl,h1⟩:=hp;have S2:=hid (S1.out.next h1);clear h1)
 all_goals
  go_wp2_with fail
  go_end0
  exact ⟨rfl,S2.out⟩
set_option maxHeartbeats 2000000 in
set_option maxRecDepth 100000 in
theorem write_Type {G ka kf:Nat} {w:World} {r:Option (List UInt8)} (hC: ∀wr,SW w w.heap.size (fp G) wr [] wr→Calls Tryz.prog 49 #[.pointer (some ⟨w.heap.size,0,none⟩), .pointer (some ⟨ka,0,none⟩), .pointer (some ⟨kf,0,none⟩)] wr (PostW w w.heap.size (fp G) wr r)):
  Calls Tryz.prog 44 #[.pointer (some ⟨G,1,none⟩),(.func (.func 49) #[] #[.pointer (some ⟨ka,0,none⟩), .pointer (some ⟨kf,0,none⟩)])] w fun e w'=>WrPost r e∧Below w.heap.size w w':=by
 have S0:=hid (SW.new w (fp G))
 have C:=hid (hC _ S0.out)
 clear hC
 go_enter_defers Tryz.func44, Tryz.ntmps44
 go_wp2_with fail
 refine C.out.mono ?_
 intro e w1 hp
 cases r with
 |none=>
  obtain ⟨rfl,hf⟩:=hp
  have HF:=hid ((below_box w (.cells #[.pointer (some ⟨G,1,none⟩), .pointer none, .slice none 0 0] 206)).trans hf.below)
  clear hf C S0
  go_wp2_with fail
  refine leaves_cons (f:= 85) (args:= #[]) (by simp) (by simp [go_sem]) ?_
  refine (catch8_panics _).mono ?_
  rintro e u' w'' ⟨rfl,rfl,rfl⟩
  refine ⟨.tuple #[.string ⟨#[]⟩, .bool false],by simp [results, Tryz.results44,go_sem],rfl,HF.out⟩
 |some l=>
  obtain ⟨rfl,hS⟩:=hp
  have S1:=hid hS
  have C2:=hid (String8 _ hS.pr)
  clear hS C S0
  go_wp2_with (go_at_call 86;(with_reducible refine C2.out.mono ?_);rintro e' w2 ⟨rfl,hb⟩;have HF:=hid (S1.out.base.trans hb);clear hb)
  refine leaves_cons (f:= 85) (args:= #[]) (by simp) (by simp [go_sem]) ?_
  refine (catch8_idle _).mono ?_
  rintro e u' w'' ⟨rfl,rfl,rfl⟩
  refine ⟨.tuple #[.string (bs l), .bool true],by simp [results, Tryz.results44,go_sem],rfl,HF.out⟩
def partType (F:GF) (at':Int):List UInt8:=match textF F with
 |none=> []
 |some _=>(typW F.xs F.ts F.ts.length at' []).getD []
set_option maxHeartbeats 4000000 in
set_option maxRecDepth 100000 in
theorem part_Type {G:Nat} {F:GF} (w:World) (hF:FileG G w F) (hO:FileOK F) (hE:Env w) (hK:KEnv (fun b=>b<w.heap.size) w) (hN:NEnv w) {ka kf:Nat} (at':Int) (ha:w.cell? ⟨ka,0,none⟩=some (.int .i64 at')) (hf:w.cell? ⟨kf,0,none⟩=some (fp G)) (hla:ka<w.heap.size) (hlf:kf<w.heap.size):
  Calls Tryz.prog 46 #[.pointer (some ⟨G,1,none⟩),(.func (.func 49) #[] #[.pointer (some ⟨ka,0,none⟩), .pointer (some ⟨kf,0,none⟩)])] w fun e w'=>e= .returned (.string (bs (partType F at')))∧Below w.heap.size w w':=by
 have CT:=hid (Text_any w hF hO hE hK hN)
 have CW:Hid (∀w',Below w.heap.size w w'→Calls Tryz.prog 44 #[.pointer (some ⟨G,1,none⟩),(.func (.func 49) #[] #[.pointer (some ⟨ka,0,none⟩), .pointer (some ⟨kf,0,none⟩)])] w' fun e w2=>WrPost (typW F.xs F.ts F.ts.length at' []) e∧Below w'.heap.size w' w2):=hid fun w' hb=>
  write_Type fun wr h=>shTypeCl (hF.below hb) (hN.below hb) hO.g h at' ((hb.cell (p:=⟨ka,0,none⟩) hla).trans ha) ((hb.cell (p:=⟨kf,0,none⟩) hlf).trans hf) (Nat.lt_of_lt_of_le hla hb.size) (Nat.lt_of_lt_of_le hlf hb.size)
 obtain ⟨R,hR⟩: ∃R,typW F.xs F.ts F.ts.length at' []=R:=⟨_,rfl⟩
 have HP:Hid (partType F at'=match textF F with
  |none=> []
  |some _=>R.getD []):=hid (by unfold partType;rw [hR])
 rw [hR] at CW
 clear hR hF hO hE hK hN ha hf hla hlf
 go_enter Tryz.func46, Tryz.ntmps46
 go_wp2_with fail
 refine CT.out.mono ?_
 rintro e w1 ⟨hp,hb1⟩
 have HB1:=hid hb1
 clear CT hb1
 rcases hq:textF F with _|t
 ·rw [hq] at hp HP
  obtain rfl:=hp
  clear hq
  go_wp2_with fail
  go_ret
  exact ⟨by rw [HP.out];rfl,HB1.out⟩
 ·rw [hq] at hp HP
  obtain rfl:=hp
  clear hq
  go_wp2_with fail
  refine (CW.out _ HB1.out).mono ?_
  rintro e w2 ⟨hp,hb2⟩
  have HB2:=hid (HB1.out.trans (hb2.mono HB1.out.size))
  clear hb2
  cases R with
  |none=>
   obtain rfl:=hp
   go_wp2_with fail
   go_ret
   exact ⟨by rw [HP.out];rfl,HB2.out⟩
  |some l=>
   obtain rfl:=hp
   go_wp2_with fail
   go_ret
   exact ⟨by rw [HP.out];rfl,HB2.out⟩
set_option maxHeartbeats 4000000 in
set_option maxRecDepth 100000 in
theorem Type_any {G:Nat} {F:GF} (w:World) (hF:FileG G w F) (hO:FileOK F) (hE:Env w) (hK:KEnv (fun b=>b<w.heap.size) w) (hN:NEnv w) (at':Int):
  Calls Tryz.prog 16 #[.pointer (some ⟨G,1,none⟩), .int .i64 at'] w fun e w'=>e= .returned (.string (bs (partType F at')))∧Below w.heap.size w w':=by
 have hB:Below w.heap.size w ((w.alloc (.cells #[.pointer (some ⟨G,1,none⟩)] 23)).alloc (.cells #[.int .i64 at'] 3)):=(below_box _ _).alloc (by simp) _
 have h0:=heap_alloc_new w (.cells #[.pointer (some ⟨G,1,none⟩)] 23)
 have hs1:(w.alloc (.cells #[.pointer (some ⟨G,1,none⟩)] 23)).heap.size=w.heap.size+1:=by simp
 have h1:=heap_alloc_new (w.alloc (.cells #[.pointer (some ⟨G,1,none⟩)] 23)) (.cells #[.int .i64 at'] 3)
 rw [hs1] at h1
 have h0:((w.alloc (.cells #[.pointer (some ⟨G,1,none⟩)] 23)).alloc (.cells #[.int .i64 at'] 3)).heap[w.heap.size]? =some (.cells #[.pointer (some ⟨G,1,none⟩)] 23 (0,0)):=by rw [Below.heap_alloc _ _ _ (by omega)];exact h0
 have CP:=hid (part_Type _ (hF.below hB) hO (hE.below hB) (hK.low hB) (hN.below hB) (ka:=w.heap.size+1) (kf:=w.heap.size) at' (cells1c h1) (cells1c h0) (Array.getElem?_eq_some_iff.1 h1).1 (Array.getElem?_eq_some_iff.1 h0).1)
 have z0:=cells1c h0
 have HB:=hid hB
 clear hF hO hE hK hN hB h0 hs1 h1
 go_enter Tryz.func16, Tryz.ntmps16
 go_wp2_with (go_at_call 46;(with_reducible refine CP.out.mono ?_);rintro e w2 ⟨rfl,hb⟩;have HB2:=hid (HB.out.trans (hb.mono HB.out.size));clear hb)
 go_ret
 exact ⟨rfl,HB2.out⟩
end Go.Proofs.YtomimkgaelkaoaaGreatDoor
namespace Go.Proofs.YtomimkgaelkaoaaGreatDoor
open Go.Lib (hid)
open Go.ChangeShapes Go.WideShapes Go.ChangeAt Go.RowKit
theorem tidy_back {s t:List UInt8} {f:FM} (h:parseL s= .ok f) (ht:textW f.gf=some t):parseL t= .ok f:=by
 obtain ⟨cs,ss,rfl,vc,vs,lc,ls⟩:=parse_tree h
 have hw:=ht
 unfold textW fileW at ht
 by_cases hb:(putF cs ss).gf.xs.length≤maxText∧(putF cs ss).gf.ts.length≤maxText
 ·have h1:(putF cs ss).g.xs.length≤maxText:=by have:=hb.1;simpa [FM.gf] using this
  have h2:(putF cs ss).g.ts.length≤maxText:=by have:=hb.2;simpa [FM.gf] using this
  rw [textW_eq cs ss (fun x hx=>(vs x hx).2.1) h1 h2] at hw
  split at hw
  ·rename_i hl
   cases hw
   exact tree_back vc vs lc ls hl
  ·cases hw
 ·rw [if_neg hb] at ht
  cases ht
theorem textF_of {s t:List UInt8} {f:FM} (h:parseL s= .ok f) (ht:textW f.gf=some t):textF f.gf=some t:=by
 unfold textF
 rw [ht,Option.bind_some,tidy_back h ht]
 exact if_pos rfl
def w8T:List UInt8:= [115,116,114,117,99,116,32,83,123,110,58,117,56,32,119,104,101,114,101,32,40,110,43,49,41,42,50,60,48,120,49,48,59,125]
def w8S:List UInt8:= [115,116,114,117,99,116,32,83,32,123,10,32,32,110,58,32,117,56,32,119,104,101,114,101,32,40,110,32,43,32,49,41,32,42,32,50,32,60,32,49,54,59,10,125,10]
def w8C:Bool:=match parseL w8T with
 | .ok f=>decide (textW f.gf=some w8S) && decide (exprW f.gf.xs f.gf.xs.length 2 []=some [110,32,43,32,49]) && decide (typW f.gf.xs f.gf.ts f.gf.ts.length 0 []=some [117,56])
 | .bad _ _=>false
theorem w8C_true:w8C=true:=by decide+kernel
theorem wake8: ∃f,parseL w8T= .ok f∧textW f.gf=some w8S∧partExpr f.gf 2= [110,32,43,32,49]∧partType f.gf 0= [117,56]:=by
 have h:=w8C_true
 unfold w8C at h
 cases hp:parseL w8T with
 |bad p x=>rw [hp] at h;cases h
 |ok f=>
  rw [hp] at h
  simp only [Bool.and_eq_true,decide_eq_true_eq] at h
  refine ⟨f,rfl,h.1.1, ?_, ?_⟩
  ·unfold partExpr
   rw [textF_of hp h.1.1,h.1.2]
   rfl
  ·unfold partType
   rw [textF_of hp h.1.1,h.2]
   rfl
theorem file_ok {g:Nat} {w:World} {f:FM} {s:List UInt8} (hp:parseL s= .ok f) (h:FileR g w f) (hl:f.g.xs.length+f.g.ts.length≤60000) (hc:f.cs.length≤64) (hs:f.ss.length≤64):FileOK f.gf:=by
 obtain ⟨h1,h2⟩:=gf_ok h (parse_nums hp) hl
 exact ⟨h1,h2,by show f.cs.length<_;omega,by show f.ss.length<_;omega⟩
theorem Parse_ok {s:List UInt8} {f:FM} (h:parseL s= .ok f) (a:ByteArray) (ha:a.data.toList=s) (w:World) (hE:Env w) (hK:KEnv (fun b=>b<w.heap.size) w):
  Calls Tryz.prog 10 #[.string a] w fun e w'=>(∃g,e= .returned (.tuple #[.pointer (some ⟨g,1,none⟩), .agg #[.int .i64 0, .int .i64 0], .int .i64 0])∧FileR g w' f∧FileOK f.gf)∧Below w.heap.size w w':=by
 subst ha
 refine (Parse_any a w hE hK).mono ?_
 rintro e w' ⟨hp,hb⟩
 rw [h] at hp
 obtain ⟨⟨g,rfl,hF⟩,h1,h2,h3⟩:=hp
 exact ⟨⟨g,rfl,hF,file_ok h hF h1 h2 h3⟩,hb⟩
theorem Tidy_ok {s t:List UInt8} {f:FM} (h:parseL s= .ok f) (ht:textW f.gf=some t) (a:ByteArray) (ha:a.data.toList=s) (w:World) (hE:Env w) (hK:KEnv (fun b=>b<w.heap.size) w) (hN:NEnv w):
  Calls Tryz.prog 36 #[.string a] w fun e w'=>e= .returned (.tuple #[.string (bs t), .agg #[.int .i64 0, .int .i64 0], .int .i64 0])∧Below w.heap.size w w':=by
 subst ha
 refine (Tidy_any a w hE hK hN).mono ?_
 rintro e w' ⟨hp,hb⟩
 rw [h] at hp
 have hp:TidyOf (textW f.gf) e:=hp
 rw [ht] at hp
 exact ⟨hp,hb⟩
set_option maxHeartbeats 4000000 in
set_option maxRecDepth 100000 in
theorem wakes8_any (w:World) (hE:Env w) (hK:KEnv (fun b=>b<w.heap.size) w) (hN:NEnv w):
  Calls Tryz.prog 11 #[] w fun e w'=>e= .returned (.bool true)∧Below w.heap.size w w':=by
 obtain ⟨f,h1,h2,h3,h4⟩:=wake8
 have CT:=hid (Tidy_ok h1 h2 ⟨#[115,116,114,117,99,116,32,83,123,110,58,117,56,32,119,104,101,114,101,32,40,110,43,49,41,42,50,60,48,120,49,48,59,125]⟩ rfl w hE hK hN)
 rw [show bs w8S=⟨#[115,116,114,117,99,116,32,83,32,123,10,32,32,110,58,32,117,56,32,119,104,101,114,101,32,40,110,32,43,32,49,41,32,42,32,50,32,60,32,49,54,59,10,125,10]⟩ from rfl] at CT
 have CP:=hid fun w' (hb:Below w.heap.size w w')=>Parse_ok (tidy_back h1 h2) ⟨#[115,116,114,117,99,116,32,83,32,123,10,32,32,110,58,32,117,56,32,119,104,101,114,101,32,40,110,32,43,32,49,41,32,42,32,50,32,60,32,49,54,59,10,125,10]⟩ rfl w' (hE.below hb) (hK.low hb)
 have CX:Hid (∀g w',Below w.heap.size w w'→FileG g w' f.gf→FileOK f.gf→Calls Tryz.prog 13 #[.pointer (some ⟨g,1,none⟩)] w' fun e w2=>e= .returned (.tuple #[.string ⟨#[115,116,114,117,99,116,32,83,32,123,10,32,32,110,58,32,117,56,32,119,104,101,114,101,32,40,110,32,43,32,49,41,32,42,32,50,32,60,32,49,54,59,10,125,10]⟩, .int .i64 0])∧Below w'.heap.size w' w2):=hid fun g w' hb hf ho=>by
  have:=Text_any w' hf ho (hE.below hb) (hK.low hb) (hN.below hb)
  rw [textF_of h1 h2] at this
  exact this
 have CE:Hid (∀g w',Below w.heap.size w w'→FileG g w' f.gf→FileOK f.gf→Calls Tryz.prog 15 #[.pointer (some ⟨g,1,none⟩), .int .i64 2] w' fun e w2=>e= .returned (.string ⟨#[110,32,43,32,49]⟩)∧Below w'.heap.size w' w2):=hid fun g w' hb hf ho=>by
  have:=Expr_any w' hf ho (hE.below hb) (hK.low hb) (hN.below hb) 2
  rw [h3] at this
  exact this
 have CY:Hid (∀g w',Below w.heap.size w w'→FileG g w' f.gf→FileOK f.gf→Calls Tryz.prog 16 #[.pointer (some ⟨g,1,none⟩), .int .i64 0] w' fun e w2=>e= .returned (.string ⟨#[117,56]⟩)∧Below w'.heap.size w' w2):=hid fun g w' hb hf ho=>by
  have:=Type_any w' hf ho (hE.below hb) (hK.low hb) (hN.below hb) 0
  rw [h4] at this
  exact this
 clear hE hK hN h1 h2 h3 h4
 go_enter Tryz.func11, Tryz.ntmps11
 go_wp2_with (first|(go_at_call 36;(with_reducible refine CT.out.mono ?_);rintro e w1 ⟨rfl,hb⟩;have HB1:=hid (hb.trans ((below_box w1 (.cells #[.int .i64 0, .int .i64 0] 25)).mono hb.size));clear hb)|(go_at_call 10;(with_reducible refine (CP.out _ HB1.out).mono ?_);rintro e w2 ⟨⟨g,rfl,hF,ho⟩,hb⟩;have HO:=hid ho;have HF:=hid (hF.gf.below (below_box w2 (.cells #[.int .i64 0, .int .i64 0] 25)));have HB2:=hid (HB1.out.trans ((hb.trans ((below_box w2 (.cells #[.int .i64 0, .int .i64 0] 25)).mono hb.size)).mono HB1.out.size));clear hb hF ho)|(go_at_call 13;(with_reducible refine (CX.out _ _ HB2.out HF.out HO.out).mono ?_);rintro e w3 ⟨rfl,hb⟩;have HF3:=hid (HF.out.below hb);have HB3:=hid (HB2.out.trans (hb.mono HB2.out.size));clear hb)|(go_at_call 15;(with_reducible refine (CE.out _ _ HB3.out HF3.out HO.out).mono ?_);rintro e w4 ⟨rfl,hb⟩;have HF4:=hid (HF3.out.below hb);have HB4:=hid (HB3.out.trans (hb.mono HB3.out.size));clear hb)|(go_at_call 16;(with_reducible refine (CY.out _ _ HB4.out HF4.out HO.out).mono ?_);rintro e w5 ⟨rfl,hb⟩;have HB5:=hid (HB4.out.trans (hb.mono HB4.out.size));clear hb))
 go_ret
 exact ⟨rfl,HB5.out⟩
end Go.Proofs.YtomimkgaelkaoaaGreatDoor
namespace Go.Proofs.YtomimkgaelkaoaaGreatDoor
open Go.Lib (hid)
def kidsN (k:Nat):Nat:=if k=2 then 1 else if k=3 then 2 else 0
def OrdX (xs:List XM):Prop:= ∀(i:Nat) (x:XM),xs[i]? =some x→(∀k∈x.kids,k<i)∧x.kids.length=kidsN x.k∧x.k≤3
theorem OrdX.snoc {xs:List XM} (h:OrdX xs) {x:XM} (h1: ∀k∈x.kids,k<xs.length) (h2:x.kids.length=kidsN x.k∧x.k≤3):OrdX (xs++ [x]):=by
 intro i y hy
 by_cases hi:i<xs.length
 ·rw [List.getElem?_append_left hi] at hy
  exact h i y hy
 ·rw [List.getElem?_append_right (by omega)] at hy
  have:i - xs.length=0:=by
   have:=(List.getElem?_eq_some_iff.1 hy).1
   simp at this
   omega
  rw [this] at hy
  obtain rfl:x=y:=by simpa using hy
  exact ⟨fun k hk=>by have:=h1 k hk;omega,h2⟩
theorem putE_ordX: ∀(e:EA) (g:GM),OrdX g.xs→OrdX (putE e g).xs
 | .num n,g,h=>h.snoc (by simp) ⟨rfl,by simp⟩
 | .name s,g,h=>h.snoc (by simp) ⟨rfl,by simp⟩
 | .not a,g,h=>(putE_ordX a g h).snoc (by have:=putE_x a g;intro k hk;simp at hk;omega) ⟨rfl,by simp⟩
 | .bin op a b,g,h=>(putE_ordX b _ (putE_ordX a g h)).snoc (by
   have h1:=putE_x a g
   have h2:=putE_x b (putE a g)
   obtain ⟨ys,h3, -⟩:=putE_ext b (putE a g)
   have h4:(putE a g).xs.length≤(putE b (putE a g)).xs.length:=by rw [h3,List.length_append];omega
   intro k hk
   simp at hk
   omega) ⟨rfl,by simp⟩
section
variable {Q:List XM→Prop} (hQ: ∀(e:EA) (g:GM),Q g.xs→Q (putE e g).xs)
include hQ
theorem keep_Es: ∀(l:List EA) (s:GM×List Nat),Q s.1.xs→Q (l.foldl stepE s).1.xs
 | [],s,h=>h
 |e::l,s,h=>keep_Es l (stepE s e) (hQ e s.1 h)
theorem keep_T: ∀(t:TA) (g:GM),Q g.xs→Q (putT t g).1.xs
 | .int z li,g,h=>h
 | .ref s es,g,h=>keep_Es hQ es (g, []) h
 | .idx k e,g,h=>hQ e g h
 | .win k e t,g,h=>keep_T t _ (hQ e g h)
 | .rest t,g,h=>keep_T t g h
 | .leaf k,g,h=>h
 | .arr t e,g,h=>hQ e _ (keep_T t g h)
 | .sw e cs els,g,h=>keep_T els _ (keep_T cs _ (hQ e g h))
 | .nil,g,h=>h
 | .snoc cs n t,g,h=>keep_T t _ (keep_T cs g h)
theorem keep_W: ∀(w:Option EA) (g:GM),Q g.xs→Q (putW w g).xs
 |none,g,h=>h
 |some e,g,h=>hQ e g h
theorem keep_I: ∀(i:IA) (g:GM),Q g.xs→Q (putI i g).1.xs
 | .field s t d wh,g,h=>keep_W hQ wh _ (keep_T hQ t g h)
 | .pack z li subs,g,h=>h
theorem keep_Is: ∀(l:List IA) (s:GM×List IM),Q s.1.xs→Q (l.foldl stepI s).1.xs
 | [],s,h=>h
 |x::l,s,h=>keep_Is l (stepI s x) (keep_I hQ x s.1 h)
theorem keep_Ss: ∀(l:List SA) (s:GM×List SM),Q s.1.xs→Q (l.foldl stepS s).1.xs
 | [],s,h=>h
 |x::l,s,h=>keep_Ss l (stepS s x) (keep_Is hQ x.is (s.1, []) h)
end
theorem putF_ordX (cs:List (List UInt8×Nat)) (ss:List SA):OrdX (putF cs ss).g.xs:=keep_Ss putE_ordX ss (gm0, []) (fun i x h=>by simp [gm0] at h)
end Go.Proofs.YtomimkgaelkaoaaGreatDoor
namespace Go.Proofs.YtomimkgaelkaoaaGreatDoor
open Go.Lib (hid)
open Go.ChangeShapes Go.WideShapes Go.ChangeAt Go.RowKit
structure FullW (f:FM) (G kf kg:Nat) (w:World):Prop where
 file:FileR G w f
 ok:FileOK f.gf
 bf:w.heap[kf]? =some (.cells #[.pointer (some ⟨G,1,none⟩)] 23 (0,0))
 bg:w.heap[kg]? =some (.cells #[.func (.func 14) #[] #[.pointer (some ⟨kf,0,none⟩), .pointer (some ⟨kg,0,none⟩)]] 52 (0,0))
 e:Env w
 k:KEnv (fun b=>b<w.heap.size) w
 n:NEnv w
theorem FullW.below {f:FM} {G kf kg:Nat} {w w':World} (h:FullW f G kf kg w) (hb:Below w.heap.size w w'):FullW f G kf kg w':=
 ⟨h.file.below hb,h.ok,(hb.block kf (Array.getElem?_eq_some_iff.1 h.bf).1).trans h.bf,(hb.block kg (Array.getElem?_eq_some_iff.1 h.bg).1).trans h.bg,h.e.below hb,h.k.low hb,h.n.below hb⟩
theorem part_at {f:FM} {t:List UInt8} (ht:textF f.gf=some t) {e:EA} {k:Nat} (ha:AtE f.g.xs e k) (hk:k<f.g.xs.length) (hl:(prE e).length≤16384):partExpr f.gf (k:Int)=prE e:=by
 unfold partExpr
 rw [ht]
 show (exprW (f.g.xs.map XM.gx) (f.g.xs.map XM.gx).length (k:Int) []).getD []=_
 rw [exprW_at ha (by rw [List.length_map];exact hk)]
 unfold wPut
 rw [if_pos (by unfold maxText;simpa using hl)]
 simp
theorem bs_not (A:List UInt8):(⟨#[33,40]⟩++bs A++⟨#[41]⟩:ByteArray)=bs ([33]++([40]++(A++ [41]))):=by
 apply ByteArray.ext
 apply Array.ext'
 simp [ByteArray.data_append,bs]
theorem bs_bin (A O B:List UInt8):(⟨#[40]⟩++bs A++⟨#[41]⟩++bs O++⟨#[40]⟩++bs B++⟨#[41]⟩:ByteArray)=bs ([40]++(A++([41]++(O++([40]++(B++ [41])))))):=by
 apply ByteArray.ext
 apply Array.ext'
 simp [ByteArray.data_append,bs]
set_option maxHeartbeats 4000000 in
set_option maxRecDepth 100000 in
theorem full_num {f:FM} {G kf kg:Nat} {t:List UInt8} (ht:textF f.gf=some t) {n k:Nat} (ha:AtE f.g.xs (.num n) k) (w:World) (h:FullW f G kf kg w):
  Calls Tryz.prog 14 #[.int .i64 k, .pointer (some ⟨kf,0,none⟩), .pointer (some ⟨kg,0,none⟩)] w fun q w'=>q= .returned (.string (bs (fullE (.num n))))∧Below w.heap.size w w':=by
 have hkl:k<f.g.xs.length:=(List.getElem?_eq_some_iff.1 ha).1
 obtain ⟨ac,cc,bs',cs,ax,cx,at',ct,e1,e2,e3,e4,h1,h2,h3,h4,hg⟩:=h.file.look
 obtain ⟨kx,kv,rfl,hkx,o0,o1,o2,o3,o4,hkv⟩:=xs_at h3 ha
 obtain ⟨ka,kc,rfl, -, -⟩:=hkv.shape
 replace o4:w.cell? ⟨kx,k*5+4,none⟩=some (.slice ka 0 kc):=o4
 have b0:=cells1c h.bf
 have CX:=hid fun w' (hb:Below w.heap.size w w')=>(show Calls Tryz.prog 15 #[.pointer (some ⟨G,1,none⟩), .int .i64 k] w' fun e w2=>e= .returned (.string (bs (decL n)))∧Below w'.heap.size w' w2 from by
  have:=Expr_any w' (h.file.gf.below hb) h.ok (h.e.below hb) (h.k.low hb) (h.n.below hb) (k:Int)
  rwa [part_at ht ha hkl (by have:=decD_len 20 n;show (decL n).length≤_;unfold decL;omega)] at this)
 replace o0:w.cell? ⟨kx,k*5,none⟩=some (.int .i64 0):=o0
 have hb1:=below_box w (.cells #[.int .i64 0, .string (bs []), .int .u64 n, .string (bs []), .slice ka 0 kc] 40)
 have hx1:=heap_alloc_new w (.cells #[.int .i64 0, .string (bs []), .int .u64 n, .string (bs []), .slice ka 0 kc] 40)
 have c0:=(hb1.cell (p:=⟨kf,0,none⟩) (Array.getElem?_eq_some_iff.1 h.bf).1).trans b0
 have HB1:=hid hb1
 clear hkv h1 h2 h3 h4 h ht ha e1 e2 e4 hb1
 go_enter Tryz.func14, Tryz.ntmps14
 go_upto_region 2 with fail
 generalize w.alloc (.cells #[.int .i64 0, .string (bs []), .int .u64 n, .string (bs []), .slice ka 0 kc] 40)=W1 at*
 have d0:W1.cell? ⟨w.heap.size,0,none⟩=some (.int .i64 0):=by rw [cell_of_row _ _ _ _ _ (0,0) hx1];rfl
 clear hx1 o0 o1 o2 o3 o4 b0
 go_wp2_with (go_at_call 15;(with_reducible refine (CX.out _ HB1.out).mono ?_);rintro e w2 ⟨rfl,hb⟩;have HB2:=hid (HB1.out.trans (hb.mono HB1.out.size));clear hb)
 go_ret
 exact ⟨rfl,HB2.out⟩
set_option maxHeartbeats 4000000 in
set_option maxRecDepth 100000 in
theorem full_name {f:FM} {G kf kg:Nat} {s:List UInt8} {k:Nat} (ha:AtE f.g.xs (.name s) k) (w:World) (h:FullW f G kf kg w):
  Calls Tryz.prog 14 #[.int .i64 k, .pointer (some ⟨kf,0,none⟩), .pointer (some ⟨kg,0,none⟩)] w fun q w'=>q= .returned (.string (bs (fullE (.name s))))∧Below w.heap.size w w':=by
 have hkl:k<f.g.xs.length:=(List.getElem?_eq_some_iff.1 ha).1
 obtain ⟨ac,cc,bs',cs,ax,cx,at',ct,e1,e2,e3,e4,h1,h2,h3,h4,hg⟩:=h.file.look
 obtain ⟨kx,kv,rfl,hkx,o0,o1,o2,o3,o4,hkv⟩:=xs_at h3 ha
 obtain ⟨ka,kc,rfl, -, -⟩:=hkv.shape
 replace o4:w.cell? ⟨kx,k*5+4,none⟩=some (.slice ka 0 kc):=o4
 have b0:=cells1c h.bf
 replace o0:w.cell? ⟨kx,k*5,none⟩=some (.int .i64 1):=o0
 replace o2:w.cell? ⟨kx,k*5+2,none⟩=some (.int .u64 0):=o2
 have HB1:=hid (below_box w (.cells #[.int .i64 1, .string (bs []), .int .u64 0, .string (bs s), .slice ka 0 kc] 40))
 have hx1:=heap_alloc_new w (.cells #[.int .i64 1, .string (bs []), .int .u64 0, .string (bs s), .slice ka 0 kc] 40)
 clear hkv h1 h2 h3 h4 h ha e1 e2 e4
 go_enter Tryz.func14, Tryz.ntmps14
 go_upto_region 2 with fail
 generalize w.alloc (.cells #[.int .i64 1, .string (bs []), .int .u64 0, .string (bs s), .slice ka 0 kc] 40)=W1 at*
 have d0:W1.cell? ⟨w.heap.size,0,none⟩=some (.int .i64 1):=by rw [cell_of_row _ _ _ _ _ (0,0) hx1];rfl
 have d3:W1.cell? ⟨w.heap.size,3,none⟩=some (.string (bs s)):=by rw [cell_of_row _ _ _ _ _ (0,0) hx1];rfl
 clear hx1 o0 o1 o2 o3 o4 b0
 go_wp2_with fail
 go_ret
 exact ⟨rfl,HB1.out⟩
set_option maxHeartbeats 4000000 in
set_option maxRecDepth 100000 in
theorem full_not {f:FM} {G kf kg:Nat} {a:EA} {k:Nat} (v:VE a) (hn:nodes a≤40) (ha:AtE f.g.xs (.not a) k) (w:World) (h:FullW f G kf kg w)
  (ih: ∀(i:Nat) (w':World),AtE f.g.xs a i→FullW f G kf kg w'→Calls Tryz.prog 14 #[.int .i64 i, .pointer (some ⟨kf,0,none⟩), .pointer (some ⟨kg,0,none⟩)] w' fun q w2=>q= .returned (.string (bs (fullE a)))∧Below w'.heap.size w' w2):
  Calls Tryz.prog 14 #[.int .i64 k, .pointer (some ⟨kf,0,none⟩), .pointer (some ⟨kg,0,none⟩)] w fun q w'=>q= .returned (.string (bs (fullE (.not a))))∧Below w.heap.size w w':=by
 obtain ⟨i,hx,hik,hai⟩:=ha
 have hkl:k<f.g.xs.length:=(List.getElem?_eq_some_iff.1 hx).1
 obtain ⟨ac,cc,bs',cs,ax,cx,at',ct,e1,e2,e3,e4,h1,h2,h3,h4,hg⟩:=h.file.look
 obtain ⟨kx,kv,rfl,hkx,o0,o1,o2,o3,o4,hkv⟩:=xs_at h3 hx
 obtain ⟨ka,kc,rfl, -, -⟩:=hkv.shape
 obtain ⟨kk,rfl,hkk,q0⟩:=ints_at hkv (i:=0) rfl
 have b0:=cells1c h.bf
 replace o0:w.cell? ⟨kx,k*5,none⟩=some (.int .i64 2):=o0
 replace o2:w.cell? ⟨kx,k*5+2,none⟩=some (.int .u64 0):=o2
 replace o4:w.cell? ⟨kx,k*5+4,none⟩=some (.slice (some ⟨kk,0,none⟩) 1 kc):=o4
 have hb1:=below_box w (.cells #[.int .i64 2, .string (bs []), .int .u64 0, .string (bs []), .slice (some ⟨kk,0,none⟩) 1 kc] 40)
 have hx1:=heap_alloc_new w (.cells #[.int .i64 2, .string (bs []), .int .u64 0, .string (bs []), .slice (some ⟨kk,0,none⟩) 1 kc] 40)
 have HB1:=hid hb1
 have HF1:=hid (h.below hb1)
 have q1:=(hb1.cell (p:=⟨kk,0,none⟩) hkk).trans q0
 have hA:(bs (fullE a)).size≤1600:=by have:=full_len a v;rw [bs_size];omega
 have EB:=hid (bs_not (fullE a))
 have CI:=hid fun w' (hf:FullW f G kf kg w')=>ih i w' hai hf
 show Calls _ _ _ _ fun q w'=>q= .returned (.string (bs ([33]++([40]++(fullE a++ [41])))))∧_
 rw [←EB.out]
 clear EB
 generalize bs (fullE a)=A at*
 have n1: ¬9223372036854775807<2+A.size:=by omega
 have n2: ¬9223372036854775807<2+A.size+1:=by omega
 clear h1 h2 h3 h4 h hx e1 e2 e4 hb1 ih hkv hai v hn hA
 go_enter Tryz.func14, Tryz.ntmps14
 go_upto_region 2 with fail
 generalize w.alloc (.cells #[.int .i64 2, .string (bs []), .int .u64 0, .string (bs []), .slice (some ⟨kk,0,none⟩) 1 kc] 40)=W1 at*
 have d0:W1.cell? ⟨w.heap.size,0,none⟩=some (.int .i64 2):=by rw [cell_of_row _ _ _ _ _ (0,0) hx1];rfl
 have d4:W1.cell? ⟨w.heap.size,4,none⟩=some (.slice (some ⟨kk,0,none⟩) 1 kc):=by rw [cell_of_row _ _ _ _ _ (0,0) hx1];rfl
 have d5:=cells1c HF1.out.bg
 clear hx1 o0 o1 o2 o3 o4 b0 q0
 go_upto_region 6 with fail
 have cI: ∀d os,Calls Tryz.prog 14 #[.int .i64 i, .pointer (some ⟨kf,0,none⟩), .pointer (some ⟨kg,0,none⟩)] (Go.Sort.grow (redrawn W1 d) os) fun e w''=>e= .returned (.string A)∧∃p:Regrown,w''=Go.Sort.grow (redrawn W1 p.d) p.os:=fun d os=>Calls.regrown_of (CI.out _ (HF1.out.below (below_regrown W1 d os)))
 have k4:=cell_regrown d4
 have k5:=cell_regrown d5
 have k6:=cell_regrown q1
 refine wp_region_quiet_below (by kernel_rfl) (by kernel_rfl) ?_
 repeat (with_reducible refine wpQuiet_step (fun K hK=> ?_);go_simp;first|(with_reducible refine hK _ ?_;clear hK K)|(apply Exists.intro;refine ⟨fun _=> ?_,hK _ ?_⟩;(exact cI _ _);clear hK K))
 refine wpQuiet_nil ?_
 intro _ hw'
 obtain ⟨⟨dq,osq⟩,hw''⟩:=hw'
 subst hw''
 go_wp2_with fail
 go_ret
 exact ⟨rfl,HB1.out.trans ((below_regrown W1 dq osq).mono HB1.out.size)⟩
set_option maxHeartbeats 4000000 in
set_option maxRecDepth 100000 in
theorem full_bin {f:FM} {G kf kg:Nat} {op:List UInt8} {a b:EA} {k:Nat} (v:VE (.bin op a b)) (hn:nodes a≤40) (hm:nodes b≤40) (ha:AtE f.g.xs (.bin op a b) k) (w:World) (h:FullW f G kf kg w)
  (ih: ∀(i:Nat) (w':World),AtE f.g.xs a i→FullW f G kf kg w'→Calls Tryz.prog 14 #[.int .i64 i, .pointer (some ⟨kf,0,none⟩), .pointer (some ⟨kg,0,none⟩)] w' fun q w2=>q= .returned (.string (bs (fullE a)))∧Below w'.heap.size w' w2)
  (jh: ∀(i:Nat) (w':World),AtE f.g.xs b i→FullW f G kf kg w'→Calls Tryz.prog 14 #[.int .i64 i, .pointer (some ⟨kf,0,none⟩), .pointer (some ⟨kg,0,none⟩)] w' fun q w2=>q= .returned (.string (bs (fullE b)))∧Below w'.heap.size w' w2):
  Calls Tryz.prog 14 #[.int .i64 k, .pointer (some ⟨kf,0,none⟩), .pointer (some ⟨kg,0,none⟩)] w fun q w'=>q= .returned (.string (bs (fullE (.bin op a b))))∧Below w.heap.size w w':=by
 obtain ⟨i,j,hx,hik,hjk,hai,hbj⟩:=ha
 have hkl:k<f.g.xs.length:=(List.getElem?_eq_some_iff.1 hx).1
 obtain ⟨ac,cc,bs',cs,ax,cx,at',ct,e1,e2,e3,e4,h1,h2,h3,h4,hg⟩:=h.file.look
 obtain ⟨kx,kv,rfl,hkx,o0,o1,o2,o3,o4,hkv⟩:=xs_at h3 hx
 obtain ⟨ka,kc,rfl, -, -⟩:=hkv.shape
 obtain ⟨kk,rfl,hkk,q0⟩:=ints_at hkv (i:=0) rfl
 obtain ⟨_,e0, -,q1⟩:=ints_at hkv (i:=1) rfl
 cases e0
 have b0:=cells1c h.bf
 replace o0:w.cell? ⟨kx,k*5,none⟩=some (.int .i64 3):=o0
 replace o2:w.cell? ⟨kx,k*5+2,none⟩=some (.int .u64 0):=o2
 replace o4:w.cell? ⟨kx,k*5+4,none⟩=some (.slice (some ⟨kk,0,none⟩) 2 kc):=o4
 replace o1:w.cell? ⟨kx,k*5+1,none⟩=some (.string (bs op)):=o1
 have hA:(bs (fullE a)).size≤1600:=by have:=full_len a v.2.1;rw [bs_size];omega
 have hB:(bs (fullE b)).size≤1600:=by have:=full_len b v.2.2;rw [bs_size];omega
 have hO:(bs op).size≤2:=sgs_len40 op (op_sign v.1).1
 have EB:=hid (bs_bin (fullE a) op (fullE b))
 have CI:=hid fun w' (hf:FullW f G kf kg w')=>ih i w' hai hf
 have CJ:=hid fun w' (hf:FullW f G kf kg w')=>jh j w' hbj hf
 show Calls _ _ _ _ fun q w'=>q= .returned (.string (bs ([40]++(fullE a++([41]++(op++([40]++(fullE b++ [41]))))))))∧_
 rw [←EB.out]
 clear EB
 generalize bs (fullE a)=A at*
 generalize bs (fullE b)=B at*
 generalize bs op=O at*
 have hb1:=below_box w (.cells #[.int .i64 3, .string O, .int .u64 0, .string (bs []), .slice (some ⟨kk,0,none⟩) 2 kc] 40)
 have hx1:=heap_alloc_new w (.cells #[.int .i64 3, .string O, .int .u64 0, .string (bs []), .slice (some ⟨kk,0,none⟩) 2 kc] 40)
 have HB1:=hid hb1
 have HF1:=hid (h.below hb1)
 have p0:=(hb1.cell (p:=⟨kk,0,none⟩) hkk).trans q0
 have p1:=(hb1.cell (p:=⟨kk,1,none⟩) hkk).trans q1
 have n1: ¬9223372036854775807<1+A.size:=by omega
 have n2: ¬9223372036854775807<1+A.size+1:=by omega
 have n3: ¬9223372036854775807<1+A.size+1+O.size:=by omega
 have n4: ¬9223372036854775807<1+A.size+1+O.size+1:=by omega
 have n5: ¬9223372036854775807<1+A.size+1+O.size+1+B.size:=by omega
 have n6: ¬9223372036854775807<1+A.size+1+O.size+1+B.size+1:=by omega
 clear h1 h2 h3 h4 h hx e1 e2 e4 hb1 ih jh hkv hai hbj v hn hm hA hB hO
 go_enter Tryz.func14, Tryz.ntmps14
 go_upto_region 2 with fail
 generalize w.alloc (.cells #[.int .i64 3, .string O, .int .u64 0, .string (bs []), .slice (some ⟨kk,0,none⟩) 2 kc] 40)=W1 at*
 have d0:W1.cell? ⟨w.heap.size,0,none⟩=some (.int .i64 3):=by rw [cell_of_row _ _ _ _ _ (0,0) hx1];rfl
 have d1:W1.cell? ⟨w.heap.size,1,none⟩=some (.string O):=by rw [cell_of_row _ _ _ _ _ (0,0) hx1];rfl
 have d4:W1.cell? ⟨w.heap.size,4,none⟩=some (.slice (some ⟨kk,0,none⟩) 2 kc):=by rw [cell_of_row _ _ _ _ _ (0,0) hx1];rfl
 have d5:=cells1c HF1.out.bg
 clear hx1 o0 o1 o2 o3 o4 b0 q0 q1
 go_upto_region 8 with fail
 have cI: ∀d os,Calls Tryz.prog 14 #[.int .i64 i, .pointer (some ⟨kf,0,none⟩), .pointer (some ⟨kg,0,none⟩)] (Go.Sort.grow (redrawn W1 d) os) fun e w''=>e= .returned (.string A)∧∃p:Regrown,w''=Go.Sort.grow (redrawn W1 p.d) p.os:=fun d os=>Calls.regrown_of (CI.out _ (HF1.out.below (below_regrown W1 d os)))
 have cJ: ∀d os,Calls Tryz.prog 14 #[.int .i64 j, .pointer (some ⟨kf,0,none⟩), .pointer (some ⟨kg,0,none⟩)] (Go.Sort.grow (redrawn W1 d) os) fun e w''=>e= .returned (.string B)∧∃p:Regrown,w''=Go.Sort.grow (redrawn W1 p.d) p.os:=fun d os=>Calls.regrown_of (CJ.out _ (HF1.out.below (below_regrown W1 d os)))
 have k1:=cell_regrown d1
 have k4:=cell_regrown d4
 have k5:=cell_regrown d5
 have k6:=cell_regrown p0
 have k7:=cell_regrown p1
 refine wp_region_quiet_below (by kernel_rfl) (by kernel_rfl) ?_
 repeat (with_reducible refine wpQuiet_step (fun K hK=> ?_);go_simp;first|(with_reducible refine hK _ ?_;clear hK K)|(apply Exists.intro;refine ⟨fun _=> ?_,hK _ ?_⟩;(first|(with_reducible exact cI _ _)|(with_reducible exact cJ _ _));clear hK K))
 refine wpQuiet_nil ?_
 intro _ hw'
 obtain ⟨⟨dq,osq⟩,hw''⟩:=hw'
 subst hw''
 go_wp2_with fail
 go_ret
 exact ⟨rfl,HB1.out.trans ((below_regrown W1 dq osq).mono HB1.out.size)⟩
theorem full_any {f:FM} {G kf kg:Nat} {t:List UInt8} (ht:textF f.gf=some t): ∀(e:EA) (k:Nat) (w:World),VE e→nodes e≤40→AtE f.g.xs e k→FullW f G kf kg w→
  Calls Tryz.prog 14 #[.int .i64 k, .pointer (some ⟨kf,0,none⟩), .pointer (some ⟨kg,0,none⟩)] w fun q w'=>q= .returned (.string (bs (fullE e)))∧Below w.heap.size w w'
 | .num n,k,w,v,hn,ha,h=>full_num ht ha w h
 | .name s,k,w,v,hn,ha,h=>full_name ha w h
 | .not a,k,w,v,hn,ha,h=>full_not (a:=a) (show VE a from v) (by simp only [nodes] at hn;omega) ha w h fun i w' hai hf=>full_any ht a i w' (show VE a from v) (by simp only [nodes] at hn;omega) hai hf
 | .bin op a b,k,w,v,hn,ha,h=>full_bin v (by simp only [nodes] at hn;omega) (by simp only [nodes] at hn;omega) ha w h (fun i w' hai hf=>full_any ht a i w' v.2.1 (by simp only [nodes] at hn;omega) hai hf) fun i w' hai hf=>full_any ht b i w' v.2.2 (by simp only [nodes] at hn;omega) hai hf
end Go.Proofs.YtomimkgaelkaoaaGreatDoor
