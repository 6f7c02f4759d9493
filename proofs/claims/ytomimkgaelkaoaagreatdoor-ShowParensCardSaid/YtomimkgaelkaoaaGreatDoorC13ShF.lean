/- Layer 8: the printer's expressions: expr and operand. -/
import Derived.Test.YtomimkgaelkaoaaGreatDoorC13ShE
set_option linter.unusedVariables false
set_option linter.unusedSimpArgs false
namespace Go.Proofs.YtomimkgaelkaoaaGreatDoor
open Go.Lib (hid)
open Go.ChangeShapes Go.WideShapes Go.ChangeAt Go.RowKit
theorem shAt_yes {W0:World} {g G:Nat} {F:GF} {W w:World} {l:List UInt8} (hF:FileG G W0 F) (h:SW W0 g (fp G) W l w) {n lim:Nat} {x:XG} (hx:F.xs[n]? =some x) (hn:n<lim) (hlim:lim≤F.xs.length) (hG:GfOK F):
  Calls Tryz.prog 91 #[.pointer (some ⟨g,0,none⟩), .int .i64 (n:Int), .int .i64 (lim:Int)] w fun e w'=> ∃ak ck,e= .returned (.agg #[.int .i64 x.k, .string (bs x.op), .int .u64 (x.n:Int), .string (bs x.s), .slice ak x.kids.length ck])∧SlR 1 InC W0 (.slice ak x.kids.length ck) x.kids∧Below w.heap.size w w':=by
 refine (shExprAt hF h (n:Int) (lim:Int) (by omega) hG).mono ?_
 intro e w' hp
 unfold PostX8 at hp
 rw [if_pos ⟨by omega,by omega⟩] at hp
 obtain ⟨y,kv,h1,h2,h3,h4⟩:=hp
 rw [show ((n:Int).toNat)=n from rfl,hx] at h1
 cases h1
 obtain ⟨ak,ck,rfl, -⟩:=h3.shape
 exact ⟨ak,ck,h2,h3,h4⟩
theorem shAt_no {W0:World} {g G:Nat} {F:GF} {W w:World} {l:List UInt8} (hF:FileG G W0 F) (h:SW W0 g (fp G) W l w) {at' lim:Int} (hn: ¬(0≤at'∧at'<lim)) (hlim:lim≤F.xs.length) (hG:GfOK F):
  Calls Tryz.prog 91 #[.pointer (some ⟨g,0,none⟩), .int .i64 at', .int .i64 lim] w fun e w'=>e= .panicked noT∧Below w.heap.size w w':=by
 refine (shExprAt hF h at' lim hlim hG).mono ?_
 intro e w' hp
 unfold PostX8 at hp
 rw [if_neg hn] at hp
 exact hp
def ExprC (W0:World) (g G:Nat) (F:GF) (lim:Nat):Prop:= ∀(at':Int) (W w:World) (l:List UInt8),SW W0 g (fp G) W l w→Calls Tryz.prog 48 #[.pointer (some ⟨g,0,none⟩), .int .i64 at', .int .i64 (lim:Int)] w (PostW W0 g (fp G) w (exprW F.xs lim at' l))
def OpndC (W0:World) (g G:Nat) (F:GF) (lim:Nat):Prop:= ∀(at':Int) (v:Nat) (V:Int) (W w:World) (l:List UInt8),V=(v:Int)→SW W0 g (fp G) W l w→Calls Tryz.prog 92 #[.pointer (some ⟨g,0,none⟩), .int .i64 at', .int .i64 (lim:Int), .int .i64 V] w (PostW W0 g (fp G) w (opndW F.xs lim (exprW F.xs lim) at' v l))
set_option maxHeartbeats 4000000 in
set_option maxRecDepth 100000 in
theorem shExpr_no {W0:World} {g G:Nat} {F:GF} (hF:FileG G W0 F) (hN:NEnv W0) (hG:GfOK F) {lim:Nat} (hlim:lim≤F.xs.length) {at':Int} {W w:World} {l:List UInt8} (h:SW W0 g (fp G) W l w) (hn: ¬(0≤at'∧at'<(lim:Int))):
  Calls Tryz.prog 48 #[.pointer (some ⟨g,0,none⟩), .int .i64 at', .int .i64 (lim:Int)] w (PostW W0 g (fp G) w (exprW F.xs lim at' l)):=by
 have C0:=hid (shAt_no hF h hn (by omega) hG)
 have HW:Hid (exprW F.xs lim at' l=none):=hid (by rw [exprW_lim,if_neg (by omega)];rfl)
 have HL:=hid h.lo
 rw [HW.out]
 clear h hF hN hG hn hlim
 go_enter Tryz.func48, Tryz.ntmps48
 go_wp2_with (go_at_call 91;go_must (refine C0.out.mono ?_;rintro e w1 ⟨rfl,hb⟩;exact ⟨rfl,rfl,Fr.of hb HL.out⟩))
set_option maxHeartbeats 4000000 in
set_option maxRecDepth 100000 in
theorem shOpnd_no {W0:World} {g G:Nat} {F:GF} (hF:FileG G W0 F) (hN:NEnv W0) (hG:GfOK F) {lim:Nat} (hlim:lim≤F.xs.length) {at':Int} {v:Nat} {V:Int} {W w:World} {l:List UInt8} (h:SW W0 g (fp G) W l w) (hn: ¬(0≤at'∧at'<(lim:Int))):
  Calls Tryz.prog 92 #[.pointer (some ⟨g,0,none⟩), .int .i64 at', .int .i64 (lim:Int), .int .i64 V] w (PostW W0 g (fp G) w (opndW F.xs lim (exprW F.xs lim) at' v l)):=by
 have C0:=hid (shAt_no hF h hn (by omega) hG)
 have HW:Hid (opndW F.xs lim (exprW F.xs lim) at' v l=none):=hid (by unfold opndW;rw [if_neg (by omega)];rfl)
 have HL:=hid h.lo
 rw [HW.out]
 clear h hF hN hG hn hlim
 go_enter Tryz.func92, Tryz.ntmps92
 go_wp2_with (go_at_call 91;go_must (refine C0.out.mono ?_;rintro e w1 ⟨rfl,hb⟩;exact ⟨rfl,rfl,Fr.of hb HL.out⟩))
set_option maxHeartbeats 4000000 in
set_option maxRecDepth 100000 in
theorem shExpr_num {W0:World} {g G:Nat} {F:GF} (hF:FileG G W0 F) (hN:NEnv W0) (hG:GfOK F) {lim n:Nat} {op:List UInt8} {m:Nat} {s:List UInt8} {ks:List Int} (hx:F.xs[n]? =some ⟨0,op,m,s,ks⟩) (hn:n<lim) (hlim:lim≤F.xs.length) {W w:World} {l:List UInt8} (h:SW W0 g (fp G) W l w):
  Calls Tryz.prog 48 #[.pointer (some ⟨g,0,none⟩), .int .i64 (n:Int), .int .i64 (lim:Int)] w (PostW W0 g (fp G) w (exprW F.xs lim (n:Int) l)):=by
 have c0:=shAt_yes hF h hx hn hlim hG
 dsimp only at c0
 have C0:=hid c0
 have S0:=hid h.start
 obtain ⟨R,hR⟩: ∃R,exprW F.xs lim (n:Int) l=R:=⟨_,rfl⟩
 rw [hR]
 have HR1:Hid (wSeq (wNum m) some l=R):=hid (by
  rw [←hR]
  rw [exprW_lim,if_pos ⟨by omega,by omega⟩,show ((n:Int).toNat)=n from rfl]
  unfold bodyE
  rw [hx]
  rw [wSeq_some]
  rfl)
 have HN:=hid hN
 have HXN:Hid (m<18446744073709551616):=hid (hG.n _ (List.mem_of_getElem? hx))
 clear c0 h hR hx hlim hn hN hG hF
 go_enter Tryz.func48, Tryz.ntmps48
 go_wp2_with (first|(go_at_call 91;(first|((with_reducible refine C0.out.mono ?_);rintro e w1 ⟨ak,ck,rfl,hkv,hb⟩;have S0':=hid (S0.out.keep hb);have HKV:=hid hkv;have HBX:=hid (heap_alloc_new w1 (.cells #[.int .i64 0, .string ⟨#[]⟩, .int .u64 0, .string ⟨#[]⟩, .slice none 0 0] 40));clear hkv hb)))|((with_reducible refine at_list8 ?_);refine wpList_store_rowTo rfl 40 _ _ rfl rfl w1.heap.size #[.int .i64 0, .string (bs op), .int .u64 (m:Int), .string (bs s), .slice ak ks.length ck] rfl rfl 40 _ HBX.out size_expr rfl (xg_one _ _ _ _ _ _ _) ?_;rw [World.setRow_alloc_new];have S1:=hid (S0'.out.alloc (.cells #[.int .i64 0, .string (bs op), .int .u64 (m:Int), .string (bs s), .slice ak ks.length ck] 40));have HX1:=hid (heap_alloc_new w1 (.cells #[.int .i64 0, .string (bs op), .int .u64 (m:Int), .string (bs s), .slice ak ks.length ck] 40));obtain ⟨⟨d0,d1,d2,d3,d4⟩,df,dl⟩:=cells5 HX1.out;clear HBX S0';have C1:=hid (shNum HN.out S1.out m HXN.out))|(go_at_call 89;(first|((with_reducible refine C1.out.mono ?_);intro e w2 hp;rcases hr:wNum m l with _|l2;(· rw [hr] at hp;obtain ⟨rfl,hf⟩:=hp;obtain rfl:=step_none HR1.out hr;exact ⟨rfl,rfl,S1.out.fr.trans hf⟩);rw [hr] at hp;obtain ⟨rfl,h1⟩:=hp;have S2:=hid (S1.out.next h1);have HR2:=hid (step_some HR1.out hr);clear hr h1))))
 obtain rfl:=HR2.out
 go_end0
 exact ⟨rfl,S2.out⟩
set_option maxHeartbeats 4000000 in
set_option maxRecDepth 100000 in
theorem shExpr_name {W0:World} {g G:Nat} {F:GF} (hF:FileG G W0 F) (hN:NEnv W0) (hG:GfOK F) {lim n:Nat} {op:List UInt8} {m:Nat} {s:List UInt8} {ks:List Int} (hx:F.xs[n]? =some ⟨1,op,m,s,ks⟩) (hn:n<lim) (hlim:lim≤F.xs.length) {W w:World} {l:List UInt8} (h:SW W0 g (fp G) W l w):
  Calls Tryz.prog 48 #[.pointer (some ⟨g,0,none⟩), .int .i64 (n:Int), .int .i64 (lim:Int)] w (PostW W0 g (fp G) w (exprW F.xs lim (n:Int) l)):=by
 have c0:=shAt_yes hF h hx hn hlim hG
 dsimp only at c0
 have C0:=hid c0
 have S0:=hid h.start
 obtain ⟨R,hR⟩: ∃R,exprW F.xs lim (n:Int) l=R:=⟨_,rfl⟩
 rw [hR]
 have HR1:Hid (wSeq (wPuts [s]) some l=R):=hid (by
  rw [←hR]
  rw [exprW_lim,if_pos ⟨by omega,by omega⟩,show ((n:Int).toNat)=n from rfl]
  unfold bodyE
  rw [hx]
  rw [wSeq_some,wPuts_one]
  rfl)
 clear c0 h hR hx hlim hn hN hG hF
 go_enter Tryz.func48, Tryz.ntmps48
 go_wp2_with (first|(go_at_call 91;(first|((with_reducible refine C0.out.mono ?_);rintro e w1 ⟨ak,ck,rfl,hkv,hb⟩;have S0':=hid (S0.out.keep hb);have HKV:=hid hkv;have HBX:=hid (heap_alloc_new w1 (.cells #[.int .i64 0, .string ⟨#[]⟩, .int .u64 0, .string ⟨#[]⟩, .slice none 0 0] 40));clear hkv hb)))|((with_reducible refine at_list8 ?_);refine wpList_store_rowTo rfl 40 _ _ rfl rfl w1.heap.size #[.int .i64 1, .string (bs op), .int .u64 (m:Int), .string (bs s), .slice ak ks.length ck] rfl rfl 40 _ HBX.out size_expr rfl (xg_one _ _ _ _ _ _ _) ?_;rw [World.setRow_alloc_new];have S1:=hid (S0'.out.alloc (.cells #[.int .i64 1, .string (bs op), .int .u64 (m:Int), .string (bs s), .slice ak ks.length ck] 40));have HX1:=hid (heap_alloc_new w1 (.cells #[.int .i64 1, .string (bs op), .int .u64 (m:Int), .string (bs s), .slice ak ks.length ck] 40));obtain ⟨⟨d0,d1,d2,d3,d4⟩,df,dl⟩:=cells5 HX1.out;clear HBX S0';have C1:=hid (shPut S1.out [s] (by simp) 1 rfl #[.string (bs s)] rfl (w1.heap.size+1) (by simp)))|(go_at_call 88;(first|((with_reducible refine C1.out.mono ?_);intro e w2 hp;rcases hr:wPuts [s] l with _|l2;(· rw [hr] at hp;obtain ⟨rfl,hf⟩:=hp;obtain rfl:=step_none HR1.out hr;exact ⟨rfl,rfl,S1.out.fr.trans hf⟩);rw [hr] at hp;obtain ⟨rfl,h1⟩:=hp;have S2:=hid (S1.out.next h1);have HR2:=hid (step_some HR1.out hr);clear hr h1))))
 obtain rfl:=HR2.out
 go_end0
 exact ⟨rfl,S2.out⟩
set_option maxHeartbeats 4000000 in
set_option maxRecDepth 100000 in
theorem shExpr_else {W0:World} {g G:Nat} {F:GF} (hF:FileG G W0 F) (hN:NEnv W0) (hG:GfOK F) {kk:Int} {lim n:Nat} {op:List UInt8} {m:Nat} {s:List UInt8} {ks:List Int} (hx:F.xs[n]? =some ⟨kk,op,m,s,ks⟩) (hn:n<lim) (hlim:lim≤F.xs.length) {W w:World} {l:List UInt8} (h:SW W0 g (fp G) W l w) (hk:kk≠0∧kk≠1∧kk≠2∧kk≠3):
  Calls Tryz.prog 48 #[.pointer (some ⟨g,0,none⟩), .int .i64 (n:Int), .int .i64 (lim:Int)] w (PostW W0 g (fp G) w (exprW F.xs lim (n:Int) l)):=by
 have c0:=shAt_yes hF h hx hn hlim hG
 dsimp only at c0
 have C0:=hid c0
 have S0:=hid h.start
 obtain ⟨R,hR⟩: ∃R,exprW F.xs lim (n:Int) l=R:=⟨_,rfl⟩
 rw [hR]
 have HR1:Hid (none=R):=hid (by
  rw [←hR]
  rw [exprW_lim,if_pos ⟨by omega,by omega⟩,show ((n:Int).toNat)=n from rfl]
  unfold bodyE
  rw [hx]
  simp only [hk.1,hk.2.1,hk.2.2.1,hk.2.2.2,if_false]
  rfl)
 have e0:(kk==0)=false:=beq_eq_false_iff_ne.2 hk.1
 have e1:(kk==1)=false:=beq_eq_false_iff_ne.2 hk.2.1
 have e2:(kk==2)=false:=beq_eq_false_iff_ne.2 hk.2.2.1
 have e3:(kk==3)=false:=beq_eq_false_iff_ne.2 hk.2.2.2
 clear c0 h hR hx hlim hn hN hG hF hk
 go_enter Tryz.func48, Tryz.ntmps48
 go_wp2_with (first|(go_at_call 91;(first|((with_reducible refine C0.out.mono ?_);rintro e w1 ⟨ak,ck,rfl,hkv,hb⟩;have S0':=hid (S0.out.keep hb);have HKV:=hid hkv;have HBX:=hid (heap_alloc_new w1 (.cells #[.int .i64 0, .string ⟨#[]⟩, .int .u64 0, .string ⟨#[]⟩, .slice none 0 0] 40));clear hkv hb)))|((with_reducible refine at_list8 ?_);refine wpList_store_rowTo rfl 40 _ _ rfl rfl w1.heap.size #[.int .i64 kk, .string (bs op), .int .u64 (m:Int), .string (bs s), .slice ak ks.length ck] rfl rfl 40 _ HBX.out size_expr rfl (xg_one _ _ _ _ _ _ _) ?_;rw [World.setRow_alloc_new];have S1:=hid (S0'.out.alloc (.cells #[.int .i64 kk, .string (bs op), .int .u64 (m:Int), .string (bs s), .slice ak ks.length ck] 40));have HX1:=hid (heap_alloc_new w1 (.cells #[.int .i64 kk, .string (bs op), .int .u64 (m:Int), .string (bs s), .slice ak ks.length ck] 40));obtain ⟨⟨d0,d1,d2,d3,d4⟩,df,dl⟩:=cells5 HX1.out;clear HBX S0')|(go_at_call 87;(first|((with_reducible refine (sexp_no g _).mono ?_);rintro e w2 ⟨rfl,rfl⟩))))
 obtain rfl:=HR1.out
 exact ⟨rfl,rfl,S1.out.fr⟩
set_option maxHeartbeats 4000000 in
set_option maxRecDepth 100000 in
theorem shExpr_not_bad {W0:World} {g G:Nat} {F:GF} (hF:FileG G W0 F) (hN:NEnv W0) (hG:GfOK F) {lim n:Nat} {op:List UInt8} {m:Nat} {s:List UInt8} {ks:List Int} (hx:F.xs[n]? =some ⟨2,op,m,s,ks⟩) (hn:n<lim) (hlim:lim≤F.xs.length) {W w:World} {l:List UInt8} (h:SW W0 g (fp G) W l w) (hc:ks.length≠1):
  Calls Tryz.prog 48 #[.pointer (some ⟨g,0,none⟩), .int .i64 (n:Int), .int .i64 (lim:Int)] w (PostW W0 g (fp G) w (exprW F.xs lim (n:Int) l)):=by
 have c0:=shAt_yes hF h hx hn hlim hG
 dsimp only at c0
 have C0:=hid c0
 have S0:=hid h.start
 obtain ⟨R,hR⟩: ∃R,exprW F.xs lim (n:Int) l=R:=⟨_,rfl⟩
 rw [hR]
 have HR1:Hid (none=R):=hid (by
  rw [←hR]
  rw [exprW_lim,if_pos ⟨by omega,by omega⟩,show ((n:Int).toNat)=n from rfl]
  unfold bodyE
  rw [hx]
  rcases ks with _|⟨a,_|⟨b,_|⟨c,r⟩⟩⟩<;>first|rfl|exact absurd rfl hc)
 have hcc:((ks.length:Int)==1)=false:=by rw [beq_eq_false_iff_ne];omega
 clear c0 h hR hx hlim hn hN hG hF hc
 go_enter Tryz.func48, Tryz.ntmps48
 go_wp2_with (first|(go_at_call 91;(first|((with_reducible refine C0.out.mono ?_);rintro e w1 ⟨ak,ck,rfl,hkv,hb⟩;have S0':=hid (S0.out.keep hb);have HKV:=hid hkv;have HBX:=hid (heap_alloc_new w1 (.cells #[.int .i64 0, .string ⟨#[]⟩, .int .u64 0, .string ⟨#[]⟩, .slice none 0 0] 40));clear hkv hb)))|((with_reducible refine at_list8 ?_);refine wpList_store_rowTo rfl 40 _ _ rfl rfl w1.heap.size #[.int .i64 2, .string (bs op), .int .u64 (m:Int), .string (bs s), .slice ak ks.length ck] rfl rfl 40 _ HBX.out size_expr rfl (xg_one _ _ _ _ _ _ _) ?_;rw [World.setRow_alloc_new];have S1:=hid (S0'.out.alloc (.cells #[.int .i64 2, .string (bs op), .int .u64 (m:Int), .string (bs s), .slice ak ks.length ck] 40));have HX1:=hid (heap_alloc_new w1 (.cells #[.int .i64 2, .string (bs op), .int .u64 (m:Int), .string (bs s), .slice ak ks.length ck] 40));obtain ⟨⟨d0,d1,d2,d3,d4⟩,df,dl⟩:=cells5 HX1.out;clear HBX S0')|(go_at_call 87;(first|((with_reducible refine (sexp_no g _).mono ?_);rintro e w2 ⟨rfl,rfl⟩))))
 obtain rfl:=HR1.out
 exact ⟨rfl,rfl,S1.out.fr⟩
set_option maxHeartbeats 4000000 in
set_option maxRecDepth 100000 in
theorem shExpr_bin_bad {W0:World} {g G:Nat} {F:GF} (hF:FileG G W0 F) (hN:NEnv W0) (hG:GfOK F) {lim n:Nat} {op:List UInt8} {m:Nat} {s:List UInt8} {ks:List Int} (hx:F.xs[n]? =some ⟨3,op,m,s,ks⟩) (hn:n<lim) (hlim:lim≤F.xs.length) {W w:World} {l:List UInt8} (h:SW W0 g (fp G) W l w) (hc:ks.length≠2):
  Calls Tryz.prog 48 #[.pointer (some ⟨g,0,none⟩), .int .i64 (n:Int), .int .i64 (lim:Int)] w (PostW W0 g (fp G) w (exprW F.xs lim (n:Int) l)):=by
 have c0:=shAt_yes hF h hx hn hlim hG
 dsimp only at c0
 have C0:=hid c0
 have S0:=hid h.start
 obtain ⟨R,hR⟩: ∃R,exprW F.xs lim (n:Int) l=R:=⟨_,rfl⟩
 rw [hR]
 have HR1:Hid (none=R):=hid (by
  rw [←hR]
  rw [exprW_lim,if_pos ⟨by omega,by omega⟩,show ((n:Int).toNat)=n from rfl]
  unfold bodyE
  rw [hx]
  rcases ks with _|⟨a,_|⟨b,_|⟨c,r⟩⟩⟩<;>first|rfl|exact absurd rfl hc)
 have hcc:((ks.length:Int)==2)=false:=by rw [beq_eq_false_iff_ne];omega
 clear c0 h hR hx hlim hn hN hG hF hc
 go_enter Tryz.func48, Tryz.ntmps48
 go_wp2_with (first|(go_at_call 91;(first|((with_reducible refine C0.out.mono ?_);rintro e w1 ⟨ak,ck,rfl,hkv,hb⟩;have S0':=hid (S0.out.keep hb);have HKV:=hid hkv;have HBX:=hid (heap_alloc_new w1 (.cells #[.int .i64 0, .string ⟨#[]⟩, .int .u64 0, .string ⟨#[]⟩, .slice none 0 0] 40));clear hkv hb)))|((with_reducible refine at_list8 ?_);refine wpList_store_rowTo rfl 40 _ _ rfl rfl w1.heap.size #[.int .i64 3, .string (bs op), .int .u64 (m:Int), .string (bs s), .slice ak ks.length ck] rfl rfl 40 _ HBX.out size_expr rfl (xg_one _ _ _ _ _ _ _) ?_;rw [World.setRow_alloc_new];have S1:=hid (S0'.out.alloc (.cells #[.int .i64 3, .string (bs op), .int .u64 (m:Int), .string (bs s), .slice ak ks.length ck] 40));have HX1:=hid (heap_alloc_new w1 (.cells #[.int .i64 3, .string (bs op), .int .u64 (m:Int), .string (bs s), .slice ak ks.length ck] 40));obtain ⟨⟨d0,d1,d2,d3,d4⟩,df,dl⟩:=cells5 HX1.out;clear HBX S0')|(go_at_call 87;(first|((with_reducible refine (sexp_no g _).mono ?_);rintro e w2 ⟨rfl,rfl⟩))))
 obtain rfl:=HR1.out
 exact ⟨rfl,rfl,S1.out.fr⟩
set_option maxHeartbeats 4000000 in
set_option maxRecDepth 100000 in
theorem shExpr_not {W0:World} {g G:Nat} {F:GF} (hF:FileG G W0 F) (hN:NEnv W0) (hG:GfOK F) {lim n:Nat} {op:List UInt8} {m:Nat} {s:List UInt8} {a:Int} (hx:F.xs[n]? =some ⟨2,op,m,s, [a]⟩) (hn:n<lim) (hlim:lim≤F.xs.length) {W w:World} {l:List UInt8} (h:SW W0 g (fp G) W l w) (ho:OpndC W0 g G F n):
  Calls Tryz.prog 48 #[.pointer (some ⟨g,0,none⟩), .int .i64 (n:Int), .int .i64 (lim:Int)] w (PostW W0 g (fp G) w (exprW F.xs lim (n:Int) l)):=by
 have c0:=shAt_yes hF h hx hn hlim hG
 dsimp only at c0
 have C0:=hid c0
 have S0:=hid h.start
 obtain ⟨R,hR⟩: ∃R,exprW F.xs lim (n:Int) l=R:=⟨_,rfl⟩
 rw [hR]
 have HR1:Hid (wSeq (wPuts [[33]]) (wSeq (opndW F.xs n (exprW F.xs n) a 9) some) l=R):=hid (by
  rw [←hR]
  rw [exprW_lim,if_pos ⟨by omega,by omega⟩,show ((n:Int).toNat)=n from rfl]
  unfold bodyE
  rw [hx]
  rw [wPuts_one]
  rfl)
 have HO:=hid ho
 clear c0 h hR hx hlim hn hN hG hF ho
 go_enter Tryz.func48, Tryz.ntmps48
 go_wp2_with (first|(go_at_call 91;(first|((with_reducible refine C0.out.mono ?_);rintro e w1 ⟨ak,ck,rfl,hkv,hb⟩;have S0':=hid (S0.out.keep hb);have HKV:=hid hkv;obtain ⟨ka0,rfl,hkl0,hkc0⟩:=in_at HKV.out (i:=0) (x:=a) rfl;have HKL:=hid hkl0;have HKC0:=hid hkc0;have HBX:=hid (heap_alloc_new w1 (.cells #[.int .i64 0, .string ⟨#[]⟩, .int .u64 0, .string ⟨#[]⟩, .slice none 0 0] 40));clear hkv hb hkl0 hkc0)))|((with_reducible refine at_list8 ?_);refine wpList_store_rowTo rfl 40 _ _ rfl rfl w1.heap.size #[.int .i64 2, .string (bs op), .int .u64 (m:Int), .string (bs s), .slice (some ⟨ka0,0,none⟩) 1 ck] rfl rfl 40 _ HBX.out size_expr rfl (xg_one _ _ _ _ _ _ _) ?_;rw [World.setRow_alloc_new];have HNE:=hid S0'.out.ne;have S1:=hid (S0'.out.alloc (.cells #[.int .i64 2, .string (bs op), .int .u64 (m:Int), .string (bs s), .slice (some ⟨ka0,0,none⟩) 1 ck] 40));have HX1:=hid (heap_alloc_new w1 (.cells #[.int .i64 2, .string (bs op), .int .u64 (m:Int), .string (bs s), .slice (some ⟨ka0,0,none⟩) 1 ck] 40));obtain ⟨⟨d0,d1,d2,d3,d4⟩,df,dl⟩:=cells5 HX1.out;clear HBX S0';have q0:=(S1.out.base.cell (p:=⟨ka0,0,none⟩) HKL.out).trans HKC0.out;have C1:=hid (shPut S1.out [[33]] (by simp) 1 rfl #[.string ⟨#[33]⟩] rfl (w1.heap.size+1) (by simp)))|(go_at_call 87;(first|((with_reducible refine (sexp_yes g _).mono ?_);rintro e w2 ⟨rfl,rfl⟩)))|(go_at_call 88;(first|((with_reducible refine C1.out.mono ?_);intro e w3 hp;rcases hr:wPuts [[33]] l with _|l3;(· rw [hr] at hp;obtain ⟨rfl,hf⟩:=hp;obtain rfl:=step_none HR1.out hr;exact ⟨rfl,rfl,S1.out.fr.trans hf⟩);rw [hr] at hp;obtain ⟨rfl,h1⟩:=hp;have S3:=hid (S1.out.next h1);have HR3:=hid (step_some HR1.out hr);have HX3:=hid (h1.fr.keep _ _ _ _ HX1.out HNE.out (by decide));clear d0 d1 d2 d3 d4 df dl;obtain ⟨⟨d0,d1,d2,d3,d4⟩,df,dl⟩:=cells5 HX3.out;clear q0;have q0:=(S3.out.base.cell (p:=⟨ka0,0,none⟩) HKL.out).trans HKC0.out;clear hr h1;have C3:=hid (HO.out a 9 9 _ _ _ rfl S3.out))))|(go_at_call 92;(first|((with_reducible refine C3.out.mono ?_);intro e w4 hp;rcases hr:opndW F.xs n (exprW F.xs n) a 9 l3 with _|l4;(· rw [hr] at hp;obtain ⟨rfl,hf⟩:=hp;obtain rfl:=step_none HR3.out hr;exact ⟨rfl,rfl,S3.out.fr.trans hf⟩);rw [hr] at hp;obtain ⟨rfl,h1⟩:=hp;have S4:=hid (S3.out.next h1);have HR4:=hid (step_some HR3.out hr);clear hr h1))))
 obtain rfl:=HR4.out
 go_end0
 exact ⟨rfl,S4.out⟩
set_option maxHeartbeats 4000000 in
set_option maxRecDepth 100000 in
theorem shExpr_bin {W0:World} {g G:Nat} {F:GF} (hF:FileG G W0 F) (hN:NEnv W0) (hG:GfOK F) {lim n:Nat} {op:List UInt8} {m:Nat} {s:List UInt8} {a b:Int} (hx:F.xs[n]? =some ⟨3,op,m,s, [a,b]⟩) (hn:n<lim) (hlim:lim≤F.xs.length) {W w:World} {l:List UInt8} (h:SW W0 g (fp G) W l w) (ho:OpndC W0 g G F n):
  Calls Tryz.prog 48 #[.pointer (some ⟨g,0,none⟩), .int .i64 (n:Int), .int .i64 (lim:Int)] w (PostW W0 g (fp G) w (exprW F.xs lim (n:Int) l)):=by
 have c0:=shAt_yes hF h hx hn hlim hG
 dsimp only at c0
 have C0:=hid c0
 have S0:=hid h.start
 obtain ⟨R,hR⟩: ∃R,exprW F.xs lim (n:Int) l=R:=⟨_,rfl⟩
 rw [hR]
 have HR1:Hid (wSeq (opndW F.xs n (exprW F.xs n) a (levelL op)) (wSeq (wPuts [[32],op, [32]]) (wSeq (opndW F.xs n (exprW F.xs n) b (levelL op+1)) some)) l=R):=hid (by
  rw [←hR]
  rw [exprW_lim,if_pos ⟨by omega,by omega⟩,show ((n:Int).toNat)=n from rfl]
  unfold bodyE
  rw [hx]
  show _=wAll [opndW F.xs n (exprW F.xs n) a (levelL op),wPut [32],wPut op,wPut [32],opndW F.xs n (exprW F.xs n) b (levelL op+1)] l
  rw [show wPuts [[32],op, [32]]=wSeq (wPut [32]) (wSeq (wPut op) (wSeq (wPut [32]) some)) from rfl]
  simp only [wAll_cons,wAll_nil,wSeq_assoc,wSome_seq])
 have HO:=hid ho
 have hlv:=levelL_le op
 have hwv:IntKind.i64.wrap ((levelL op:Int)+1)=(levelL op:Int)+1:=IntWalk.i64_in _ (by omega)
 have HLV:=hid hlv
 clear hlv
 clear c0 h hR hx hlim hn hN hG hF ho
 go_enter Tryz.func48, Tryz.ntmps48
 go_wp2_with (first|(go_at_call 91;(first|((with_reducible refine C0.out.mono ?_);rintro e w1 ⟨ak,ck,rfl,hkv,hb⟩;have S0':=hid (S0.out.keep hb);have HKV:=hid hkv;obtain ⟨ka0,rfl,hkl0,hkc0⟩:=in_at HKV.out (i:=0) (x:=a) rfl;obtain ⟨ka1,hka1, -,hkc1⟩:=in_at HKV.out (i:=1) (x:=b) rfl;obtain rfl:ka0=ka1:=(by simpa using hka1);have HKL:=hid hkl0;have HKC0:=hid hkc0;have HKC1:=hid hkc1;have HBX:=hid (heap_alloc_new w1 (.cells #[.int .i64 0, .string ⟨#[]⟩, .int .u64 0, .string ⟨#[]⟩, .slice none 0 0] 40));clear hkv hb hkl0 hkc0 hkc1 hka1)))|((with_reducible refine at_list8 ?_);refine wpList_store_rowTo rfl 40 _ _ rfl rfl w1.heap.size #[.int .i64 3, .string (bs op), .int .u64 (m:Int), .string (bs s), .slice (some ⟨ka0,0,none⟩) 2 ck] rfl rfl 40 _ HBX.out size_expr rfl (xg_one _ _ _ _ _ _ _) ?_;rw [World.setRow_alloc_new];have HNE:=hid S0'.out.ne;have S1:=hid (S0'.out.alloc (.cells #[.int .i64 3, .string (bs op), .int .u64 (m:Int), .string (bs s), .slice (some ⟨ka0,0,none⟩) 2 ck] 40));have HX1:=hid (heap_alloc_new w1 (.cells #[.int .i64 3, .string (bs op), .int .u64 (m:Int), .string (bs s), .slice (some ⟨ka0,0,none⟩) 2 ck] 40));obtain ⟨⟨d0,d1,d2,d3,d4⟩,df,dl⟩:=cells5 HX1.out;clear HBX S0';have q0:=(S1.out.base.cell (p:=⟨ka0,0,none⟩) HKL.out).trans HKC0.out;have q1:=(S1.out.base.cell (p:=⟨ka0,1,none⟩) HKL.out).trans HKC1.out)|(go_at_call 87;(first|((with_reducible refine (sexp_yes g _).mono ?_);rintro e w2 ⟨rfl,rfl⟩)))|(go_at_call 93;(first|((with_reducible refine (Level_any op _).mono ?_);rintro e w2 ⟨rfl,rfl⟩;have C1:=hid (HO.out a (levelL op) (levelL op:Int) _ _ _ rfl S1.out))))|(go_at_call 92;(first|((with_reducible refine C1.out.mono ?_);intro e w3 hp;rcases hr:opndW F.xs n (exprW F.xs n) a (levelL op) l with _|l3;(· rw [hr] at hp;obtain ⟨rfl,hf⟩:=hp;obtain rfl:=step_none HR1.out hr;exact ⟨rfl,rfl,S1.out.fr.trans hf⟩);rw [hr] at hp;obtain ⟨rfl,h1⟩:=hp;have S3:=hid (S1.out.next h1);have HR3:=hid (step_some HR1.out hr);have HX3:=hid (h1.fr.keep _ _ _ _ HX1.out HNE.out (by decide));clear d0 d1 d2 d3 d4 df dl;obtain ⟨⟨d0,d1,d2,d3,d4⟩,df,dl⟩:=cells5 HX3.out;clear q0 q1;have q0:=(S3.out.base.cell (p:=⟨ka0,0,none⟩) HKL.out).trans HKC0.out;have q1:=(S3.out.base.cell (p:=⟨ka0,1,none⟩) HKL.out).trans HKC1.out;clear hr h1;have C3:=hid (shPut S3.out [[32],op, [32]] (by simp) 3 rfl #[.string ⟨#[32]⟩, .string (bs op), .string ⟨#[32]⟩] rfl _ rfl))|((with_reducible refine C4.out.mono ?_);intro e w5 hp;rcases hr:opndW F.xs n (exprW F.xs n) b (levelL op+1) l4 with _|l5;(· rw [hr] at hp;obtain ⟨rfl,hf⟩:=hp;obtain rfl:=step_none HR4.out hr;exact ⟨rfl,rfl,S4.out.fr.trans hf⟩);rw [hr] at hp;obtain ⟨rfl,h1⟩:=hp;have S5:=hid (S4.out.next h1);have HR5:=hid (step_some HR4.out hr);clear hr h1)))|(go_at_call 88;(first|((with_reducible refine C3.out.mono ?_);intro e w4 hp;rcases hr:wPuts [[32],op, [32]] l3 with _|l4;(· rw [hr] at hp;obtain ⟨rfl,hf⟩:=hp;obtain rfl:=step_none HR3.out hr;exact ⟨rfl,rfl,S3.out.fr.trans hf⟩);rw [hr] at hp;obtain ⟨rfl,h1⟩:=hp;have S4:=hid (S3.out.next h1);have HR4:=hid (step_some HR3.out hr);have HX4:=hid (h1.fr.keep _ _ _ _ HX3.out HNE.out (by decide));clear d0 d1 d2 d3 d4 df dl;obtain ⟨⟨d0,d1,d2,d3,d4⟩,df,dl⟩:=cells5 HX4.out;clear q0 q1;have q0:=(S4.out.base.cell (p:=⟨ka0,0,none⟩) HKL.out).trans HKC0.out;have q1:=(S4.out.base.cell (p:=⟨ka0,1,none⟩) HKL.out).trans HKC1.out;clear hr h1;have C4:=hid (HO.out b (levelL op+1) ((levelL op:Int)+1) _ _ _ (by simp) S4.out)))))
 obtain rfl:=HR5.out
 go_end0
 exact ⟨rfl,S5.out⟩
set_option maxHeartbeats 4000000 in
set_option maxRecDepth 100000 in
theorem shOpnd_else {W0:World} {g G:Nat} {F:GF} (hF:FileG G W0 F) (hN:NEnv W0) (hG:GfOK F) {kk:Int} {lim n:Nat} {op:List UInt8} {m:Nat} {s:List UInt8} {ks:List Int} (hx:F.xs[n]? =some ⟨kk,op,m,s,ks⟩) (hn:n<lim) (hlim:lim≤F.xs.length) {W w:World} {l:List UInt8} {v:Nat} {V:Int} (hV:V=(v:Int)) (h:SW W0 g (fp G) W l w) (hk:kk≠3) (he:ExprC W0 g G F lim):
  Calls Tryz.prog 92 #[.pointer (some ⟨g,0,none⟩), .int .i64 (n:Int), .int .i64 (lim:Int), .int .i64 V] w (PostW W0 g (fp G) w (opndW F.xs lim (exprW F.xs lim) (n:Int) v l)):=by
 have c0:=shAt_yes hF h hx hn hlim hG
 dsimp only at c0
 have C0:=hid c0
 have S0:=hid h.start
 obtain ⟨R,hR⟩: ∃R,opndW F.xs lim (exprW F.xs lim) (n:Int) v l=R:=⟨_,rfl⟩
 rw [hR]
 have HR1:Hid (wSeq (exprW F.xs lim (n:Int)) some l=R):=hid (by
  rw [←hR]
  unfold opndW
  rw [if_pos ⟨by omega,by omega⟩,show ((n:Int).toNat)=n from rfl,hx]
  simp only [hk,ne_eq,not_false_eq_true,true_or,if_true]
  rw [wSeq_some])
 have HE:=hid he
 have e3:(kk !=3)=true:=bne_iff_ne.2 hk
 clear c0 h hR hx hlim hn hN hG hF hk hV he
 go_enter Tryz.func92, Tryz.ntmps92
 go_wp2_with (first|(go_at_call 91;(first|((with_reducible refine C0.out.mono ?_);rintro e w1 ⟨ak,ck,rfl,hkv,hb⟩;have S0':=hid (S0.out.keep hb);have HKV:=hid hkv;have HBX:=hid (heap_alloc_new w1 (.cells #[.int .i64 0, .string ⟨#[]⟩, .int .u64 0, .string ⟨#[]⟩, .slice none 0 0] 40));clear hkv hb)))|((with_reducible refine at_list8 ?_);refine wpList_store_rowTo rfl 40 _ _ rfl rfl w1.heap.size #[.int .i64 kk, .string (bs op), .int .u64 (m:Int), .string (bs s), .slice ak ks.length ck] rfl rfl 40 _ HBX.out size_expr rfl (xg_one _ _ _ _ _ _ _) ?_;rw [World.setRow_alloc_new];have S1:=hid (S0'.out.alloc (.cells #[.int .i64 kk, .string (bs op), .int .u64 (m:Int), .string (bs s), .slice ak ks.length ck] 40));have HX1:=hid (heap_alloc_new w1 (.cells #[.int .i64 kk, .string (bs op), .int .u64 (m:Int), .string (bs s), .slice ak ks.length ck] 40));obtain ⟨⟨d0,d1,d2,d3,d4⟩,df,dl⟩:=cells5 HX1.out;clear HBX S0';have C1:=hid (HE.out (n:Int) _ _ _ S1.out))|(go_at_call 48;(first|((with_reducible refine C1.out.mono ?_);intro e w2 hp;rcases hr:exprW F.xs lim (n:Int) l with _|l2;(· rw [hr] at hp;obtain ⟨rfl,hf⟩:=hp;obtain rfl:=step_none HR1.out hr;exact ⟨rfl,rfl,S1.out.fr.trans hf⟩);rw [hr] at hp;obtain ⟨rfl,h1⟩:=hp;have S2:=hid (S1.out.next h1);have HR2:=hid (step_some HR1.out hr);clear hr h1))))
 obtain rfl:=HR2.out
 go_end0
 exact ⟨rfl,S2.out⟩
set_option maxHeartbeats 4000000 in
set_option maxRecDepth 100000 in
theorem shOpnd_high {W0:World} {g G:Nat} {F:GF} (hF:FileG G W0 F) (hN:NEnv W0) (hG:GfOK F) {lim n:Nat} {op:List UInt8} {m:Nat} {s:List UInt8} {ks:List Int} (hx:F.xs[n]? =some ⟨3,op,m,s,ks⟩) (hn:n<lim) (hlim:lim≤F.xs.length) {W w:World} {l:List UInt8} {v:Nat} {V:Int} (hV:V=(v:Int)) (h:SW W0 g (fp G) W l w) (hk:v≤levelL op) (he:ExprC W0 g G F lim):
  Calls Tryz.prog 92 #[.pointer (some ⟨g,0,none⟩), .int .i64 (n:Int), .int .i64 (lim:Int), .int .i64 V] w (PostW W0 g (fp G) w (opndW F.xs lim (exprW F.xs lim) (n:Int) v l)):=by
 have c0:=shAt_yes hF h hx hn hlim hG
 dsimp only at c0
 have C0:=hid c0
 have S0:=hid h.start
 obtain ⟨R,hR⟩: ∃R,opndW F.xs lim (exprW F.xs lim) (n:Int) v l=R:=⟨_,rfl⟩
 rw [hR]
 have HR1:Hid (wSeq (exprW F.xs lim (n:Int)) some l=R):=hid (by
  rw [←hR]
  unfold opndW
  rw [if_pos ⟨by omega,by omega⟩,show ((n:Int).toNat)=n from rfl,hx]
  show _=(if (3:Int)≠3∨v≤levelL op then exprW F.xs lim (n:Int) else wAll [wPut [40],exprW F.xs lim (n:Int),wPut [41]]) l
  rw [if_pos (.inr hk),wSeq_some])
 have HE:=hid he
 have e3:V≤(levelL op:Int):=by omega
 clear c0 h hR hx hlim hn hN hG hF hk hV he
 go_enter Tryz.func92, Tryz.ntmps92
 go_wp2_with (first|(go_at_call 91;(first|((with_reducible refine C0.out.mono ?_);rintro e w1 ⟨ak,ck,rfl,hkv,hb⟩;have S0':=hid (S0.out.keep hb);have HKV:=hid hkv;have HBX:=hid (heap_alloc_new w1 (.cells #[.int .i64 0, .string ⟨#[]⟩, .int .u64 0, .string ⟨#[]⟩, .slice none 0 0] 40));clear hkv hb)))|((with_reducible refine at_list8 ?_);refine wpList_store_rowTo rfl 40 _ _ rfl rfl w1.heap.size #[.int .i64 3, .string (bs op), .int .u64 (m:Int), .string (bs s), .slice ak ks.length ck] rfl rfl 40 _ HBX.out size_expr rfl (xg_one _ _ _ _ _ _ _) ?_;rw [World.setRow_alloc_new];have S1:=hid (S0'.out.alloc (.cells #[.int .i64 3, .string (bs op), .int .u64 (m:Int), .string (bs s), .slice ak ks.length ck] 40));have HX1:=hid (heap_alloc_new w1 (.cells #[.int .i64 3, .string (bs op), .int .u64 (m:Int), .string (bs s), .slice ak ks.length ck] 40));obtain ⟨⟨d0,d1,d2,d3,d4⟩,df,dl⟩:=cells5 HX1.out;clear HBX S0')|(go_at_call 93;(first|((with_reducible refine (Level_any op _).mono ?_);rintro e w2 ⟨rfl,rfl⟩;have C1:=hid (HE.out (n:Int) _ _ _ S1.out))))|(go_at_call 48;(first|((with_reducible refine C1.out.mono ?_);intro e w2 hp;rcases hr:exprW F.xs lim (n:Int) l with _|l2;(· rw [hr] at hp;obtain ⟨rfl,hf⟩:=hp;obtain rfl:=step_none HR1.out hr;exact ⟨rfl,rfl,S1.out.fr.trans hf⟩);rw [hr] at hp;obtain ⟨rfl,h1⟩:=hp;have S2:=hid (S1.out.next h1);have HR2:=hid (step_some HR1.out hr);clear hr h1))))
 obtain rfl:=HR2.out
 go_end0
 exact ⟨rfl,S2.out⟩
set_option maxHeartbeats 4000000 in
set_option maxRecDepth 100000 in
theorem shOpnd_low {W0:World} {g G:Nat} {F:GF} (hF:FileG G W0 F) (hN:NEnv W0) (hG:GfOK F) {lim n:Nat} {op:List UInt8} {m:Nat} {s:List UInt8} {ks:List Int} (hx:F.xs[n]? =some ⟨3,op,m,s,ks⟩) (hn:n<lim) (hlim:lim≤F.xs.length) {W w:World} {l:List UInt8} {v:Nat} {V:Int} (hV:V=(v:Int)) (h:SW W0 g (fp G) W l w) (hk: ¬v≤levelL op) (he:ExprC W0 g G F lim):
  Calls Tryz.prog 92 #[.pointer (some ⟨g,0,none⟩), .int .i64 (n:Int), .int .i64 (lim:Int), .int .i64 V] w (PostW W0 g (fp G) w (opndW F.xs lim (exprW F.xs lim) (n:Int) v l)):=by
 have c0:=shAt_yes hF h hx hn hlim hG
 dsimp only at c0
 have C0:=hid c0
 have S0:=hid h.start
 obtain ⟨R,hR⟩: ∃R,opndW F.xs lim (exprW F.xs lim) (n:Int) v l=R:=⟨_,rfl⟩
 rw [hR]
 have HR1:Hid (wSeq (wPuts [[40]]) (wSeq (exprW F.xs lim (n:Int)) (wSeq (wPuts [[41]]) some)) l=R):=hid (by
  rw [←hR]
  unfold opndW
  rw [if_pos ⟨by omega,by omega⟩,show ((n:Int).toNat)=n from rfl,hx]
  show _=(if (3:Int)≠3∨v≤levelL op then exprW F.xs lim (n:Int) else wAll [wPut [40],exprW F.xs lim (n:Int),wPut [41]]) l
  rw [if_neg (by simp;omega),wPuts_one,wPuts_one]
  rfl)
 have HE:=hid he
 have e3:decide (V≤(levelL op:Int))=false:=decide_eq_false (by omega)
 clear c0 h hR hx hlim hn hN hG hF hk hV he
 go_enter Tryz.func92, Tryz.ntmps92
 go_wp2_with (first|(go_at_call 91;(first|((with_reducible refine C0.out.mono ?_);rintro e w1 ⟨ak,ck,rfl,hkv,hb⟩;have S0':=hid (S0.out.keep hb);have HKV:=hid hkv;have HBX:=hid (heap_alloc_new w1 (.cells #[.int .i64 0, .string ⟨#[]⟩, .int .u64 0, .string ⟨#[]⟩, .slice none 0 0] 40));clear hkv hb)))|((with_reducible refine at_list8 ?_);refine wpList_store_rowTo rfl 40 _ _ rfl rfl w1.heap.size #[.int .i64 3, .string (bs op), .int .u64 (m:Int), .string (bs s), .slice ak ks.length ck] rfl rfl 40 _ HBX.out size_expr rfl (xg_one _ _ _ _ _ _ _) ?_;rw [World.setRow_alloc_new];have S1:=hid (S0'.out.alloc (.cells #[.int .i64 3, .string (bs op), .int .u64 (m:Int), .string (bs s), .slice ak ks.length ck] 40));have HX1:=hid (heap_alloc_new w1 (.cells #[.int .i64 3, .string (bs op), .int .u64 (m:Int), .string (bs s), .slice ak ks.length ck] 40));obtain ⟨⟨d0,d1,d2,d3,d4⟩,df,dl⟩:=cells5 HX1.out;clear HBX S0')|(go_at_call 93;(first|((with_reducible refine (Level_any op _).mono ?_);rintro e w2 ⟨rfl,rfl⟩;have C1:=hid (shPut S1.out [[40]] (by simp) 1 rfl #[.string ⟨#[40]⟩] rfl (w1.heap.size+1) (by simp)))))|(go_at_call 88;(first|((with_reducible refine C1.out.mono ?_);intro e w2 hp;rcases hr:wPuts [[40]] l with _|l2;(· rw [hr] at hp;obtain ⟨rfl,hf⟩:=hp;obtain rfl:=step_none HR1.out hr;exact ⟨rfl,rfl,S1.out.fr.trans hf⟩);rw [hr] at hp;obtain ⟨rfl,h1⟩:=hp;have S2:=hid (S1.out.next h1);have HR2:=hid (step_some HR1.out hr);clear hr h1;have C2:=hid (HE.out (n:Int) _ _ _ S2.out))|((with_reducible refine C3.out.mono ?_);intro e w4 hp;rcases hr:wPuts [[41]] l3 with _|l4;(· rw [hr] at hp;obtain ⟨rfl,hf⟩:=hp;obtain rfl:=step_none HR3.out hr;exact ⟨rfl,rfl,S3.out.fr.trans hf⟩);rw [hr] at hp;obtain ⟨rfl,h1⟩:=hp;have S4:=hid (S3.out.next h1);have HR4:=hid (step_some HR3.out hr);clear hr h1)))|(go_at_call 48;(first|((with_reducible refine C2.out.mono ?_);intro e w3 hp;rcases hr:exprW F.xs lim (n:Int) l2 with _|l3;(· rw [hr] at hp;obtain ⟨rfl,hf⟩:=hp;obtain rfl:=step_none HR2.out hr;exact ⟨rfl,rfl,S2.out.fr.trans hf⟩);rw [hr] at hp;obtain ⟨rfl,h1⟩:=hp;have S3:=hid (S2.out.next h1);have HR3:=hid (step_some HR2.out hr);clear hr h1;have C3:=hid (shPut S3.out [[41]] (by simp) 1 rfl #[.string ⟨#[41]⟩] rfl _ rfl)))))
 obtain rfl:=HR4.out
 go_end0
 exact ⟨rfl,S4.out⟩
theorem shExprs {W0:World} {g G:Nat} {F:GF} (hF:FileG G W0 F) (hN:NEnv W0) (hG:GfOK F): ∀lim:Nat,lim≤F.xs.length→ExprC W0 g G F lim∧OpndC W0 g G F lim:=by
 intro lim
 induction lim using Nat.strongRecOn with
 |ind lim ih=>
  intro hlim
  have he:ExprC W0 g G F lim:=by
   intro at' W w l h
   by_cases hn:0≤at'∧at'<(lim:Int)
   ·obtain ⟨n,rfl⟩: ∃n:Nat,at'=n:=⟨at'.toNat,by omega⟩
    have hnl:n<lim:=by omega
    have ho:=(ih n hnl (by omega)).2
    have hx:F.xs[n]? =some F.xs[n]:=List.getElem?_eq_getElem (by omega)
    generalize F.xs[n]=x at hx
    obtain ⟨kk,op,m,s,ks⟩:=x
    by_cases h0:kk=0
    ·subst h0;exact shExpr_num hF hN hG hx hnl hlim h
    by_cases h1:kk=1
    ·subst h1;exact shExpr_name hF hN hG hx hnl hlim h
    by_cases h2:kk=2
    ·subst h2
     by_cases hc:ks.length=1
     ·rcases ks with _|⟨a,_|⟨b,r⟩⟩
      ·cases hc
      ·exact shExpr_not hF hN hG hx hnl hlim h ho
      ·simp at hc
     ·exact shExpr_not_bad hF hN hG hx hnl hlim h hc
    by_cases h3:kk=3
    ·subst h3
     by_cases hc:ks.length=2
     ·rcases ks with _|⟨a,_|⟨b,_|⟨c,r⟩⟩⟩
      ·cases hc
      ·simp at hc
      ·exact shExpr_bin hF hN hG hx hnl hlim h ho
      ·simp at hc
     ·exact shExpr_bin_bad hF hN hG hx hnl hlim h hc
    exact shExpr_else hF hN hG hx hnl hlim h ⟨h0,h1,h2,h3⟩
   ·exact shExpr_no hF hN hG hlim h hn
  refine ⟨he,fun at' v V W w l hV h=> ?_⟩
  by_cases hn:0≤at'∧at'<(lim:Int)
  ·obtain ⟨n,rfl⟩: ∃n:Nat,at'=n:=⟨at'.toNat,by omega⟩
   have hnl:n<lim:=by omega
   have hx:F.xs[n]? =some F.xs[n]:=List.getElem?_eq_getElem (by omega)
   generalize F.xs[n]=x at hx
   obtain ⟨kk,op,m,s,ks⟩:=x
   by_cases h3:kk=3
   ·subst h3
    by_cases hk:v≤levelL op
    ·exact shOpnd_high hF hN hG hx hnl hlim hV h hk he
    ·exact shOpnd_low hF hN hG hx hnl hlim hV h hk he
   ·exact shOpnd_else hF hN hG hx hnl hlim hV h h3 he
  ·exact shOpnd_no hF hN hG hlim h hn
end Go.Proofs.YtomimkgaelkaoaaGreatDoor
