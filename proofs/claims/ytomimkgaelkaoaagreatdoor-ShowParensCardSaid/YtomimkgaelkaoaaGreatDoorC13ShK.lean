/- Layer 8: the printer's types. -/
import Derived.Test.YtomimkgaelkaoaaGreatDoorC13ShJ
set_option linter.unusedVariables false
set_option linter.unusedSimpArgs false
namespace Go.Proofs.YtomimkgaelkaoaaGreatDoor
open Go.Lib (hid)
open Go.ChangeShapes Go.WideShapes Go.ChangeAt Go.RowKit
theorem wordL_N (z:Nat) (li:Bool):wordL (z:Int) li=wordN z li:=by
 unfold wordL wordN
 by_cases a1:z=1
 ·subst a1;rfl
 by_cases a2:z=2
 ·subst a2;rfl
 by_cases a3:z=3
 ·subst a3;rfl
 by_cases a4:z=4
 ·subst a4;rfl
 by_cases a8:z=8
 ·subst a8;rfl
 rw [if_neg (by omega),if_neg (by omega),if_neg (by omega),if_neg (by omega),if_neg (by omega),if_neg a1,if_neg a2,if_neg a3,if_neg a4,if_neg a8]
theorem shIndexL {W0:World} {g G:Nat} {F:GF} (hF:FileG G W0 F) (hN:NEnv W0) (hG:GfOK F) {W w:World} {l:List UInt8} (h:SW W0 g (fp G) W l w) (word:List UInt8) (sb:ByteArray) (hs:bs word=sb) (c0 c1 c2 c3 c4 c6 c7:Value) (e:Int):
  Calls Tryz.prog 95 #[.pointer (some ⟨g,0,none⟩), .string sb, .agg #[c0,c1,c2,c3,c4, .int .i64 e,c6,c7]] w (PostW W0 g (fp G) w (idxW F.xs word e l)):=by
 subst hs
 exact shIndex hF hN hG h word c0 c1 c2 c3 c4 c6 c7 e
theorem size_type:(Tryz.prog.info? 44).map (·.size)=some 8:=by kernel_rfl
theorem tg_one (a b:Int) (c:Bool) (d:ByteArray) (q:Option Addr) (n m:Nat) (e f:Int) (r:Option Addr) (k i:Nat): #[Value.int .i64 a,Value.int .i64 b,Value.bool c,Value.string d,Value.slice q n m,Value.int .i64 e,Value.int .i64 f,Value.slice r k i].all (fun v=>v.oneCell')=true:=row_one8 (l:= [Value.int .i64 a,Value.int .i64 b,Value.bool c,Value.string d,Value.slice q n m,Value.int .i64 e,Value.int .i64 f,Value.slice r k i]) fun u hu=>by
 simp only [List.mem_cons,List.mem_nil_iff,or_false] at hu
 rcases hu with rfl|rfl|rfl|rfl|rfl|rfl|rfl|rfl<;>rfl
set_option maxHeartbeats 4000000 in
set_option maxRecDepth 100000 in
theorem shTyp_no {W0:World} {g G:Nat} {F:GF} (hF:FileG G W0 F) (hN:NEnv W0) (hG:GfOK F) {lim:Nat} {at':Int} {W w:World} {l:List UInt8} (h:SW W0 g (fp G) W l w) (hn: ¬(0≤at'∧at'<(lim:Int))):
  Calls Tryz.prog 50 #[.pointer (some ⟨g,0,none⟩), .int .i64 at', .int .i64 (lim:Int)] w (PostW W0 g (fp G) w (typW F.xs F.ts lim at' l)):=by
 have HW:Hid (typW F.xs F.ts lim at' l=none):=hid (by rw [typW_lim,if_neg (by omega)];rfl)
 rw [HW.out]
 clear h hF hN hG
 by_cases h0:0≤at'
 ·have h1:decide (at'<(lim:Int))=false:=decide_eq_false (by omega)
  clear hn
  go_enter Tryz.func50, Tryz.ntmps50
  go_wp2_with (go_at_call 87;go_must (refine (sexp_no g _).mono ?_;rintro e w1 ⟨rfl,rfl⟩;exact ⟨rfl,rfl,Fr.refl _ _ _⟩))
 ·have h1:decide (0≤at')=false:=decide_eq_false h0
  clear hn h0
  go_enter Tryz.func50, Tryz.ntmps50
  go_wp2_with (go_at_call 87;go_must (refine (sexp_no g _).mono ?_;rintro e w1 ⟨rfl,rfl⟩;exact ⟨rfl,rfl,Fr.refl _ _ _⟩))
set_option maxHeartbeats 4000000 in
set_option maxRecDepth 100000 in
theorem shTyp_int {W0:World} {g G:Nat} {F:GF} (hF:FileG G W0 F) (hN:NEnv W0) (hG:GfOK F) {lim n:Nat} {z:Nat} {li:Bool} {s:List UInt8} {args:List Nat} {e j:Int} {cs:List (Nat×Nat)} (hx:F.ts[n]? =some ⟨0,z,li,s,args,e,j,cs⟩) (hn:n<lim) (hlim:lim≤F.ts.length) {W w:World} {l:List UInt8} (h:SW W0 g (fp G) W l w):
  Calls Tryz.prog 50 #[.pointer (some ⟨g,0,none⟩), .int .i64 (n:Int), .int .i64 (lim:Int)] w (PostW W0 g (fp G) w (typW F.xs F.ts lim (n:Int) l)):=by
 obtain ⟨R,hR⟩: ∃R,typW F.xs F.ts lim (n:Int) l=R:=⟨_,rfl⟩
 rw [hR]
 have HR1:Hid (wSeq (wPuts [wordN z li]) some l=R):=hid (by
  rw [←hR]
  rw [typW_lim F.xs F.ts lim (n:Int),if_pos ⟨by omega,by omega⟩,show ((n:Int).toNat)=n from rfl]
  unfold bodyT
  rw [hx]
  rw [wSeq_some,wPuts_one]
  rfl)
 obtain ⟨q, -, -⟩:=SW.xs hF h
 obtain ⟨ac',cc',bs',cs',ax',cx',at2,ct, -, -, -,h4, -, -, -,h8,hg⟩:=hF.look
 obtain ⟨k,av,cv,rfl,hk,t0,t1,t2,t3,t4,t5,t6,t7,hav,hcv⟩:=tg_at h8 hx
 have q4:=(h.base.cell (p:=⟨G,4,none⟩) hg).trans h4
 have t0:=(h.base.cell (p:=⟨k,n*8,none⟩) hk).trans t0
 have t1:=(h.base.cell (p:=⟨k,n*8+1,none⟩) hk).trans t1
 have t2:=(h.base.cell (p:=⟨k,n*8+2,none⟩) hk).trans t2
 have t3:=(h.base.cell (p:=⟨k,n*8+3,none⟩) hk).trans t3
 have t4:=(h.base.cell (p:=⟨k,n*8+4,none⟩) hk).trans t4
 have t5:=(h.base.cell (p:=⟨k,n*8+5,none⟩) hk).trans t5
 have t6:=(h.base.cell (p:=⟨k,n*8+6,none⟩) hk).trans t6
 have t7:=(h.base.cell (p:=⟨k,n*8+7,none⟩) hk).trans t7
 obtain ⟨aa,ac,rfl, -⟩:=hav.shape
 obtain ⟨ca,cc,rfl, -⟩:=hcv.shape
 dsimp only at t0 t1 t2 t3 t4 t5 t6 t7
 have hltI:(n:Int)<(lim:Int):=by omega
 have hlt2:(n:Int)<(F.ts.length:Int):=by omega
 have HNE:=hid h.ne
 have S0:=hid h.start
 have S1:=hid (h.start.alloc (.cells #[.int .i64 0, .int .i64 (z:Int), .bool li, .string (bs s), .slice aa args.length ac, .int .i64 e, .int .i64 j, .slice ca cs.length cc] 44))
 have HX1:=hid (heap_alloc_new w (.cells #[.int .i64 0, .int .i64 (z:Int), .bool li, .string (bs s), .slice aa args.length ac, .int .i64 e, .int .i64 j, .slice ca cs.length cc] 44))
 have HBX:=hid (heap_alloc_new w (.cells #[.int .i64 0, .int .i64 0, .bool false, .string ⟨#[]⟩, .slice none 0 0, .int .i64 0, .int .i64 0, .slice none 0 0] 44))
 clear hR h4 h8 hg hk hav hcv h hx hlim hn hF hN hG
 go_enter Tryz.func50, Tryz.ntmps50
 go_wp2_with (first|(go_at_call 87;(first|((with_reducible refine (sexp_yes g _).mono ?_);rintro e' w' ⟨rfl,rfl⟩)))|((with_reducible refine at_list8 ?_);refine wpList_store_rowTo rfl 44 _ _ rfl rfl w.heap.size #[.int .i64 0, .int .i64 (z:Int), .bool li, .string (bs s), .slice aa args.length ac, .int .i64 e, .int .i64 j, .slice ca cs.length cc] rfl rfl 44 _ HBX.out size_type rfl (tg_one _ _ _ _ _ _ _ _ _ _ _ _) ?_;rw [World.setRow_alloc_new];clear q q4 t0 t1 t2 t3 t4 t5 t6 t7 HBX;obtain ⟨⟨d0,d1,d2,d3,d4,d5,d6,d7⟩,df,dl⟩:=cells8 HX1.out)|((with_reducible refine at_list8 ?_);first|(refine wpList_load_row rfl 44 _ rfl w.heap.size rfl 44 #[.int .i64 0, .int .i64 (z:Int), .bool li, .string (bs s), .slice aa args.length ac, .int .i64 e, .int .i64 j, .slice ca cs.length cc] (0,0) _ HX2.out Tryz.underlying44 rfl size_type ?_)|(refine wpList_load_row rfl 44 _ rfl w.heap.size rfl 44 #[.int .i64 0, .int .i64 (z:Int), .bool li, .string (bs s), .slice aa args.length ac, .int .i64 e, .int .i64 j, .slice ca cs.length cc] (0,0) _ HX1.out Tryz.underlying44 rfl size_type ?_))|(go_at_call 94;(first|((with_reducible refine (Word_any (z:Int) li _).mono ?_);rintro e' w2 ⟨rfl,rfl⟩;have C1:=hid (shPut S1.out [wordN z li] (by simp) 1 rfl #[.string (bs (wordL (z:Int) li))] (by rw [wordL_N];rfl) (w.heap.size+1) (by simp)))))|(go_at_call 88;(first|((with_reducible refine C1.out.mono ?_);intro e' w2 hp;rcases hr:wPuts [wordN z li] l with _|l2;(· rw [hr] at hp;obtain ⟨rfl,hf⟩:=hp;obtain rfl:=step_none HR1.out hr;exact ⟨rfl,rfl,S1.out.fr.trans hf⟩);rw [hr] at hp;obtain ⟨rfl,h1⟩:=hp;have S2:=hid (S1.out.next h1);have HR2:=hid (step_some HR1.out hr);clear hr h1))))
 obtain rfl:=HR2.out
 go_end0
 exact ⟨rfl,S2.out⟩
set_option maxHeartbeats 4000000 in
set_option maxRecDepth 100000 in
theorem shTyp_bytes {W0:World} {g G:Nat} {F:GF} (hF:FileG G W0 F) (hN:NEnv W0) (hG:GfOK F) {lim n:Nat} {z:Nat} {li:Bool} {s:List UInt8} {args:List Nat} {e j:Int} {cs:List (Nat×Nat)} (hx:F.ts[n]? =some ⟨1,z,li,s,args,e,j,cs⟩) (hn:n<lim) (hlim:lim≤F.ts.length) {W w:World} {l:List UInt8} (h:SW W0 g (fp G) W l w):
  Calls Tryz.prog 50 #[.pointer (some ⟨g,0,none⟩), .int .i64 (n:Int), .int .i64 (lim:Int)] w (PostW W0 g (fp G) w (typW F.xs F.ts lim (n:Int) l)):=by
 obtain ⟨R,hR⟩: ∃R,typW F.xs F.ts lim (n:Int) l=R:=⟨_,rfl⟩
 rw [hR]
 have HR1:Hid (wSeq (idxW F.xs kBytes e) some l=R):=hid (by
  rw [←hR]
  rw [typW_lim F.xs F.ts lim (n:Int),if_pos ⟨by omega,by omega⟩,show ((n:Int).toNat)=n from rfl]
  unfold bodyT
  rw [hx]
  rw [wSeq_some]
  rfl)
 obtain ⟨q, -, -⟩:=SW.xs hF h
 obtain ⟨ac',cc',bs',cs',ax',cx',at2,ct, -, -, -,h4, -, -, -,h8,hg⟩:=hF.look
 obtain ⟨k,av,cv,rfl,hk,t0,t1,t2,t3,t4,t5,t6,t7,hav,hcv⟩:=tg_at h8 hx
 have q4:=(h.base.cell (p:=⟨G,4,none⟩) hg).trans h4
 have t0:=(h.base.cell (p:=⟨k,n*8,none⟩) hk).trans t0
 have t1:=(h.base.cell (p:=⟨k,n*8+1,none⟩) hk).trans t1
 have t2:=(h.base.cell (p:=⟨k,n*8+2,none⟩) hk).trans t2
 have t3:=(h.base.cell (p:=⟨k,n*8+3,none⟩) hk).trans t3
 have t4:=(h.base.cell (p:=⟨k,n*8+4,none⟩) hk).trans t4
 have t5:=(h.base.cell (p:=⟨k,n*8+5,none⟩) hk).trans t5
 have t6:=(h.base.cell (p:=⟨k,n*8+6,none⟩) hk).trans t6
 have t7:=(h.base.cell (p:=⟨k,n*8+7,none⟩) hk).trans t7
 obtain ⟨aa,ac,rfl, -⟩:=hav.shape
 obtain ⟨ca,cc,rfl, -⟩:=hcv.shape
 dsimp only at t0 t1 t2 t3 t4 t5 t6 t7
 have hltI:(n:Int)<(lim:Int):=by omega
 have hlt2:(n:Int)<(F.ts.length:Int):=by omega
 have HNE:=hid h.ne
 have S0:=hid h.start
 have S1:=hid (h.start.alloc (.cells #[.int .i64 1, .int .i64 (z:Int), .bool li, .string (bs s), .slice aa args.length ac, .int .i64 e, .int .i64 j, .slice ca cs.length cc] 44))
 have HX1:=hid (heap_alloc_new w (.cells #[.int .i64 1, .int .i64 (z:Int), .bool li, .string (bs s), .slice aa args.length ac, .int .i64 e, .int .i64 j, .slice ca cs.length cc] 44))
 have HBX:=hid (heap_alloc_new w (.cells #[.int .i64 0, .int .i64 0, .bool false, .string ⟨#[]⟩, .slice none 0 0, .int .i64 0, .int .i64 0, .slice none 0 0] 44))
 have HFF:=hid hF
 have HNN:=hid hN
 have HGG:=hid hG
 clear hR h4 h8 hg hk hav hcv h hx hlim hn hF hN hG
 go_enter Tryz.func50, Tryz.ntmps50
 go_wp2_with (first|(go_at_call 87;(first|((with_reducible refine (sexp_yes g _).mono ?_);rintro e' w' ⟨rfl,rfl⟩)))|((with_reducible refine at_list8 ?_);refine wpList_store_rowTo rfl 44 _ _ rfl rfl w.heap.size #[.int .i64 1, .int .i64 (z:Int), .bool li, .string (bs s), .slice aa args.length ac, .int .i64 e, .int .i64 j, .slice ca cs.length cc] rfl rfl 44 _ HBX.out size_type rfl (tg_one _ _ _ _ _ _ _ _ _ _ _ _) ?_;rw [World.setRow_alloc_new];clear q q4 t0 t1 t2 t3 t4 t5 t6 t7 HBX;obtain ⟨⟨d0,d1,d2,d3,d4,d5,d6,d7⟩,df,dl⟩:=cells8 HX1.out;have C1:=hid (shIndexL HFF.out HNN.out HGG.out S1.out kBytes ⟨#[98,121,116,101,115]⟩ rfl (.int .i64 1) (.int .i64 (z:Int)) (.bool li) (.string (bs s)) (.slice aa args.length ac) (.int .i64 j) (.slice ca cs.length cc) e))|((with_reducible refine at_list8 ?_);first|(refine wpList_load_row rfl 44 _ rfl w.heap.size rfl 44 #[.int .i64 1, .int .i64 (z:Int), .bool li, .string (bs s), .slice aa args.length ac, .int .i64 e, .int .i64 j, .slice ca cs.length cc] (0,0) _ HX2.out Tryz.underlying44 rfl size_type ?_)|(refine wpList_load_row rfl 44 _ rfl w.heap.size rfl 44 #[.int .i64 1, .int .i64 (z:Int), .bool li, .string (bs s), .slice aa args.length ac, .int .i64 e, .int .i64 j, .slice ca cs.length cc] (0,0) _ HX1.out Tryz.underlying44 rfl size_type ?_))|(go_at_call 95;(first|((with_reducible refine C1.out.mono ?_);intro e' w2 hp;rcases hr:idxW F.xs kBytes e l with _|l2;(· rw [hr] at hp;obtain ⟨rfl,hf⟩:=hp;obtain rfl:=step_none HR1.out hr;exact ⟨rfl,rfl,S1.out.fr.trans hf⟩);rw [hr] at hp;obtain ⟨rfl,h1⟩:=hp;have S2:=hid (S1.out.next h1);have HR2:=hid (step_some HR1.out hr);clear hr h1))))
 obtain rfl:=HR2.out
 go_end0
 exact ⟨rfl,S2.out⟩
set_option maxHeartbeats 4000000 in
set_option maxRecDepth 100000 in
theorem shTyp_zero {W0:World} {g G:Nat} {F:GF} (hF:FileG G W0 F) (hN:NEnv W0) (hG:GfOK F) {lim n:Nat} {z:Nat} {li:Bool} {s:List UInt8} {args:List Nat} {e j:Int} {cs:List (Nat×Nat)} (hx:F.ts[n]? =some ⟨2,z,li,s,args,e,j,cs⟩) (hn:n<lim) (hlim:lim≤F.ts.length) {W w:World} {l:List UInt8} (h:SW W0 g (fp G) W l w):
  Calls Tryz.prog 50 #[.pointer (some ⟨g,0,none⟩), .int .i64 (n:Int), .int .i64 (lim:Int)] w (PostW W0 g (fp G) w (typW F.xs F.ts lim (n:Int) l)):=by
 obtain ⟨R,hR⟩: ∃R,typW F.xs F.ts lim (n:Int) l=R:=⟨_,rfl⟩
 rw [hR]
 have HR1:Hid (wSeq (idxW F.xs kZero e) some l=R):=hid (by
  rw [←hR]
  rw [typW_lim F.xs F.ts lim (n:Int),if_pos ⟨by omega,by omega⟩,show ((n:Int).toNat)=n from rfl]
  unfold bodyT
  rw [hx]
  rw [wSeq_some]
  rfl)
 obtain ⟨q, -, -⟩:=SW.xs hF h
 obtain ⟨ac',cc',bs',cs',ax',cx',at2,ct, -, -, -,h4, -, -, -,h8,hg⟩:=hF.look
 obtain ⟨k,av,cv,rfl,hk,t0,t1,t2,t3,t4,t5,t6,t7,hav,hcv⟩:=tg_at h8 hx
 have q4:=(h.base.cell (p:=⟨G,4,none⟩) hg).trans h4
 have t0:=(h.base.cell (p:=⟨k,n*8,none⟩) hk).trans t0
 have t1:=(h.base.cell (p:=⟨k,n*8+1,none⟩) hk).trans t1
 have t2:=(h.base.cell (p:=⟨k,n*8+2,none⟩) hk).trans t2
 have t3:=(h.base.cell (p:=⟨k,n*8+3,none⟩) hk).trans t3
 have t4:=(h.base.cell (p:=⟨k,n*8+4,none⟩) hk).trans t4
 have t5:=(h.base.cell (p:=⟨k,n*8+5,none⟩) hk).trans t5
 have t6:=(h.base.cell (p:=⟨k,n*8+6,none⟩) hk).trans t6
 have t7:=(h.base.cell (p:=⟨k,n*8+7,none⟩) hk).trans t7
 obtain ⟨aa,ac,rfl, -⟩:=hav.shape
 obtain ⟨ca,cc,rfl, -⟩:=hcv.shape
 dsimp only at t0 t1 t2 t3 t4 t5 t6 t7
 have hltI:(n:Int)<(lim:Int):=by omega
 have hlt2:(n:Int)<(F.ts.length:Int):=by omega
 have HNE:=hid h.ne
 have S0:=hid h.start
 have S1:=hid (h.start.alloc (.cells #[.int .i64 2, .int .i64 (z:Int), .bool li, .string (bs s), .slice aa args.length ac, .int .i64 e, .int .i64 j, .slice ca cs.length cc] 44))
 have HX1:=hid (heap_alloc_new w (.cells #[.int .i64 2, .int .i64 (z:Int), .bool li, .string (bs s), .slice aa args.length ac, .int .i64 e, .int .i64 j, .slice ca cs.length cc] 44))
 have HBX:=hid (heap_alloc_new w (.cells #[.int .i64 0, .int .i64 0, .bool false, .string ⟨#[]⟩, .slice none 0 0, .int .i64 0, .int .i64 0, .slice none 0 0] 44))
 have HFF:=hid hF
 have HNN:=hid hN
 have HGG:=hid hG
 clear hR h4 h8 hg hk hav hcv h hx hlim hn hF hN hG
 go_enter Tryz.func50, Tryz.ntmps50
 go_wp2_with (first|(go_at_call 87;(first|((with_reducible refine (sexp_yes g _).mono ?_);rintro e' w' ⟨rfl,rfl⟩)))|((with_reducible refine at_list8 ?_);refine wpList_store_rowTo rfl 44 _ _ rfl rfl w.heap.size #[.int .i64 2, .int .i64 (z:Int), .bool li, .string (bs s), .slice aa args.length ac, .int .i64 e, .int .i64 j, .slice ca cs.length cc] rfl rfl 44 _ HBX.out size_type rfl (tg_one _ _ _ _ _ _ _ _ _ _ _ _) ?_;rw [World.setRow_alloc_new];clear q q4 t0 t1 t2 t3 t4 t5 t6 t7 HBX;obtain ⟨⟨d0,d1,d2,d3,d4,d5,d6,d7⟩,df,dl⟩:=cells8 HX1.out;have C1:=hid (shIndexL HFF.out HNN.out HGG.out S1.out kZero ⟨#[122,101,114,111]⟩ rfl (.int .i64 2) (.int .i64 (z:Int)) (.bool li) (.string (bs s)) (.slice aa args.length ac) (.int .i64 j) (.slice ca cs.length cc) e))|((with_reducible refine at_list8 ?_);first|(refine wpList_load_row rfl 44 _ rfl w.heap.size rfl 44 #[.int .i64 2, .int .i64 (z:Int), .bool li, .string (bs s), .slice aa args.length ac, .int .i64 e, .int .i64 j, .slice ca cs.length cc] (0,0) _ HX2.out Tryz.underlying44 rfl size_type ?_)|(refine wpList_load_row rfl 44 _ rfl w.heap.size rfl 44 #[.int .i64 2, .int .i64 (z:Int), .bool li, .string (bs s), .slice aa args.length ac, .int .i64 e, .int .i64 j, .slice ca cs.length cc] (0,0) _ HX1.out Tryz.underlying44 rfl size_type ?_))|(go_at_call 95;(first|((with_reducible refine C1.out.mono ?_);intro e' w2 hp;rcases hr:idxW F.xs kZero e l with _|l2;(· rw [hr] at hp;obtain ⟨rfl,hf⟩:=hp;obtain rfl:=step_none HR1.out hr;exact ⟨rfl,rfl,S1.out.fr.trans hf⟩);rw [hr] at hp;obtain ⟨rfl,h1⟩:=hp;have S2:=hid (S1.out.next h1);have HR2:=hid (step_some HR1.out hr);clear hr h1))))
 obtain rfl:=HR2.out
 go_end0
 exact ⟨rfl,S2.out⟩
set_option maxHeartbeats 4000000 in
set_option maxRecDepth 100000 in
theorem shTyp_skip {W0:World} {g G:Nat} {F:GF} (hF:FileG G W0 F) (hN:NEnv W0) (hG:GfOK F) {lim n:Nat} {z:Nat} {li:Bool} {s:List UInt8} {args:List Nat} {e j:Int} {cs:List (Nat×Nat)} (hx:F.ts[n]? =some ⟨3,z,li,s,args,e,j,cs⟩) (hn:n<lim) (hlim:lim≤F.ts.length) {W w:World} {l:List UInt8} (h:SW W0 g (fp G) W l w):
  Calls Tryz.prog 50 #[.pointer (some ⟨g,0,none⟩), .int .i64 (n:Int), .int .i64 (lim:Int)] w (PostW W0 g (fp G) w (typW F.xs F.ts lim (n:Int) l)):=by
 obtain ⟨R,hR⟩: ∃R,typW F.xs F.ts lim (n:Int) l=R:=⟨_,rfl⟩
 rw [hR]
 have HR1:Hid (wSeq (idxW F.xs kSkip e) some l=R):=hid (by
  rw [←hR]
  rw [typW_lim F.xs F.ts lim (n:Int),if_pos ⟨by omega,by omega⟩,show ((n:Int).toNat)=n from rfl]
  unfold bodyT
  rw [hx]
  rw [wSeq_some]
  rfl)
 obtain ⟨q, -, -⟩:=SW.xs hF h
 obtain ⟨ac',cc',bs',cs',ax',cx',at2,ct, -, -, -,h4, -, -, -,h8,hg⟩:=hF.look
 obtain ⟨k,av,cv,rfl,hk,t0,t1,t2,t3,t4,t5,t6,t7,hav,hcv⟩:=tg_at h8 hx
 have q4:=(h.base.cell (p:=⟨G,4,none⟩) hg).trans h4
 have t0:=(h.base.cell (p:=⟨k,n*8,none⟩) hk).trans t0
 have t1:=(h.base.cell (p:=⟨k,n*8+1,none⟩) hk).trans t1
 have t2:=(h.base.cell (p:=⟨k,n*8+2,none⟩) hk).trans t2
 have t3:=(h.base.cell (p:=⟨k,n*8+3,none⟩) hk).trans t3
 have t4:=(h.base.cell (p:=⟨k,n*8+4,none⟩) hk).trans t4
 have t5:=(h.base.cell (p:=⟨k,n*8+5,none⟩) hk).trans t5
 have t6:=(h.base.cell (p:=⟨k,n*8+6,none⟩) hk).trans t6
 have t7:=(h.base.cell (p:=⟨k,n*8+7,none⟩) hk).trans t7
 obtain ⟨aa,ac,rfl, -⟩:=hav.shape
 obtain ⟨ca,cc,rfl, -⟩:=hcv.shape
 dsimp only at t0 t1 t2 t3 t4 t5 t6 t7
 have hltI:(n:Int)<(lim:Int):=by omega
 have hlt2:(n:Int)<(F.ts.length:Int):=by omega
 have HNE:=hid h.ne
 have S0:=hid h.start
 have S1:=hid (h.start.alloc (.cells #[.int .i64 3, .int .i64 (z:Int), .bool li, .string (bs s), .slice aa args.length ac, .int .i64 e, .int .i64 j, .slice ca cs.length cc] 44))
 have HX1:=hid (heap_alloc_new w (.cells #[.int .i64 3, .int .i64 (z:Int), .bool li, .string (bs s), .slice aa args.length ac, .int .i64 e, .int .i64 j, .slice ca cs.length cc] 44))
 have HBX:=hid (heap_alloc_new w (.cells #[.int .i64 0, .int .i64 0, .bool false, .string ⟨#[]⟩, .slice none 0 0, .int .i64 0, .int .i64 0, .slice none 0 0] 44))
 have HFF:=hid hF
 have HNN:=hid hN
 have HGG:=hid hG
 clear hR h4 h8 hg hk hav hcv h hx hlim hn hF hN hG
 go_enter Tryz.func50, Tryz.ntmps50
 go_wp2_with (first|(go_at_call 87;(first|((with_reducible refine (sexp_yes g _).mono ?_);rintro e' w' ⟨rfl,rfl⟩)))|((with_reducible refine at_list8 ?_);refine wpList_store_rowTo rfl 44 _ _ rfl rfl w.heap.size #[.int .i64 3, .int .i64 (z:Int), .bool li, .string (bs s), .slice aa args.length ac, .int .i64 e, .int .i64 j, .slice ca cs.length cc] rfl rfl 44 _ HBX.out size_type rfl (tg_one _ _ _ _ _ _ _ _ _ _ _ _) ?_;rw [World.setRow_alloc_new];clear q q4 t0 t1 t2 t3 t4 t5 t6 t7 HBX;obtain ⟨⟨d0,d1,d2,d3,d4,d5,d6,d7⟩,df,dl⟩:=cells8 HX1.out;have C1:=hid (shIndexL HFF.out HNN.out HGG.out S1.out kSkip ⟨#[115,107,105,112]⟩ rfl (.int .i64 3) (.int .i64 (z:Int)) (.bool li) (.string (bs s)) (.slice aa args.length ac) (.int .i64 j) (.slice ca cs.length cc) e))|((with_reducible refine at_list8 ?_);first|(refine wpList_load_row rfl 44 _ rfl w.heap.size rfl 44 #[.int .i64 3, .int .i64 (z:Int), .bool li, .string (bs s), .slice aa args.length ac, .int .i64 e, .int .i64 j, .slice ca cs.length cc] (0,0) _ HX2.out Tryz.underlying44 rfl size_type ?_)|(refine wpList_load_row rfl 44 _ rfl w.heap.size rfl 44 #[.int .i64 3, .int .i64 (z:Int), .bool li, .string (bs s), .slice aa args.length ac, .int .i64 e, .int .i64 j, .slice ca cs.length cc] (0,0) _ HX1.out Tryz.underlying44 rfl size_type ?_))|(go_at_call 95;(first|((with_reducible refine C1.out.mono ?_);intro e' w2 hp;rcases hr:idxW F.xs kSkip e l with _|l2;(· rw [hr] at hp;obtain ⟨rfl,hf⟩:=hp;obtain rfl:=step_none HR1.out hr;exact ⟨rfl,rfl,S1.out.fr.trans hf⟩);rw [hr] at hp;obtain ⟨rfl,h1⟩:=hp;have S2:=hid (S1.out.next h1);have HR2:=hid (step_some HR1.out hr);clear hr h1))))
 obtain rfl:=HR2.out
 go_end0
 exact ⟨rfl,S2.out⟩
set_option maxHeartbeats 4000000 in
set_option maxRecDepth 100000 in
theorem shTyp_tail {W0:World} {g G:Nat} {F:GF} (hF:FileG G W0 F) (hN:NEnv W0) (hG:GfOK F) {lim n:Nat} {z:Nat} {li:Bool} {s:List UInt8} {args:List Nat} {e j:Int} {cs:List (Nat×Nat)} (hx:F.ts[n]? =some ⟨4,z,li,s,args,e,j,cs⟩) (hn:n<lim) (hlim:lim≤F.ts.length) {W w:World} {l:List UInt8} (h:SW W0 g (fp G) W l w):
  Calls Tryz.prog 50 #[.pointer (some ⟨g,0,none⟩), .int .i64 (n:Int), .int .i64 (lim:Int)] w (PostW W0 g (fp G) w (typW F.xs F.ts lim (n:Int) l)):=by
 obtain ⟨R,hR⟩: ∃R,typW F.xs F.ts lim (n:Int) l=R:=⟨_,rfl⟩
 rw [hR]
 have HR1:Hid (wSeq (wPuts [kTail]) some l=R):=hid (by
  rw [←hR]
  rw [typW_lim F.xs F.ts lim (n:Int),if_pos ⟨by omega,by omega⟩,show ((n:Int).toNat)=n from rfl]
  unfold bodyT
  rw [hx]
  rw [wSeq_some,wPuts_one]
  rfl)
 obtain ⟨q, -, -⟩:=SW.xs hF h
 obtain ⟨ac',cc',bs',cs',ax',cx',at2,ct, -, -, -,h4, -, -, -,h8,hg⟩:=hF.look
 obtain ⟨k,av,cv,rfl,hk,t0,t1,t2,t3,t4,t5,t6,t7,hav,hcv⟩:=tg_at h8 hx
 have q4:=(h.base.cell (p:=⟨G,4,none⟩) hg).trans h4
 have t0:=(h.base.cell (p:=⟨k,n*8,none⟩) hk).trans t0
 have t1:=(h.base.cell (p:=⟨k,n*8+1,none⟩) hk).trans t1
 have t2:=(h.base.cell (p:=⟨k,n*8+2,none⟩) hk).trans t2
 have t3:=(h.base.cell (p:=⟨k,n*8+3,none⟩) hk).trans t3
 have t4:=(h.base.cell (p:=⟨k,n*8+4,none⟩) hk).trans t4
 have t5:=(h.base.cell (p:=⟨k,n*8+5,none⟩) hk).trans t5
 have t6:=(h.base.cell (p:=⟨k,n*8+6,none⟩) hk).trans t6
 have t7:=(h.base.cell (p:=⟨k,n*8+7,none⟩) hk).trans t7
 obtain ⟨aa,ac,rfl, -⟩:=hav.shape
 obtain ⟨ca,cc,rfl, -⟩:=hcv.shape
 dsimp only at t0 t1 t2 t3 t4 t5 t6 t7
 have hltI:(n:Int)<(lim:Int):=by omega
 have hlt2:(n:Int)<(F.ts.length:Int):=by omega
 have HNE:=hid h.ne
 have S0:=hid h.start
 have S1:=hid (h.start.alloc (.cells #[.int .i64 4, .int .i64 (z:Int), .bool li, .string (bs s), .slice aa args.length ac, .int .i64 e, .int .i64 j, .slice ca cs.length cc] 44))
 have HX1:=hid (heap_alloc_new w (.cells #[.int .i64 4, .int .i64 (z:Int), .bool li, .string (bs s), .slice aa args.length ac, .int .i64 e, .int .i64 j, .slice ca cs.length cc] 44))
 have HBX:=hid (heap_alloc_new w (.cells #[.int .i64 0, .int .i64 0, .bool false, .string ⟨#[]⟩, .slice none 0 0, .int .i64 0, .int .i64 0, .slice none 0 0] 44))
 clear hR h4 h8 hg hk hav hcv h hx hlim hn hF hN hG
 go_enter Tryz.func50, Tryz.ntmps50
 go_wp2_with (first|(go_at_call 87;(first|((with_reducible refine (sexp_yes g _).mono ?_);rintro e' w' ⟨rfl,rfl⟩)))|((with_reducible refine at_list8 ?_);refine wpList_store_rowTo rfl 44 _ _ rfl rfl w.heap.size #[.int .i64 4, .int .i64 (z:Int), .bool li, .string (bs s), .slice aa args.length ac, .int .i64 e, .int .i64 j, .slice ca cs.length cc] rfl rfl 44 _ HBX.out size_type rfl (tg_one _ _ _ _ _ _ _ _ _ _ _ _) ?_;rw [World.setRow_alloc_new];clear q q4 t0 t1 t2 t3 t4 t5 t6 t7 HBX;obtain ⟨⟨d0,d1,d2,d3,d4,d5,d6,d7⟩,df,dl⟩:=cells8 HX1.out;have C1:=hid (shPut S1.out [kTail] (by simp) 1 rfl #[.string ⟨#[116,97,105,108]⟩] rfl (w.heap.size+1) (by simp)))|((with_reducible refine at_list8 ?_);first|(refine wpList_load_row rfl 44 _ rfl w.heap.size rfl 44 #[.int .i64 4, .int .i64 (z:Int), .bool li, .string (bs s), .slice aa args.length ac, .int .i64 e, .int .i64 j, .slice ca cs.length cc] (0,0) _ HX2.out Tryz.underlying44 rfl size_type ?_)|(refine wpList_load_row rfl 44 _ rfl w.heap.size rfl 44 #[.int .i64 4, .int .i64 (z:Int), .bool li, .string (bs s), .slice aa args.length ac, .int .i64 e, .int .i64 j, .slice ca cs.length cc] (0,0) _ HX1.out Tryz.underlying44 rfl size_type ?_))|(go_at_call 88;(first|((with_reducible refine C1.out.mono ?_);intro e' w2 hp;rcases hr:wPuts [kTail] l with _|l2;(· rw [hr] at hp;obtain ⟨rfl,hf⟩:=hp;obtain rfl:=step_none HR1.out hr;exact ⟨rfl,rfl,S1.out.fr.trans hf⟩);rw [hr] at hp;obtain ⟨rfl,h1⟩:=hp;have S2:=hid (S1.out.next h1);have HR2:=hid (step_some HR1.out hr);clear hr h1))))
 obtain rfl:=HR2.out
 go_end0
 exact ⟨rfl,S2.out⟩
set_option maxHeartbeats 4000000 in
set_option maxRecDepth 100000 in
theorem shTyp_none {W0:World} {g G:Nat} {F:GF} (hF:FileG G W0 F) (hN:NEnv W0) (hG:GfOK F) {lim n:Nat} {z:Nat} {li:Bool} {s:List UInt8} {args:List Nat} {e j:Int} {cs:List (Nat×Nat)} (hx:F.ts[n]? =some ⟨11,z,li,s,args,e,j,cs⟩) (hn:n<lim) (hlim:lim≤F.ts.length) {W w:World} {l:List UInt8} (h:SW W0 g (fp G) W l w):
  Calls Tryz.prog 50 #[.pointer (some ⟨g,0,none⟩), .int .i64 (n:Int), .int .i64 (lim:Int)] w (PostW W0 g (fp G) w (typW F.xs F.ts lim (n:Int) l)):=by
 obtain ⟨R,hR⟩: ∃R,typW F.xs F.ts lim (n:Int) l=R:=⟨_,rfl⟩
 rw [hR]
 have HR1:Hid (wSeq (wPuts [kNone]) some l=R):=hid (by
  rw [←hR]
  rw [typW_lim F.xs F.ts lim (n:Int),if_pos ⟨by omega,by omega⟩,show ((n:Int).toNat)=n from rfl]
  unfold bodyT
  rw [hx]
  rw [wSeq_some,wPuts_one]
  rfl)
 obtain ⟨q, -, -⟩:=SW.xs hF h
 obtain ⟨ac',cc',bs',cs',ax',cx',at2,ct, -, -, -,h4, -, -, -,h8,hg⟩:=hF.look
 obtain ⟨k,av,cv,rfl,hk,t0,t1,t2,t3,t4,t5,t6,t7,hav,hcv⟩:=tg_at h8 hx
 have q4:=(h.base.cell (p:=⟨G,4,none⟩) hg).trans h4
 have t0:=(h.base.cell (p:=⟨k,n*8,none⟩) hk).trans t0
 have t1:=(h.base.cell (p:=⟨k,n*8+1,none⟩) hk).trans t1
 have t2:=(h.base.cell (p:=⟨k,n*8+2,none⟩) hk).trans t2
 have t3:=(h.base.cell (p:=⟨k,n*8+3,none⟩) hk).trans t3
 have t4:=(h.base.cell (p:=⟨k,n*8+4,none⟩) hk).trans t4
 have t5:=(h.base.cell (p:=⟨k,n*8+5,none⟩) hk).trans t5
 have t6:=(h.base.cell (p:=⟨k,n*8+6,none⟩) hk).trans t6
 have t7:=(h.base.cell (p:=⟨k,n*8+7,none⟩) hk).trans t7
 obtain ⟨aa,ac,rfl, -⟩:=hav.shape
 obtain ⟨ca,cc,rfl, -⟩:=hcv.shape
 dsimp only at t0 t1 t2 t3 t4 t5 t6 t7
 have hltI:(n:Int)<(lim:Int):=by omega
 have hlt2:(n:Int)<(F.ts.length:Int):=by omega
 have HNE:=hid h.ne
 have S0:=hid h.start
 have S1:=hid (h.start.alloc (.cells #[.int .i64 11, .int .i64 (z:Int), .bool li, .string (bs s), .slice aa args.length ac, .int .i64 e, .int .i64 j, .slice ca cs.length cc] 44))
 have HX1:=hid (heap_alloc_new w (.cells #[.int .i64 11, .int .i64 (z:Int), .bool li, .string (bs s), .slice aa args.length ac, .int .i64 e, .int .i64 j, .slice ca cs.length cc] 44))
 have HBX:=hid (heap_alloc_new w (.cells #[.int .i64 0, .int .i64 0, .bool false, .string ⟨#[]⟩, .slice none 0 0, .int .i64 0, .int .i64 0, .slice none 0 0] 44))
 clear hR h4 h8 hg hk hav hcv h hx hlim hn hF hN hG
 go_enter Tryz.func50, Tryz.ntmps50
 go_wp2_with (first|(go_at_call 87;(first|((with_reducible refine (sexp_yes g _).mono ?_);rintro e' w' ⟨rfl,rfl⟩)))|((with_reducible refine at_list8 ?_);refine wpList_store_rowTo rfl 44 _ _ rfl rfl w.heap.size #[.int .i64 11, .int .i64 (z:Int), .bool li, .string (bs s), .slice aa args.length ac, .int .i64 e, .int .i64 j, .slice ca cs.length cc] rfl rfl 44 _ HBX.out size_type rfl (tg_one _ _ _ _ _ _ _ _ _ _ _ _) ?_;rw [World.setRow_alloc_new];clear q q4 t0 t1 t2 t3 t4 t5 t6 t7 HBX;obtain ⟨⟨d0,d1,d2,d3,d4,d5,d6,d7⟩,df,dl⟩:=cells8 HX1.out;have C1:=hid (shPut S1.out [kNone] (by simp) 1 rfl #[.string ⟨#[110,111,110,101]⟩] rfl (w.heap.size+1) (by simp)))|((with_reducible refine at_list8 ?_);first|(refine wpList_load_row rfl 44 _ rfl w.heap.size rfl 44 #[.int .i64 11, .int .i64 (z:Int), .bool li, .string (bs s), .slice aa args.length ac, .int .i64 e, .int .i64 j, .slice ca cs.length cc] (0,0) _ HX2.out Tryz.underlying44 rfl size_type ?_)|(refine wpList_load_row rfl 44 _ rfl w.heap.size rfl 44 #[.int .i64 11, .int .i64 (z:Int), .bool li, .string (bs s), .slice aa args.length ac, .int .i64 e, .int .i64 j, .slice ca cs.length cc] (0,0) _ HX1.out Tryz.underlying44 rfl size_type ?_))|(go_at_call 88;(first|((with_reducible refine C1.out.mono ?_);intro e' w2 hp;rcases hr:wPuts [kNone] l with _|l2;(· rw [hr] at hp;obtain ⟨rfl,hf⟩:=hp;obtain rfl:=step_none HR1.out hr;exact ⟨rfl,rfl,S1.out.fr.trans hf⟩);rw [hr] at hp;obtain ⟨rfl,h1⟩:=hp;have S2:=hid (S1.out.next h1);have HR2:=hid (step_some HR1.out hr);clear hr h1))))
 obtain rfl:=HR2.out
 go_end0
 exact ⟨rfl,S2.out⟩
set_option maxHeartbeats 4000000 in
set_option maxRecDepth 100000 in
theorem shTyp_arr {W0:World} {g G:Nat} {F:GF} (hF:FileG G W0 F) (hN:NEnv W0) (hG:GfOK F) {lim n:Nat} {z:Nat} {li:Bool} {s:List UInt8} {args:List Nat} {e j:Int} {cs:List (Nat×Nat)} (hx:F.ts[n]? =some ⟨5,z,li,s,args,e,j,cs⟩) (hn:n<lim) (hlim:lim≤F.ts.length) {W w:World} {l:List UInt8} (h:SW W0 g (fp G) W l w) (hT:TypWC W0 g G F n):
  Calls Tryz.prog 50 #[.pointer (some ⟨g,0,none⟩), .int .i64 (n:Int), .int .i64 (lim:Int)] w (PostW W0 g (fp G) w (typW F.xs F.ts lim (n:Int) l)):=by
 obtain ⟨R,hR⟩: ∃R,typW F.xs F.ts lim (n:Int) l=R:=⟨_,rfl⟩
 rw [hR]
 have HR1:Hid (wSeq (typW F.xs F.ts n j) (wSeq (idxW F.xs [] e) some) l=R):=hid (by
  rw [←hR]
  rw [typW_lim F.xs F.ts lim (n:Int),if_pos ⟨by omega,by omega⟩,show ((n:Int).toNat)=n from rfl]
  unfold bodyT
  rw [hx]
  rw [wSeq_some]
  rfl)
 obtain ⟨q, -, -⟩:=SW.xs hF h
 obtain ⟨ac',cc',bs',cs',ax',cx',at2,ct, -, -, -,h4, -, -, -,h8,hg⟩:=hF.look
 obtain ⟨k,av,cv,rfl,hk,t0,t1,t2,t3,t4,t5,t6,t7,hav,hcv⟩:=tg_at h8 hx
 have q4:=(h.base.cell (p:=⟨G,4,none⟩) hg).trans h4
 have t0:=(h.base.cell (p:=⟨k,n*8,none⟩) hk).trans t0
 have t1:=(h.base.cell (p:=⟨k,n*8+1,none⟩) hk).trans t1
 have t2:=(h.base.cell (p:=⟨k,n*8+2,none⟩) hk).trans t2
 have t3:=(h.base.cell (p:=⟨k,n*8+3,none⟩) hk).trans t3
 have t4:=(h.base.cell (p:=⟨k,n*8+4,none⟩) hk).trans t4
 have t5:=(h.base.cell (p:=⟨k,n*8+5,none⟩) hk).trans t5
 have t6:=(h.base.cell (p:=⟨k,n*8+6,none⟩) hk).trans t6
 have t7:=(h.base.cell (p:=⟨k,n*8+7,none⟩) hk).trans t7
 obtain ⟨aa,ac,rfl, -⟩:=hav.shape
 obtain ⟨ca,cc,rfl, -⟩:=hcv.shape
 dsimp only at t0 t1 t2 t3 t4 t5 t6 t7
 have hltI:(n:Int)<(lim:Int):=by omega
 have hlt2:(n:Int)<(F.ts.length:Int):=by omega
 have HNE:=hid h.ne
 have S0:=hid h.start
 have S1:=hid (h.start.alloc (.cells #[.int .i64 5, .int .i64 (z:Int), .bool li, .string (bs s), .slice aa args.length ac, .int .i64 e, .int .i64 j, .slice ca cs.length cc] 44))
 have HX1:=hid (heap_alloc_new w (.cells #[.int .i64 5, .int .i64 (z:Int), .bool li, .string (bs s), .slice aa args.length ac, .int .i64 e, .int .i64 j, .slice ca cs.length cc] 44))
 have HBX:=hid (heap_alloc_new w (.cells #[.int .i64 0, .int .i64 0, .bool false, .string ⟨#[]⟩, .slice none 0 0, .int .i64 0, .int .i64 0, .slice none 0 0] 44))
 have HFF:=hid hF
 have HNN:=hid hN
 have HGG:=hid hG
 have HT:=hid hT
 clear hR h4 h8 hg hk hav hcv h hx hlim hn hF hN hG hT
 go_enter Tryz.func50, Tryz.ntmps50
 go_wp2_with (first|(go_at_call 87;(first|((with_reducible refine (sexp_yes g _).mono ?_);rintro e' w' ⟨rfl,rfl⟩)))|((with_reducible refine at_list8 ?_);refine wpList_store_rowTo rfl 44 _ _ rfl rfl w.heap.size #[.int .i64 5, .int .i64 (z:Int), .bool li, .string (bs s), .slice aa args.length ac, .int .i64 e, .int .i64 j, .slice ca cs.length cc] rfl rfl 44 _ HBX.out size_type rfl (tg_one _ _ _ _ _ _ _ _ _ _ _ _) ?_;rw [World.setRow_alloc_new];clear q q4 t0 t1 t2 t3 t4 t5 t6 t7 HBX;obtain ⟨⟨d0,d1,d2,d3,d4,d5,d6,d7⟩,df,dl⟩:=cells8 HX1.out;have C1:=hid (HT.out j _ _ _ S1.out))|((with_reducible refine at_list8 ?_);first|(refine wpList_load_row rfl 44 _ rfl w.heap.size rfl 44 #[.int .i64 5, .int .i64 (z:Int), .bool li, .string (bs s), .slice aa args.length ac, .int .i64 e, .int .i64 j, .slice ca cs.length cc] (0,0) _ HX2.out Tryz.underlying44 rfl size_type ?_)|(refine wpList_load_row rfl 44 _ rfl w.heap.size rfl 44 #[.int .i64 5, .int .i64 (z:Int), .bool li, .string (bs s), .slice aa args.length ac, .int .i64 e, .int .i64 j, .slice ca cs.length cc] (0,0) _ HX1.out Tryz.underlying44 rfl size_type ?_))|(go_at_call 50;(first|((with_reducible refine C1.out.mono ?_);intro e' w2 hp;rcases hr:typW F.xs F.ts n j l with _|l2;(· rw [hr] at hp;obtain ⟨rfl,hf⟩:=hp;obtain rfl:=step_none HR1.out hr;exact ⟨rfl,rfl,S1.out.fr.trans hf⟩);rw [hr] at hp;obtain ⟨rfl,h1⟩:=hp;have S2:=hid (S1.out.next h1);have HR2:=hid (step_some HR1.out hr);have HX2:=hid (h1.fr.keep _ _ _ _ HX1.out HNE.out (by decide));clear d0 d1 d2 d3 d4 d5 d6 d7 df dl;obtain ⟨⟨d0,d1,d2,d3,d4,d5,d6,d7⟩,df,dl⟩:=cells8 HX2.out;clear hr h1;have C2:=hid (shIndexL HFF.out HNN.out HGG.out S2.out [] ⟨#[]⟩ rfl (.int .i64 5) (.int .i64 (z:Int)) (.bool li) (.string (bs s)) (.slice aa args.length ac) (.int .i64 j) (.slice ca cs.length cc) e))))|(go_at_call 95;(first|((with_reducible refine C2.out.mono ?_);intro e' w3 hp;rcases hr:idxW F.xs [] e l2 with _|l3;(· rw [hr] at hp;obtain ⟨rfl,hf⟩:=hp;obtain rfl:=step_none HR2.out hr;exact ⟨rfl,rfl,S2.out.fr.trans hf⟩);rw [hr] at hp;obtain ⟨rfl,h1⟩:=hp;have S3:=hid (S2.out.next h1);have HR3:=hid (step_some HR2.out hr);clear hr h1))))
 obtain rfl:=HR3.out
 go_end0
 exact ⟨rfl,S3.out⟩
set_option maxHeartbeats 4000000 in
set_option maxRecDepth 100000 in
theorem shTyp_rest {W0:World} {g G:Nat} {F:GF} (hF:FileG G W0 F) (hN:NEnv W0) (hG:GfOK F) {lim n:Nat} {z:Nat} {li:Bool} {s:List UInt8} {args:List Nat} {e j:Int} {cs:List (Nat×Nat)} (hx:F.ts[n]? =some ⟨6,z,li,s,args,e,j,cs⟩) (hn:n<lim) (hlim:lim≤F.ts.length) {W w:World} {l:List UInt8} (h:SW W0 g (fp G) W l w) (hT:TypWC W0 g G F n):
  Calls Tryz.prog 50 #[.pointer (some ⟨g,0,none⟩), .int .i64 (n:Int), .int .i64 (lim:Int)] w (PostW W0 g (fp G) w (typW F.xs F.ts lim (n:Int) l)):=by
 obtain ⟨R,hR⟩: ∃R,typW F.xs F.ts lim (n:Int) l=R:=⟨_,rfl⟩
 rw [hR]
 have HR1:Hid (wSeq (wPuts [kRest++ [32]]) (wSeq (typW F.xs F.ts n j) some) l=R):=hid (by
  rw [←hR]
  rw [typW_lim F.xs F.ts lim (n:Int),if_pos ⟨by omega,by omega⟩,show ((n:Int).toNat)=n from rfl]
  unfold bodyT
  rw [hx]
  rw [wSeq_some,wPuts_one]
  rfl)
 obtain ⟨q, -, -⟩:=SW.xs hF h
 obtain ⟨ac',cc',bs',cs',ax',cx',at2,ct, -, -, -,h4, -, -, -,h8,hg⟩:=hF.look
 obtain ⟨k,av,cv,rfl,hk,t0,t1,t2,t3,t4,t5,t6,t7,hav,hcv⟩:=tg_at h8 hx
 have q4:=(h.base.cell (p:=⟨G,4,none⟩) hg).trans h4
 have t0:=(h.base.cell (p:=⟨k,n*8,none⟩) hk).trans t0
 have t1:=(h.base.cell (p:=⟨k,n*8+1,none⟩) hk).trans t1
 have t2:=(h.base.cell (p:=⟨k,n*8+2,none⟩) hk).trans t2
 have t3:=(h.base.cell (p:=⟨k,n*8+3,none⟩) hk).trans t3
 have t4:=(h.base.cell (p:=⟨k,n*8+4,none⟩) hk).trans t4
 have t5:=(h.base.cell (p:=⟨k,n*8+5,none⟩) hk).trans t5
 have t6:=(h.base.cell (p:=⟨k,n*8+6,none⟩) hk).trans t6
 have t7:=(h.base.cell (p:=⟨k,n*8+7,none⟩) hk).trans t7
 obtain ⟨aa,ac,rfl, -⟩:=hav.shape
 obtain ⟨ca,cc,rfl, -⟩:=hcv.shape
 dsimp only at t0 t1 t2 t3 t4 t5 t6 t7
 have hltI:(n:Int)<(lim:Int):=by omega
 have hlt2:(n:Int)<(F.ts.length:Int):=by omega
 have HNE:=hid h.ne
 have S0:=hid h.start
 have S1:=hid (h.start.alloc (.cells #[.int .i64 6, .int .i64 (z:Int), .bool li, .string (bs s), .slice aa args.length ac, .int .i64 e, .int .i64 j, .slice ca cs.length cc] 44))
 have HX1:=hid (heap_alloc_new w (.cells #[.int .i64 6, .int .i64 (z:Int), .bool li, .string (bs s), .slice aa args.length ac, .int .i64 e, .int .i64 j, .slice ca cs.length cc] 44))
 have HBX:=hid (heap_alloc_new w (.cells #[.int .i64 0, .int .i64 0, .bool false, .string ⟨#[]⟩, .slice none 0 0, .int .i64 0, .int .i64 0, .slice none 0 0] 44))
 have HT:=hid hT
 clear hR h4 h8 hg hk hav hcv h hx hlim hn hF hN hG hT
 go_enter Tryz.func50, Tryz.ntmps50
 go_wp2_with (first|(go_at_call 87;(first|((with_reducible refine (sexp_yes g _).mono ?_);rintro e' w' ⟨rfl,rfl⟩)))|((with_reducible refine at_list8 ?_);refine wpList_store_rowTo rfl 44 _ _ rfl rfl w.heap.size #[.int .i64 6, .int .i64 (z:Int), .bool li, .string (bs s), .slice aa args.length ac, .int .i64 e, .int .i64 j, .slice ca cs.length cc] rfl rfl 44 _ HBX.out size_type rfl (tg_one _ _ _ _ _ _ _ _ _ _ _ _) ?_;rw [World.setRow_alloc_new];clear q q4 t0 t1 t2 t3 t4 t5 t6 t7 HBX;obtain ⟨⟨d0,d1,d2,d3,d4,d5,d6,d7⟩,df,dl⟩:=cells8 HX1.out;have C1:=hid (shPut S1.out [kRest++ [32]] (by simp) 1 rfl #[.string ⟨#[114,101,115,116,32]⟩] rfl (w.heap.size+1) (by simp)))|((with_reducible refine at_list8 ?_);first|(refine wpList_load_row rfl 44 _ rfl w.heap.size rfl 44 #[.int .i64 6, .int .i64 (z:Int), .bool li, .string (bs s), .slice aa args.length ac, .int .i64 e, .int .i64 j, .slice ca cs.length cc] (0,0) _ HX2.out Tryz.underlying44 rfl size_type ?_)|(refine wpList_load_row rfl 44 _ rfl w.heap.size rfl 44 #[.int .i64 6, .int .i64 (z:Int), .bool li, .string (bs s), .slice aa args.length ac, .int .i64 e, .int .i64 j, .slice ca cs.length cc] (0,0) _ HX1.out Tryz.underlying44 rfl size_type ?_))|(go_at_call 88;(first|((with_reducible refine C1.out.mono ?_);intro e' w2 hp;rcases hr:wPuts [kRest++ [32]] l with _|l2;(· rw [hr] at hp;obtain ⟨rfl,hf⟩:=hp;obtain rfl:=step_none HR1.out hr;exact ⟨rfl,rfl,S1.out.fr.trans hf⟩);rw [hr] at hp;obtain ⟨rfl,h1⟩:=hp;have S2:=hid (S1.out.next h1);have HR2:=hid (step_some HR1.out hr);have HX2:=hid (h1.fr.keep _ _ _ _ HX1.out HNE.out (by decide));clear d0 d1 d2 d3 d4 d5 d6 d7 df dl;obtain ⟨⟨d0,d1,d2,d3,d4,d5,d6,d7⟩,df,dl⟩:=cells8 HX2.out;clear hr h1;have C2:=hid (HT.out j _ _ _ S2.out))))|(go_at_call 50;(first|((with_reducible refine C2.out.mono ?_);intro e' w3 hp;rcases hr:typW F.xs F.ts n j l2 with _|l3;(· rw [hr] at hp;obtain ⟨rfl,hf⟩:=hp;obtain rfl:=step_none HR2.out hr;exact ⟨rfl,rfl,S2.out.fr.trans hf⟩);rw [hr] at hp;obtain ⟨rfl,h1⟩:=hp;have S3:=hid (S2.out.next h1);have HR3:=hid (step_some HR2.out hr);clear hr h1))))
 obtain rfl:=HR3.out
 go_end0
 exact ⟨rfl,S3.out⟩
set_option maxHeartbeats 4000000 in
set_option maxRecDepth 100000 in
theorem shTyp_window {W0:World} {g G:Nat} {F:GF} (hF:FileG G W0 F) (hN:NEnv W0) (hG:GfOK F) {lim n:Nat} {z:Nat} {li:Bool} {s:List UInt8} {args:List Nat} {e j:Int} {cs:List (Nat×Nat)} (hx:F.ts[n]? =some ⟨7,z,li,s,args,e,j,cs⟩) (hn:n<lim) (hlim:lim≤F.ts.length) {W w:World} {l:List UInt8} (h:SW W0 g (fp G) W l w) (hT:TypWC W0 g G F n):
  Calls Tryz.prog 50 #[.pointer (some ⟨g,0,none⟩), .int .i64 (n:Int), .int .i64 (lim:Int)] w (PostW W0 g (fp G) w (typW F.xs F.ts lim (n:Int) l)):=by
 obtain ⟨R,hR⟩: ∃R,typW F.xs F.ts lim (n:Int) l=R:=⟨_,rfl⟩
 rw [hR]
 have HR1:Hid (wSeq (idxW F.xs kWindow e) (wSeq (wPuts [[32]]) (wSeq (typW F.xs F.ts n j) some)) l=R):=hid (by
  rw [←hR]
  rw [typW_lim F.xs F.ts lim (n:Int),if_pos ⟨by omega,by omega⟩,show ((n:Int).toNat)=n from rfl]
  unfold bodyT
  rw [hx]
  rw [wSeq_some,wPuts_one]
  show _=wAll [idxW F.xs kWindow e,wPut [32],typW F.xs F.ts n j] l
  rw [wAll_cons,wAll_cons,wAll_cons,wAll_nil,wSeq_some])
 obtain ⟨q, -, -⟩:=SW.xs hF h
 obtain ⟨ac',cc',bs',cs',ax',cx',at2,ct, -, -, -,h4, -, -, -,h8,hg⟩:=hF.look
 obtain ⟨k,av,cv,rfl,hk,t0,t1,t2,t3,t4,t5,t6,t7,hav,hcv⟩:=tg_at h8 hx
 have q4:=(h.base.cell (p:=⟨G,4,none⟩) hg).trans h4
 have t0:=(h.base.cell (p:=⟨k,n*8,none⟩) hk).trans t0
 have t1:=(h.base.cell (p:=⟨k,n*8+1,none⟩) hk).trans t1
 have t2:=(h.base.cell (p:=⟨k,n*8+2,none⟩) hk).trans t2
 have t3:=(h.base.cell (p:=⟨k,n*8+3,none⟩) hk).trans t3
 have t4:=(h.base.cell (p:=⟨k,n*8+4,none⟩) hk).trans t4
 have t5:=(h.base.cell (p:=⟨k,n*8+5,none⟩) hk).trans t5
 have t6:=(h.base.cell (p:=⟨k,n*8+6,none⟩) hk).trans t6
 have t7:=(h.base.cell (p:=⟨k,n*8+7,none⟩) hk).trans t7
 obtain ⟨aa,ac,rfl, -⟩:=hav.shape
 obtain ⟨ca,cc,rfl, -⟩:=hcv.shape
 dsimp only at t0 t1 t2 t3 t4 t5 t6 t7
 have hltI:(n:Int)<(lim:Int):=by omega
 have hlt2:(n:Int)<(F.ts.length:Int):=by omega
 have HNE:=hid h.ne
 have S0:=hid h.start
 have S1:=hid (h.start.alloc (.cells #[.int .i64 7, .int .i64 (z:Int), .bool li, .string (bs s), .slice aa args.length ac, .int .i64 e, .int .i64 j, .slice ca cs.length cc] 44))
 have HX1:=hid (heap_alloc_new w (.cells #[.int .i64 7, .int .i64 (z:Int), .bool li, .string (bs s), .slice aa args.length ac, .int .i64 e, .int .i64 j, .slice ca cs.length cc] 44))
 have HBX:=hid (heap_alloc_new w (.cells #[.int .i64 0, .int .i64 0, .bool false, .string ⟨#[]⟩, .slice none 0 0, .int .i64 0, .int .i64 0, .slice none 0 0] 44))
 have HFF:=hid hF
 have HNN:=hid hN
 have HGG:=hid hG
 have HT:=hid hT
 clear hR h4 h8 hg hk hav hcv h hx hlim hn hF hN hG hT
 go_enter Tryz.func50, Tryz.ntmps50
 go_wp2_with (first|(go_at_call 87;(first|((with_reducible refine (sexp_yes g _).mono ?_);rintro e' w' ⟨rfl,rfl⟩)))|((with_reducible refine at_list8 ?_);refine wpList_store_rowTo rfl 44 _ _ rfl rfl w.heap.size #[.int .i64 7, .int .i64 (z:Int), .bool li, .string (bs s), .slice aa args.length ac, .int .i64 e, .int .i64 j, .slice ca cs.length cc] rfl rfl 44 _ HBX.out size_type rfl (tg_one _ _ _ _ _ _ _ _ _ _ _ _) ?_;rw [World.setRow_alloc_new];clear q q4 t0 t1 t2 t3 t4 t5 t6 t7 HBX;obtain ⟨⟨d0,d1,d2,d3,d4,d5,d6,d7⟩,df,dl⟩:=cells8 HX1.out;have C1:=hid (shIndexL HFF.out HNN.out HGG.out S1.out kWindow ⟨#[119,105,110,100,111,119]⟩ rfl (.int .i64 7) (.int .i64 (z:Int)) (.bool li) (.string (bs s)) (.slice aa args.length ac) (.int .i64 j) (.slice ca cs.length cc) e))|((with_reducible refine at_list8 ?_);first|(refine wpList_load_row rfl 44 _ rfl w.heap.size rfl 44 #[.int .i64 7, .int .i64 (z:Int), .bool li, .string (bs s), .slice aa args.length ac, .int .i64 e, .int .i64 j, .slice ca cs.length cc] (0,0) _ HX2.out Tryz.underlying44 rfl size_type ?_)|(refine wpList_load_row rfl 44 _ rfl w.heap.size rfl 44 #[.int .i64 7, .int .i64 (z:Int), .bool li, .string (bs s), .slice aa args.length ac, .int .i64 e, .int .i64 j, .slice ca cs.length cc] (0,0) _ HX1.out Tryz.underlying44 rfl size_type ?_))|(go_at_call 95;(first|((with_reducible refine C1.out.mono ?_);intro e' w2 hp;rcases hr:idxW F.xs kWindow e l with _|l2;(· rw [hr] at hp;obtain ⟨rfl,hf⟩:=hp;obtain rfl:=step_none HR1.out hr;exact ⟨rfl,rfl,S1.out.fr.trans hf⟩);rw [hr] at hp;obtain ⟨rfl,h1⟩:=hp;have S2:=hid (S1.out.next h1);have HR2:=hid (step_some HR1.out hr);have HX2:=hid (h1.fr.keep _ _ _ _ HX1.out HNE.out (by decide));clear d0 d1 d2 d3 d4 d5 d6 d7 df dl;obtain ⟨⟨d0,d1,d2,d3,d4,d5,d6,d7⟩,df,dl⟩:=cells8 HX2.out;clear hr h1;have C2:=hid (shPut S2.out [[32]] (by simp) 1 rfl #[.string ⟨#[32]⟩] rfl _ rfl))))|(go_at_call 88;(first|((with_reducible refine C2.out.mono ?_);intro e' w3 hp;rcases hr:wPuts [[32]] l2 with _|l3;(· rw [hr] at hp;obtain ⟨rfl,hf⟩:=hp;obtain rfl:=step_none HR2.out hr;exact ⟨rfl,rfl,S2.out.fr.trans hf⟩);rw [hr] at hp;obtain ⟨rfl,h1⟩:=hp;have S3:=hid (S2.out.next h1);have HR3:=hid (step_some HR2.out hr);have HX3:=hid (h1.fr.keep _ _ _ _ HX2.out HNE.out (by decide));clear d0 d1 d2 d3 d4 d5 d6 d7 df dl;obtain ⟨⟨d0,d1,d2,d3,d4,d5,d6,d7⟩,df,dl⟩:=cells8 HX3.out;clear hr h1;have C3:=hid (HT.out j _ _ _ S3.out))))|(go_at_call 50;(first|((with_reducible refine C3.out.mono ?_);intro e' w4 hp;rcases hr:typW F.xs F.ts n j l3 with _|l4;(· rw [hr] at hp;obtain ⟨rfl,hf⟩:=hp;obtain rfl:=step_none HR3.out hr;exact ⟨rfl,rfl,S3.out.fr.trans hf⟩);rw [hr] at hp;obtain ⟨rfl,h1⟩:=hp;have S4:=hid (S3.out.next h1);have HR4:=hid (step_some HR3.out hr);clear hr h1))))
 obtain rfl:=HR4.out
 go_end0
 exact ⟨rfl,S4.out⟩
set_option maxHeartbeats 4000000 in
set_option maxRecDepth 100000 in
theorem shTyp_at {W0:World} {g G:Nat} {F:GF} (hF:FileG G W0 F) (hN:NEnv W0) (hG:GfOK F) {lim n:Nat} {z:Nat} {li:Bool} {s:List UInt8} {args:List Nat} {e j:Int} {cs:List (Nat×Nat)} (hx:F.ts[n]? =some ⟨8,z,li,s,args,e,j,cs⟩) (hn:n<lim) (hlim:lim≤F.ts.length) {W w:World} {l:List UInt8} (h:SW W0 g (fp G) W l w) (hT:TypWC W0 g G F n):
  Calls Tryz.prog 50 #[.pointer (some ⟨g,0,none⟩), .int .i64 (n:Int), .int .i64 (lim:Int)] w (PostW W0 g (fp G) w (typW F.xs F.ts lim (n:Int) l)):=by
 obtain ⟨R,hR⟩: ∃R,typW F.xs F.ts lim (n:Int) l=R:=⟨_,rfl⟩
 rw [hR]
 have HR1:Hid (wSeq (idxW F.xs kAt e) (wSeq (wPuts [[32]]) (wSeq (typW F.xs F.ts n j) some)) l=R):=hid (by
  rw [←hR]
  rw [typW_lim F.xs F.ts lim (n:Int),if_pos ⟨by omega,by omega⟩,show ((n:Int).toNat)=n from rfl]
  unfold bodyT
  rw [hx]
  rw [wSeq_some,wPuts_one]
  show _=wAll [idxW F.xs kAt e,wPut [32],typW F.xs F.ts n j] l
  rw [wAll_cons,wAll_cons,wAll_cons,wAll_nil,wSeq_some])
 obtain ⟨q, -, -⟩:=SW.xs hF h
 obtain ⟨ac',cc',bs',cs',ax',cx',at2,ct, -, -, -,h4, -, -, -,h8,hg⟩:=hF.look
 obtain ⟨k,av,cv,rfl,hk,t0,t1,t2,t3,t4,t5,t6,t7,hav,hcv⟩:=tg_at h8 hx
 have q4:=(h.base.cell (p:=⟨G,4,none⟩) hg).trans h4
 have t0:=(h.base.cell (p:=⟨k,n*8,none⟩) hk).trans t0
 have t1:=(h.base.cell (p:=⟨k,n*8+1,none⟩) hk).trans t1
 have t2:=(h.base.cell (p:=⟨k,n*8+2,none⟩) hk).trans t2
 have t3:=(h.base.cell (p:=⟨k,n*8+3,none⟩) hk).trans t3
 have t4:=(h.base.cell (p:=⟨k,n*8+4,none⟩) hk).trans t4
 have t5:=(h.base.cell (p:=⟨k,n*8+5,none⟩) hk).trans t5
 have t6:=(h.base.cell (p:=⟨k,n*8+6,none⟩) hk).trans t6
 have t7:=(h.base.cell (p:=⟨k,n*8+7,none⟩) hk).trans t7
 obtain ⟨aa,ac,rfl, -⟩:=hav.shape
 obtain ⟨ca,cc,rfl, -⟩:=hcv.shape
 dsimp only at t0 t1 t2 t3 t4 t5 t6 t7
 have hltI:(n:Int)<(lim:Int):=by omega
 have hlt2:(n:Int)<(F.ts.length:Int):=by omega
 have HNE:=hid h.ne
 have S0:=hid h.start
 have S1:=hid (h.start.alloc (.cells #[.int .i64 8, .int .i64 (z:Int), .bool li, .string (bs s), .slice aa args.length ac, .int .i64 e, .int .i64 j, .slice ca cs.length cc] 44))
 have HX1:=hid (heap_alloc_new w (.cells #[.int .i64 8, .int .i64 (z:Int), .bool li, .string (bs s), .slice aa args.length ac, .int .i64 e, .int .i64 j, .slice ca cs.length cc] 44))
 have HBX:=hid (heap_alloc_new w (.cells #[.int .i64 0, .int .i64 0, .bool false, .string ⟨#[]⟩, .slice none 0 0, .int .i64 0, .int .i64 0, .slice none 0 0] 44))
 have HFF:=hid hF
 have HNN:=hid hN
 have HGG:=hid hG
 have HT:=hid hT
 clear hR h4 h8 hg hk hav hcv h hx hlim hn hF hN hG hT
 go_enter Tryz.func50, Tryz.ntmps50
 go_wp2_with (first|(go_at_call 87;(first|((with_reducible refine (sexp_yes g _).mono ?_);rintro e' w' ⟨rfl,rfl⟩)))|((with_reducible refine at_list8 ?_);refine wpList_store_rowTo rfl 44 _ _ rfl rfl w.heap.size #[.int .i64 8, .int .i64 (z:Int), .bool li, .string (bs s), .slice aa args.length ac, .int .i64 e, .int .i64 j, .slice ca cs.length cc] rfl rfl 44 _ HBX.out size_type rfl (tg_one _ _ _ _ _ _ _ _ _ _ _ _) ?_;rw [World.setRow_alloc_new];clear q q4 t0 t1 t2 t3 t4 t5 t6 t7 HBX;obtain ⟨⟨d0,d1,d2,d3,d4,d5,d6,d7⟩,df,dl⟩:=cells8 HX1.out;have C1:=hid (shIndexL HFF.out HNN.out HGG.out S1.out kAt ⟨#[97,116]⟩ rfl (.int .i64 8) (.int .i64 (z:Int)) (.bool li) (.string (bs s)) (.slice aa args.length ac) (.int .i64 j) (.slice ca cs.length cc) e))|((with_reducible refine at_list8 ?_);first|(refine wpList_load_row rfl 44 _ rfl w.heap.size rfl 44 #[.int .i64 8, .int .i64 (z:Int), .bool li, .string (bs s), .slice aa args.length ac, .int .i64 e, .int .i64 j, .slice ca cs.length cc] (0,0) _ HX2.out Tryz.underlying44 rfl size_type ?_)|(refine wpList_load_row rfl 44 _ rfl w.heap.size rfl 44 #[.int .i64 8, .int .i64 (z:Int), .bool li, .string (bs s), .slice aa args.length ac, .int .i64 e, .int .i64 j, .slice ca cs.length cc] (0,0) _ HX1.out Tryz.underlying44 rfl size_type ?_))|(go_at_call 95;(first|((with_reducible refine C1.out.mono ?_);intro e' w2 hp;rcases hr:idxW F.xs kAt e l with _|l2;(· rw [hr] at hp;obtain ⟨rfl,hf⟩:=hp;obtain rfl:=step_none HR1.out hr;exact ⟨rfl,rfl,S1.out.fr.trans hf⟩);rw [hr] at hp;obtain ⟨rfl,h1⟩:=hp;have S2:=hid (S1.out.next h1);have HR2:=hid (step_some HR1.out hr);have HX2:=hid (h1.fr.keep _ _ _ _ HX1.out HNE.out (by decide));clear d0 d1 d2 d3 d4 d5 d6 d7 df dl;obtain ⟨⟨d0,d1,d2,d3,d4,d5,d6,d7⟩,df,dl⟩:=cells8 HX2.out;clear hr h1;have C2:=hid (shPut S2.out [[32]] (by simp) 1 rfl #[.string ⟨#[32]⟩] rfl _ rfl))))|(go_at_call 88;(first|((with_reducible refine C2.out.mono ?_);intro e' w3 hp;rcases hr:wPuts [[32]] l2 with _|l3;(· rw [hr] at hp;obtain ⟨rfl,hf⟩:=hp;obtain rfl:=step_none HR2.out hr;exact ⟨rfl,rfl,S2.out.fr.trans hf⟩);rw [hr] at hp;obtain ⟨rfl,h1⟩:=hp;have S3:=hid (S2.out.next h1);have HR3:=hid (step_some HR2.out hr);have HX3:=hid (h1.fr.keep _ _ _ _ HX2.out HNE.out (by decide));clear d0 d1 d2 d3 d4 d5 d6 d7 df dl;obtain ⟨⟨d0,d1,d2,d3,d4,d5,d6,d7⟩,df,dl⟩:=cells8 HX3.out;clear hr h1;have C3:=hid (HT.out j _ _ _ S3.out))))|(go_at_call 50;(first|((with_reducible refine C3.out.mono ?_);intro e' w4 hp;rcases hr:typW F.xs F.ts n j l3 with _|l4;(· rw [hr] at hp;obtain ⟨rfl,hf⟩:=hp;obtain rfl:=step_none HR3.out hr;exact ⟨rfl,rfl,S3.out.fr.trans hf⟩);rw [hr] at hp;obtain ⟨rfl,h1⟩:=hp;have S4:=hid (S3.out.next h1);have HR4:=hid (step_some HR3.out hr);clear hr h1))))
 obtain rfl:=HR4.out
 go_end0
 exact ⟨rfl,S4.out⟩
set_option maxHeartbeats 4000000 in
set_option maxRecDepth 100000 in
theorem shTyp_switch {W0:World} {g G:Nat} {F:GF} (hF:FileG G W0 F) (hN:NEnv W0) (hG:GfOK F) {lim n:Nat} {z:Nat} {li:Bool} {s:List UInt8} {args:List Nat} {e j:Int} {cs:List (Nat×Nat)} (hx:F.ts[n]? =some ⟨9,z,li,s,args,e,j,cs⟩) (hn:n<lim) (hlim:lim≤F.ts.length) {W w:World} {l:List UInt8} (h:SW W0 g (fp G) W l w) (hT:TypWC W0 g G F n) (hcl:cs.length<9223372036854775808):
  Calls Tryz.prog 50 #[.pointer (some ⟨g,0,none⟩), .int .i64 (n:Int), .int .i64 (lim:Int)] w (PostW W0 g (fp G) w (typW F.xs F.ts lim (n:Int) l)):=by
 obtain ⟨R,hR⟩: ∃R,typW F.xs F.ts lim (n:Int) l=R:=⟨_,rfl⟩
 rw [hR]
 have HR1:Hid (wSeq (wSeq (wPuts [dSwitch]) (wSeq (exprW F.xs F.xs.length e) (wSeq (wPuts [[41,32,123]]) (cssW (typW F.xs F.ts n) cs j 0)))) some l=R):=hid (by
  rw [←hR]
  rw [typW_lim F.xs F.ts lim (n:Int),if_pos ⟨by omega,by omega⟩,show ((n:Int).toNat)=n from rfl]
  unfold bodyT
  rw [hx]
  rw [wSeq_some]
  show _=choiceW F.xs (typW F.xs F.ts n) _ l
  rw [choice_eq])
 obtain ⟨q, -, -⟩:=SW.xs hF h
 obtain ⟨ac',cc',bs',cs',ax',cx',at2,ct, -, -, -,h4, -, -, -,h8,hg⟩:=hF.look
 obtain ⟨k,av,cv,rfl,hk,t0,t1,t2,t3,t4,t5,t6,t7,hav,hcv⟩:=tg_at h8 hx
 have q4:=(h.base.cell (p:=⟨G,4,none⟩) hg).trans h4
 have t0:=(h.base.cell (p:=⟨k,n*8,none⟩) hk).trans t0
 have t1:=(h.base.cell (p:=⟨k,n*8+1,none⟩) hk).trans t1
 have t2:=(h.base.cell (p:=⟨k,n*8+2,none⟩) hk).trans t2
 have t3:=(h.base.cell (p:=⟨k,n*8+3,none⟩) hk).trans t3
 have t4:=(h.base.cell (p:=⟨k,n*8+4,none⟩) hk).trans t4
 have t5:=(h.base.cell (p:=⟨k,n*8+5,none⟩) hk).trans t5
 have t6:=(h.base.cell (p:=⟨k,n*8+6,none⟩) hk).trans t6
 have t7:=(h.base.cell (p:=⟨k,n*8+7,none⟩) hk).trans t7
 obtain ⟨aa,ac,rfl, -⟩:=hav.shape
 obtain ⟨ca,cc,rfl, -⟩:=hcv.shape
 dsimp only at t0 t1 t2 t3 t4 t5 t6 t7
 have hltI:(n:Int)<(lim:Int):=by omega
 have hlt2:(n:Int)<(F.ts.length:Int):=by omega
 have HNE:=hid h.ne
 have S0:=hid h.start
 have S1:=hid (h.start.alloc (.cells #[.int .i64 9, .int .i64 (z:Int), .bool li, .string (bs s), .slice aa args.length ac, .int .i64 e, .int .i64 j, .slice ca cs.length cc] 44))
 have HX1:=hid (heap_alloc_new w (.cells #[.int .i64 9, .int .i64 (z:Int), .bool li, .string (bs s), .slice aa args.length ac, .int .i64 e, .int .i64 j, .slice ca cs.length cc] 44))
 have HBX:=hid (heap_alloc_new w (.cells #[.int .i64 0, .int .i64 0, .bool false, .string ⟨#[]⟩, .slice none 0 0, .int .i64 0, .int .i64 0, .slice none 0 0] 44))
 have HFF:=hid hF
 have HNN:=hid hN
 have HGG:=hid hG
 have HT:=hid hT
 have HCV:=hid hcv
 have HCN:Hid (∀c∈cs,c.1<18446744073709551616):=hid (hG.cn _ (List.mem_of_getElem? hx))
 have HCL:=hid hcl
 clear hR h4 h8 hg hk hav hcv h hx hlim hn hF hN hG hT hcl
 go_enter Tryz.func50, Tryz.ntmps50
 go_wp2_with (first|(go_at_call 87;(first|((with_reducible refine (sexp_yes g _).mono ?_);rintro e' w' ⟨rfl,rfl⟩)))|((with_reducible refine at_list8 ?_);refine wpList_store_rowTo rfl 44 _ _ rfl rfl w.heap.size #[.int .i64 9, .int .i64 (z:Int), .bool li, .string (bs s), .slice aa args.length ac, .int .i64 e, .int .i64 j, .slice ca cs.length cc] rfl rfl 44 _ HBX.out size_type rfl (tg_one _ _ _ _ _ _ _ _ _ _ _ _) ?_;rw [World.setRow_alloc_new];clear q q4 t0 t1 t2 t3 t4 t5 t6 t7 HBX;obtain ⟨⟨d0,d1,d2,d3,d4,d5,d6,d7⟩,df,dl⟩:=cells8 HX1.out;have C1:=hid (shChoice HFF.out HNN.out HGG.out HT.out S1.out (.int .i64 9) (.int .i64 (z:Int)) (.bool li) (.string (bs s)) (.slice aa args.length ac) e j cs HCV.out HCN.out HCL.out))|((with_reducible refine at_list8 ?_);first|(refine wpList_load_row rfl 44 _ rfl w.heap.size rfl 44 #[.int .i64 9, .int .i64 (z:Int), .bool li, .string (bs s), .slice aa args.length ac, .int .i64 e, .int .i64 j, .slice ca cs.length cc] (0,0) _ HX2.out Tryz.underlying44 rfl size_type ?_)|(refine wpList_load_row rfl 44 _ rfl w.heap.size rfl 44 #[.int .i64 9, .int .i64 (z:Int), .bool li, .string (bs s), .slice aa args.length ac, .int .i64 e, .int .i64 j, .slice ca cs.length cc] (0,0) _ HX1.out Tryz.underlying44 rfl size_type ?_))|(go_at_call 96;(first|((with_reducible refine C1.out.mono ?_);intro e' w2 hp;rcases hr:(wSeq (wPuts [dSwitch]) (wSeq (exprW F.xs F.xs.length e) (wSeq (wPuts [[41,32,123]]) (cssW (typW F.xs F.ts n) cs j 0)))) l with _|l2;(· rw [hr] at hp;obtain ⟨rfl,hf⟩:=hp;obtain rfl:=step_none HR1.out hr;exact ⟨rfl,rfl,S1.out.fr.trans hf⟩);rw [hr] at hp;obtain ⟨rfl,h1⟩:=hp;have S2:=hid (S1.out.next h1);have HR2:=hid (step_some HR1.out hr);clear hr h1))))
 obtain rfl:=HR2.out
 go_end0
 exact ⟨rfl,S2.out⟩
set_option maxHeartbeats 4000000 in
set_option maxRecDepth 100000 in
theorem shTyp_ref {W0:World} {g G:Nat} {F:GF} (hF:FileG G W0 F) (hN:NEnv W0) (hG:GfOK F) {lim n:Nat} {z:Nat} {li:Bool} {s:List UInt8} {args:List Nat} {e j:Int} {cs:List (Nat×Nat)} (hx:F.ts[n]? =some ⟨10,z,li,s,args,e,j,cs⟩) (hn:n<lim) (hlim:lim≤F.ts.length) {W w:World} {l:List UInt8} (h:SW W0 g (fp G) W l w) (hal:args.length<9223372036854775808):
  Calls Tryz.prog 50 #[.pointer (some ⟨g,0,none⟩), .int .i64 (n:Int), .int .i64 (lim:Int)] w (PostW W0 g (fp G) w (typW F.xs F.ts lim (n:Int) l)):=by
 obtain ⟨R,hR⟩: ∃R,typW F.xs F.ts lim (n:Int) l=R:=⟨_,rfl⟩
 rw [hR]
 have HR1:Hid (wSeq (refW F.xs ⟨10,z,li,s,args,e,j,cs⟩) some l=R):=hid (by
  rw [←hR]
  rw [typW_lim F.xs F.ts lim (n:Int),if_pos ⟨by omega,by omega⟩,show ((n:Int).toNat)=n from rfl]
  unfold bodyT
  rw [hx]
  rw [wSeq_some]
  rfl)
 obtain ⟨q, -, -⟩:=SW.xs hF h
 obtain ⟨ac',cc',bs',cs',ax',cx',at2,ct, -, -, -,h4, -, -, -,h8,hg⟩:=hF.look
 obtain ⟨k,av,cv,rfl,hk,t0,t1,t2,t3,t4,t5,t6,t7,hav,hcv⟩:=tg_at h8 hx
 have q4:=(h.base.cell (p:=⟨G,4,none⟩) hg).trans h4
 have t0:=(h.base.cell (p:=⟨k,n*8,none⟩) hk).trans t0
 have t1:=(h.base.cell (p:=⟨k,n*8+1,none⟩) hk).trans t1
 have t2:=(h.base.cell (p:=⟨k,n*8+2,none⟩) hk).trans t2
 have t3:=(h.base.cell (p:=⟨k,n*8+3,none⟩) hk).trans t3
 have t4:=(h.base.cell (p:=⟨k,n*8+4,none⟩) hk).trans t4
 have t5:=(h.base.cell (p:=⟨k,n*8+5,none⟩) hk).trans t5
 have t6:=(h.base.cell (p:=⟨k,n*8+6,none⟩) hk).trans t6
 have t7:=(h.base.cell (p:=⟨k,n*8+7,none⟩) hk).trans t7
 obtain ⟨aa,ac,rfl, -⟩:=hav.shape
 obtain ⟨ca,cc,rfl, -⟩:=hcv.shape
 dsimp only at t0 t1 t2 t3 t4 t5 t6 t7
 have hltI:(n:Int)<(lim:Int):=by omega
 have hlt2:(n:Int)<(F.ts.length:Int):=by omega
 have HNE:=hid h.ne
 have S0:=hid h.start
 have S1:=hid (h.start.alloc (.cells #[.int .i64 10, .int .i64 (z:Int), .bool li, .string (bs s), .slice aa args.length ac, .int .i64 e, .int .i64 j, .slice ca cs.length cc] 44))
 have HX1:=hid (heap_alloc_new w (.cells #[.int .i64 10, .int .i64 (z:Int), .bool li, .string (bs s), .slice aa args.length ac, .int .i64 e, .int .i64 j, .slice ca cs.length cc] 44))
 have HBX:=hid (heap_alloc_new w (.cells #[.int .i64 0, .int .i64 0, .bool false, .string ⟨#[]⟩, .slice none 0 0, .int .i64 0, .int .i64 0, .slice none 0 0] 44))
 have HFF:=hid hF
 have HNN:=hid hN
 have HGG:=hid hG
 have HAV:=hid hav
 have HAL:=hid hal
 clear hR h4 h8 hg hk hav hcv h hx hlim hn hF hN hG hal
 go_enter Tryz.func50, Tryz.ntmps50
 go_wp2_with (first|(go_at_call 87;(first|((with_reducible refine (sexp_yes g _).mono ?_);rintro e' w' ⟨rfl,rfl⟩)))|((with_reducible refine at_list8 ?_);refine wpList_store_rowTo rfl 44 _ _ rfl rfl w.heap.size #[.int .i64 10, .int .i64 (z:Int), .bool li, .string (bs s), .slice aa args.length ac, .int .i64 e, .int .i64 j, .slice ca cs.length cc] rfl rfl 44 _ HBX.out size_type rfl (tg_one _ _ _ _ _ _ _ _ _ _ _ _) ?_;rw [World.setRow_alloc_new];clear q q4 t0 t1 t2 t3 t4 t5 t6 t7 HBX;obtain ⟨⟨d0,d1,d2,d3,d4,d5,d6,d7⟩,df,dl⟩:=cells8 HX1.out;have C1:=hid (shRef HFF.out HNN.out HGG.out S1.out ⟨10,z,li,s,args,e,j,cs⟩ (cv:= .slice ca cs.length cc) HAV.out HAL.out))|((with_reducible refine at_list8 ?_);first|(refine wpList_load_row rfl 44 _ rfl w.heap.size rfl 44 #[.int .i64 10, .int .i64 (z:Int), .bool li, .string (bs s), .slice aa args.length ac, .int .i64 e, .int .i64 j, .slice ca cs.length cc] (0,0) _ HX2.out Tryz.underlying44 rfl size_type ?_)|(refine wpList_load_row rfl 44 _ rfl w.heap.size rfl 44 #[.int .i64 10, .int .i64 (z:Int), .bool li, .string (bs s), .slice aa args.length ac, .int .i64 e, .int .i64 j, .slice ca cs.length cc] (0,0) _ HX1.out Tryz.underlying44 rfl size_type ?_))|(go_at_call 97;(first|((with_reducible refine C1.out.mono ?_);intro e' w2 hp;rcases hr:refW F.xs (⟨10,z,li,s,args,e,j,cs⟩:TG) l with _|l2;(· rw [hr] at hp;obtain ⟨rfl,hf⟩:=hp;obtain rfl:=step_none HR1.out hr;exact ⟨rfl,rfl,S1.out.fr.trans hf⟩);rw [hr] at hp;obtain ⟨rfl,h1⟩:=hp;have S2:=hid (S1.out.next h1);have HR2:=hid (step_some HR1.out hr);clear hr h1))))
 obtain rfl:=HR2.out
 go_end0
 exact ⟨rfl,S2.out⟩
set_option maxHeartbeats 4000000 in
set_option maxRecDepth 100000 in
theorem shTyp_else {W0:World} {g G:Nat} {F:GF} (hF:FileG G W0 F) (hN:NEnv W0) (hG:GfOK F) {lim n:Nat} {kk:Int} {z:Nat} {li:Bool} {s:List UInt8} {args:List Nat} {e j:Int} {cs:List (Nat×Nat)} (hx:F.ts[n]? =some ⟨kk,z,li,s,args,e,j,cs⟩) (hn:n<lim) (hlim:lim≤F.ts.length) {W w:World} {l:List UInt8} (h:SW W0 g (fp G) W l w) (hkk:kk≠0∧kk≠1∧kk≠2∧kk≠3∧kk≠4∧kk≠5∧kk≠6∧kk≠7∧kk≠8∧kk≠9∧kk≠10∧kk≠11):
  Calls Tryz.prog 50 #[.pointer (some ⟨g,0,none⟩), .int .i64 (n:Int), .int .i64 (lim:Int)] w (PostW W0 g (fp G) w (typW F.xs F.ts lim (n:Int) l)):=by
 obtain ⟨R,hR⟩: ∃R,typW F.xs F.ts lim (n:Int) l=R:=⟨_,rfl⟩
 rw [hR]
 have HR1:Hid ((fun _=>none:OW) l=R):=hid (by
  rw [←hR]
  rw [typW_lim F.xs F.ts lim (n:Int),if_pos ⟨by omega,by omega⟩,show ((n:Int).toNat)=n from rfl]
  unfold bodyT
  rw [hx]
  obtain ⟨m0,m1,m2,m3,m4,m5,m6,m7,m8,m9,m10,m11⟩:=hkk
  simp only [m0,m1,m2,m3,m4,m5,m6,m7,m8,m9,m10,m11,if_false]
  rfl)
 obtain ⟨q, -, -⟩:=SW.xs hF h
 obtain ⟨ac',cc',bs',cs',ax',cx',at2,ct, -, -, -,h4, -, -, -,h8,hg⟩:=hF.look
 obtain ⟨k,av,cv,rfl,hk,t0,t1,t2,t3,t4,t5,t6,t7,hav,hcv⟩:=tg_at h8 hx
 have q4:=(h.base.cell (p:=⟨G,4,none⟩) hg).trans h4
 have t0:=(h.base.cell (p:=⟨k,n*8,none⟩) hk).trans t0
 have t1:=(h.base.cell (p:=⟨k,n*8+1,none⟩) hk).trans t1
 have t2:=(h.base.cell (p:=⟨k,n*8+2,none⟩) hk).trans t2
 have t3:=(h.base.cell (p:=⟨k,n*8+3,none⟩) hk).trans t3
 have t4:=(h.base.cell (p:=⟨k,n*8+4,none⟩) hk).trans t4
 have t5:=(h.base.cell (p:=⟨k,n*8+5,none⟩) hk).trans t5
 have t6:=(h.base.cell (p:=⟨k,n*8+6,none⟩) hk).trans t6
 have t7:=(h.base.cell (p:=⟨k,n*8+7,none⟩) hk).trans t7
 obtain ⟨aa,ac,rfl, -⟩:=hav.shape
 obtain ⟨ca,cc,rfl, -⟩:=hcv.shape
 dsimp only at t0 t1 t2 t3 t4 t5 t6 t7
 have hltI:(n:Int)<(lim:Int):=by omega
 have hlt2:(n:Int)<(F.ts.length:Int):=by omega
 have HNE:=hid h.ne
 have S0:=hid h.start
 have S1:=hid (h.start.alloc (.cells #[.int .i64 kk, .int .i64 (z:Int), .bool li, .string (bs s), .slice aa args.length ac, .int .i64 e, .int .i64 j, .slice ca cs.length cc] 44))
 have HX1:=hid (heap_alloc_new w (.cells #[.int .i64 kk, .int .i64 (z:Int), .bool li, .string (bs s), .slice aa args.length ac, .int .i64 e, .int .i64 j, .slice ca cs.length cc] 44))
 have HBX:=hid (heap_alloc_new w (.cells #[.int .i64 0, .int .i64 0, .bool false, .string ⟨#[]⟩, .slice none 0 0, .int .i64 0, .int .i64 0, .slice none 0 0] 44))
 obtain ⟨m0,m1,m2,m3,m4,m5,m6,m7,m8,m9,m10,m11⟩:=hkk
 have e0:(kk==0)=false:=beq_eq_false_iff_ne.2 m0
 have e1:(kk==1)=false:=beq_eq_false_iff_ne.2 m1
 have e2:(kk==2)=false:=beq_eq_false_iff_ne.2 m2
 have e3:(kk==3)=false:=beq_eq_false_iff_ne.2 m3
 have e4:(kk==4)=false:=beq_eq_false_iff_ne.2 m4
 have e5:(kk==5)=false:=beq_eq_false_iff_ne.2 m5
 have e6:(kk==6)=false:=beq_eq_false_iff_ne.2 m6
 have e7:(kk==7)=false:=beq_eq_false_iff_ne.2 m7
 have e8:(kk==8)=false:=beq_eq_false_iff_ne.2 m8
 have e9:(kk==9)=false:=beq_eq_false_iff_ne.2 m9
 have e10:(kk==10)=false:=beq_eq_false_iff_ne.2 m10
 have e11:(kk==11)=false:=beq_eq_false_iff_ne.2 m11
 clear m0 m1 m2 m3 m4 m5 m6 m7 m8 m9 m10 m11
 clear hR h4 h8 hg hk hav hcv h hx hlim hn hF hN hG
 go_enter Tryz.func50, Tryz.ntmps50
 go_wp2_with (first|(go_at_call 87;(first|((with_reducible refine (sexp_yes g _).mono ?_);rintro e' w' ⟨rfl,rfl⟩)|((with_reducible refine (sexp_no g _).mono ?_);rintro e' w2 ⟨rfl,rfl⟩)))|((with_reducible refine at_list8 ?_);refine wpList_store_rowTo rfl 44 _ _ rfl rfl w.heap.size #[.int .i64 kk, .int .i64 (z:Int), .bool li, .string (bs s), .slice aa args.length ac, .int .i64 e, .int .i64 j, .slice ca cs.length cc] rfl rfl 44 _ HBX.out size_type rfl (tg_one _ _ _ _ _ _ _ _ _ _ _ _) ?_;rw [World.setRow_alloc_new];clear q q4 t0 t1 t2 t3 t4 t5 t6 t7 HBX;obtain ⟨⟨d0,d1,d2,d3,d4,d5,d6,d7⟩,df,dl⟩:=cells8 HX1.out)|((with_reducible refine at_list8 ?_);first|(refine wpList_load_row rfl 44 _ rfl w.heap.size rfl 44 #[.int .i64 kk, .int .i64 (z:Int), .bool li, .string (bs s), .slice aa args.length ac, .int .i64 e, .int .i64 j, .slice ca cs.length cc] (0,0) _ HX2.out Tryz.underlying44 rfl size_type ?_)|(refine wpList_load_row rfl 44 _ rfl w.heap.size rfl 44 #[.int .i64 kk, .int .i64 (z:Int), .bool li, .string (bs s), .slice aa args.length ac, .int .i64 e, .int .i64 j, .slice ca cs.length cc] (0,0) _ HX1.out Tryz.underlying44 rfl size_type ?_)))
 obtain rfl:=HR1.out
 exact ⟨rfl,rfl,S1.out.fr⟩
theorem shTyps {W0:World} {g G:Nat} {F:GF} (hF:FileG G W0 F) (hN:NEnv W0) (hG:GfOK F): ∀lim:Nat,lim≤F.ts.length→TypWC W0 g G F lim:=by
 intro lim
 induction lim using Nat.strongRecOn with
 |ind lim ih=>
  intro hlim at' W w l h
  by_cases hn:0≤at'∧at'<(lim:Int)
  ·obtain ⟨n,rfl⟩: ∃n:Nat,at'=n:=⟨at'.toNat,by omega⟩
   have hnl:n<lim:=by omega
   have hT:=ih n hnl (by omega)
   have hx:F.ts[n]? =some F.ts[n]:=List.getElem?_eq_getElem (by omega)
   have hal:F.ts[n].args.length<9223372036854775808:=hG.al _ (List.getElem_mem _)
   have hcl:F.ts[n].cs.length<9223372036854775808:=hG.cl _ (List.getElem_mem _)
   generalize F.ts[n]=x at hx hal hcl
   obtain ⟨kk,z,li,s,args,e,j,cs⟩:=x
   by_cases h0:kk=0
   ·subst h0;exact shTyp_int hF hN hG hx hnl hlim h
   by_cases h1:kk=1
   ·subst h1;exact shTyp_bytes hF hN hG hx hnl hlim h
   by_cases h2:kk=2
   ·subst h2;exact shTyp_zero hF hN hG hx hnl hlim h
   by_cases h3:kk=3
   ·subst h3;exact shTyp_skip hF hN hG hx hnl hlim h
   by_cases h4:kk=4
   ·subst h4;exact shTyp_tail hF hN hG hx hnl hlim h
   by_cases h5:kk=5
   ·subst h5;exact shTyp_arr hF hN hG hx hnl hlim h hT
   by_cases h6:kk=6
   ·subst h6;exact shTyp_rest hF hN hG hx hnl hlim h hT
   by_cases h7:kk=7
   ·subst h7;exact shTyp_window hF hN hG hx hnl hlim h hT
   by_cases h8:kk=8
   ·subst h8;exact shTyp_at hF hN hG hx hnl hlim h hT
   by_cases h9:kk=9
   ·subst h9;exact shTyp_switch hF hN hG hx hnl hlim h hT hcl
   by_cases h10:kk=10
   ·subst h10;exact shTyp_ref hF hN hG hx hnl hlim h hal
   by_cases h11:kk=11
   ·subst h11;exact shTyp_none hF hN hG hx hnl hlim h
   exact shTyp_else hF hN hG hx hnl hlim h ⟨h0,h1,h2,h3,h4,h5,h6,h7,h8,h9,h10,h11⟩
  ·exact shTyp_no hF hN hG h hn
end Go.Proofs.YtomimkgaelkaoaaGreatDoor
