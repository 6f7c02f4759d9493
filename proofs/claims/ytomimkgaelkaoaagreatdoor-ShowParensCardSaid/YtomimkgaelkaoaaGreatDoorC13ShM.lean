/- Layer 8: the printer's fields. -/
import Derived.Test.YtomimkgaelkaoaaGreatDoorC13ShK
set_option linter.unusedVariables false
set_option linter.unusedSimpArgs false
namespace Go.Proofs.YtomimkgaelkaoaaGreatDoor
open Go.Lib (hid)
open Go.ChangeShapes Go.WideShapes Go.ChangeAt Go.RowKit
def whW (xs:List XG) (wh:Int):OW:=if wh≠ -1 then wSeq (wPuts [dWhere]) (exprW xs xs.length wh) else some
def fdW (xs:List XG) (ts:List TG) (s:List UInt8) (t:Int) (d:OW) (wh:Int):OW:=wSeq (wPuts [s, [58,32]]) (wSeq (typW xs ts ts.length t) (wSeq d (wSeq (whW xs wh) (wSeq (wPuts [[59]]) some))))
theorem wPuts_three (a b c:List UInt8):wPuts [a,b,c]=wSeq (wPut a) (wSeq (wPut b) (wPut c)):=by
 show wSeq (wPut a) (wSeq (wPut b) (wSeq (wPut c) some))=_
 rw [wSeq_some]
theorem field_eq8 (xs:List XG) (ts:List TG) (x:IM):fieldW xs ts x=fdW xs ts x.s x.t (derW x) x.wh:=by
 unfold fieldW fdW whW
 rw [wPuts_two,wPuts_one,wPuts_one,wSeq_assoc]
 rfl
set_option maxHeartbeats 4000000 in
set_option maxRecDepth 100000 in
theorem shField_0 {W0:World} {g G:Nat} {F:GF} (hF:FileG G W0 F) (hN:NEnv W0) (hG:GfOK F) {W w:World} {l:List UInt8} (h:SW W0 g (fp G) W l w) (s a b:List UInt8) (t wh:Int) (c6 c7 c8:Value):
  Calls Tryz.prog 137 #[.pointer (some ⟨g,0,none⟩), .agg #[.string (bs s), .int .i64 t, .int .i64 0, .string (bs a), .string (bs b), .int .i64 wh,c6,c7,c8]] w (PostW W0 g (fp G) w (fdW F.xs F.ts s t ((some:OW)) wh l)):=by
 obtain ⟨R,hR⟩: ∃R,fdW F.xs F.ts s t ((some:OW)) wh l=R:=⟨_,rfl⟩
 rw [hR]
 have HR1:Hid (wSeq (wPuts [s, [58,32]]) (wSeq (typW F.xs F.ts F.ts.length t) (wSeq ((some:OW)) (wSeq (whW F.xs wh) (wSeq (wPuts [[59]]) some)))) l=R):=hid hR
 have HE:Hid (ExprC W0 g G F F.xs.length):=hid (shExprs hF hN hG F.xs.length (Nat.le_refl _)).1
 have HT:Hid (TypWC W0 g G F F.ts.length):=hid (shTyps hF hN hG F.ts.length (Nat.le_refl _))
 have HNE:=hid h.ne
 have S1:=hid (h.start.alloc (.cells #[.string (bs s), .int .i64 t, .int .i64 0, .string (bs a), .string (bs b), .int .i64 wh,c6,c7,c8] 129))
 have HX1:=hid (heap_alloc_new w (.cells #[.string (bs s), .int .i64 t, .int .i64 0, .string (bs a), .string (bs b), .int .i64 wh,c6,c7,c8] 129))
 have HFF:=hid hF
 have C1:=hid (shPut S1.out [s, [58,32]] (by simp) 2 rfl #[.string (bs s), .string ⟨#[58,32]⟩] rfl (w.heap.size+1) (by simp))
 clear hR hF hN hG h
 obtain ⟨⟨d0,d1,d2,d3,d4,d5,d6,d7,d8⟩,df,dl⟩:=cells9 HX1.out
 go_enter Tryz.func137, Tryz.ntmps137
 go_wp2_with (first|(go_at_call 88;(first|((with_reducible refine C1.out.mono ?_);intro e' w2 hp;rcases hr:wPuts [s, [58,32]] l with _|l2;(· rw [hr] at hp;obtain ⟨rfl,hf⟩:=hp;obtain rfl:=step_none HR1.out hr;exact ⟨rfl,rfl,S1.out.fr.trans hf⟩);rw [hr] at hp;obtain ⟨rfl,h1⟩:=hp;have S2:=hid (S1.out.next h1);have HR2:=hid (step_some HR1.out hr);have HX2:=hid (h1.fr.keep _ _ _ _ HX1.out HNE.out (by decide));clear d0 d1 d2 d3 d4 d5 d6 d7 d8 df dl;obtain ⟨⟨d0,d1,d2,d3,d4,d5,d6,d7,d8⟩,df,dl⟩:=cells9 HX2.out;clear hr h1))))
 obtain ⟨q, -,⟨at2,ct,q4⟩⟩:=SW.xs HFF.out S2.out
 go_wp2_with fail
 go_still_tail 11,(by kernel_rfl)
 change wpList _ _ _ _ _ w2.drew
 have HX3:Hid (w2.drew.heap[w.heap.size]? =some (.cells #[.string (bs s), .int .i64 t, .int .i64 0, .string (bs a), .string (bs b), .int .i64 wh,c6,c7,c8] 129 (0,0))):=hid HX2.out
 have S3:=hid (S2.out.keep (Below.refl w2.heap.size w2).drew)
 have HR3:=HR2
 have C3:=hid (HT.out t _ _ _ S3.out)
 clear q q4
 rcases (show wh= -1∨wh≠ -1 from by omega) with rfl|hwh
 ·go_wp2_with (first|(go_at_call 50;(first|((with_reducible refine C3.out.mono ?_);intro e' w4 hp;rcases hr:typW F.xs F.ts F.ts.length t l2 with _|l4;(· rw [hr] at hp;obtain ⟨rfl,hf⟩:=hp;obtain rfl:=step_none HR3.out hr;exact ⟨rfl,rfl,S3.out.fr.trans hf⟩);rw [hr] at hp;obtain ⟨rfl,h1⟩:=hp;have S4:=hid (S3.out.next h1);have HR4:=hid (step_some HR3.out hr);have HX4:=hid (h1.fr.keep _ _ _ _ HX3.out HNE.out (by decide));clear d0 d1 d2 d3 d4 d5 d6 d7 d8 df dl;obtain ⟨⟨d0,d1,d2,d3,d4,d5,d6,d7,d8⟩,df,dl⟩:=cells9 HX4.out;clear hr h1;have S5:=S4;have HX5:=HX4;have HR5:=HR4;have HR6:Hid (wSeq (wPuts [[59]]) some l4=R):=hid (by rw [←HR5.out];rfl);have S6:=S5;have C6:=hid (shPut S6.out [[59]] (by simp) 1 rfl #[.string ⟨#[59]⟩] rfl _ rfl))))|(go_at_call 88;(first|((with_reducible refine C6.out.mono ?_);intro e' w7 hp;rcases hr:wPuts [[59]] l4 with _|l7;(· rw [hr] at hp;obtain ⟨rfl,hf⟩:=hp;obtain rfl:=step_none HR6.out hr;exact ⟨rfl,rfl,S6.out.fr.trans hf⟩);rw [hr] at hp;obtain ⟨rfl,h1⟩:=hp;have S7:=hid (S6.out.next h1);have HR7:=hid (step_some HR6.out hr);clear hr h1))))
  obtain rfl:=HR7.out
  go_end0
  exact ⟨rfl,S7.out⟩
 ·have hwb:(wh != -1)=true:=bne_iff_ne.2 hwh
  go_wp2_with (first|(go_at_call 50;(first|((with_reducible refine C3.out.mono ?_);intro e' w4 hp;rcases hr:typW F.xs F.ts F.ts.length t l2 with _|l4;(· rw [hr] at hp;obtain ⟨rfl,hf⟩:=hp;obtain rfl:=step_none HR3.out hr;exact ⟨rfl,rfl,S3.out.fr.trans hf⟩);rw [hr] at hp;obtain ⟨rfl,h1⟩:=hp;have S4:=hid (S3.out.next h1);have HR4:=hid (step_some HR3.out hr);have HX4:=hid (h1.fr.keep _ _ _ _ HX3.out HNE.out (by decide));clear d0 d1 d2 d3 d4 d5 d6 d7 d8 df dl;obtain ⟨⟨d0,d1,d2,d3,d4,d5,d6,d7,d8⟩,df,dl⟩:=cells9 HX4.out;clear hr h1;have S5:=S4;have HX5:=HX4;have HR5:=HR4;have HR6:Hid (wSeq (wPuts [dWhere]) (wSeq (exprW F.xs F.xs.length wh) (wSeq (wPuts [[59]]) some)) l4=R):=hid (by rw [←HR5.out];unfold whW;rw [if_pos hwh,wSeq_assoc];rfl);have S6:=S5;have HX6:=HX5;have C6:=hid (shPut S6.out [dWhere] (by simp) 1 rfl #[.string ⟨#[32,119,104,101,114,101,32]⟩] rfl _ rfl))))|(go_at_call 88;(first|((with_reducible refine C6.out.mono ?_);intro e' w7 hp;rcases hr:wPuts [dWhere] l4 with _|l7;(· rw [hr] at hp;obtain ⟨rfl,hf⟩:=hp;obtain rfl:=step_none HR6.out hr;exact ⟨rfl,rfl,S6.out.fr.trans hf⟩);rw [hr] at hp;obtain ⟨rfl,h1⟩:=hp;have S7:=hid (S6.out.next h1);have HR7:=hid (step_some HR6.out hr);have HX7:=hid (h1.fr.keep _ _ _ _ HX6.out HNE.out (by decide));clear d0 d1 d2 d3 d4 d5 d6 d7 d8 df dl;obtain ⟨⟨d0,d1,d2,d3,d4,d5,d6,d7,d8⟩,df,dl⟩:=cells9 HX7.out;clear hr h1))))
  obtain ⟨q,⟨ax,cx,q3⟩, -⟩:=SW.xs HFF.out S7.out
  go_wp2_with fail
  go_still_tail 11,(by kernel_rfl)
  change wpList _ _ _ _ _ w7.drew
  have S8:=hid (S7.out.keep (Below.refl w7.heap.size w7).drew)
  have HR8:=HR7
  have C8:=hid (HE.out wh _ _ _ S8.out)
  clear q q3
  clear d0 d1 d2 d3 d4 d5 d6 d7 d8 df dl
  go_wp2_with (first|(go_at_call 48;(first|((with_reducible refine C8.out.mono ?_);intro e' w9 hp;rcases hr:exprW F.xs F.xs.length wh l7 with _|l9;(· rw [hr] at hp;obtain ⟨rfl,hf⟩:=hp;obtain rfl:=step_none HR8.out hr;exact ⟨rfl,rfl,S8.out.fr.trans hf⟩);rw [hr] at hp;obtain ⟨rfl,h1⟩:=hp;have S9:=hid (S8.out.next h1);have HR9:=hid (step_some HR8.out hr);clear hr h1;have C9:=hid (shPut S9.out [[59]] (by simp) 1 rfl #[.string ⟨#[59]⟩] rfl _ rfl))))|(go_at_call 88;(first|((with_reducible refine C9.out.mono ?_);intro e' w10 hp;rcases hr:wPuts [[59]] l9 with _|l10;(· rw [hr] at hp;obtain ⟨rfl,hf⟩:=hp;obtain rfl:=step_none HR9.out hr;exact ⟨rfl,rfl,S9.out.fr.trans hf⟩);rw [hr] at hp;obtain ⟨rfl,h1⟩:=hp;have S10:=hid (S9.out.next h1);have HR10:=hid (step_some HR9.out hr);clear hr h1))))
  obtain rfl:=HR10.out
  go_end0
  exact ⟨rfl,S10.out⟩
set_option maxHeartbeats 4000000 in
set_option maxRecDepth 100000 in
theorem shField_1 {W0:World} {g G:Nat} {F:GF} (hF:FileG G W0 F) (hN:NEnv W0) (hG:GfOK F) {W w:World} {l:List UInt8} (h:SW W0 g (fp G) W l w) (s a b:List UInt8) (t wh:Int) (c6 c7 c8:Value):
  Calls Tryz.prog 137 #[.pointer (some ⟨g,0,none⟩), .agg #[.string (bs s), .int .i64 t, .int .i64 1, .string (bs a), .string (bs b), .int .i64 wh,c6,c7,c8]] w (PostW W0 g (fp G) w (fdW F.xs F.ts s t (wPuts [dDer 1,a, [41]]) wh l)):=by
 obtain ⟨R,hR⟩: ∃R,fdW F.xs F.ts s t (wPuts [dDer 1,a, [41]]) wh l=R:=⟨_,rfl⟩
 rw [hR]
 have HR1:Hid (wSeq (wPuts [s, [58,32]]) (wSeq (typW F.xs F.ts F.ts.length t) (wSeq (wPuts [dDer 1,a, [41]]) (wSeq (whW F.xs wh) (wSeq (wPuts [[59]]) some)))) l=R):=hid hR
 have HE:Hid (ExprC W0 g G F F.xs.length):=hid (shExprs hF hN hG F.xs.length (Nat.le_refl _)).1
 have HT:Hid (TypWC W0 g G F F.ts.length):=hid (shTyps hF hN hG F.ts.length (Nat.le_refl _))
 have HNE:=hid h.ne
 have S1:=hid (h.start.alloc (.cells #[.string (bs s), .int .i64 t, .int .i64 1, .string (bs a), .string (bs b), .int .i64 wh,c6,c7,c8] 129))
 have HX1:=hid (heap_alloc_new w (.cells #[.string (bs s), .int .i64 t, .int .i64 1, .string (bs a), .string (bs b), .int .i64 wh,c6,c7,c8] 129))
 have HFF:=hid hF
 have C1:=hid (shPut S1.out [s, [58,32]] (by simp) 2 rfl #[.string (bs s), .string ⟨#[58,32]⟩] rfl (w.heap.size+1) (by simp))
 clear hR hF hN hG h
 obtain ⟨⟨d0,d1,d2,d3,d4,d5,d6,d7,d8⟩,df,dl⟩:=cells9 HX1.out
 go_enter Tryz.func137, Tryz.ntmps137
 go_wp2_with (first|(go_at_call 88;(first|((with_reducible refine C1.out.mono ?_);intro e' w2 hp;rcases hr:wPuts [s, [58,32]] l with _|l2;(· rw [hr] at hp;obtain ⟨rfl,hf⟩:=hp;obtain rfl:=step_none HR1.out hr;exact ⟨rfl,rfl,S1.out.fr.trans hf⟩);rw [hr] at hp;obtain ⟨rfl,h1⟩:=hp;have S2:=hid (S1.out.next h1);have HR2:=hid (step_some HR1.out hr);have HX2:=hid (h1.fr.keep _ _ _ _ HX1.out HNE.out (by decide));clear d0 d1 d2 d3 d4 d5 d6 d7 d8 df dl;obtain ⟨⟨d0,d1,d2,d3,d4,d5,d6,d7,d8⟩,df,dl⟩:=cells9 HX2.out;clear hr h1))))
 obtain ⟨q, -,⟨at2,ct,q4⟩⟩:=SW.xs HFF.out S2.out
 go_wp2_with fail
 go_still_tail 11,(by kernel_rfl)
 change wpList _ _ _ _ _ w2.drew
 have HX3:Hid (w2.drew.heap[w.heap.size]? =some (.cells #[.string (bs s), .int .i64 t, .int .i64 1, .string (bs a), .string (bs b), .int .i64 wh,c6,c7,c8] 129 (0,0))):=hid HX2.out
 have S3:=hid (S2.out.keep (Below.refl w2.heap.size w2).drew)
 have HR3:=HR2
 have C3:=hid (HT.out t _ _ _ S3.out)
 clear q q4
 rcases (show wh= -1∨wh≠ -1 from by omega) with rfl|hwh
 ·go_wp2_with (first|(go_at_call 50;(first|((with_reducible refine C3.out.mono ?_);intro e' w4 hp;rcases hr:typW F.xs F.ts F.ts.length t l2 with _|l4;(· rw [hr] at hp;obtain ⟨rfl,hf⟩:=hp;obtain rfl:=step_none HR3.out hr;exact ⟨rfl,rfl,S3.out.fr.trans hf⟩);rw [hr] at hp;obtain ⟨rfl,h1⟩:=hp;have S4:=hid (S3.out.next h1);have HR4:=hid (step_some HR3.out hr);have HX4:=hid (h1.fr.keep _ _ _ _ HX3.out HNE.out (by decide));clear d0 d1 d2 d3 d4 d5 d6 d7 d8 df dl;obtain ⟨⟨d0,d1,d2,d3,d4,d5,d6,d7,d8⟩,df,dl⟩:=cells9 HX4.out;clear hr h1;have C4:=hid (shPut S4.out [dDer 1,a, [41]] (by simp) 3 rfl #[.string ⟨#[32,61,32,115,105,122,101,111,102,40]⟩, .string (bs a), .string ⟨#[41]⟩] rfl _ rfl))))|(go_at_call 88;(first|((with_reducible refine C4.out.mono ?_);intro e' w5 hp;rcases hr:wPuts [dDer 1,a, [41]] l4 with _|l5;(· rw [hr] at hp;obtain ⟨rfl,hf⟩:=hp;obtain rfl:=step_none HR4.out hr;exact ⟨rfl,rfl,S4.out.fr.trans hf⟩);rw [hr] at hp;obtain ⟨rfl,h1⟩:=hp;have S5:=hid (S4.out.next h1);have HR5:=hid (step_some HR4.out hr);have HX5:=hid (h1.fr.keep _ _ _ _ HX4.out HNE.out (by decide));clear d0 d1 d2 d3 d4 d5 d6 d7 d8 df dl;obtain ⟨⟨d0,d1,d2,d3,d4,d5,d6,d7,d8⟩,df,dl⟩:=cells9 HX5.out;clear hr h1;have HR6:Hid (wSeq (wPuts [[59]]) some l5=R):=hid (by rw [←HR5.out];rfl);have S6:=S5;have C6:=hid (shPut S6.out [[59]] (by simp) 1 rfl #[.string ⟨#[59]⟩] rfl _ rfl))|((with_reducible refine C6.out.mono ?_);intro e' w7 hp;rcases hr:wPuts [[59]] l5 with _|l7;(· rw [hr] at hp;obtain ⟨rfl,hf⟩:=hp;obtain rfl:=step_none HR6.out hr;exact ⟨rfl,rfl,S6.out.fr.trans hf⟩);rw [hr] at hp;obtain ⟨rfl,h1⟩:=hp;have S7:=hid (S6.out.next h1);have HR7:=hid (step_some HR6.out hr);clear hr h1))))
  obtain rfl:=HR7.out
  go_end0
  exact ⟨rfl,S7.out⟩
 ·have hwb:(wh != -1)=true:=bne_iff_ne.2 hwh
  go_wp2_with (first|(go_at_call 50;(first|((with_reducible refine C3.out.mono ?_);intro e' w4 hp;rcases hr:typW F.xs F.ts F.ts.length t l2 with _|l4;(· rw [hr] at hp;obtain ⟨rfl,hf⟩:=hp;obtain rfl:=step_none HR3.out hr;exact ⟨rfl,rfl,S3.out.fr.trans hf⟩);rw [hr] at hp;obtain ⟨rfl,h1⟩:=hp;have S4:=hid (S3.out.next h1);have HR4:=hid (step_some HR3.out hr);have HX4:=hid (h1.fr.keep _ _ _ _ HX3.out HNE.out (by decide));clear d0 d1 d2 d3 d4 d5 d6 d7 d8 df dl;obtain ⟨⟨d0,d1,d2,d3,d4,d5,d6,d7,d8⟩,df,dl⟩:=cells9 HX4.out;clear hr h1;have C4:=hid (shPut S4.out [dDer 1,a, [41]] (by simp) 3 rfl #[.string ⟨#[32,61,32,115,105,122,101,111,102,40]⟩, .string (bs a), .string ⟨#[41]⟩] rfl _ rfl))))|(go_at_call 88;(first|((with_reducible refine C4.out.mono ?_);intro e' w5 hp;rcases hr:wPuts [dDer 1,a, [41]] l4 with _|l5;(· rw [hr] at hp;obtain ⟨rfl,hf⟩:=hp;obtain rfl:=step_none HR4.out hr;exact ⟨rfl,rfl,S4.out.fr.trans hf⟩);rw [hr] at hp;obtain ⟨rfl,h1⟩:=hp;have S5:=hid (S4.out.next h1);have HR5:=hid (step_some HR4.out hr);have HX5:=hid (h1.fr.keep _ _ _ _ HX4.out HNE.out (by decide));clear d0 d1 d2 d3 d4 d5 d6 d7 d8 df dl;obtain ⟨⟨d0,d1,d2,d3,d4,d5,d6,d7,d8⟩,df,dl⟩:=cells9 HX5.out;clear hr h1;have HR6:Hid (wSeq (wPuts [dWhere]) (wSeq (exprW F.xs F.xs.length wh) (wSeq (wPuts [[59]]) some)) l5=R):=hid (by rw [←HR5.out];unfold whW;rw [if_pos hwh,wSeq_assoc]);have S6:=S5;have HX6:=HX5;have C6:=hid (shPut S6.out [dWhere] (by simp) 1 rfl #[.string ⟨#[32,119,104,101,114,101,32]⟩] rfl _ rfl))|((with_reducible refine C6.out.mono ?_);intro e' w7 hp;rcases hr:wPuts [dWhere] l5 with _|l7;(· rw [hr] at hp;obtain ⟨rfl,hf⟩:=hp;obtain rfl:=step_none HR6.out hr;exact ⟨rfl,rfl,S6.out.fr.trans hf⟩);rw [hr] at hp;obtain ⟨rfl,h1⟩:=hp;have S7:=hid (S6.out.next h1);have HR7:=hid (step_some HR6.out hr);have HX7:=hid (h1.fr.keep _ _ _ _ HX6.out HNE.out (by decide));clear d0 d1 d2 d3 d4 d5 d6 d7 d8 df dl;obtain ⟨⟨d0,d1,d2,d3,d4,d5,d6,d7,d8⟩,df,dl⟩:=cells9 HX7.out;clear hr h1))))
  obtain ⟨q,⟨ax,cx,q3⟩, -⟩:=SW.xs HFF.out S7.out
  go_wp2_with fail
  go_still_tail 11,(by kernel_rfl)
  change wpList _ _ _ _ _ w7.drew
  have S8:=hid (S7.out.keep (Below.refl w7.heap.size w7).drew)
  have HR8:=HR7
  have C8:=hid (HE.out wh _ _ _ S8.out)
  clear q q3
  clear d0 d1 d2 d3 d4 d5 d6 d7 d8 df dl
  go_wp2_with (first|(go_at_call 48;(first|((with_reducible refine C8.out.mono ?_);intro e' w9 hp;rcases hr:exprW F.xs F.xs.length wh l7 with _|l9;(· rw [hr] at hp;obtain ⟨rfl,hf⟩:=hp;obtain rfl:=step_none HR8.out hr;exact ⟨rfl,rfl,S8.out.fr.trans hf⟩);rw [hr] at hp;obtain ⟨rfl,h1⟩:=hp;have S9:=hid (S8.out.next h1);have HR9:=hid (step_some HR8.out hr);clear hr h1;have C9:=hid (shPut S9.out [[59]] (by simp) 1 rfl #[.string ⟨#[59]⟩] rfl _ rfl))))|(go_at_call 88;(first|((with_reducible refine C9.out.mono ?_);intro e' w10 hp;rcases hr:wPuts [[59]] l9 with _|l10;(· rw [hr] at hp;obtain ⟨rfl,hf⟩:=hp;obtain rfl:=step_none HR9.out hr;exact ⟨rfl,rfl,S9.out.fr.trans hf⟩);rw [hr] at hp;obtain ⟨rfl,h1⟩:=hp;have S10:=hid (S9.out.next h1);have HR10:=hid (step_some HR9.out hr);clear hr h1))))
  obtain rfl:=HR10.out
  go_end0
  exact ⟨rfl,S10.out⟩
set_option maxHeartbeats 4000000 in
set_option maxRecDepth 100000 in
theorem shField_2 {W0:World} {g G:Nat} {F:GF} (hF:FileG G W0 F) (hN:NEnv W0) (hG:GfOK F) {W w:World} {l:List UInt8} (h:SW W0 g (fp G) W l w) (s a b:List UInt8) (t wh:Int) (c6 c7 c8:Value):
  Calls Tryz.prog 137 #[.pointer (some ⟨g,0,none⟩), .agg #[.string (bs s), .int .i64 t, .int .i64 2, .string (bs a), .string (bs b), .int .i64 wh,c6,c7,c8]] w (PostW W0 g (fp G) w (fdW F.xs F.ts s t (wPuts [dDer 2,a, [41]]) wh l)):=by
 obtain ⟨R,hR⟩: ∃R,fdW F.xs F.ts s t (wPuts [dDer 2,a, [41]]) wh l=R:=⟨_,rfl⟩
 rw [hR]
 have HR1:Hid (wSeq (wPuts [s, [58,32]]) (wSeq (typW F.xs F.ts F.ts.length t) (wSeq (wPuts [dDer 2,a, [41]]) (wSeq (whW F.xs wh) (wSeq (wPuts [[59]]) some)))) l=R):=hid hR
 have HE:Hid (ExprC W0 g G F F.xs.length):=hid (shExprs hF hN hG F.xs.length (Nat.le_refl _)).1
 have HT:Hid (TypWC W0 g G F F.ts.length):=hid (shTyps hF hN hG F.ts.length (Nat.le_refl _))
 have HNE:=hid h.ne
 have S1:=hid (h.start.alloc (.cells #[.string (bs s), .int .i64 t, .int .i64 2, .string (bs a), .string (bs b), .int .i64 wh,c6,c7,c8] 129))
 have HX1:=hid (heap_alloc_new w (.cells #[.string (bs s), .int .i64 t, .int .i64 2, .string (bs a), .string (bs b), .int .i64 wh,c6,c7,c8] 129))
 have HFF:=hid hF
 have C1:=hid (shPut S1.out [s, [58,32]] (by simp) 2 rfl #[.string (bs s), .string ⟨#[58,32]⟩] rfl (w.heap.size+1) (by simp))
 clear hR hF hN hG h
 obtain ⟨⟨d0,d1,d2,d3,d4,d5,d6,d7,d8⟩,df,dl⟩:=cells9 HX1.out
 go_enter Tryz.func137, Tryz.ntmps137
 go_wp2_with (first|(go_at_call 88;(first|((with_reducible refine C1.out.mono ?_);intro e' w2 hp;rcases hr:wPuts [s, [58,32]] l with _|l2;(· rw [hr] at hp;obtain ⟨rfl,hf⟩:=hp;obtain rfl:=step_none HR1.out hr;exact ⟨rfl,rfl,S1.out.fr.trans hf⟩);rw [hr] at hp;obtain ⟨rfl,h1⟩:=hp;have S2:=hid (S1.out.next h1);have HR2:=hid (step_some HR1.out hr);have HX2:=hid (h1.fr.keep _ _ _ _ HX1.out HNE.out (by decide));clear d0 d1 d2 d3 d4 d5 d6 d7 d8 df dl;obtain ⟨⟨d0,d1,d2,d3,d4,d5,d6,d7,d8⟩,df,dl⟩:=cells9 HX2.out;clear hr h1))))
 obtain ⟨q, -,⟨at2,ct,q4⟩⟩:=SW.xs HFF.out S2.out
 go_wp2_with fail
 go_still_tail 11,(by kernel_rfl)
 change wpList _ _ _ _ _ w2.drew
 have HX3:Hid (w2.drew.heap[w.heap.size]? =some (.cells #[.string (bs s), .int .i64 t, .int .i64 2, .string (bs a), .string (bs b), .int .i64 wh,c6,c7,c8] 129 (0,0))):=hid HX2.out
 have S3:=hid (S2.out.keep (Below.refl w2.heap.size w2).drew)
 have HR3:=HR2
 have C3:=hid (HT.out t _ _ _ S3.out)
 clear q q4
 rcases (show wh= -1∨wh≠ -1 from by omega) with rfl|hwh
 ·go_wp2_with (first|(go_at_call 50;(first|((with_reducible refine C3.out.mono ?_);intro e' w4 hp;rcases hr:typW F.xs F.ts F.ts.length t l2 with _|l4;(· rw [hr] at hp;obtain ⟨rfl,hf⟩:=hp;obtain rfl:=step_none HR3.out hr;exact ⟨rfl,rfl,S3.out.fr.trans hf⟩);rw [hr] at hp;obtain ⟨rfl,h1⟩:=hp;have S4:=hid (S3.out.next h1);have HR4:=hid (step_some HR3.out hr);have HX4:=hid (h1.fr.keep _ _ _ _ HX3.out HNE.out (by decide));clear d0 d1 d2 d3 d4 d5 d6 d7 d8 df dl;obtain ⟨⟨d0,d1,d2,d3,d4,d5,d6,d7,d8⟩,df,dl⟩:=cells9 HX4.out;clear hr h1;have C4:=hid (shPut S4.out [dDer 2,a, [41]] (by simp) 3 rfl #[.string ⟨#[32,61,32,99,111,117,110,116,111,102,40]⟩, .string (bs a), .string ⟨#[41]⟩] rfl _ rfl))))|(go_at_call 88;(first|((with_reducible refine C4.out.mono ?_);intro e' w5 hp;rcases hr:wPuts [dDer 2,a, [41]] l4 with _|l5;(· rw [hr] at hp;obtain ⟨rfl,hf⟩:=hp;obtain rfl:=step_none HR4.out hr;exact ⟨rfl,rfl,S4.out.fr.trans hf⟩);rw [hr] at hp;obtain ⟨rfl,h1⟩:=hp;have S5:=hid (S4.out.next h1);have HR5:=hid (step_some HR4.out hr);have HX5:=hid (h1.fr.keep _ _ _ _ HX4.out HNE.out (by decide));clear d0 d1 d2 d3 d4 d5 d6 d7 d8 df dl;obtain ⟨⟨d0,d1,d2,d3,d4,d5,d6,d7,d8⟩,df,dl⟩:=cells9 HX5.out;clear hr h1;have HR6:Hid (wSeq (wPuts [[59]]) some l5=R):=hid (by rw [←HR5.out];rfl);have S6:=S5;have C6:=hid (shPut S6.out [[59]] (by simp) 1 rfl #[.string ⟨#[59]⟩] rfl _ rfl))|((with_reducible refine C6.out.mono ?_);intro e' w7 hp;rcases hr:wPuts [[59]] l5 with _|l7;(· rw [hr] at hp;obtain ⟨rfl,hf⟩:=hp;obtain rfl:=step_none HR6.out hr;exact ⟨rfl,rfl,S6.out.fr.trans hf⟩);rw [hr] at hp;obtain ⟨rfl,h1⟩:=hp;have S7:=hid (S6.out.next h1);have HR7:=hid (step_some HR6.out hr);clear hr h1))))
  obtain rfl:=HR7.out
  go_end0
  exact ⟨rfl,S7.out⟩
 ·have hwb:(wh != -1)=true:=bne_iff_ne.2 hwh
  go_wp2_with (first|(go_at_call 50;(first|((with_reducible refine C3.out.mono ?_);intro e' w4 hp;rcases hr:typW F.xs F.ts F.ts.length t l2 with _|l4;(· rw [hr] at hp;obtain ⟨rfl,hf⟩:=hp;obtain rfl:=step_none HR3.out hr;exact ⟨rfl,rfl,S3.out.fr.trans hf⟩);rw [hr] at hp;obtain ⟨rfl,h1⟩:=hp;have S4:=hid (S3.out.next h1);have HR4:=hid (step_some HR3.out hr);have HX4:=hid (h1.fr.keep _ _ _ _ HX3.out HNE.out (by decide));clear d0 d1 d2 d3 d4 d5 d6 d7 d8 df dl;obtain ⟨⟨d0,d1,d2,d3,d4,d5,d6,d7,d8⟩,df,dl⟩:=cells9 HX4.out;clear hr h1;have C4:=hid (shPut S4.out [dDer 2,a, [41]] (by simp) 3 rfl #[.string ⟨#[32,61,32,99,111,117,110,116,111,102,40]⟩, .string (bs a), .string ⟨#[41]⟩] rfl _ rfl))))|(go_at_call 88;(first|((with_reducible refine C4.out.mono ?_);intro e' w5 hp;rcases hr:wPuts [dDer 2,a, [41]] l4 with _|l5;(· rw [hr] at hp;obtain ⟨rfl,hf⟩:=hp;obtain rfl:=step_none HR4.out hr;exact ⟨rfl,rfl,S4.out.fr.trans hf⟩);rw [hr] at hp;obtain ⟨rfl,h1⟩:=hp;have S5:=hid (S4.out.next h1);have HR5:=hid (step_some HR4.out hr);have HX5:=hid (h1.fr.keep _ _ _ _ HX4.out HNE.out (by decide));clear d0 d1 d2 d3 d4 d5 d6 d7 d8 df dl;obtain ⟨⟨d0,d1,d2,d3,d4,d5,d6,d7,d8⟩,df,dl⟩:=cells9 HX5.out;clear hr h1;have HR6:Hid (wSeq (wPuts [dWhere]) (wSeq (exprW F.xs F.xs.length wh) (wSeq (wPuts [[59]]) some)) l5=R):=hid (by rw [←HR5.out];unfold whW;rw [if_pos hwh,wSeq_assoc]);have S6:=S5;have HX6:=HX5;have C6:=hid (shPut S6.out [dWhere] (by simp) 1 rfl #[.string ⟨#[32,119,104,101,114,101,32]⟩] rfl _ rfl))|((with_reducible refine C6.out.mono ?_);intro e' w7 hp;rcases hr:wPuts [dWhere] l5 with _|l7;(· rw [hr] at hp;obtain ⟨rfl,hf⟩:=hp;obtain rfl:=step_none HR6.out hr;exact ⟨rfl,rfl,S6.out.fr.trans hf⟩);rw [hr] at hp;obtain ⟨rfl,h1⟩:=hp;have S7:=hid (S6.out.next h1);have HR7:=hid (step_some HR6.out hr);have HX7:=hid (h1.fr.keep _ _ _ _ HX6.out HNE.out (by decide));clear d0 d1 d2 d3 d4 d5 d6 d7 d8 df dl;obtain ⟨⟨d0,d1,d2,d3,d4,d5,d6,d7,d8⟩,df,dl⟩:=cells9 HX7.out;clear hr h1))))
  obtain ⟨q,⟨ax,cx,q3⟩, -⟩:=SW.xs HFF.out S7.out
  go_wp2_with fail
  go_still_tail 11,(by kernel_rfl)
  change wpList _ _ _ _ _ w7.drew
  have S8:=hid (S7.out.keep (Below.refl w7.heap.size w7).drew)
  have HR8:=HR7
  have C8:=hid (HE.out wh _ _ _ S8.out)
  clear q q3
  clear d0 d1 d2 d3 d4 d5 d6 d7 d8 df dl
  go_wp2_with (first|(go_at_call 48;(first|((with_reducible refine C8.out.mono ?_);intro e' w9 hp;rcases hr:exprW F.xs F.xs.length wh l7 with _|l9;(· rw [hr] at hp;obtain ⟨rfl,hf⟩:=hp;obtain rfl:=step_none HR8.out hr;exact ⟨rfl,rfl,S8.out.fr.trans hf⟩);rw [hr] at hp;obtain ⟨rfl,h1⟩:=hp;have S9:=hid (S8.out.next h1);have HR9:=hid (step_some HR8.out hr);clear hr h1;have C9:=hid (shPut S9.out [[59]] (by simp) 1 rfl #[.string ⟨#[59]⟩] rfl _ rfl))))|(go_at_call 88;(first|((with_reducible refine C9.out.mono ?_);intro e' w10 hp;rcases hr:wPuts [[59]] l9 with _|l10;(· rw [hr] at hp;obtain ⟨rfl,hf⟩:=hp;obtain rfl:=step_none HR9.out hr;exact ⟨rfl,rfl,S9.out.fr.trans hf⟩);rw [hr] at hp;obtain ⟨rfl,h1⟩:=hp;have S10:=hid (S9.out.next h1);have HR10:=hid (step_some HR9.out hr);clear hr h1))))
  obtain rfl:=HR10.out
  go_end0
  exact ⟨rfl,S10.out⟩
set_option maxHeartbeats 4000000 in
set_option maxRecDepth 100000 in
theorem shField_3 {W0:World} {g G:Nat} {F:GF} (hF:FileG G W0 F) (hN:NEnv W0) (hG:GfOK F) {W w:World} {l:List UInt8} (h:SW W0 g (fp G) W l w) (s a b:List UInt8) (t wh:Int) (c6 c7 c8:Value):
  Calls Tryz.prog 137 #[.pointer (some ⟨g,0,none⟩), .agg #[.string (bs s), .int .i64 t, .int .i64 3, .string (bs a), .string (bs b), .int .i64 wh,c6,c7,c8]] w (PostW W0 g (fp G) w (fdW F.xs F.ts s t (wPuts [dDer 3,a, [46,46],b, [41]]) wh l)):=by
 obtain ⟨R,hR⟩: ∃R,fdW F.xs F.ts s t (wPuts [dDer 3,a, [46,46],b, [41]]) wh l=R:=⟨_,rfl⟩
 rw [hR]
 have HR1:Hid (wSeq (wPuts [s, [58,32]]) (wSeq (typW F.xs F.ts F.ts.length t) (wSeq (wPuts [dDer 3,a, [46,46],b, [41]]) (wSeq (whW F.xs wh) (wSeq (wPuts [[59]]) some)))) l=R):=hid hR
 have HE:Hid (ExprC W0 g G F F.xs.length):=hid (shExprs hF hN hG F.xs.length (Nat.le_refl _)).1
 have HT:Hid (TypWC W0 g G F F.ts.length):=hid (shTyps hF hN hG F.ts.length (Nat.le_refl _))
 have HNE:=hid h.ne
 have S1:=hid (h.start.alloc (.cells #[.string (bs s), .int .i64 t, .int .i64 3, .string (bs a), .string (bs b), .int .i64 wh,c6,c7,c8] 129))
 have HX1:=hid (heap_alloc_new w (.cells #[.string (bs s), .int .i64 t, .int .i64 3, .string (bs a), .string (bs b), .int .i64 wh,c6,c7,c8] 129))
 have HFF:=hid hF
 have C1:=hid (shPut S1.out [s, [58,32]] (by simp) 2 rfl #[.string (bs s), .string ⟨#[58,32]⟩] rfl (w.heap.size+1) (by simp))
 clear hR hF hN hG h
 obtain ⟨⟨d0,d1,d2,d3,d4,d5,d6,d7,d8⟩,df,dl⟩:=cells9 HX1.out
 go_enter Tryz.func137, Tryz.ntmps137
 go_wp2_with (first|(go_at_call 88;(first|((with_reducible refine C1.out.mono ?_);intro e' w2 hp;rcases hr:wPuts [s, [58,32]] l with _|l2;(· rw [hr] at hp;obtain ⟨rfl,hf⟩:=hp;obtain rfl:=step_none HR1.out hr;exact ⟨rfl,rfl,S1.out.fr.trans hf⟩);rw [hr] at hp;obtain ⟨rfl,h1⟩:=hp;have S2:=hid (S1.out.next h1);have HR2:=hid (step_some HR1.out hr);have HX2:=hid (h1.fr.keep _ _ _ _ HX1.out HNE.out (by decide));clear d0 d1 d2 d3 d4 d5 d6 d7 d8 df dl;obtain ⟨⟨d0,d1,d2,d3,d4,d5,d6,d7,d8⟩,df,dl⟩:=cells9 HX2.out;clear hr h1))))
 obtain ⟨q, -,⟨at2,ct,q4⟩⟩:=SW.xs HFF.out S2.out
 go_wp2_with fail
 go_still_tail 11,(by kernel_rfl)
 change wpList _ _ _ _ _ w2.drew
 have HX3:Hid (w2.drew.heap[w.heap.size]? =some (.cells #[.string (bs s), .int .i64 t, .int .i64 3, .string (bs a), .string (bs b), .int .i64 wh,c6,c7,c8] 129 (0,0))):=hid HX2.out
 have S3:=hid (S2.out.keep (Below.refl w2.heap.size w2).drew)
 have HR3:=HR2
 have C3:=hid (HT.out t _ _ _ S3.out)
 clear q q4
 rcases (show wh= -1∨wh≠ -1 from by omega) with rfl|hwh
 ·go_wp2_with (first|(go_at_call 50;(first|((with_reducible refine C3.out.mono ?_);intro e' w4 hp;rcases hr:typW F.xs F.ts F.ts.length t l2 with _|l4;(· rw [hr] at hp;obtain ⟨rfl,hf⟩:=hp;obtain rfl:=step_none HR3.out hr;exact ⟨rfl,rfl,S3.out.fr.trans hf⟩);rw [hr] at hp;obtain ⟨rfl,h1⟩:=hp;have S4:=hid (S3.out.next h1);have HR4:=hid (step_some HR3.out hr);have HX4:=hid (h1.fr.keep _ _ _ _ HX3.out HNE.out (by decide));clear d0 d1 d2 d3 d4 d5 d6 d7 d8 df dl;obtain ⟨⟨d0,d1,d2,d3,d4,d5,d6,d7,d8⟩,df,dl⟩:=cells9 HX4.out;clear hr h1;have C4:=hid (shPut S4.out [dDer 3,a, [46,46],b, [41]] (by simp) 5 rfl #[.string ⟨#[32,61,32,99,114,99,51,50,40]⟩, .string (bs a), .string ⟨#[46,46]⟩, .string (bs b), .string ⟨#[41]⟩] rfl _ rfl))))|(go_at_call 88;(first|((with_reducible refine C4.out.mono ?_);intro e' w5 hp;rcases hr:wPuts [dDer 3,a, [46,46],b, [41]] l4 with _|l5;(· rw [hr] at hp;obtain ⟨rfl,hf⟩:=hp;obtain rfl:=step_none HR4.out hr;exact ⟨rfl,rfl,S4.out.fr.trans hf⟩);rw [hr] at hp;obtain ⟨rfl,h1⟩:=hp;have S5:=hid (S4.out.next h1);have HR5:=hid (step_some HR4.out hr);have HX5:=hid (h1.fr.keep _ _ _ _ HX4.out HNE.out (by decide));clear d0 d1 d2 d3 d4 d5 d6 d7 d8 df dl;obtain ⟨⟨d0,d1,d2,d3,d4,d5,d6,d7,d8⟩,df,dl⟩:=cells9 HX5.out;clear hr h1;have HR6:Hid (wSeq (wPuts [[59]]) some l5=R):=hid (by rw [←HR5.out];rfl);have S6:=S5;have C6:=hid (shPut S6.out [[59]] (by simp) 1 rfl #[.string ⟨#[59]⟩] rfl _ rfl))|((with_reducible refine C6.out.mono ?_);intro e' w7 hp;rcases hr:wPuts [[59]] l5 with _|l7;(· rw [hr] at hp;obtain ⟨rfl,hf⟩:=hp;obtain rfl:=step_none HR6.out hr;exact ⟨rfl,rfl,S6.out.fr.trans hf⟩);rw [hr] at hp;obtain ⟨rfl,h1⟩:=hp;have S7:=hid (S6.out.next h1);have HR7:=hid (step_some HR6.out hr);clear hr h1))))
  obtain rfl:=HR7.out
  go_end0
  exact ⟨rfl,S7.out⟩
 ·have hwb:(wh != -1)=true:=bne_iff_ne.2 hwh
  go_wp2_with (first|(go_at_call 50;(first|((with_reducible refine C3.out.mono ?_);intro e' w4 hp;rcases hr:typW F.xs F.ts F.ts.length t l2 with _|l4;(· rw [hr] at hp;obtain ⟨rfl,hf⟩:=hp;obtain rfl:=step_none HR3.out hr;exact ⟨rfl,rfl,S3.out.fr.trans hf⟩);rw [hr] at hp;obtain ⟨rfl,h1⟩:=hp;have S4:=hid (S3.out.next h1);have HR4:=hid (step_some HR3.out hr);have HX4:=hid (h1.fr.keep _ _ _ _ HX3.out HNE.out (by decide));clear d0 d1 d2 d3 d4 d5 d6 d7 d8 df dl;obtain ⟨⟨d0,d1,d2,d3,d4,d5,d6,d7,d8⟩,df,dl⟩:=cells9 HX4.out;clear hr h1;have C4:=hid (shPut S4.out [dDer 3,a, [46,46],b, [41]] (by simp) 5 rfl #[.string ⟨#[32,61,32,99,114,99,51,50,40]⟩, .string (bs a), .string ⟨#[46,46]⟩, .string (bs b), .string ⟨#[41]⟩] rfl _ rfl))))|(go_at_call 88;(first|((with_reducible refine C4.out.mono ?_);intro e' w5 hp;rcases hr:wPuts [dDer 3,a, [46,46],b, [41]] l4 with _|l5;(· rw [hr] at hp;obtain ⟨rfl,hf⟩:=hp;obtain rfl:=step_none HR4.out hr;exact ⟨rfl,rfl,S4.out.fr.trans hf⟩);rw [hr] at hp;obtain ⟨rfl,h1⟩:=hp;have S5:=hid (S4.out.next h1);have HR5:=hid (step_some HR4.out hr);have HX5:=hid (h1.fr.keep _ _ _ _ HX4.out HNE.out (by decide));clear d0 d1 d2 d3 d4 d5 d6 d7 d8 df dl;obtain ⟨⟨d0,d1,d2,d3,d4,d5,d6,d7,d8⟩,df,dl⟩:=cells9 HX5.out;clear hr h1;have HR6:Hid (wSeq (wPuts [dWhere]) (wSeq (exprW F.xs F.xs.length wh) (wSeq (wPuts [[59]]) some)) l5=R):=hid (by rw [←HR5.out];unfold whW;rw [if_pos hwh,wSeq_assoc]);have S6:=S5;have HX6:=HX5;have C6:=hid (shPut S6.out [dWhere] (by simp) 1 rfl #[.string ⟨#[32,119,104,101,114,101,32]⟩] rfl _ rfl))|((with_reducible refine C6.out.mono ?_);intro e' w7 hp;rcases hr:wPuts [dWhere] l5 with _|l7;(· rw [hr] at hp;obtain ⟨rfl,hf⟩:=hp;obtain rfl:=step_none HR6.out hr;exact ⟨rfl,rfl,S6.out.fr.trans hf⟩);rw [hr] at hp;obtain ⟨rfl,h1⟩:=hp;have S7:=hid (S6.out.next h1);have HR7:=hid (step_some HR6.out hr);have HX7:=hid (h1.fr.keep _ _ _ _ HX6.out HNE.out (by decide));clear d0 d1 d2 d3 d4 d5 d6 d7 d8 df dl;obtain ⟨⟨d0,d1,d2,d3,d4,d5,d6,d7,d8⟩,df,dl⟩:=cells9 HX7.out;clear hr h1))))
  obtain ⟨q,⟨ax,cx,q3⟩, -⟩:=SW.xs HFF.out S7.out
  go_wp2_with fail
  go_still_tail 11,(by kernel_rfl)
  change wpList _ _ _ _ _ w7.drew
  have S8:=hid (S7.out.keep (Below.refl w7.heap.size w7).drew)
  have HR8:=HR7
  have C8:=hid (HE.out wh _ _ _ S8.out)
  clear q q3
  clear d0 d1 d2 d3 d4 d5 d6 d7 d8 df dl
  go_wp2_with (first|(go_at_call 48;(first|((with_reducible refine C8.out.mono ?_);intro e' w9 hp;rcases hr:exprW F.xs F.xs.length wh l7 with _|l9;(· rw [hr] at hp;obtain ⟨rfl,hf⟩:=hp;obtain rfl:=step_none HR8.out hr;exact ⟨rfl,rfl,S8.out.fr.trans hf⟩);rw [hr] at hp;obtain ⟨rfl,h1⟩:=hp;have S9:=hid (S8.out.next h1);have HR9:=hid (step_some HR8.out hr);clear hr h1;have C9:=hid (shPut S9.out [[59]] (by simp) 1 rfl #[.string ⟨#[59]⟩] rfl _ rfl))))|(go_at_call 88;(first|((with_reducible refine C9.out.mono ?_);intro e' w10 hp;rcases hr:wPuts [[59]] l9 with _|l10;(· rw [hr] at hp;obtain ⟨rfl,hf⟩:=hp;obtain rfl:=step_none HR9.out hr;exact ⟨rfl,rfl,S9.out.fr.trans hf⟩);rw [hr] at hp;obtain ⟨rfl,h1⟩:=hp;have S10:=hid (S9.out.next h1);have HR10:=hid (step_some HR9.out hr);clear hr h1))))
  obtain rfl:=HR10.out
  go_end0
  exact ⟨rfl,S10.out⟩
set_option maxHeartbeats 4000000 in
set_option maxRecDepth 100000 in
theorem shField_4 {W0:World} {g G:Nat} {F:GF} (hF:FileG G W0 F) (hN:NEnv W0) (hG:GfOK F) {W w:World} {l:List UInt8} (h:SW W0 g (fp G) W l w) (s a b:List UInt8) (t wh:Int) (c6 c7 c8:Value):
  Calls Tryz.prog 137 #[.pointer (some ⟨g,0,none⟩), .agg #[.string (bs s), .int .i64 t, .int .i64 4, .string (bs a), .string (bs b), .int .i64 wh,c6,c7,c8]] w (PostW W0 g (fp G) w (fdW F.xs F.ts s t (wPuts [dDer 4,a, [46,46],b, [41]]) wh l)):=by
 obtain ⟨R,hR⟩: ∃R,fdW F.xs F.ts s t (wPuts [dDer 4,a, [46,46],b, [41]]) wh l=R:=⟨_,rfl⟩
 rw [hR]
 have HR1:Hid (wSeq (wPuts [s, [58,32]]) (wSeq (typW F.xs F.ts F.ts.length t) (wSeq (wPuts [dDer 4,a, [46,46],b, [41]]) (wSeq (whW F.xs wh) (wSeq (wPuts [[59]]) some)))) l=R):=hid hR
 have HE:Hid (ExprC W0 g G F F.xs.length):=hid (shExprs hF hN hG F.xs.length (Nat.le_refl _)).1
 have HT:Hid (TypWC W0 g G F F.ts.length):=hid (shTyps hF hN hG F.ts.length (Nat.le_refl _))
 have HNE:=hid h.ne
 have S1:=hid (h.start.alloc (.cells #[.string (bs s), .int .i64 t, .int .i64 4, .string (bs a), .string (bs b), .int .i64 wh,c6,c7,c8] 129))
 have HX1:=hid (heap_alloc_new w (.cells #[.string (bs s), .int .i64 t, .int .i64 4, .string (bs a), .string (bs b), .int .i64 wh,c6,c7,c8] 129))
 have HFF:=hid hF
 have C1:=hid (shPut S1.out [s, [58,32]] (by simp) 2 rfl #[.string (bs s), .string ⟨#[58,32]⟩] rfl (w.heap.size+1) (by simp))
 clear hR hF hN hG h
 obtain ⟨⟨d0,d1,d2,d3,d4,d5,d6,d7,d8⟩,df,dl⟩:=cells9 HX1.out
 go_enter Tryz.func137, Tryz.ntmps137
 go_wp2_with (first|(go_at_call 88;(first|((with_reducible refine C1.out.mono ?_);intro e' w2 hp;rcases hr:wPuts [s, [58,32]] l with _|l2;(· rw [hr] at hp;obtain ⟨rfl,hf⟩:=hp;obtain rfl:=step_none HR1.out hr;exact ⟨rfl,rfl,S1.out.fr.trans hf⟩);rw [hr] at hp;obtain ⟨rfl,h1⟩:=hp;have S2:=hid (S1.out.next h1);have HR2:=hid (step_some HR1.out hr);have HX2:=hid (h1.fr.keep _ _ _ _ HX1.out HNE.out (by decide));clear d0 d1 d2 d3 d4 d5 d6 d7 d8 df dl;obtain ⟨⟨d0,d1,d2,d3,d4,d5,d6,d7,d8⟩,df,dl⟩:=cells9 HX2.out;clear hr h1))))
 obtain ⟨q, -,⟨at2,ct,q4⟩⟩:=SW.xs HFF.out S2.out
 go_wp2_with fail
 go_still_tail 11,(by kernel_rfl)
 change wpList _ _ _ _ _ w2.drew
 have HX3:Hid (w2.drew.heap[w.heap.size]? =some (.cells #[.string (bs s), .int .i64 t, .int .i64 4, .string (bs a), .string (bs b), .int .i64 wh,c6,c7,c8] 129 (0,0))):=hid HX2.out
 have S3:=hid (S2.out.keep (Below.refl w2.heap.size w2).drew)
 have HR3:=HR2
 have C3:=hid (HT.out t _ _ _ S3.out)
 clear q q4
 rcases (show wh= -1∨wh≠ -1 from by omega) with rfl|hwh
 ·go_wp2_with (first|(go_at_call 50;(first|((with_reducible refine C3.out.mono ?_);intro e' w4 hp;rcases hr:typW F.xs F.ts F.ts.length t l2 with _|l4;(· rw [hr] at hp;obtain ⟨rfl,hf⟩:=hp;obtain rfl:=step_none HR3.out hr;exact ⟨rfl,rfl,S3.out.fr.trans hf⟩);rw [hr] at hp;obtain ⟨rfl,h1⟩:=hp;have S4:=hid (S3.out.next h1);have HR4:=hid (step_some HR3.out hr);have HX4:=hid (h1.fr.keep _ _ _ _ HX3.out HNE.out (by decide));clear d0 d1 d2 d3 d4 d5 d6 d7 d8 df dl;obtain ⟨⟨d0,d1,d2,d3,d4,d5,d6,d7,d8⟩,df,dl⟩:=cells9 HX4.out;clear hr h1;have C4:=hid (shPut S4.out [dDer 4,a, [46,46],b, [41]] (by simp) 5 rfl #[.string ⟨#[32,61,32,97,100,108,101,114,51,50,40]⟩, .string (bs a), .string ⟨#[46,46]⟩, .string (bs b), .string ⟨#[41]⟩] rfl _ rfl))))|(go_at_call 88;(first|((with_reducible refine C4.out.mono ?_);intro e' w5 hp;rcases hr:wPuts [dDer 4,a, [46,46],b, [41]] l4 with _|l5;(· rw [hr] at hp;obtain ⟨rfl,hf⟩:=hp;obtain rfl:=step_none HR4.out hr;exact ⟨rfl,rfl,S4.out.fr.trans hf⟩);rw [hr] at hp;obtain ⟨rfl,h1⟩:=hp;have S5:=hid (S4.out.next h1);have HR5:=hid (step_some HR4.out hr);have HX5:=hid (h1.fr.keep _ _ _ _ HX4.out HNE.out (by decide));clear d0 d1 d2 d3 d4 d5 d6 d7 d8 df dl;obtain ⟨⟨d0,d1,d2,d3,d4,d5,d6,d7,d8⟩,df,dl⟩:=cells9 HX5.out;clear hr h1;have HR6:Hid (wSeq (wPuts [[59]]) some l5=R):=hid (by rw [←HR5.out];rfl);have S6:=S5;have C6:=hid (shPut S6.out [[59]] (by simp) 1 rfl #[.string ⟨#[59]⟩] rfl _ rfl))|((with_reducible refine C6.out.mono ?_);intro e' w7 hp;rcases hr:wPuts [[59]] l5 with _|l7;(· rw [hr] at hp;obtain ⟨rfl,hf⟩:=hp;obtain rfl:=step_none HR6.out hr;exact ⟨rfl,rfl,S6.out.fr.trans hf⟩);rw [hr] at hp;obtain ⟨rfl,h1⟩:=hp;have S7:=hid (S6.out.next h1);have HR7:=hid (step_some HR6.out hr);clear hr h1))))
  obtain rfl:=HR7.out
  go_end0
  exact ⟨rfl,S7.out⟩
 ·have hwb:(wh != -1)=true:=bne_iff_ne.2 hwh
  go_wp2_with (first|(go_at_call 50;(first|((with_reducible refine C3.out.mono ?_);intro e' w4 hp;rcases hr:typW F.xs F.ts F.ts.length t l2 with _|l4;(· rw [hr] at hp;obtain ⟨rfl,hf⟩:=hp;obtain rfl:=step_none HR3.out hr;exact ⟨rfl,rfl,S3.out.fr.trans hf⟩);rw [hr] at hp;obtain ⟨rfl,h1⟩:=hp;have S4:=hid (S3.out.next h1);have HR4:=hid (step_some HR3.out hr);have HX4:=hid (h1.fr.keep _ _ _ _ HX3.out HNE.out (by decide));clear d0 d1 d2 d3 d4 d5 d6 d7 d8 df dl;obtain ⟨⟨d0,d1,d2,d3,d4,d5,d6,d7,d8⟩,df,dl⟩:=cells9 HX4.out;clear hr h1;have C4:=hid (shPut S4.out [dDer 4,a, [46,46],b, [41]] (by simp) 5 rfl #[.string ⟨#[32,61,32,97,100,108,101,114,51,50,40]⟩, .string (bs a), .string ⟨#[46,46]⟩, .string (bs b), .string ⟨#[41]⟩] rfl _ rfl))))|(go_at_call 88;(first|((with_reducible refine C4.out.mono ?_);intro e' w5 hp;rcases hr:wPuts [dDer 4,a, [46,46],b, [41]] l4 with _|l5;(· rw [hr] at hp;obtain ⟨rfl,hf⟩:=hp;obtain rfl:=step_none HR4.out hr;exact ⟨rfl,rfl,S4.out.fr.trans hf⟩);rw [hr] at hp;obtain ⟨rfl,h1⟩:=hp;have S5:=hid (S4.out.next h1);have HR5:=hid (step_some HR4.out hr);have HX5:=hid (h1.fr.keep _ _ _ _ HX4.out HNE.out (by decide));clear d0 d1 d2 d3 d4 d5 d6 d7 d8 df dl;obtain ⟨⟨d0,d1,d2,d3,d4,d5,d6,d7,d8⟩,df,dl⟩:=cells9 HX5.out;clear hr h1;have HR6:Hid (wSeq (wPuts [dWhere]) (wSeq (exprW F.xs F.xs.length wh) (wSeq (wPuts [[59]]) some)) l5=R):=hid (by rw [←HR5.out];unfold whW;rw [if_pos hwh,wSeq_assoc]);have S6:=S5;have HX6:=HX5;have C6:=hid (shPut S6.out [dWhere] (by simp) 1 rfl #[.string ⟨#[32,119,104,101,114,101,32]⟩] rfl _ rfl))|((with_reducible refine C6.out.mono ?_);intro e' w7 hp;rcases hr:wPuts [dWhere] l5 with _|l7;(· rw [hr] at hp;obtain ⟨rfl,hf⟩:=hp;obtain rfl:=step_none HR6.out hr;exact ⟨rfl,rfl,S6.out.fr.trans hf⟩);rw [hr] at hp;obtain ⟨rfl,h1⟩:=hp;have S7:=hid (S6.out.next h1);have HR7:=hid (step_some HR6.out hr);have HX7:=hid (h1.fr.keep _ _ _ _ HX6.out HNE.out (by decide));clear d0 d1 d2 d3 d4 d5 d6 d7 d8 df dl;obtain ⟨⟨d0,d1,d2,d3,d4,d5,d6,d7,d8⟩,df,dl⟩:=cells9 HX7.out;clear hr h1))))
  obtain ⟨q,⟨ax,cx,q3⟩, -⟩:=SW.xs HFF.out S7.out
  go_wp2_with fail
  go_still_tail 11,(by kernel_rfl)
  change wpList _ _ _ _ _ w7.drew
  have S8:=hid (S7.out.keep (Below.refl w7.heap.size w7).drew)
  have HR8:=HR7
  have C8:=hid (HE.out wh _ _ _ S8.out)
  clear q q3
  clear d0 d1 d2 d3 d4 d5 d6 d7 d8 df dl
  go_wp2_with (first|(go_at_call 48;(first|((with_reducible refine C8.out.mono ?_);intro e' w9 hp;rcases hr:exprW F.xs F.xs.length wh l7 with _|l9;(· rw [hr] at hp;obtain ⟨rfl,hf⟩:=hp;obtain rfl:=step_none HR8.out hr;exact ⟨rfl,rfl,S8.out.fr.trans hf⟩);rw [hr] at hp;obtain ⟨rfl,h1⟩:=hp;have S9:=hid (S8.out.next h1);have HR9:=hid (step_some HR8.out hr);clear hr h1;have C9:=hid (shPut S9.out [[59]] (by simp) 1 rfl #[.string ⟨#[59]⟩] rfl _ rfl))))|(go_at_call 88;(first|((with_reducible refine C9.out.mono ?_);intro e' w10 hp;rcases hr:wPuts [[59]] l9 with _|l10;(· rw [hr] at hp;obtain ⟨rfl,hf⟩:=hp;obtain rfl:=step_none HR9.out hr;exact ⟨rfl,rfl,S9.out.fr.trans hf⟩);rw [hr] at hp;obtain ⟨rfl,h1⟩:=hp;have S10:=hid (S9.out.next h1);have HR10:=hid (step_some HR9.out hr);clear hr h1))))
  obtain rfl:=HR10.out
  go_end0
  exact ⟨rfl,S10.out⟩
set_option maxHeartbeats 4000000 in
set_option maxRecDepth 100000 in
theorem shField_kk {W0:World} {g G:Nat} {F:GF} (hF:FileG G W0 F) (hN:NEnv W0) (hG:GfOK F) {W w:World} {l:List UInt8} (h:SW W0 g (fp G) W l w) (kk:Int) (s a b:List UInt8) (t wh:Int) (c6 c7 c8:Value) (hk:kk≠0∧kk≠1∧kk≠2∧kk≠3∧kk≠4):
  Calls Tryz.prog 137 #[.pointer (some ⟨g,0,none⟩), .agg #[.string (bs s), .int .i64 t, .int .i64 kk, .string (bs a), .string (bs b), .int .i64 wh,c6,c7,c8]] w (PostW W0 g (fp G) w (fdW F.xs F.ts s t (wNo) wh l)):=by
 obtain ⟨R,hR⟩: ∃R,fdW F.xs F.ts s t (wNo) wh l=R:=⟨_,rfl⟩
 rw [hR]
 have HR1:Hid (wSeq (wPuts [s, [58,32]]) (wSeq (typW F.xs F.ts F.ts.length t) (wSeq (wNo) (wSeq (whW F.xs wh) (wSeq (wPuts [[59]]) some)))) l=R):=hid hR
 have HE:Hid (ExprC W0 g G F F.xs.length):=hid (shExprs hF hN hG F.xs.length (Nat.le_refl _)).1
 have HT:Hid (TypWC W0 g G F F.ts.length):=hid (shTyps hF hN hG F.ts.length (Nat.le_refl _))
 have HNE:=hid h.ne
 have S1:=hid (h.start.alloc (.cells #[.string (bs s), .int .i64 t, .int .i64 kk, .string (bs a), .string (bs b), .int .i64 wh,c6,c7,c8] 129))
 have HX1:=hid (heap_alloc_new w (.cells #[.string (bs s), .int .i64 t, .int .i64 kk, .string (bs a), .string (bs b), .int .i64 wh,c6,c7,c8] 129))
 have HFF:=hid hF
 have C1:=hid (shPut S1.out [s, [58,32]] (by simp) 2 rfl #[.string (bs s), .string ⟨#[58,32]⟩] rfl (w.heap.size+1) (by simp))
 have e0:(kk==0)=false:=beq_eq_false_iff_ne.2 hk.1
 have e1:(kk==1)=false:=beq_eq_false_iff_ne.2 hk.2.1
 have e2:(kk==2)=false:=beq_eq_false_iff_ne.2 hk.2.2.1
 have e3:(kk==3)=false:=beq_eq_false_iff_ne.2 hk.2.2.2.1
 have e4:(kk==4)=false:=beq_eq_false_iff_ne.2 hk.2.2.2.2
 clear hk
 clear hR hF hN hG h
 obtain ⟨⟨d0,d1,d2,d3,d4,d5,d6,d7,d8⟩,df,dl⟩:=cells9 HX1.out
 go_enter Tryz.func137, Tryz.ntmps137
 go_wp2_with (first|(go_at_call 88;(first|((with_reducible refine C1.out.mono ?_);intro e' w2 hp;rcases hr:wPuts [s, [58,32]] l with _|l2;(· rw [hr] at hp;obtain ⟨rfl,hf⟩:=hp;obtain rfl:=step_none HR1.out hr;exact ⟨rfl,rfl,S1.out.fr.trans hf⟩);rw [hr] at hp;obtain ⟨rfl,h1⟩:=hp;have S2:=hid (S1.out.next h1);have HR2:=hid (step_some HR1.out hr);have HX2:=hid (h1.fr.keep _ _ _ _ HX1.out HNE.out (by decide));clear d0 d1 d2 d3 d4 d5 d6 d7 d8 df dl;obtain ⟨⟨d0,d1,d2,d3,d4,d5,d6,d7,d8⟩,df,dl⟩:=cells9 HX2.out;clear hr h1))))
 obtain ⟨q, -,⟨at2,ct,q4⟩⟩:=SW.xs HFF.out S2.out
 go_wp2_with fail
 go_still_tail 11,(by kernel_rfl)
 change wpList _ _ _ _ _ w2.drew
 have HX3:Hid (w2.drew.heap[w.heap.size]? =some (.cells #[.string (bs s), .int .i64 t, .int .i64 kk, .string (bs a), .string (bs b), .int .i64 wh,c6,c7,c8] 129 (0,0))):=hid HX2.out
 have S3:=hid (S2.out.keep (Below.refl w2.heap.size w2).drew)
 have HR3:=HR2
 have C3:=hid (HT.out t _ _ _ S3.out)
 clear q q4
 go_wp2_with (first|(go_at_call 50;(first|((with_reducible refine C3.out.mono ?_);intro e' w4 hp;rcases hr:typW F.xs F.ts F.ts.length t l2 with _|l4;(· rw [hr] at hp;obtain ⟨rfl,hf⟩:=hp;obtain rfl:=step_none HR3.out hr;exact ⟨rfl,rfl,S3.out.fr.trans hf⟩);rw [hr] at hp;obtain ⟨rfl,h1⟩:=hp;have S4:=hid (S3.out.next h1);have HR4:=hid (step_some HR3.out hr);have HX4:=hid (h1.fr.keep _ _ _ _ HX3.out HNE.out (by decide));clear d0 d1 d2 d3 d4 d5 d6 d7 d8 df dl;obtain ⟨⟨d0,d1,d2,d3,d4,d5,d6,d7,d8⟩,df,dl⟩:=cells9 HX4.out;clear hr h1)))|(go_at_call 87;(first|((with_reducible refine (sexp_no g _).mono ?_);rintro e' w5 ⟨rfl,rfl⟩))))
 have hr:wNo l4=none:=rfl
 obtain rfl:=step_none HR4.out hr
 exact ⟨rfl,rfl,S4.out.fr⟩
theorem shField {W0:World} {g G:Nat} {F:GF} (hF:FileG G W0 F) (hN:NEnv W0) (hG:GfOK F) {W w:World} {l:List UInt8} (h:SW W0 g (fp G) W l w) (x:IM) (c6 c7 c8:Value):
  Calls Tryz.prog 137 #[.pointer (some ⟨g,0,none⟩), .agg #[.string (bs x.s), .int .i64 x.t, .int .i64 (x.der:Int), .string (bs x.a), .string (bs x.b), .int .i64 x.wh,c6,c7,c8]] w (PostW W0 g (fp G) w (fieldW F.xs F.ts x l)):=by
 rw [field_eq8]
 obtain ⟨s,t,der,a,b,wh,z,li,subs⟩:=x
 have hd:derW ⟨s,t,der,a,b,wh,z,li,subs⟩=if der=0 then some else if der=1 then wPuts [dDer 1,a, [41]] else if der=2 then wPuts [dDer 2,a, [41]] else if der=3 then wPuts [dDer 3,a, [46,46],b, [41]] else if der=4 then wPuts [dDer 4,a, [46,46],b, [41]] else wNo:=by
  unfold derW
  by_cases h0:der=0
  ·subst h0;rfl
  by_cases h1:der=1
  ·subst h1;rfl
  by_cases h2:der=2
  ·subst h2;rfl
  by_cases h3:der=3
  ·subst h3;rfl
  by_cases h4:der=4
  ·subst h4;rfl
  simp only [h0,h1,h2,h3,h4,if_false,or_self]
 rw [hd]
 by_cases h0:der=0
 ·subst h0;exact shField_0 hF hN hG h s a b t wh c6 c7 c8
 by_cases h1:der=1
 ·subst h1;exact shField_1 hF hN hG h s a b t wh c6 c7 c8
 by_cases h2:der=2
 ·subst h2;exact shField_2 hF hN hG h s a b t wh c6 c7 c8
 by_cases h3:der=3
 ·subst h3;exact shField_3 hF hN hG h s a b t wh c6 c7 c8
 by_cases h4:der=4
 ·subst h4;exact shField_4 hF hN hG h s a b t wh c6 c7 c8
 rw [if_neg h0,if_neg h1,if_neg h2,if_neg h3,if_neg h4]
 exact shField_kk hF hN hG h (der:Int) s a b t wh c6 c7 c8 ⟨by omega,by omega,by omega,by omega,by omega⟩
end Go.Proofs.YtomimkgaelkaoaaGreatDoor
