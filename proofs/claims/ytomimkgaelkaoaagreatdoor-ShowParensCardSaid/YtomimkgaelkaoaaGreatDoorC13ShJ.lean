/- Layer 8: the printer's brackets and lists. · Layer 8: the printer's lists in parentheses. · Layer 8: the printer's ref. · Layer 8: the printer's choice. -/
import Derived.Test.YtomimkgaelkaoaaGreatDoorC13ShF
import Derived.StillTailTactics
import Derived.BigQuiet
import Derived.Deep.QuietTactic
import Derived.Deep.DeepCutAuto
set_option linter.unusedVariables false
set_option linter.unusedSimpArgs false
namespace Go.Proofs.YtomimkgaelkaoaaGreatDoor
open Go.Lib (hid)
open Go.ChangeShapes Go.WideShapes Go.ChangeAt Go.RowKit
theorem SW.xs {W0:World} {g G:Nat} {F:GF} {W w:World} {l:List UInt8} (hF:FileG G W0 F) (h:SW W0 g (fp G) W l w):w.cell? ⟨g,0,none⟩=some (.pointer (some ⟨G,1,none⟩))∧(∃a c,w.cell? ⟨G,3,none⟩=some (.slice a F.xs.length c))∧(∃a c,w.cell? ⟨G,4,none⟩=some (.slice a F.ts.length c)):=by
 obtain ⟨ac,cc,bs',cs,ax,cx,at',ct, -, -,h3,h4, -, -, -, -,hg⟩:=hF.look
 exact ⟨h.file,⟨ax,cx,(h.base.cell (p:=⟨G,3,none⟩) hg).trans h3⟩,⟨at',ct,(h.base.cell (p:=⟨G,4,none⟩) hg).trans h4⟩⟩
theorem wPuts_two (a b:List UInt8):wPuts [a,b]=wSeq (wPut a) (wPut b):=by
 show wSeq (wPut a) (wSeq (wPut b) some)=_
 rw [wSeq_some]
set_option maxHeartbeats 4000000 in
set_option maxRecDepth 100000 in
theorem shIndex {W0:World} {g G:Nat} {F:GF} (hF:FileG G W0 F) (hN:NEnv W0) (hG:GfOK F) {W w:World} {l:List UInt8} (h:SW W0 g (fp G) W l w) (word:List UInt8) (c0 c1 c2 c3 c4 c6 c7:Value) (e:Int):
  Calls Tryz.prog 95 #[.pointer (some ⟨g,0,none⟩), .string (bs word), .agg #[c0,c1,c2,c3,c4, .int .i64 e,c6,c7]] w (PostW W0 g (fp G) w (idxW F.xs word e l)):=by
 obtain ⟨R,hR⟩: ∃R,idxW F.xs word e l=R:=⟨_,rfl⟩
 rw [hR]
 have HR1:Hid (wSeq (wPuts [word, [91]]) (wSeq (exprW F.xs F.xs.length e) (wSeq (wPuts [[93]]) some)) l=R):=hid (by
  rw [←hR,wPuts_two,wPuts_one,wSeq_assoc]
  rfl)
 have HE:Hid (ExprC W0 g G F F.xs.length):=hid (shExprs hF hN hG F.xs.length (Nat.le_refl _)).1
 have HNE:=hid h.ne
 have S1:=hid (h.start.alloc (.cells #[c0,c1,c2,c3,c4, .int .i64 e,c6,c7] 44))
 have HX1:=hid (heap_alloc_new w (.cells #[c0,c1,c2,c3,c4, .int .i64 e,c6,c7] 44))
 have HFF:=hid hF
 have C1:=hid (shPut S1.out [word, [91]] (by simp) 2 rfl #[.string (bs word), .string ⟨#[91]⟩] rfl (w.heap.size+1) (by simp))
 clear hR hF hN hG h
 go_enter Tryz.func95, Tryz.ntmps95
 go_wp2_with (first|(go_at_call 88;(first|((with_reducible refine C1.out.mono ?_);intro e' w2 hp;rcases hr:wPuts [word, [91]] l with _|l2;(· rw [hr] at hp;obtain ⟨rfl,hf⟩:=hp;obtain rfl:=step_none HR1.out hr;exact ⟨rfl,rfl,S1.out.fr.trans hf⟩);rw [hr] at hp;obtain ⟨rfl,h1⟩:=hp;have S2:=hid (S1.out.next h1);have HR2:=hid (step_some HR1.out hr);have HX2:=hid (h1.fr.keep _ _ _ _ HX1.out HNE.out (by decide));clear hr h1))))
 obtain ⟨⟨d0,d1,d2,d3,d4,d5,d6,d7⟩,df,dl⟩:=cells8 HX2.out
 obtain ⟨q,⟨ax,cx,q3⟩, -⟩:=SW.xs HFF.out S2.out
 go_wp2_with fail
 go_still_tail 11,(by kernel_rfl)
 change wpList _ _ _ _ _ w2.drew
 have S3:=hid (S2.out.keep (Below.refl w2.heap.size w2).drew)
 have C3:=hid (HE.out e _ _ _ S3.out)
 clear d0 d1 d2 d3 d4 d5 d6 d7 df dl q q3
 have HR3:=HR2
 go_wp2_with (first|(go_at_call 48;(first|((with_reducible refine C3.out.mono ?_);intro e' w4 hp;rcases hr:exprW F.xs F.xs.length e l2 with _|l4;(· rw [hr] at hp;obtain ⟨rfl,hf⟩:=hp;obtain rfl:=step_none HR3.out hr;exact ⟨rfl,rfl,S3.out.fr.trans hf⟩);rw [hr] at hp;obtain ⟨rfl,h1⟩:=hp;have S4:=hid (S3.out.next h1);have HR4:=hid (step_some HR3.out hr);clear hr h1;have C4:=hid (shPut S4.out [[93]] (by simp) 1 rfl #[.string ⟨#[93]⟩] rfl _ rfl))))|(go_at_call 88;(first|((with_reducible refine C4.out.mono ?_);intro e' w5 hp;rcases hr:wPuts [[93]] l4 with _|l5;(· rw [hr] at hp;obtain ⟨rfl,hf⟩:=hp;obtain rfl:=step_none HR4.out hr;exact ⟨rfl,rfl,S4.out.fr.trans hf⟩);rw [hr] at hp;obtain ⟨rfl,h1⟩:=hp;have S5:=hid (S4.out.next h1);have HR5:=hid (step_some HR4.out hr);clear hr h1))))
 obtain rfl:=HR5.out
 go_end0
 exact ⟨rfl,S5.out⟩
end Go.Proofs.YtomimkgaelkaoaaGreatDoor
namespace Go.Proofs.YtomimkgaelkaoaaGreatDoor
open Go.Lib (hid)
open Go.ChangeShapes Go.WideShapes Go.ChangeAt Go.RowKit
def elW (el:Nat→OW) (i:Nat):OW:=wSeq (wPut (if i=0 then [40] else [44,32])) (el i)
def lsW (n:Nat) (el:Nat→OW) (i:Nat):OW:=wSeq (wAll (((List.range n).drop i).map (elW el))) (if n=0 then some else wPut [41])
theorem lsW_start (n:Nat) (el:Nat→OW):wList n el=lsW n el 0:=rfl
theorem lsW_step {n i:Nat} (el:Nat→OW) (h:i<n):lsW n el i=wSeq (wPut (if i=0 then [40] else [44,32])) (wSeq (el i) (lsW n el (i+1))):=by
 unfold lsW
 have hd:(List.range n).drop i=i::(List.range n).drop (i+1):=by
  rw [List.drop_eq_getElem_cons (by simpa using h)]
  simp
 rw [hd,List.map_cons,wAll_cons]
 show wSeq (wSeq (wSeq _ (el i)) _) _=_
 rw [wSeq_assoc,wSeq_assoc]
theorem lsW_end (n:Nat) (el:Nat→OW):lsW n el n=if n=0 then some else wPut [41]:=by
 unfold lsW
 rw [List.drop_eq_nil_of_le (by simp)]
 rfl
set_option maxHeartbeats 4000000 in
set_option maxRecDepth 100000 in
theorem shList_ref {W0:World} {g G:Nat} {w0:World} {l:List UInt8} (h:SW W0 g (fp G) w0 l w0) (n:Nat) (hn63:n<9223372036854775808) (el:Nat→OW) (a b:Value)
  (hel: ∀(i:Nat),i<n→∀(l:List UInt8) (w:World),SW W0 g (fp G) w0 l w→Calls Tryz.prog 138 #[.int .i64 (i:Int),a,b] w (PostW W0 g (fp G) w (el i l))):
  Calls Tryz.prog 134 #[.pointer (some ⟨g,0,none⟩), .int .i64 (n:Int), .func (.func 138) #[] #[a,b]] w0 (PostW W0 g (fp G) w0 (wList n el l)):=by
 obtain ⟨R,hR⟩: ∃R,wList n el l=R:=⟨_,rfl⟩
 rw [hR]
 rw [lsW_start] at hR
 have HR:=hid hR
 have H:=hid h
 have HEL:=hid hel
 clear h hR hel
 go_enter Tryz.func134, Tryz.ntmps134
 go_wp2_with fail
 go_loopw [8] (fun s8 wr=> ∃(i:Nat) (l':List UInt8),s8= .int .i64 (i:Int)∧i≤n∧SW W0 g (fp G) w0 l' wr∧Hid (lsW n el i l'=R)) (fun s8 _=>n - (match s8 with| .int _ i=>i.toNat|_=>0))
 case atStart=>exact ⟨0,l,rfl,Nat.zero_le _,H.out,HR⟩
 case round=>
  obtain ⟨i,l',rfl,hi,hS,HRR⟩:=hrel
  by_cases hlt:i<n
  ·have hltI:(i:Int)<(n:Int):=by omega
   have S1:=hid hS
   have HR1:Hid (wSeq (wPuts [if i=0 then [40] else [44,32]]) (wSeq (el i) (lsW n el (i+1))) l'=R):=hid (by rw [←HRR.out,lsW_step el hlt,wPuts_one])
   have hw1:IntKind.i64.wrap ((i:Int)+1)=(i:Int)+1:=IntWalk.i64_in _ (by omega)
   clear hS HRR HR H
   by_cases h0:i=0
   ·subst h0
    have HR1:Hid (wSeq (wPuts [[40]]) (wSeq (el 0) (lsW n el (0+1))) l'=R):=HR1
    have C1:=hid (shPut S1.out [[40]] (by simp) 1 rfl #[.string ⟨#[40]⟩] rfl _ rfl)
    go_wp2_with (first|(go_at_call 88;(first|((with_reducible refine C1.out.mono ?_);intro e' w2 hp;rcases hr:wPuts [[40]] l' with _|l2;(· rw [hr] at hp;obtain ⟨rfl,hf⟩:=hp;obtain rfl:=step_none HR1.out hr;exact ⟨rfl,rfl,S1.out.fr.trans hf⟩);rw [hr] at hp;obtain ⟨rfl,h1⟩:=hp;have S2:=hid (S1.out.next h1);have HR2:=hid (step_some HR1.out hr);clear hr h1;have C2:=hid (show Calls Tryz.prog 138 #[.int .i64 0,a,b] _ (PostW W0 g (fp G) _ (el 0 l2)) from HEL.out 0 hlt _ _ S2.out))))|(go_at_call 138;(first|((with_reducible refine C2.out.mono ?_);intro e' w3 hp;rcases hr:el 0 l2 with _|l3;(· rw [hr] at hp;obtain ⟨rfl,hf⟩:=hp;obtain rfl:=step_none HR2.out hr;exact ⟨rfl,rfl,S2.out.fr.trans hf⟩);rw [hr] at hp;obtain ⟨rfl,h1⟩:=hp;have S3:=hid (S2.out.next h1);have HR3:=hid (step_some HR2.out hr);clear hr h1))))
    go_roundw
    case rel=>exact ⟨0+1,l3,by go_num,by omega,S3.out,HR3⟩
    case measure=>simp;omega
   ·have hne:((i:Int)==0)=false:=beq_eq_false_iff_ne.2 (by omega)
    have HR1:Hid (wSeq (wPuts [[44,32]]) (wSeq (el i) (lsW n el (i+1))) l'=R):=hid (by have:=HR1.out;rw [if_neg h0] at this;exact this)
    have C1:=hid (shPut S1.out [[44,32]] (by simp) 1 rfl #[.string ⟨#[44,32]⟩] rfl _ rfl)
    go_wp2_with (first|(go_at_call 88;(first|((with_reducible refine C1.out.mono ?_);intro e' w2 hp;rcases hr:wPuts [[44,32]] l' with _|l2;(· rw [hr] at hp;obtain ⟨rfl,hf⟩:=hp;obtain rfl:=step_none HR1.out hr;exact ⟨rfl,rfl,S1.out.fr.trans hf⟩);rw [hr] at hp;obtain ⟨rfl,h1⟩:=hp;have S2:=hid (S1.out.next h1);have HR2:=hid (step_some HR1.out hr);clear hr h1;have C2:=hid (HEL.out i hlt _ _ S2.out))))|(go_at_call 138;(first|((with_reducible refine C2.out.mono ?_);intro e' w3 hp;rcases hr:el i l2 with _|l3;(· rw [hr] at hp;obtain ⟨rfl,hf⟩:=hp;obtain rfl:=step_none HR2.out hr;exact ⟨rfl,rfl,S2.out.fr.trans hf⟩);rw [hr] at hp;obtain ⟨rfl,h1⟩:=hp;have S3:=hid (S2.out.next h1);have HR3:=hid (step_some HR2.out hr);clear hr h1))))
    go_roundw
    case rel=>exact ⟨i+1,l3,by go_num,by omega,S3.out,HR3⟩
    case measure=>simp;omega
  ·have hi2:i=n:=by omega
   subst hi2
   have HR1:=HRR.out
   rw [lsW_end] at HR1
   clear HRR HR H
   by_cases h0:i=0
   ·subst h0
    rw [if_pos rfl] at HR1
    obtain rfl:=HR1
    go_wp2_with fail
    go_end0
    exact ⟨rfl,hS⟩
   ·rw [if_neg h0,←wPuts_one,←wSeq_some (wPuts [[41]])] at HR1
    have HR1:=hid HR1
    have hpos:(0:Int)<(i:Int):=by omega
    have S1:=hid hS
    clear hS
    have C1:=hid (shPut S1.out [[41]] (by simp) 1 rfl #[.string ⟨#[41]⟩] rfl _ rfl)
    go_wp2_with (first|(go_at_call 88;(first|((with_reducible refine C1.out.mono ?_);intro e' w2 hp;rcases hr:wPuts [[41]] l' with _|l2;(· rw [hr] at hp;obtain ⟨rfl,hf⟩:=hp;obtain rfl:=step_none HR1.out hr;exact ⟨rfl,rfl,S1.out.fr.trans hf⟩);rw [hr] at hp;obtain ⟨rfl,h1⟩:=hp;have S2:=hid (S1.out.next h1);have HR2:=hid (step_some HR1.out hr);clear hr h1))))
    obtain rfl:=HR2.out
    go_end0
    exact ⟨rfl,S2.out⟩
set_option maxHeartbeats 4000000 in
set_option maxRecDepth 100000 in
theorem shList_par {W0:World} {g G:Nat} {w0:World} {l:List UInt8} (h:SW W0 g (fp G) w0 l w0) (n:Nat) (hn63:n<9223372036854775808) (el:Nat→OW) (a b:Value)
  (hel: ∀(i:Nat),i<n→∀(l:List UInt8) (w:World),SW W0 g (fp G) w0 l w→Calls Tryz.prog 135 #[.int .i64 (i:Int),a,b] w (PostW W0 g (fp G) w (el i l))):
  Calls Tryz.prog 134 #[.pointer (some ⟨g,0,none⟩), .int .i64 (n:Int), .func (.func 135) #[] #[a,b]] w0 (PostW W0 g (fp G) w0 (wList n el l)):=by
 obtain ⟨R,hR⟩: ∃R,wList n el l=R:=⟨_,rfl⟩
 rw [hR]
 rw [lsW_start] at hR
 have HR:=hid hR
 have H:=hid h
 have HEL:=hid hel
 clear h hR hel
 go_enter Tryz.func134, Tryz.ntmps134
 go_wp2_with fail
 go_loopw [8] (fun s8 wr=> ∃(i:Nat) (l':List UInt8),s8= .int .i64 (i:Int)∧i≤n∧SW W0 g (fp G) w0 l' wr∧Hid (lsW n el i l'=R)) (fun s8 _=>n - (match s8 with| .int _ i=>i.toNat|_=>0))
 case atStart=>exact ⟨0,l,rfl,Nat.zero_le _,H.out,HR⟩
 case round=>
  obtain ⟨i,l',rfl,hi,hS,HRR⟩:=hrel
  by_cases hlt:i<n
  ·have hltI:(i:Int)<(n:Int):=by omega
   have S1:=hid hS
   have HR1:Hid (wSeq (wPuts [if i=0 then [40] else [44,32]]) (wSeq (el i) (lsW n el (i+1))) l'=R):=hid (by rw [←HRR.out,lsW_step el hlt,wPuts_one])
   have hw1:IntKind.i64.wrap ((i:Int)+1)=(i:Int)+1:=IntWalk.i64_in _ (by omega)
   clear hS HRR HR H
   by_cases h0:i=0
   ·subst h0
    have HR1:Hid (wSeq (wPuts [[40]]) (wSeq (el 0) (lsW n el (0+1))) l'=R):=HR1
    have C1:=hid (shPut S1.out [[40]] (by simp) 1 rfl #[.string ⟨#[40]⟩] rfl _ rfl)
    go_wp2_with (first|(go_at_call 88;(first|((with_reducible refine C1.out.mono ?_);intro e' w2 hp;rcases hr:wPuts [[40]] l' with _|l2;(· rw [hr] at hp;obtain ⟨rfl,hf⟩:=hp;obtain rfl:=step_none HR1.out hr;exact ⟨rfl,rfl,S1.out.fr.trans hf⟩);rw [hr] at hp;obtain ⟨rfl,h1⟩:=hp;have S2:=hid (S1.out.next h1);have HR2:=hid (step_some HR1.out hr);clear hr h1;have C2:=hid (show Calls Tryz.prog 135 #[.int .i64 0,a,b] _ (PostW W0 g (fp G) _ (el 0 l2)) from HEL.out 0 hlt _ _ S2.out))))|(go_at_call 135;(first|((with_reducible refine C2.out.mono ?_);intro e' w3 hp;rcases hr:el 0 l2 with _|l3;(· rw [hr] at hp;obtain ⟨rfl,hf⟩:=hp;obtain rfl:=step_none HR2.out hr;exact ⟨rfl,rfl,S2.out.fr.trans hf⟩);rw [hr] at hp;obtain ⟨rfl,h1⟩:=hp;have S3:=hid (S2.out.next h1);have HR3:=hid (step_some HR2.out hr);clear hr h1))))
    go_roundw
    case rel=>exact ⟨0+1,l3,by go_num,by omega,S3.out,HR3⟩
    case measure=>simp;omega
   ·have hne:((i:Int)==0)=false:=beq_eq_false_iff_ne.2 (by omega)
    have HR1:Hid (wSeq (wPuts [[44,32]]) (wSeq (el i) (lsW n el (i+1))) l'=R):=hid (by have:=HR1.out;rw [if_neg h0] at this;exact this)
    have C1:=hid (shPut S1.out [[44,32]] (by simp) 1 rfl #[.string ⟨#[44,32]⟩] rfl _ rfl)
    go_wp2_with (first|(go_at_call 88;(first|((with_reducible refine C1.out.mono ?_);intro e' w2 hp;rcases hr:wPuts [[44,32]] l' with _|l2;(· rw [hr] at hp;obtain ⟨rfl,hf⟩:=hp;obtain rfl:=step_none HR1.out hr;exact ⟨rfl,rfl,S1.out.fr.trans hf⟩);rw [hr] at hp;obtain ⟨rfl,h1⟩:=hp;have S2:=hid (S1.out.next h1);have HR2:=hid (step_some HR1.out hr);clear hr h1;have C2:=hid (HEL.out i hlt _ _ S2.out))))|(go_at_call 135;(first|((with_reducible refine C2.out.mono ?_);intro e' w3 hp;rcases hr:el i l2 with _|l3;(· rw [hr] at hp;obtain ⟨rfl,hf⟩:=hp;obtain rfl:=step_none HR2.out hr;exact ⟨rfl,rfl,S2.out.fr.trans hf⟩);rw [hr] at hp;obtain ⟨rfl,h1⟩:=hp;have S3:=hid (S2.out.next h1);have HR3:=hid (step_some HR2.out hr);clear hr h1))))
    go_roundw
    case rel=>exact ⟨i+1,l3,by go_num,by omega,S3.out,HR3⟩
    case measure=>simp;omega
  ·have hi2:i=n:=by omega
   subst hi2
   have HR1:=HRR.out
   rw [lsW_end] at HR1
   clear HRR HR H
   by_cases h0:i=0
   ·subst h0
    rw [if_pos rfl] at HR1
    obtain rfl:=HR1
    go_wp2_with fail
    go_end0
    exact ⟨rfl,hS⟩
   ·rw [if_neg h0,←wPuts_one,←wSeq_some (wPuts [[41]])] at HR1
    have HR1:=hid HR1
    have hpos:(0:Int)<(i:Int):=by omega
    have S1:=hid hS
    clear hS
    have C1:=hid (shPut S1.out [[41]] (by simp) 1 rfl #[.string ⟨#[41]⟩] rfl _ rfl)
    go_wp2_with (first|(go_at_call 88;(first|((with_reducible refine C1.out.mono ?_);intro e' w2 hp;rcases hr:wPuts [[41]] l' with _|l2;(· rw [hr] at hp;obtain ⟨rfl,hf⟩:=hp;obtain rfl:=step_none HR1.out hr;exact ⟨rfl,rfl,S1.out.fr.trans hf⟩);rw [hr] at hp;obtain ⟨rfl,h1⟩:=hp;have S2:=hid (S1.out.next h1);have HR2:=hid (step_some HR1.out hr);clear hr h1))))
    obtain rfl:=HR2.out
    go_end0
    exact ⟨rfl,S2.out⟩
end Go.Proofs.YtomimkgaelkaoaaGreatDoor
namespace Go.Proofs.YtomimkgaelkaoaaGreatDoor
open Go.Lib (hid)
open Go.ChangeShapes Go.WideShapes Go.ChangeAt Go.RowKit
set_option maxHeartbeats 4000000 in
set_option maxRecDepth 100000 in
theorem shRefEl {W0:World} {g G:Nat} {F:GF} (hF:FileG G W0 F) (hN:NEnv W0) (hG:GfOK F) {W w:World} {l:List UInt8} (h:SW W0 g (fp G) W l w) {bp bt ka n c i k:Nat} (hbp:w.cell? ⟨bp,0,none⟩=some (.pointer (some ⟨g,0,none⟩))) (hbt:w.cell? ⟨bt,4,none⟩=some (.slice (some ⟨ka,0,none⟩) n c)) (hi:i<n) (ha:w.cell? ⟨ka,i,none⟩=some (.int .i64 (k:Int))):
  Calls Tryz.prog 138 #[.int .i64 (i:Int), .pointer (some ⟨bp,0,none⟩), .pointer (some ⟨bt,0,none⟩)] w (PostW W0 g (fp G) w (exprW F.xs F.xs.length (k:Int) l)):=by
 obtain ⟨R,hR⟩: ∃R,exprW F.xs F.xs.length (k:Int) l=R:=⟨_,rfl⟩
 rw [hR]
 have HR2:Hid (wSeq (exprW F.xs F.xs.length (k:Int)) some l=R):=hid (by rw [wSeq_some];exact hR)
 have HE:Hid (ExprC W0 g G F F.xs.length):=hid (shExprs hF hN hG F.xs.length (Nat.le_refl _)).1
 obtain ⟨q,⟨ax,cx,q3⟩, -⟩:=SW.xs hF h
 have hiI:(i:Int)<(n:Int):=by omega
 have S2:=hid (h.start.keep (Below.refl w.heap.size w).drew)
 have C2:=hid (HE.out (k:Int) _ _ _ S2.out)
 clear hR hF hN hG h hi
 go_enter Tryz.func138, Tryz.ntmps138
 go_still_tail 14,(by kernel_rfl)
 change wpList _ _ _ _ _ w.drew
 clear q q3 hbp hbt ha
 go_wp2_with (first|(go_at_call 48;(first|((with_reducible refine C2.out.mono ?_);intro e' w3 hp;rcases hr:exprW F.xs F.xs.length (k:Int) l with _|l3;(· rw [hr] at hp;obtain ⟨rfl,hf⟩:=hp;obtain rfl:=step_none HR2.out hr;exact ⟨rfl,rfl,S2.out.fr.trans hf⟩);rw [hr] at hp;obtain ⟨rfl,h1⟩:=hp;have S3:=hid (S2.out.next h1);have HR3:=hid (step_some HR2.out hr);clear hr h1))))
 obtain rfl:=HR3.out
 go_end0
 exact ⟨rfl,S3.out⟩
set_option maxHeartbeats 4000000 in
set_option maxRecDepth 100000 in
theorem shRef {W0:World} {g G:Nat} {F:GF} (hF:FileG G W0 F) (hN:NEnv W0) (hG:GfOK F) {W w:World} {l:List UInt8} (h:SW W0 g (fp G) W l w) (t:TG) {aa:Option Addr} {ac:Nat} {cv:Value} (ht:SlR 1 IntC W0 (.slice aa t.args.length ac) t.args) (hc:t.args.length<9223372036854775808):
  Calls Tryz.prog 97 #[.pointer (some ⟨g,0,none⟩), .agg #[.int .i64 t.k, .int .i64 (t.size:Int), .bool t.little, .string (bs t.s), .slice aa t.args.length ac, .int .i64 t.e, .int .i64 t.i,cv]] w (PostW W0 g (fp G) w (refW F.xs t l)):=by
 obtain ⟨R,hR⟩: ∃R,refW F.xs t l=R:=⟨_,rfl⟩
 rw [hR]
 have HR1:Hid (wSeq (wPuts [t.s]) (wSeq (wList t.args.length fun i=>exprW F.xs F.xs.length ((t.args.getD i 0:Nat):Int)) some) l=R):=hid (by
  rw [←hR,wPuts_one,wSeq_some]
  rfl)
 have HNE:=hid h.ne
 have S0:=hid (h.start.alloc (.cells #[.pointer (some ⟨g,0,none⟩)] 119))
 have hp0:=heap_alloc_new w (.cells #[.pointer (some ⟨g,0,none⟩)] 119)
 have hsz:(w.alloc (.cells #[.pointer (some ⟨g,0,none⟩)] 119)).heap.size=w.heap.size+1:=by simp
 have HNE2:=hid (S0.out.ne)
 rw [hsz] at HNE2
 have S1:=hid (S0.out.alloc (.cells #[.int .i64 t.k, .int .i64 (t.size:Int), .bool t.little, .string (bs t.s), .slice aa t.args.length ac, .int .i64 t.e, .int .i64 t.i,cv] 44))
 have hx1:=heap_alloc_new (w.alloc (.cells #[.pointer (some ⟨g,0,none⟩)] 119)) (.cells #[.int .i64 t.k, .int .i64 (t.size:Int), .bool t.little, .string (bs t.s), .slice aa t.args.length ac, .int .i64 t.e, .int .i64 t.i,cv] 44)
 rw [hsz] at hx1
 have HX1:=hid hx1
 have HP1:Hid (((w.alloc (.cells #[.pointer (some ⟨g,0,none⟩)] 119)).alloc (.cells #[.int .i64 t.k, .int .i64 (t.size:Int), .bool t.little, .string (bs t.s), .slice aa t.args.length ac, .int .i64 t.e, .int .i64 t.i,cv] 44)).heap[w.heap.size]? =some (.cells #[.pointer (some ⟨g,0,none⟩)] 119 (0,0))):=hid (by rw [Below.heap_alloc _ _ _ (by omega)];exact hp0)
 have C1:=hid (shPut S1.out [t.s] (by simp) 1 rfl #[.string (bs t.s)] rfl (w.heap.size+1+1) (by simp))
 obtain ⟨⟨d0,d1,d2,d3,d4,d5,d6,d7⟩,df,dl⟩:=cells8 HX1.out
 have e0:((w.alloc (.cells #[.pointer (some ⟨g,0,none⟩)] 119)).alloc (.cells #[.int .i64 t.k, .int .i64 (t.size:Int), .bool t.little, .string (bs t.s), .slice aa t.args.length ac, .int .i64 t.e, .int .i64 t.i,cv] 44)).cell? ⟨w.heap.size,0,none⟩=some (.pointer (some ⟨g,0,none⟩)):=by rw [cell_of_row _ _ _ _ _ (0,0) HP1.out];rfl
 have HT:=hid ht
 have HEL:Hid (∀(w2:World),Fr W0.heap.size g ((w.alloc (.cells #[.pointer (some ⟨g,0,none⟩)] 119)).alloc (.cells #[.int .i64 t.k, .int .i64 (t.size:Int), .bool t.little, .string (bs t.s), .slice aa t.args.length ac, .int .i64 t.e, .int .i64 t.i,cv] 44)) w2→∀(i:Nat),i<t.args.length→∀(l:List UInt8) (w3:World),SW W0 g (fp G) w2 l w3→Calls Tryz.prog 138 #[.int .i64 (i:Int), .pointer (some ⟨w.heap.size,0,none⟩), .pointer (some ⟨w.heap.size+1,0,none⟩)] w3 (PostW W0 g (fp G) w3 (exprW F.xs F.xs.length ((t.args.getD i 0:Nat):Int) l))):=hid (by
  intro w2 hf2 i hi l w3 h3
  have hf:=hf2.trans h3.fr
  have hx3:=hf.keep _ _ _ _ HX1.out HNE2.out (by decide)
  have hp3:=hf.keep _ _ _ _ HP1.out HNE.out (by decide)
  have hg:t.args[i]? =some (t.args.getD i 0):=by rw [List.getD_eq_getElem?_getD,List.getElem?_eq_getElem hi];rfl
  obtain ⟨ka,rfl,hk,hcell⟩:=ints_at HT.out hg
  exact shRefEl hF hN hG h3 (n:=t.args.length) (c:=ac) (by rw [cell_of_row _ _ _ _ _ (0,0) hp3];rfl) (by rw [cell_of_row _ _ _ _ _ (0,0) hx3];rfl) hi ((h3.base.cell (p:=⟨ka,i,none⟩) hk).trans hcell))
 have HC:=hid hc
 clear hR hF hN hG h hx1 hp0 hsz ht hc
 go_enter Tryz.func97, Tryz.ntmps97
 go_wp2_with (first|(go_at_call 88;(first|((with_reducible refine C1.out.mono ?_);intro e' w2 hp;rcases hr:wPuts [t.s] l with _|l2;(· rw [hr] at hp;obtain ⟨rfl,hf⟩:=hp;obtain rfl:=step_none HR1.out hr;exact ⟨rfl,rfl,S1.out.fr.trans hf⟩);rw [hr] at hp;obtain ⟨rfl,h1⟩:=hp;have S2:=hid (S1.out.next h1);have HR2:=hid (step_some HR1.out hr);have hx2:=h1.fr.keep _ _ _ _ HX1.out HNE2.out (by decide);have hp2:=h1.fr.keep _ _ _ _ HP1.out HNE.out (by decide);clear d0 d1 d2 d3 d4 d5 d6 d7 df dl e0;obtain ⟨⟨d0,d1,d2,d3,d4,d5,d6,d7⟩,df,dl⟩:=cells8 hx2;have e0:w2.cell? ⟨w.heap.size,0,none⟩=some (.pointer (some ⟨g,0,none⟩)):=(by rw [cell_of_row _ _ _ _ _ (0,0) hp2];rfl);have C2:=hid (shList_ref S2.out.start t.args.length HC.out (fun i=>exprW F.xs F.xs.length ((t.args.getD i 0:Nat):Int)) _ _ (HEL.out w2 h1.fr));clear hr h1 hx2 hp2)))|(go_at_call 134;(first|((with_reducible refine C2.out.mono ?_);intro e' w3 hp;rcases hr:wList t.args.length (fun i=>exprW F.xs F.xs.length ((t.args.getD i 0:Nat):Int)) l2 with _|l3;(· rw [hr] at hp;obtain ⟨rfl,hf⟩:=hp;obtain rfl:=step_none HR2.out hr;exact ⟨rfl,rfl,S2.out.fr.trans hf⟩);rw [hr] at hp;obtain ⟨rfl,h1⟩:=hp;have S3:=hid (S2.out.next h1);have HR3:=hid (step_some HR2.out hr);clear hr h1))))
 obtain rfl:=HR3.out
 go_end0
 exact ⟨rfl,S3.out⟩
end Go.Proofs.YtomimkgaelkaoaaGreatDoor
namespace Go.Proofs.YtomimkgaelkaoaaGreatDoor
open Go.Lib (hid)
open Go.ChangeShapes Go.WideShapes Go.ChangeAt Go.RowKit
def TypWC (W0:World) (g G:Nat) (F:GF) (lim:Nat):Prop:= ∀(at':Int) (W w:World) (l:List UInt8),SW W0 g (fp G) W l w→Calls Tryz.prog 50 #[.pointer (some ⟨g,0,none⟩), .int .i64 at', .int .i64 (lim:Int)] w (PostW W0 g (fp G) w (typW F.xs F.ts lim at' l))
def cseW (rec:Int→OW) (c:Nat×Nat):OW:=wSeq (wPuts [dCase]) (wSeq (wNum c.1) (wSeq (wPuts [[58,32]]) (wSeq (rec (c.2:Int)) (wSeq (wPuts [[59]]) some))))
def elsW (rec:Int→OW) (j:Int):OW:=if j≠ -1 then wSeq (wPuts [dElse]) (wSeq (rec j) (wSeq (wPuts [[59]]) some)) else some
def cssW (rec:Int→OW) (cs:List (Nat×Nat)) (j:Int) (i:Nat):OW:=wSeq (wAll ((cs.drop i).map (cseW rec))) (wSeq (elsW rec j) (wSeq (wPuts [[32,125]]) some))
theorem cssW_step {rec:Int→OW} {cs:List (Nat×Nat)} {j:Int} {i:Nat} {c:Nat×Nat} (h:cs[i]? =some c):cssW rec cs j i=wSeq (wPuts [dCase]) (wSeq (wNum c.1) (wSeq (wPuts [[58,32]]) (wSeq (rec (c.2:Int)) (wSeq (wPuts [[59]]) (cssW rec cs j (i+1)))))):=by
 unfold cssW
 have hlt:=(List.getElem?_eq_some_iff.1 h).1
 have hd:cs.drop i=c::cs.drop (i+1):=by
  rw [List.drop_eq_getElem_cons hlt,(List.getElem?_eq_some_iff.1 h).2]
 rw [hd,List.map_cons,wAll_cons]
 unfold cseW
 simp only [wSeq_assoc,wSome_seq]
theorem cssW_end {rec:Int→OW} {cs:List (Nat×Nat)} {j:Int}:cssW rec cs j cs.length=wSeq (elsW rec j) (wSeq (wPuts [[32,125]]) some):=by
 unfold cssW
 rw [List.drop_length]
 rfl
theorem choice_eq (xs:List XG) (rec:Int→OW) (t:TG):choiceW xs rec t=wSeq (wPuts [dSwitch]) (wSeq (exprW xs xs.length t.e) (wSeq (wPuts [[41,32,123]]) (cssW rec t.cs t.i 0))):=by
 unfold choiceW cssW
 rw [List.drop_zero]
 have h1:(t.cs.map fun c=>wAll [wPut dCase,wNum c.1,wPut [58,32],rec (c.2:Int),wPut [59]])=t.cs.map (cseW rec):=by
  refine List.map_congr_left fun c _=> ?_
  unfold cseW
  rw [wPuts_one,wPuts_one,wPuts_one]
  rfl
 have h2:(if t.i≠ -1 then wAll [wPut dElse,rec t.i,wPut [59]] else some)=elsW rec t.i:=by
  unfold elsW
  rw [wPuts_one,wPuts_one]
  rfl
 rw [h1,h2,wPuts_one,wPuts_one,wPuts_one]
 rfl
theorem cells2c {T:TypeId} {w:World} {k:Nat} {v0 v1:Value} (h:w.heap[k]? =some (.cells #[v0,v1] T (0,0))):(w.cell? ⟨k,0,none⟩=some v0∧w.cell? ⟨k,1,none⟩=some v1)∧(∀j,w.frozen? ⟨k,j,none⟩=false)∧k<w.heap.size:=by
 refine ⟨⟨?_, ?_⟩,fun j=>by simp [World.frozen?,h],(Array.getElem?_eq_some_iff.1 h).1⟩<;>(rw [cell_of_row _ _ _ _ _ (0,0) h];rfl)
set_option maxHeartbeats 8000000 in
set_option maxRecDepth 100000 in
theorem shChoice {W0:World} {g G:Nat} {F:GF} (hF:FileG G W0 F) (hN:NEnv W0) (hG:GfOK F) {n:Nat} (hT:TypWC W0 g G F n) {W w:World} {l:List UInt8} (h:SW W0 g (fp G) W l w) (c0 c1 c2 c3 c4:Value) (e j:Int) (cs:List (Nat×Nat)) {ca:Option Addr} {cc:Nat} (hcs:SlR 2 CaC W0 (.slice ca cs.length cc) cs) (hcn: ∀c∈cs,c.1<18446744073709551616) (hcl:cs.length<9223372036854775808):
  Calls Tryz.prog 96 #[.pointer (some ⟨g,0,none⟩), .agg #[c0,c1,c2,c3,c4, .int .i64 e, .int .i64 j, .slice ca cs.length cc], .int .i64 (n:Int)] w (PostW W0 g (fp G) w (wSeq (wPuts [dSwitch]) (wSeq (exprW F.xs F.xs.length e) (wSeq (wPuts [[41,32,123]]) (cssW (typW F.xs F.ts n) cs j 0))) l)):=by
 obtain ⟨R,hR⟩: ∃R,wSeq (wPuts [dSwitch]) (wSeq (exprW F.xs F.xs.length e) (wSeq (wPuts [[41,32,123]]) (cssW (typW F.xs F.ts n) cs j 0))) l=R:=⟨_,rfl⟩
 rw [hR]
 have HR1:=hid hR
 have HE:Hid (ExprC W0 g G F F.xs.length):=hid (shExprs hF hN hG F.xs.length (Nat.le_refl _)).1
 have HT:=hid hT
 have HNE:=hid h.ne
 have S1:=hid (h.start.alloc (.cells #[c0,c1,c2,c3,c4, .int .i64 e, .int .i64 j, .slice ca cs.length cc] 44))
 have HX1:=hid (heap_alloc_new w (.cells #[c0,c1,c2,c3,c4, .int .i64 e, .int .i64 j, .slice ca cs.length cc] 44))
 have HFF:=hid hF
 have HN:=hid hN
 have HCS:=hid hcs
 have HCN:=hid hcn
 have HCL:=hid hcl
 have C1:=hid (shPut S1.out [dSwitch] (by simp) 1 rfl #[.string ⟨#[115,119,105,116,99,104,32,40]⟩] rfl (w.heap.size+1) (by simp))
 clear hR hF hN hG h hT hcs hcn hcl
 go_enter Tryz.func96, Tryz.ntmps96
 go_wp2_with (first|(go_at_call 88;(first|((with_reducible refine C1.out.mono ?_);intro e' w2 hp;rcases hr:wPuts [dSwitch] l with _|l2;(· rw [hr] at hp;obtain ⟨rfl,hf⟩:=hp;obtain rfl:=step_none HR1.out hr;exact ⟨rfl,rfl,S1.out.fr.trans hf⟩);rw [hr] at hp;obtain ⟨rfl,h1⟩:=hp;have S2:=hid (S1.out.next h1);have HR2:=hid (step_some HR1.out hr);have HX2:=hid (h1.fr.keep _ _ _ _ HX1.out HNE.out (by decide));clear hr h1))))
 obtain ⟨⟨d0,d1,d2,d3,d4,d5,d6,d7⟩,df,dl⟩:=cells8 HX2.out
 obtain ⟨q,⟨ax,cx,q3⟩, -⟩:=SW.xs HFF.out S2.out
 go_wp2_with fail
 go_still_tail 11,(by kernel_rfl)
 change wpList _ _ _ _ _ w2.drew
 have HX3:Hid (w2.drew.heap[w.heap.size]? =some (.cells #[c0,c1,c2,c3,c4, .int .i64 e, .int .i64 j, .slice ca cs.length cc] 44 (0,0))):=hid HX2.out
 have S3:=hid (S2.out.keep (Below.refl w2.heap.size w2).drew)
 have HR3:=HR2
 have C3:=hid (HE.out e _ _ _ S3.out)
 clear d0 d1 d2 d3 d4 d5 d6 d7 df dl
 clear q q3
 go_wp2_with (first|(go_at_call 48;(first|((with_reducible refine C3.out.mono ?_);intro e' w4 hp;rcases hr:exprW F.xs F.xs.length e l2 with _|l4;(· rw [hr] at hp;obtain ⟨rfl,hf⟩:=hp;obtain rfl:=step_none HR3.out hr;exact ⟨rfl,rfl,S3.out.fr.trans hf⟩);rw [hr] at hp;obtain ⟨rfl,h1⟩:=hp;have S4:=hid (S3.out.next h1);have HR4:=hid (step_some HR3.out hr);have HX4:=hid (h1.fr.keep _ _ _ _ HX3.out HNE.out (by decide));clear hr h1;have C4:=hid (shPut S4.out [[41,32,123]] (by simp) 1 rfl #[.string ⟨#[41,32,123]⟩] rfl _ rfl))))|(go_at_call 88;(first|((with_reducible refine C4.out.mono ?_);intro e' w5 hp;rcases hr:wPuts [[41,32,123]] l4 with _|l5;(· rw [hr] at hp;obtain ⟨rfl,hf⟩:=hp;obtain rfl:=step_none HR4.out hr;exact ⟨rfl,rfl,S4.out.fr.trans hf⟩);rw [hr] at hp;obtain ⟨rfl,h1⟩:=hp;have S5:=hid (S4.out.next h1);have HR5:=hid (step_some HR4.out hr);have HX5:=hid (h1.fr.keep _ _ _ _ HX4.out HNE.out (by decide));clear hr h1;obtain ⟨⟨d0,d1,d2,d3,d4,d5,d6,d7⟩,df,dl⟩:=cells8 HX5.out))))
 clear C1 C3 C4 S1 S2 S3 S4 HX1 HX2 HX3 HX4 HR1 HR2 HR3 HR4
 go_loopw [29] (fun s29 wr=> ∃(i:Nat) (l':List UInt8),s29= .int .i64 (i:Int)∧i≤cs.length∧SW W0 g (fp G) w l' wr∧wr.heap[w.heap.size]? =some (.cells #[c0,c1,c2,c3,c4, .int .i64 e, .int .i64 j, .slice ca cs.length cc] 44 (0,0))∧Hid (cssW (typW F.xs F.ts n) cs j i l'=R)) (fun s29 _=>cs.length - (match s29 with| .int _ i=>i.toNat|_=>0))
 case atStart=>exact ⟨0,l5,rfl,Nat.zero_le _,S5.out,HX5.out,HR5⟩
 case round=>
  obtain ⟨i,l',rfl,hi,hS,hX,HRR⟩:=hrel
  clear S5 HX5 HR5
  by_cases hlt:i<cs.length
  ·have hltI:(i:Int)<(cs.length:Int):=by omega
   obtain ⟨c,hc⟩: ∃c,cs[i]? =some c:=⟨cs[i],List.getElem?_eq_getElem hlt⟩
   have HCC:=hid (HCN.out c (List.mem_of_getElem? hc))
   have HR1:Hid (wSeq (wPuts [dCase]) (wSeq (wNum c.1) (wSeq (wPuts [[58,32]]) (wSeq (typW F.xs F.ts n (c.2:Int)) (wSeq (wPuts [[59]]) (cssW (typW F.xs F.ts n) cs j (i+1)))))) l'=R):=hid (by rw [←HRR.out,cssW_step hc])
   obtain ⟨kc,hkc,hkl,q0,q1⟩:=cas_at HCS.out hc
   have HKC:=hid hkc
   have hw1:IntKind.i64.wrap ((i:Int)+1)=(i:Int)+1:=IntWalk.i64_in _ (by have:=HCL.out;omega)
   have S0:=hid hS
   have HX0:=hid hX
   have HNB:=hid hS.ne
   have q0:=(hS.base.cell (p:=⟨kc,i*2,none⟩) hkl).trans q0
   have q1:=(hS.base.cell (p:=⟨kc,i*2+1,none⟩) hkl).trans q1
   clear hS hX HRR hkl
   have HBX:=hid (heap_alloc_new wr (.cells #[.int .u64 0, .int .i64 0] 198))
   obtain ⟨⟨d0,d1,d2,d3,d4,d5,d6,d7⟩,df,dl⟩:=cells8 HX0.out
   have S1:=hid (S0.out.alloc (.cells #[.int .u64 (c.1:Int), .int .i64 (c.2:Int)] 198))
   have HY1:=hid (heap_alloc_new wr (.cells #[.int .u64 (c.1:Int), .int .i64 (c.2:Int)] 198))
   have HX1:=hid ((Fr.of (g:=g) (below_box wr (.cells #[.int .u64 (c.1:Int), .int .i64 (c.2:Int)] 198)) S0.out.lo).keep _ _ _ _ HX0.out HNE.out (by decide))
   obtain ⟨⟨b0,b1⟩,bf,bl⟩:=cells2c HY1.out
   have C1:=hid (shPut S1.out [dCase] (by simp) 1 rfl #[.string ⟨#[32,99,97,115,101,32]⟩] rfl (wr.heap.size+1) (by simp))
   subst hkc
   go_wp2_with (first|(go_at_call 88;(first|((with_reducible refine C1.out.mono ?_);intro e' w2 hp;rcases hr:wPuts [dCase] l' with _|l2;(· rw [hr] at hp;obtain ⟨rfl,hf⟩:=hp;obtain rfl:=step_none HR1.out hr;exact ⟨rfl,rfl,S1.out.fr.trans hf⟩);rw [hr] at hp;obtain ⟨rfl,h1⟩:=hp;have S2:=hid (S1.out.next h1);have HR2:=hid (step_some HR1.out hr);have HX2:=hid (h1.fr.keep _ _ _ _ HX1.out HNE.out (by decide));have HY2:=hid (h1.fr.keep _ _ _ _ HY1.out HNB.out (by decide));clear b0 b1 bf bl;obtain ⟨⟨b0,b1⟩,bf,bl⟩:=cells2c HY2.out;clear hr h1;have C2:=hid (shNum HN.out S2.out c.1 HCC.out))|((with_reducible refine C3.out.mono ?_);intro e' w4 hp;rcases hr:wPuts [[58,32]] l3 with _|l4;(· rw [hr] at hp;obtain ⟨rfl,hf⟩:=hp;obtain rfl:=step_none HR3.out hr;exact ⟨rfl,rfl,S3.out.fr.trans hf⟩);rw [hr] at hp;obtain ⟨rfl,h1⟩:=hp;have S4:=hid (S3.out.next h1);have HR4:=hid (step_some HR3.out hr);have HX4:=hid (h1.fr.keep _ _ _ _ HX3.out HNE.out (by decide));have HY4:=hid (h1.fr.keep _ _ _ _ HY3.out HNB.out (by decide));clear b0 b1 bf bl;obtain ⟨⟨b0,b1⟩,bf,bl⟩:=cells2c HY4.out;clear hr h1;have C4:=hid (HT.out (c.2:Int) _ _ _ S4.out))|((with_reducible refine C5.out.mono ?_);intro e' w6 hp;rcases hr:wPuts [[59]] l5 with _|l6;(· rw [hr] at hp;obtain ⟨rfl,hf⟩:=hp;obtain rfl:=step_none HR5.out hr;exact ⟨rfl,rfl,S5.out.fr.trans hf⟩);rw [hr] at hp;obtain ⟨rfl,h1⟩:=hp;have S6:=hid (S5.out.next h1);have HR6:=hid (step_some HR5.out hr);have HX6:=hid (h1.fr.keep _ _ _ _ HX5.out HNE.out (by decide));have HY6:=hid (h1.fr.keep _ _ _ _ HY5.out HNB.out (by decide));clear b0 b1 bf bl;obtain ⟨⟨b0,b1⟩,bf,bl⟩:=cells2c HY6.out;clear hr h1)))|(go_at_call 89;(first|((with_reducible refine C2.out.mono ?_);intro e' w3 hp;rcases hr:wNum c.1 l2 with _|l3;(· rw [hr] at hp;obtain ⟨rfl,hf⟩:=hp;obtain rfl:=step_none HR2.out hr;exact ⟨rfl,rfl,S2.out.fr.trans hf⟩);rw [hr] at hp;obtain ⟨rfl,h1⟩:=hp;have S3:=hid (S2.out.next h1);have HR3:=hid (step_some HR2.out hr);have HX3:=hid (h1.fr.keep _ _ _ _ HX2.out HNE.out (by decide));have HY3:=hid (h1.fr.keep _ _ _ _ HY2.out HNB.out (by decide));clear b0 b1 bf bl;obtain ⟨⟨b0,b1⟩,bf,bl⟩:=cells2c HY3.out;clear hr h1;have C3:=hid (shPut S3.out [[58,32]] (by simp) 1 rfl #[.string ⟨#[58,32]⟩] rfl _ rfl))))|(go_at_call 50;(first|((with_reducible refine C4.out.mono ?_);intro e' w5 hp;rcases hr:typW F.xs F.ts n (c.2:Int) l4 with _|l5;(· rw [hr] at hp;obtain ⟨rfl,hf⟩:=hp;obtain rfl:=step_none HR4.out hr;exact ⟨rfl,rfl,S4.out.fr.trans hf⟩);rw [hr] at hp;obtain ⟨rfl,h1⟩:=hp;have S5:=hid (S4.out.next h1);have HR5:=hid (step_some HR4.out hr);have HX5:=hid (h1.fr.keep _ _ _ _ HX4.out HNE.out (by decide));have HY5:=hid (h1.fr.keep _ _ _ _ HY4.out HNB.out (by decide));clear b0 b1 bf bl;obtain ⟨⟨b0,b1⟩,bf,bl⟩:=cells2c HY5.out;clear hr h1;have C5:=hid (shPut S5.out [[59]] (by simp) 1 rfl #[.string ⟨#[59]⟩] rfl _ rfl)))))
   go_roundw
   case rel=>exact ⟨i+1,l6,by go_num,by omega,S6.out,HX6.out,HR6⟩
   case measure=>simp;omega
  ·have hi2:i=cs.length:=by omega
   subst hi2
   have HR0:Hid (wSeq (elsW (typW F.xs F.ts n) j) (wSeq (wPuts [[32,125]]) some) l'=R):=hid (by rw [←HRR.out,cssW_end])
   have S1:=hid hS
   have HX1:=hid hX
   obtain ⟨⟨d0,d1,d2,d3,d4,d5,d6,d7⟩,df,dl⟩:=cells8 HX1.out
   clear hS hX HRR
   by_cases hj:j= -1
   ·subst hj
    have HR1:Hid (wSeq (wPuts [[32,125]]) some l'=R):=hid (by rw [←HR0.out];rfl)
    have C1:=hid (shPut S1.out [[32,125]] (by simp) 1 rfl #[.string ⟨#[32,125]⟩] rfl _ rfl)
    go_wp2_with (first|(go_at_call 88;(first|((with_reducible refine C1.out.mono ?_);intro e' w2 hp;rcases hr:wPuts [[32,125]] l' with _|l2;(· rw [hr] at hp;obtain ⟨rfl,hf⟩:=hp;obtain rfl:=step_none HR1.out hr;exact ⟨rfl,rfl,S1.out.fr.trans hf⟩);rw [hr] at hp;obtain ⟨rfl,h1⟩:=hp;have S2:=hid (S1.out.next h1);have HR2:=hid (step_some HR1.out hr);clear hr h1))))
    obtain rfl:=HR2.out
    go_end0
    exact ⟨rfl,S2.out⟩
   ·have hjb:(j != -1)=true:=bne_iff_ne.2 hj
    have HR1:Hid (wSeq (wPuts [dElse]) (wSeq (typW F.xs F.ts n j) (wSeq (wPuts [[59]]) (wSeq (wPuts [[32,125]]) some))) l'=R):=hid (by
     rw [←HR0.out]
     unfold elsW
     rw [if_pos hj]
     simp only [wSeq_assoc,wSome_seq])
    have C1:=hid (shPut S1.out [dElse] (by simp) 1 rfl #[.string ⟨#[32,101,108,115,101,58,32]⟩] rfl _ rfl)
    go_wp2_with (first|(go_at_call 88;(first|((with_reducible refine C1.out.mono ?_);intro e' w2 hp;rcases hr:wPuts [dElse] l' with _|l2;(· rw [hr] at hp;obtain ⟨rfl,hf⟩:=hp;obtain rfl:=step_none HR1.out hr;exact ⟨rfl,rfl,S1.out.fr.trans hf⟩);rw [hr] at hp;obtain ⟨rfl,h1⟩:=hp;have S2:=hid (S1.out.next h1);have HR2:=hid (step_some HR1.out hr);have HX2:=hid (h1.fr.keep _ _ _ _ HX1.out HNE.out (by decide));clear hr h1;clear d0 d1 d2 d3 d4 d5 d6 d7 df dl;obtain ⟨⟨d0,d1,d2,d3,d4,d5,d6,d7⟩,df,dl⟩:=cells8 HX2.out;have C2:=hid (HT.out j _ _ _ S2.out))|((with_reducible refine C3.out.mono ?_);intro e' w4 hp;rcases hr:wPuts [[59]] l3 with _|l4;(· rw [hr] at hp;obtain ⟨rfl,hf⟩:=hp;obtain rfl:=step_none HR3.out hr;exact ⟨rfl,rfl,S3.out.fr.trans hf⟩);rw [hr] at hp;obtain ⟨rfl,h1⟩:=hp;have S4:=hid (S3.out.next h1);have HR4:=hid (step_some HR3.out hr);clear hr h1;have C4:=hid (shPut S4.out [[32,125]] (by simp) 1 rfl #[.string ⟨#[32,125]⟩] rfl _ rfl))|((with_reducible refine C4.out.mono ?_);intro e' w5 hp;rcases hr:wPuts [[32,125]] l4 with _|l5;(· rw [hr] at hp;obtain ⟨rfl,hf⟩:=hp;obtain rfl:=step_none HR4.out hr;exact ⟨rfl,rfl,S4.out.fr.trans hf⟩);rw [hr] at hp;obtain ⟨rfl,h1⟩:=hp;have S5:=hid (S4.out.next h1);have HR5:=hid (step_some HR4.out hr);clear hr h1)))|(go_at_call 50;(first|((with_reducible refine C2.out.mono ?_);intro e' w3 hp;rcases hr:typW F.xs F.ts n j l2 with _|l3;(· rw [hr] at hp;obtain ⟨rfl,hf⟩:=hp;obtain rfl:=step_none HR2.out hr;exact ⟨rfl,rfl,S2.out.fr.trans hf⟩);rw [hr] at hp;obtain ⟨rfl,h1⟩:=hp;have S3:=hid (S2.out.next h1);have HR3:=hid (step_some HR2.out hr);clear hr h1;have C3:=hid (shPut S3.out [[59]] (by simp) 1 rfl #[.string ⟨#[59]⟩] rfl _ rfl)))))
    obtain rfl:=HR5.out
    go_end0
    exact ⟨rfl,S5.out⟩
end Go.Proofs.YtomimkgaelkaoaaGreatDoor
