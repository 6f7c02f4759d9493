/- Layer 8: the printer's whole file. · Layer 8: write: what is raised is caught. · Layer 8, the mathematics: the numbers of a File that was parsed. No program. · Layer 8: Tidy. · Layer 8: Text of a File. -/
import Derived.Test.YtomimkgaelkaoaaGreatDoorC13ShS
import Derived.Test.YtomimkgaelkaoaaGreatDoorC13ShV
import Derived.Test.YtomimkgaelkaoaaGreatDoorC13ParPa
import Derived.Test.YtomimkgaelkaoaaGreatDoorC13ShEf
set_option linter.unusedVariables false
set_option linter.unusedSimpArgs false
namespace Go.Proofs.YtomimkgaelkaoaaGreatDoor
open Go.Lib (hid)
open Go.ChangeShapes Go.WideShapes Go.ChangeAt Go.RowKit
def ssW8 (F:GF) (i:Nat):OW:=wAll ((F.ss.drop i).map (structW F.xs F.ts))
def csW8 (F:GF) (i:Nat):OW:=wSeq (wAll ((F.cs.drop i).map constW)) (ssW8 F 0)
theorem csW8_step {F:GF} {i:Nat} {c:List UInt8×Nat} (h:F.cs[i]? =some c):csW8 F i=wSeq (wPuts [kConst++ [32],c.1, [32,61,32]]) (wSeq (wNum c.2) (wSeq (wPuts [[59,10]]) (csW8 F (i+1)))):=by
 unfold csW8
 have hlt:=(List.getElem?_eq_some_iff.1 h).1
 rw [List.drop_eq_getElem_cons hlt,(List.getElem?_eq_some_iff.1 h).2,List.map_cons,wAll_cons]
 unfold constW
 rw [wPuts_three]
 simp only [wPuts_one,wAll_cons,wAll_nil,wSeq_assoc,wSome_seq]
theorem csW8_end {F:GF}:csW8 F F.cs.length=ssW8 F 0:=by
 unfold csW8
 rw [List.drop_length]
 rfl
theorem ssW8_step {F:GF} {i:Nat} {s:SM} (h:F.ss[i]? =some s):ssW8 F i=wSeq (structW F.xs F.ts s) (ssW8 F (i+1)):=by
 unfold ssW8
 have hlt:=(List.getElem?_eq_some_iff.1 h).1
 rw [List.drop_eq_getElem_cons hlt,(List.getElem?_eq_some_iff.1 h).2,List.map_cons,wAll_cons]
theorem ssW8_end {F:GF}:ssW8 F F.ss.length=some:=by
 unfold ssW8
 rw [List.drop_length]
 rfl
theorem fileW_yes {F:GF} (h1:F.xs.length≤16384) (h2:F.ts.length≤16384):fileW F=csW8 F 0:=by
 unfold fileW maxText
 rw [if_pos ⟨h1,h2⟩]
 rfl
theorem fileW_no {F:GF} (h: ¬(F.xs.length≤16384∧F.ts.length≤16384)):fileW F=wNo:=by
 unfold fileW maxText
 rw [if_neg h]
set_option maxHeartbeats 8000000 in
set_option maxRecDepth 100000 in
theorem shAll_no {W0:World} {g G:Nat} {F:GF} (hF:FileG G W0 F) (hN:NEnv W0) (hG:GfOK F) {W w:World} {l:List UInt8} (h:SW W0 g (fp G) W l w) (hbig: ¬(F.xs.length≤16384∧F.ts.length≤16384)):
  Calls Tryz.prog 45 #[.pointer (some ⟨g,0,none⟩)] w (PostW W0 g (fp G) w (fileW F l)):=by
 rw [fileW_no hbig]
 have q:=h.file
 obtain ⟨ac,cc,bs',cs,ax,cx,at2,ct, -, -,h3,h4, -, -, -, -,hGl⟩:=hF.look
 have q3:=(h.base.cell (p:=⟨G,3,none⟩) hGl).trans h3
 have q4:=(h.base.cell (p:=⟨G,4,none⟩) hGl).trans h4
 have S0:=hid h.start
 clear h hF hN hG h3 h4 hGl
 by_cases hx:F.xs.length≤16384
 ·have hxI:(F.xs.length:Int)≤16384:=by omega
  have htI: ¬(F.ts.length:Int)≤16384:=by omega
  have htD:decide ((F.ts.length:Int)≤16384)=false:=decide_eq_false htI
  clear hbig hx
  go_enter Tryz.func45, Tryz.ntmps45
  go_wp2_with (go_at_call 87;go_must (refine (sexp_no g _).mono ?_;rintro e w' ⟨rfl,rfl⟩))
  exact ⟨rfl,rfl,S0.out.fr⟩
 ·have hxI: ¬(F.xs.length:Int)≤16384:=by omega
  have hxD:decide ((F.xs.length:Int)≤16384)=false:=decide_eq_false hxI
  clear hbig hx
  go_enter Tryz.func45, Tryz.ntmps45
  go_wp2_with (go_at_call 87;go_must (refine (sexp_no g _).mono ?_;rintro e w' ⟨rfl,rfl⟩))
  exact ⟨rfl,rfl,S0.out.fr⟩
set_option maxHeartbeats 8000000 in
set_option maxRecDepth 100000 in
theorem shAll_yes {W0:World} {g G:Nat} {F:GF} (hF:FileG G W0 F) (hN:NEnv W0) (hG:GfOK F) (hS: ∀s∈F.ss,SmOK s) (hcl:F.cs.length<9223372036854775808) (hsl:F.ss.length<9223372036854775808) {W w:World} {l:List UInt8} (h:SW W0 g (fp G) W l w) (hxs:F.xs.length≤16384) (hts:F.ts.length≤16384):
  Calls Tryz.prog 45 #[.pointer (some ⟨g,0,none⟩)] w (PostW W0 g (fp G) w (fileW F l)):=by
 rw [fileW_yes hxs hts]
 obtain ⟨R,hR⟩: ∃R,csW8 F 0 l=R:=⟨_,rfl⟩
 rw [hR]
 have HR1:=hid hR
 have S1:=hid h.start
 have q:=h.file
 obtain ⟨ac,cc,bs',cs,ax,cx,at2,ct,h1,h2,h3,h4,h5,h6, -, -,hGl⟩:=hF.look
 have RD:Hid (∀w1,Below W0.heap.size W0 w1→w1.cell? ⟨G,1,none⟩=some (.slice ac F.cs.length cc)∧w1.cell? ⟨G,2,none⟩=some (.slice bs' F.ss.length cs)):=hid fun w1 hb=>⟨(hb.cell (p:=⟨G,1,none⟩) hGl).trans h1,(hb.cell (p:=⟨G,2,none⟩) hGl).trans h2⟩
 have HSM:=hid hS
 have HCK:=hid hG.k
 have HL:=hid (And.intro hcl hsl)
 have HCS:=hid h5
 have HSS:=hid h6
 have HFF:=hid hF
 have HNN:=hid hN
 have HGG:=hid hG
 have q1:=(h.base.cell (p:=⟨G,1,none⟩) hGl).trans h1
 have q3:=(h.base.cell (p:=⟨G,3,none⟩) hGl).trans h3
 have q4:=(h.base.cell (p:=⟨G,4,none⟩) hGl).trans h4
 have hxI:(F.xs.length:Int)≤16384:=by omega
 have htI:(F.ts.length:Int)≤16384:=by omega
 have hxD:decide ((F.xs.length:Int)≤16384)=true:=decide_eq_true hxI
 have htD:decide ((F.ts.length:Int)≤16384)=true:=decide_eq_true htI
 clear h hF hN hG hS hcl hsl h1 h2 h3 h4 h5 h6 hGl hxs hts hR
 go_enter Tryz.func45, Tryz.ntmps45
 go_wp2_with (go_at_call 87;go_must (refine (sexp_yes g _).mono ?_;rintro e w' ⟨rfl,rfl⟩))
 clear q q1 q3 q4 hxI htI hxD htD
 go_loopw [36] (fun s36 wr=> ∃(i:Nat) (l':List UInt8),s36= .int .i64 (i:Int)∧i≤F.cs.length∧SW W0 g (fp G) w l' wr∧Hid (csW8 F i l'=R)) (fun s36 _=>F.cs.length - (match s36 with| .int _ i=>i.toNat|_=>0))
 case atStart=>exact ⟨0,l,rfl,Nat.zero_le _,S1.out,HR1⟩
 case round=>
  obtain ⟨i,l',rfl,hi,hS,HRR⟩:=hrel
  clear S1 HR1
  by_cases hlt:i<F.cs.length
  ·have hltI:(i:Int)<(F.cs.length:Int):=by omega
   obtain ⟨c,hc⟩: ∃c,F.cs[i]? =some c:=⟨F.cs[i],List.getElem?_eq_getElem hlt⟩
   have HBC:=hid (HCK.out c (List.mem_of_getElem? hc))
   have HR1:Hid (wSeq (wPuts [kConst++ [32],c.1, [32,61,32]]) (wSeq (wNum c.2) (wSeq (wPuts [[59,10]]) (csW8 F (i+1)))) l'=R):=hid (by rw [←HRR.out,csW8_step hc])
   obtain ⟨kc,rfl,hkl,q0,q1⟩:=cos_at HCS.out hc
   have hw1:IntKind.i64.wrap ((i:Int)+1)=(i:Int)+1:=IntWalk.i64_in _ (by have:=HL.out.1;omega)
   have q0:=(hS.base.cell (p:=⟨kc,i*2,none⟩) hkl).trans q0
   have q1:=(hS.base.cell (p:=⟨kc,i*2+1,none⟩) hkl).trans q1
   have S1:=hid (hS.alloc (.cells #[.string (bs c.1), .int .u64 (c.2:Int)] 46))
   have HNB:=hid hS.ne
   have HY1:=hid (heap_alloc_new wr (.cells #[.string (bs c.1), .int .u64 (c.2:Int)] 46))
   have C1:=hid (shPut S1.out [kConst++ [32],c.1, [32,61,32]] (by simp) 3 rfl #[.string ⟨#[99,111,110,115,116,32]⟩, .string (bs c.1), .string ⟨#[32,61,32]⟩] rfl (wr.heap.size+1) (by simp))
   clear hS HRR hkl
   obtain ⟨⟨b0,b1⟩,bf,bl⟩:=cells2c HY1.out
   go_wp2_with (first|(go_at_call 88;(first|((with_reducible refine C1.out.mono ?_);intro e' w2 hp;rcases hr:wPuts [kConst++ [32],c.1, [32,61,32]] l' with _|l2;(· rw [hr] at hp;obtain ⟨rfl,hf⟩:=hp;obtain rfl:=step_none HR1.out hr;exact ⟨rfl,rfl,S1.out.fr.trans hf⟩);rw [hr] at hp;obtain ⟨rfl,h1⟩:=hp;have S2:=hid (S1.out.next h1);have HR2:=hid (step_some HR1.out hr);have HY2:=hid (h1.fr.keep _ _ _ _ HY1.out HNB.out (by decide));clear b0 b1 bf bl;obtain ⟨⟨b0,b1⟩,bf,bl⟩:=cells2c HY2.out;clear hr;have C2:=hid (shNum HNN.out S2.out c.2 HBC.out);clear h1)|((with_reducible refine C3.out.mono ?_);intro e' w4 hp;rcases hr:wPuts [[59,10]] l3 with _|l4;(· rw [hr] at hp;obtain ⟨rfl,hf⟩:=hp;obtain rfl:=step_none HR3.out hr;exact ⟨rfl,rfl,S3.out.fr.trans hf⟩);rw [hr] at hp;obtain ⟨rfl,h1⟩:=hp;have S4:=hid (S3.out.next h1);have HR4:=hid (step_some HR3.out hr);have HY4:=hid (h1.fr.keep _ _ _ _ HY3.out HNB.out (by decide));clear b0 b1 bf bl;obtain ⟨⟨b0,b1⟩,bf,bl⟩:=cells2c HY4.out;clear hr;clear h1)))|(go_at_call 89;(first|((with_reducible refine C2.out.mono ?_);intro e' w3 hp;rcases hr:wNum c.2 l2 with _|l3;(· rw [hr] at hp;obtain ⟨rfl,hf⟩:=hp;obtain rfl:=step_none HR2.out hr;exact ⟨rfl,rfl,S2.out.fr.trans hf⟩);rw [hr] at hp;obtain ⟨rfl,h1⟩:=hp;have S3:=hid (S2.out.next h1);have HR3:=hid (step_some HR2.out hr);have HY3:=hid (h1.fr.keep _ _ _ _ HY2.out HNB.out (by decide));clear b0 b1 bf bl;obtain ⟨⟨b0,b1⟩,bf,bl⟩:=cells2c HY3.out;clear hr;have C3:=hid (shPut S3.out [[59,10]] (by simp) 1 rfl #[.string ⟨#[59,10]⟩] rfl _ rfl);clear h1))))
   go_roundw
   case rel=>exact ⟨i+1,l4,by go_num,by omega,S4.out,HR4⟩
   case measure=>simp;omega
  ·have hi2:i=F.cs.length:=by omega
   subst hi2
   have HR1:Hid (ssW8 F 0 l'=R):=hid (by rw [←HRR.out,csW8_end])
   have S1:=hid hS
   have q:=hS.file
   obtain ⟨q1,q2⟩:=RD.out _ hS.base
   clear hS HRR hi hlt
   go_wp2_with fail
   clear q q1 q2
   go_loopw [61] (fun s61 wr2=> ∃(i:Nat) (l':List UInt8),s61= .int .i64 (i:Int)∧i≤F.ss.length∧SW W0 g (fp G) w l' wr2∧Hid (ssW8 F i l'=R)) (fun s61 _=>F.ss.length - (match s61 with| .int _ i=>i.toNat|_=>0))
   case atStart=>exact ⟨0,l',rfl,Nat.zero_le _,S1.out,HR1⟩
   case round=>
    obtain ⟨i,l2,rfl,hi,hS,HRR⟩:=hrel
    clear S1 HR1
    by_cases hlt:i<F.ss.length
    ·have hltI:(i:Int)<(F.ss.length:Int):=by omega
     obtain ⟨s,hs⟩: ∃s,F.ss[i]? =some s:=⟨F.ss[i],List.getElem?_eq_getElem hlt⟩
     have HMM:=hid (HSM.out s (List.mem_of_getElem? hs))
     have HR1:Hid (wSeq (structW F.xs F.ts s) (ssW8 F (i+1)) l2=R):=hid (by rw [←HRR.out,ssW8_step hs])
     obtain ⟨kc,pv,iv,rfl,hkl,q0,q1,q2,hps,his⟩:=ss_at HSS.out hs
     have hw1:IntKind.i64.wrap ((i:Int)+1)=(i:Int)+1:=IntWalk.i64_in _ (by have:=HL.out.2;omega)
     obtain ⟨pa,pc,rfl, -⟩:=hps.shape
     obtain ⟨ia,ic,rfl, -⟩:=his.shape
     have q0:=(hS.base.cell (p:=⟨kc,i*3,none⟩) hkl).trans q0
     have q1:=(hS.base.cell (p:=⟨kc,i*3+1,none⟩) hkl).trans q1
     have q2:=(hS.base.cell (p:=⟨kc,i*3+2,none⟩) hkl).trans q2
     have S1:=hid (hS.alloc (.cells #[.string (bs s.s), .slice pa s.ps.length pc, .slice ia s.is.length ic] 110))
     have C1:=hid (shStruct HFF.out HNN.out HGG.out S1.out s HMM.out hps his)
     have HY1:=hid (heap_alloc_new wr (.cells #[.string (bs s.s), .slice pa s.ps.length pc, .slice ia s.is.length ic] 110))
     clear hS HRR hkl hps his
     obtain ⟨⟨b0,b1,b2⟩,bf,bl⟩:=cells3c HY1.out
     go_wp2_with (first|(go_at_call 90;(first|((with_reducible refine C1.out.mono ?_);intro e' w3 hp;rcases hr:structW F.xs F.ts s l2 with _|l3;(· rw [hr] at hp;obtain ⟨rfl,hf⟩:=hp;obtain rfl:=step_none HR1.out hr;exact ⟨rfl,rfl,S1.out.fr.trans hf⟩);rw [hr] at hp;obtain ⟨rfl,h1⟩:=hp;have S2:=hid (S1.out.next h1);have HR2:=hid (step_some HR1.out hr);clear hr h1))))
     go_roundw
     case rel=>exact ⟨i+1,l3,by go_num,by omega,S2.out,HR2⟩
     case measure=>simp;omega
    ·have hi2:i=F.ss.length:=by omega
     subst hi2
     have HR1:Hid (some l2=R):=hid (by rw [←HRR.out,ssW8_end])
     have S1:=hid hS
     clear hS HRR
     go_wp2_with fail
     obtain rfl:=HR1.out
     go_end0
     exact ⟨rfl,S1.out⟩
theorem shAll {W0:World} {g G:Nat} {F:GF} (hF:FileG G W0 F) (hN:NEnv W0) (hG:GfOK F) (hS: ∀s∈F.ss,SmOK s) (hcl:F.cs.length<9223372036854775808) (hsl:F.ss.length<9223372036854775808) {W w:World} {l:List UInt8} (h:SW W0 g (fp G) W l w):
  Calls Tryz.prog 45 #[.pointer (some ⟨g,0,none⟩)] w (PostW W0 g (fp G) w (fileW F l)):=by
 by_cases hb:F.xs.length≤16384∧F.ts.length≤16384
 ·exact shAll_yes hF hN hG hS hcl hsl h hb.1 hb.2
 ·exact shAll_no hF hN hG h hb
end Go.Proofs.YtomimkgaelkaoaaGreatDoor
namespace Go.Proofs.YtomimkgaelkaoaaGreatDoor
open Go.Lib (hid)
open Go.ChangeShapes Go.WideShapes Go.ChangeAt Go.RowKit
theorem run_noText (v:Value) (w:World):(Instr.typeAssert (.iface 200 v) 20 200 true).run Tryz.prog w= .ok (.tuple #[v, .bool true]) w:=by
 simp [Instr.typeAssert,run_underlying Tryz.underlying200]
theorem run_noText_nil (w:World):(Instr.typeAssert .nilIface 20 200 true).run Tryz.prog w= .ok (.tuple #[.agg #[], .bool false]) w:=by
 simp [Instr.typeAssert,run_underlying Tryz.underlying200,run_underlying Tryz.underlying20]
set_option maxHeartbeats 1000000 in
set_option maxRecDepth 100000 in
theorem catch8_panics (w:World):
  CallsD Tryz.prog 85 #[] (.panicking [{v:= .iface 200 (.agg #[]),recovered:=false}]) w fun e u' w'=>
   e= .returned (.tuple #[])∧u'= .panicking [{v:= .iface 200 (.agg #[]),recovered:=true}]∧w'=w:=by
 refine callsD_of_wpS Tryz.func85 rfl fun c₀ cs hu=> ?_
 apply wpS_seq
 apply wpS_region
 simp [wpOpsS,go_sem,recoverD,hu, Tryz.ntmps85,Exit.thenS]
 refine wpS_of_wp ?_
 have hf:=fun v w=>run_noText v w
 go_wp2_with fail
 exact ⟨rfl,_,rfl, .tuple #[],by simp [results, Tryz.results85,go_sem],rfl,rfl,rfl⟩
set_option maxHeartbeats 1000000 in
set_option maxRecDepth 100000 in
theorem catch8_idle (w:World):
  CallsD Tryz.prog 85 #[] .returning w fun e u' w'=>e= .returned (.tuple #[])∧u'= .returning∧w'=w:=by
 refine callsD_of_wpS Tryz.func85 rfl fun c₀ cs hu=> ?_
 apply wpS_seq
 apply wpS_region
 simp [wpOpsS,go_sem,recoverD,hu, Tryz.ntmps85,Exit.thenS]
 refine wpS_of_wp ?_
 have hf:=fun w=>run_noText_nil w
 go_wp2_with fail
 exact ⟨rfl,_,by rw [←hu], .tuple #[],by simp [results, Tryz.results85,go_sem],rfl,rfl,rfl⟩
set_option maxHeartbeats 2000000 in
set_option maxRecDepth 100000 in
theorem String_nil {B g:Nat} {f:Value} (w:World) (h:Pr B g f [] w):
  Calls Tryz.prog 86 #[.pointer (some ⟨g,1,none⟩)] w fun e w'=>e= .returned (.string (bs []))∧Below B w w':=by
 obtain ⟨p,v,hp,c0,c1,c2,hf,hs,hown,hne,hh⟩:=h.cells
 have mixed: Tryz.prog.follows Departure.mixedOrders=true:=by kernel_rfl
 have hd:Hid (Below B w w.drew):=hid (Below.refl B w).drew
 have hUS:=fun (w:World) (p:Option Addr)=>Lib.run_unsafeString_none (P:= Tryz.prog) (w:=w) 253 3 9 p
 rcases hown.2 with ⟨rfl,_⟩|⟨k,cap,cur,rfl,hbg,hg,hnc,hcm,hcs,htake⟩
 ·have c2':w.drew.cell? ⟨g,2,none⟩=some (.slice none 0 0):=c2
  have hSD:=fun (w:World)=>Lib.run_unsafeSliceData_nil (P:= Tryz.prog) (w:=w) #[202] 253 0 0
  clear h hp c0 c1 hs hown hne hh c2
  go_enter Tryz.func86, Tryz.ntmps86
  go_wp2
  go_region_o
  all_goals (go_wp2;go_ret;exact ⟨rfl,hd.out⟩)
 ·by_cases hc:cap=0
  ·subst hc
   have c2':w.drew.cell? ⟨g,2,none⟩=some (.slice (some ⟨k,0,none⟩) 0 0):=c2
   have hgl:g<w.heap.size:=h.lt
   have c2''':(w.alloc (.view ⟨k,0,none⟩ 5)).cell? ⟨g,2,none⟩=some (.slice (some ⟨k,0,none⟩) 0 0):=((below_box w _).cell (p:=⟨g,2,none⟩) hgl).trans c2
   have c2'':(w.drew.alloc (.view ⟨k,0,none⟩ 5)).cell? ⟨g,2,none⟩=some (.slice (some ⟨k,0,none⟩) 0 0):=((below_box w.drew _).cell (p:=⟨g,2,none⟩) hgl).trans c2'
   have hSD:(Builtin.unsafeSliceData_ #[202] 253 #[.slice (some ⟨k,0,none⟩) 0 0]).run Tryz.prog w.drew= .ok (.pointer (some ⟨w.drew.heap.size,0,none⟩)) (w.drew.alloc (.view ⟨k,0,none⟩ 5)):=
    Lib.run_unsafeSliceData_zero w.drew #[202] 253 5 Tryz.underlying253 ⟨k,0,none⟩ 0 (5,cur.size) (by have hg':w.drew.heap[k]? =some (.cells cur 5 (0,0)):=hg;simp [World.shape?,hg'])
   have hd2:Hid (Below B w (w.drew.alloc (.view ⟨k,0,none⟩ 5))):=hid (hd.out.alloc (by have:=h.lo;show B≤w.heap.size;omega) _)
   clear h hp c0 c1 hs hown hne hh hg hnc hcm hcs htake c2 hgl
   go_enter Tryz.func86, Tryz.ntmps86
   go_wp2
   go_region_o
   all_goals (go_wp2;go_ret;exact ⟨rfl,hd2.out⟩)
  ·have c2':w.drew.cell? ⟨g,2,none⟩=some (.slice (some ⟨k,0,none⟩) 0 cap):=c2
   have hSD:=fun (w:World)=>Lib.run_unsafeSliceData_row (P:= Tryz.prog) (w:=w) #[202] 253 ⟨k,0,none⟩ 0 cap hc
   clear h hp c0 c1 hs hown hne hh hg hnc hcm hcs htake c2
   go_enter Tryz.func86, Tryz.ntmps86
   go_wp2
   go_region_o
   all_goals (go_wp2;go_ret;exact ⟨rfl,hd.out⟩)
theorem String8 {B g:Nat} {f:Value} {l:List UInt8} (w:World) (h:Pr B g f l w):
  Calls Tryz.prog 86 #[.pointer (some ⟨g,1,none⟩)] w fun e w'=>e= .returned (.string (bs l))∧Below B w w':=by
 by_cases h0:l= []
 ·subst h0;exact String_nil w h
 ·exact String_any w h h0
def WrPost (r:Option (List UInt8)) (e:Ending):Prop:=
 match r with
 |some l=>e= .returned (.tuple #[.string (bs l), .bool true])
 |none=>e= .returned (.tuple #[.string ⟨#[]⟩, .bool false])
theorem Pr.new (w:World) (f:Value):Pr w.heap.size w.heap.size f [] (w.alloc (.cells #[f, .pointer none, .slice none 0 0] 206)):=
 ⟨Nat.le_refl _, .pointer none, .slice none 0 0, .inl rfl,heap_alloc_new w _,⟨rfl, .inl ⟨rfl,rfl⟩⟩,by simp [Value.ownBlock]⟩
theorem SW.new (w:World) (f:Value):SW w w.heap.size f (w.alloc (.cells #[f, .pointer none, .slice none 0 0] 206)) [] (w.alloc (.cells #[f, .pointer none, .slice none 0 0] 206)):=
 ⟨Pr.new w f,by decide,Fr.refl _ _ _,below_box w _⟩
set_option maxHeartbeats 2000000 in
set_option maxRecDepth 100000 in
theorem write_all {G:Nat} {w:World} {r:Option (List UInt8)} (hC: ∀wr,SW w w.heap.size (fp G) wr [] wr→Calls Tryz.prog 45 #[.pointer (some ⟨w.heap.size,0,none⟩)] wr (PostW w w.heap.size (fp G) wr r)):
  Calls Tryz.prog 44 #[.pointer (some ⟨G,1,none⟩), .func (.func 45) #[] #[]] w fun e w'=>WrPost r e∧Below w.heap.size w w':=by
 have S0:=hid (SW.new w (fp G))
 have C:=hid (hC _ S0.out)
 clear hC
 go_enter_defers Tryz.func44, Tryz.ntmps44
 go_wp2_with fail
 refine C.out.mono ?_
 intro e w1 hp
 cases r with
 |none=>
  obtain ⟨rfl,hf⟩:=hp
  have HF:=hid ((below_box w (.cells #[.pointer (some ⟨G,1,none⟩), .pointer none, .slice none 0 0] 206)).trans hf.below)
  clear hf C S0
  go_wp2_with fail
  refine leaves_cons (f:= 85) (args:= #[]) (by simp) (by simp [go_sem]) ?_
  refine (catch8_panics _).mono ?_
  rintro e u' w'' ⟨rfl,rfl,rfl⟩
  refine ⟨.tuple #[.string ⟨#[]⟩, .bool false],by simp [results, Tryz.results44,go_sem],rfl,HF.out⟩
 |some l=>
  obtain ⟨rfl,hS⟩:=hp
  have S1:=hid hS
  have C2:=hid (String8 _ hS.pr)
  clear hS C S0
  go_wp2_with (go_at_call 86;(with_reducible refine C2.out.mono ?_);rintro e' w2 ⟨rfl,hb⟩;have HF:=hid (S1.out.base.trans hb);clear hb)
  refine leaves_cons (f:= 85) (args:= #[]) (by simp) (by simp [go_sem]) ?_
  refine (catch8_idle _).mono ?_
  rintro e u' w'' ⟨rfl,rfl,rfl⟩
  refine ⟨.tuple #[.string (bs l), .bool true],by simp [results, Tryz.results44,go_sem],rfl,HF.out⟩
end Go.Proofs.YtomimkgaelkaoaaGreatDoor
namespace Go.Proofs.YtomimkgaelkaoaaGreatDoor
open Go.Lib (hid)
def NX (g:GM):Prop:=(∀x∈g.xs,x.n<18446744073709551616)∧(∀t∈g.ts,∀c∈t.cs,c.1<18446744073709551616)
theorem NX.addX {g:GM} (h:NX g) (x:XM) (hx:x.n<18446744073709551616):NX (g.addX x):=by
 refine ⟨fun y hy=> ?_,h.2⟩
 rcases List.mem_append.1 hy with hy|hy
 ·exact h.1 y hy
 ·rw [List.mem_singleton.1 hy];exact hx
theorem NX.addT {g:GM} (h:NX g) (t:TM) (ht: ∀c∈t.cs,c.1<18446744073709551616):NX (g.addT t):=by
 refine ⟨h.1,fun y hy=> ?_⟩
 rcases List.mem_append.1 hy with hy|hy
 ·exact h.2 y hy
 ·rw [List.mem_singleton.1 hy];exact ht
theorem putE_nx: ∀(e:EA) (g:GM),VE e→NX g→NX (putE e g)
 | .num n,g,v,h=>h.addX _ v
 | .name s,g,v,h=>h.addX _ (show (0:Nat)<18446744073709551616 by decide)
 | .not a,g,v,h=>(putE_nx a g v h).addX _ (show (0:Nat)<18446744073709551616 by decide)
 | .bin op a b,g,v,h=>(putE_nx b _ v.2.2 (putE_nx a g v.2.1 h)).addX _ (show (0:Nat)<18446744073709551616 by decide)
theorem putEs_nx: ∀(l:List EA) (s:GM×List Nat),(∀e∈l,VE e)→NX s.1→NX (l.foldl stepE s).1
 | [],s,_,h=>h
 |e::l,s,v,h=>putEs_nx l _ (fun x hx=>v x (List.mem_cons_of_mem _ hx)) (putE_nx e s.1 (v e (List.mem_cons_self)) h)
theorem putT_nx: ∀(t:TA) (g:GM),VT t→NX g→NX (putT t g).1∧∀c∈(putT t g).2,c.1<18446744073709551616
 | .int z li,g,v,h=>⟨h.addT _ (by simp),by simp [putT]⟩
 | .ref s es,g,v,h=>⟨(putEs_nx es (g, []) v.2.2 h).addT _ (by simp),by simp [putT]⟩
 | .idx k e,g,v,h=>⟨(putE_nx e g v h).addT _ (by simp),by simp [putT]⟩
 | .win k e t,g,v,h=>⟨(putT_nx t _ v.2 (putE_nx e g v.1 h)).1.addT _ (by simp),by simp [putT]⟩
 | .rest t,g,v,h=>⟨(putT_nx t g v h).1.addT _ (by simp),by simp [putT]⟩
 | .leaf k,g,v,h=>⟨h.addT _ (by simp),by simp [putT]⟩
 | .arr t e,g,v,h=>⟨(putE_nx e _ v.2 (putT_nx t g v.1 h).1).addT _ (by simp),by simp [putT]⟩
 | .sw e cs els,g,v,h=>by
  have h1:=putE_nx e g v.1 h
  have h2:=putT_nx cs _ v.2.1 h1
  have h3:=putT_nx els _ v.2.2 h2.1
  exact ⟨h3.1.addT _ h2.2,by simp [putT]⟩
 | .nil,g,v,h=>⟨h,by simp [putT]⟩
 | .snoc cs n t,g,v,h=>by
  have h1:=putT_nx cs g v.1 h
  have h2:=putT_nx t _ v.2.2 h1.1
  refine ⟨h2.1,fun c hc=> ?_⟩
  rcases List.mem_append.1 hc with hc|hc
  ·exact h1.2 c hc
  ·rw [List.mem_singleton.1 hc];exact v.2.1
theorem putI_nx (x:IA) (g:GM) (v:VI x) (h:NX g):NX (putI x g).1∧∀u∈(putI x g).2.subs,u.2<9223372036854775808:=by
 cases x with
 |field s t d wh=>
  have h1:=(putT_nx t g v.2.2.1 h).1
  refine ⟨?_,by simp [putI]⟩
  cases wh with
  |none=>exact h1
  |some e=>exact putE_nx e _ (v.2.2.2.2 e rfl) h1
 |pack z li subs=>exact ⟨h,fun u hu=>by have:=(v.2 u hu).2.2;omega⟩
theorem putIs_nx: ∀(l:List IA) (s:GM×List IM),(∀x∈l,VI x)→NX s.1→(∀y∈s.2,∀u∈y.subs,u.2<9223372036854775808)→NX (l.foldl stepI s).1∧∀y∈(l.foldl stepI s).2,∀u∈y.subs,u.2<9223372036854775808
 | [],s,_,h,k=>⟨h,k⟩
 |x::l,s,v,h,k=>by
  have h1:=putI_nx x s.1 (v x (List.mem_cons_self)) h
  refine putIs_nx l _ (fun y hy=>v y (List.mem_cons_of_mem _ hy)) h1.1 fun y hy=> ?_
  rcases List.mem_append.1 hy with hy|hy
  ·exact k y hy
  ·rw [List.mem_singleton.1 hy];exact h1.2
theorem putSs_nx: ∀(l:List SA) (s:GM×List SM),(∀x∈l,VS x)→NX s.1→(∀m∈s.2,∀y∈m.is,∀u∈y.subs,u.2<9223372036854775808)→NX (l.foldl stepS s).1∧∀m∈(l.foldl stepS s).2,∀y∈m.is,∀u∈y.subs,u.2<9223372036854775808
 | [],s,_,h,k=>⟨h,k⟩
 |x::l,s,v,h,k=>by
  have h1:=putIs_nx x.is (s.1, []) (v x (List.mem_cons_self)).2.2.2 h (by simp)
  refine putSs_nx l _ (fun y hy=>v y (List.mem_cons_of_mem _ hy)) h1.1 fun m hm=> ?_
  rcases List.mem_append.1 hm with hm|hm
  ·exact k m hm
  ·rw [List.mem_singleton.1 hm];exact h1.2
structure NumOK (f:FM):Prop where
 n: ∀x∈f.g.xs,x.n<18446744073709551616
 cn: ∀t∈f.g.ts,∀c∈t.cs,c.1<18446744073709551616
 k: ∀c∈f.cs,c.2<18446744073709551616
 b: ∀s∈f.ss,∀x∈s.is,∀u∈x.subs,u.2<9223372036854775808
theorem parse_nums {s:List UInt8} {f:FM} (h:parseL s= .ok f):NumOK f:=by
 obtain ⟨cs,ss,rfl,vc,vs, -, -⟩:=parse_tree h
 have h1:=putSs_nx ss (gm0, []) (fun x hx=>(vs x hx).1) ⟨by simp [gm0],by simp [gm0]⟩ (by simp)
 exact ⟨h1.1.1,h1.1.2,fun c hc=>(vc c hc).2.2,h1.2⟩
end Go.Proofs.YtomimkgaelkaoaaGreatDoor
namespace Go.Proofs.YtomimkgaelkaoaaGreatDoor
open Go.Lib (hid)
open Go.ChangeShapes Go.WideShapes Go.ChangeAt Go.RowKit
theorem SlR.map8 {α β:Type} {size:Nat} {rep:World→List Value→α→Prop} {rep':World→List Value→β→Prop} {fn:α→β} {w:World} (hr: ∀cs x,rep w cs x→rep' w cs (fn x)) {v:Value} {l:List α} (h:SlR size rep w v l):SlR size rep' w v (l.map fn):=by
 obtain ⟨a,c,h1,h2,h3,h4⟩:=h
 refine ⟨a,c,by rw [List.length_map];exact h1,by rw [List.length_map];exact h2,h3,fun i x hx=> ?_⟩
 rw [List.getElem?_map] at hx
 obtain ⟨y,hy,rfl⟩:=Option.map_eq_some_iff.1 hx
 obtain ⟨k,cs,k1,k2,k3,k4,k5⟩:=h4 i y hy
 exact ⟨k,cs,k1,k2,k3,k4,hr _ _ k5⟩
theorem FileR.gf {g:Nat} {w:World} {f:FM} (h:FileR g w f):FileG g w f.gf:=by
 obtain ⟨v0,vc,vs,vx,vt,v5,h1,h2,h3,h4,h5⟩:=h
 refine ⟨v0,vc,vs,vx,vt,v5,h1,h2,h3,h4.map8 ?_,h5.map8 ?_⟩
 ·rintro cs x ⟨kv,rfl,hk⟩
  exact ⟨kv,rfl,hk.map8 (fn:=fun (k:Nat)=>(k:Int)) fun cs x h=>h⟩
 ·rintro cs x ⟨av,cv,rfl,ha,hc⟩
  exact ⟨av,cv,rfl,ha,hc⟩
theorem SlR.len8 {α:Type} {size:Nat} {rep:World→List Value→α→Prop} {w:World} {v:Value} {l:List α} (h:SlR size rep w v l):l.length<9223372036854775808:=by
 obtain ⟨a,c, -,h2,h3, -⟩:=h
 unfold maxLen at h3
 omega
theorem SlR.mem8 {α:Type} {size:Nat} {rep:World→List Value→α→Prop} {w:World} {v:Value} {l:List α} (h:SlR size rep w v l) {x:α} (hx:x∈l): ∃cs,rep w cs x:=by
 obtain ⟨i,hi⟩:=List.mem_iff_getElem?.1 hx
 obtain ⟨a,c, -, -, -,h4⟩:=h
 obtain ⟨k,cs, -, -, -, -,k5⟩:=h4 i x hi
 exact ⟨cs,k5⟩
theorem gf_ok {g:Nat} {w:World} {f:FM} (h:FileR g w f) (hn:NumOK f) (hl:f.g.xs.length+f.g.ts.length≤60000):GfOK f.gf∧∀x∈f.gf.ss,SmOK x:=by
 obtain ⟨v0,vc,vs,vx,vt,v5,h1,h2,h3,h4,h5⟩:=h
 have ht: ∀t∈f.g.ts,t.args.length<9223372036854775808∧t.cs.length<9223372036854775808:=fun t ht=>by
  obtain ⟨cs,av,cv, -,ha,hc⟩:=h5.mem8 ht
  exact ⟨ha.len8,hc.len8⟩
 refine ⟨⟨by show (f.g.xs.map XM.gx).length≤_;rw [List.length_map];omega,by show (f.g.ts.map TM.gt).length≤_;rw [List.length_map];omega, ?_, ?_,hn.k,hn.b, ?_, ?_⟩,fun s hs=> ?_⟩
 ·intro x hx
  obtain ⟨y,hy,rfl⟩:=List.mem_map.1 hx
  exact hn.n y hy
 ·intro x hx
  obtain ⟨y,hy,rfl⟩:=List.mem_map.1 hx
  exact hn.cn y hy
 ·intro x hx
  obtain ⟨y,hy,rfl⟩:=List.mem_map.1 hx
  exact (ht y hy).1
 ·intro x hx
  obtain ⟨y,hy,rfl⟩:=List.mem_map.1 hx
  exact (ht y hy).2
 ·obtain ⟨cs,pv,iv, -,hp,hi⟩:=h3.mem8 hs
  refine ⟨hp.len8,hi.len8,fun x hx=> ?_,hn.b s hs⟩
  obtain ⟨cs,sv, -,hu⟩:=hi.mem8 hx
  exact hu.len8
def TidyOf (r:Option (List UInt8)) (e:Ending):Prop:=
 match r with
 |some t=>e= .returned (.tuple #[.string (bs t), .agg #[.int .i64 0, .int .i64 0], .int .i64 0])
 |none=>e= .returned (.tuple #[.string ⟨#[]⟩, .agg #[.int .i64 1, .int .i64 1], .int .i64 7])
def TidyPost (r:FR) (e:Ending):Prop:=
 match r with
 | .bad p x=>e= .returned (.tuple #[.string ⟨#[]⟩, .agg #[.int .i64 (p.1:Nat), .int .i64 (p.2:Nat)], .int .i64 (x:Nat)])
 | .ok f=>TidyOf (textW f.gf) e
theorem cellsP {T:TypeId} {w:World} {k:Nat} {v0 v1:Value} (h:w.heap[k]? =some (.cells #[v0,v1] T (0,0))):w.cell? ⟨k,0,none⟩=some v0∧w.cell? ⟨k,1,none⟩=some v1∧w.frozen? ⟨k,0,none⟩=false∧w.frozen? ⟨k,1,none⟩=false:=
 ⟨(cells2c h).1.1,(cells2c h).1.2,(cells2c h).2.1 0,(cells2c h).2.1 1⟩
set_option maxHeartbeats 4000000 in
set_option maxRecDepth 100000 in
theorem Tidy_any (s:ByteArray) (w:World) (hE:Env w) (hK:KEnv (fun b=>b<w.heap.size) w) (hN:NEnv w):
  Calls Tryz.prog 36 #[.string s] w fun e w'=>TidyPost (parseL s.data.toList) e∧Below w.heap.size w w':=by
 have hB0:Below w.heap.size w (w.alloc (.cells #[.int .i64 0, .int .i64 0] 25)):=below_box _ _
 have hx0:=heap_alloc_new w (.cells #[.int .i64 0, .int .i64 0] 25)
 have hs0:(w.alloc (.cells #[.int .i64 0, .int .i64 0] 25)).heap.size=w.heap.size+1:=by simp
 have CP:=hid (Parse_any s _ (hE.below hB0) (hK.low hB0))
 have HN:=hid hN
 have HOK:Hid (∀f,parseL s.data.toList= .ok f→NumOK f):=hid fun f h=>parse_nums h
 have HB0:=hid hB0
 have HX0:=hid hx0
 generalize hr:parseL s.data.toList=r at CP HOK ⊢
 clear hE hK hN hB0 hx0 hr
 go_enter Tryz.func36, Tryz.ntmps36
 go_wp2_with fail
 generalize w.alloc (.cells #[.int .i64 0, .int .i64 0] 25)=W0 at CP HB0 HX0 hs0 ⊢
 refine CP.out.mono ?_
 rintro e w1 ⟨hp,hb⟩
 rw [hs0] at hb
 have hsz:w.heap.size+1≤w1.heap.size:=by have:=hb.size;omega
 have HB1:=hid (HB0.out.trans (hb.mono (Nat.le_succ _)))
 have HX1:=hid ((hb.block w.heap.size (Nat.lt_succ_self _)).trans HX0.out)
 clear CP HX0 HB0
 cases r with
 |bad p x=>
  obtain ⟨p1,p2⟩:=p
  obtain ⟨rfl,hx0⟩:=hp
  have hx:((x:Int) !=0)=true:=by simp;omega
  have hB2:Below w1.heap.size w1 (w1.alloc (.cells #[.int .i64 (p1:Nat), .int .i64 (p2:Nat)] 25)):=below_box _ _
  have HY:=cellsP (heap_alloc_new w1 (.cells #[.int .i64 (p1:Nat), .int .i64 (p2:Nat)] 25))
  have HX2:=cellsP ((hB2.block w.heap.size (by omega)).trans HX1.out)
  have HB2:=hid (HB1.out.trans (hB2.mono (by omega)))
  obtain ⟨y0,y1,y2,y3⟩:=HY
  obtain ⟨x0,x1,x2,x3⟩:=HX2
  clear hB2 HOK HN hx0 hs0 HB1
  go_wp2_with fail
  generalize w1.alloc (.cells #[.int .i64 (p1:Nat), .int .i64 (p2:Nat)] 25)=W2 at y0 y1 y2 y3 x0 x1 x2 x3 HB2 ⊢
  go_region
  all_goals go_wp2_with fail
  all_goals
   refine bodyPost_ret (v:= .tuple #[.string ⟨#[]⟩, .agg #[.int .i64 (p1:Nat), .int .i64 (p2:Nat)], .int .i64 (x:Nat)]) (by simp [results, Tryz.results36,go_sem,x0,x1,x2,x3]) rfl ⟨rfl, ?_⟩
   exact (Below.setCell (p:=⟨w.heap.size,1,none⟩) (Below.setCell (p:=⟨w.heap.size,0,none⟩) HB2.out (Nat.le_refl _) _) (Nat.le_refl _) _).drew
 |ok f=>
  obtain ⟨⟨g,rfl,hF⟩,hxt,hc64,hs64⟩:=hp
  have hB2:Below w1.heap.size w1 (w1.alloc (.cells #[.int .i64 0, .int .i64 0] 25)):=below_box _ _
  have HX2:=hid ((hB2.block w.heap.size (by omega)).trans HX1.out)
  have HB2:=hid (HB1.out.trans (hB2.mono (by omega)))
  have hF2:=hF.gf.below hB2
  have hN2:=(HN.out.below HB2.out)
  obtain ⟨hG,hS⟩:=gf_ok hF (HOK.out f rfl) hxt
  have CW:=hid (write_all (G:=g) (w:=w1.alloc (.cells #[.int .i64 0, .int .i64 0] 25)) (r:=textW f.gf) fun wr h=>shAll hF2 hN2 hG hS (by show f.cs.length<_;omega) (by show f.ss.length<_;omega) h)
  clear hF2 hN2 hG hS HOK HN hF hB2 hs0 HX1 HB1 hc64 hs64 hxt
  have hsz2:w.heap.size<(w1.alloc (.cells #[.int .i64 0, .int .i64 0] 25)).heap.size:=by simp;omega
  go_wp2_with fail
  generalize w1.alloc (.cells #[.int .i64 0, .int .i64 0] 25)=W2 at HX2 HB2 CW hsz2 ⊢
  refine CW.out.mono ?_
  rintro e w3 ⟨hp,hb3⟩
  obtain ⟨x0,x1,x2,x3⟩:=cellsP ((hb3.block w.heap.size hsz2).trans HX2.out)
  have HB3:=hid (HB2.out.trans (hb3.mono (Nat.le_of_lt hsz2)))
  clear hb3 CW HX2 hsz2
  rcases hq:textW f.gf with _|t
  ·rw [hq] at hp
   obtain rfl:=hp
   go_wp2_with fail
   refine bodyPost_ret (v:= .tuple #[.string ⟨#[]⟩, .agg #[.int .i64 1, .int .i64 1], .int .i64 7]) (by simp [results, Tryz.results36,go_sem,x0,x1,x2,x3]) rfl ⟨by show TidyOf (textW f.gf) _;rw [hq];rfl, ?_⟩
   exact Below.setCell (p:=⟨w.heap.size,1,none⟩) (Below.setCell (p:=⟨w.heap.size,0,none⟩) HB3.out (Nat.le_refl _) _) (Nat.le_refl _) _
  ·rw [hq] at hp
   obtain rfl:=hp
   go_wp2_with fail
   refine bodyPost_ret (v:= .tuple #[.string (bs t), .agg #[.int .i64 0, .int .i64 0], .int .i64 0]) (by simp [results, Tryz.results36,go_sem,x0,x1,x2,x3]) rfl ⟨by show TidyOf (textW f.gf) _;rw [hq];rfl, ?_⟩
   exact Below.setCell (p:=⟨w.heap.size,1,none⟩) (Below.setCell (p:=⟨w.heap.size,0,none⟩) HB3.out (Nat.le_refl _) _) (Nat.le_refl _) _
end Go.Proofs.YtomimkgaelkaoaaGreatDoor
namespace Go.Proofs.YtomimkgaelkaoaaGreatDoor
open Go.Lib (hid)
open Go.ChangeShapes Go.WideShapes Go.ChangeAt Go.RowKit
set_option maxRecDepth 100000 in
theorem Equal_nilR (g:Nat) (w:World):
  Calls Tryz.prog 12 #[.pointer (some ⟨g,1,none⟩), .pointer none] w fun e w'=>e= .returned (.bool false)∧w'=w:=by
 go_enter Tryz.func12, Tryz.ntmps12
 go_wp2_with fail
 go_ret
 exact ⟨rfl,rfl⟩
def textF (F:GF):Option (List UInt8):=(textW F).bind fun t=>match parseL t with
 | .ok f=>if f.gf=F then some t else none
 | .bad _ _=>none
def TextOf (r:Option (List UInt8)) (e:Ending):Prop:=
 match r with
 |some t=>e= .returned (.tuple #[.string (bs t), .int .i64 0])
 |none=>e= .returned (.tuple #[.string ⟨#[]⟩, .int .i64 4])
structure FileOK (F:GF):Prop where
 g:GfOK F
 s: ∀x∈F.ss,SmOK x
 cl:F.cs.length<9223372036854775808
 sl:F.ss.length<9223372036854775808
theorem bs_data (l:List UInt8):(bs l).data.toList=l:=by simp [bs]
set_option maxHeartbeats 4000000 in
set_option maxRecDepth 100000 in
theorem Text_any {G:Nat} {F:GF} (w:World) (hF:FileG G w F) (hO:FileOK F) (hE:Env w) (hK:KEnv (fun b=>b<w.heap.size) w) (hN:NEnv w):
  Calls Tryz.prog 13 #[.pointer (some ⟨G,1,none⟩)] w fun e w'=>TextOf (textF F) e∧Below w.heap.size w w':=by
 have CW:=hid (write_all (G:=G) (w:=w) (r:=textW F) fun wr h=>shAll hF hN hO.g hO.s hO.cl hO.sl h)
 have HF:=hid hF
 have HE:=hid hE
 have HK:=hid hK
 clear hF hO hE hK hN
 go_enter Tryz.func13, Tryz.ntmps13
 go_wp2_with fail
 refine CW.out.mono ?_
 rintro e w1 ⟨hp,hb1⟩
 have HB1:=hid hb1
 clear CW hb1
 rcases hq:textW F with _|t
 ·rw [hq] at hp
  obtain rfl:=hp
  have HD:Hid (textF F=none):=hid (by unfold textF;rw [hq];rfl)
  clear hq
  go_wp2_with fail
  refine bodyPost_ret (v:= .tuple #[.string ⟨#[]⟩, .int .i64 4]) (by simp [results, Tryz.results13,go_sem]) rfl ⟨by rw [HD.out];rfl,HB1.out⟩
 ·rw [hq] at hp
  obtain rfl:=hp
  have CP:=hid (Parse_any (bs t) _ (HE.out.below HB1.out) (HK.out.low HB1.out))
  have hD0:textF F=match parseL t with
   | .ok f=>if f.gf=F then some t else none
   | .bad _ _=>none:=by unfold textF;rw [hq];rfl
  have HD:=hid hD0
  clear hq hD0
  rw [bs_data] at CP
  generalize parseL t=r at CP HD
  go_wp2_with fail
  refine CP.out.mono ?_
  rintro e w2 ⟨hp,hb2⟩
  have HB2:=hid (HB1.out.trans (hb2.mono HB1.out.size))
  clear CP hb2
  cases r with
  |bad p x=>
   obtain ⟨p1,p2⟩:=p
   obtain ⟨rfl, -⟩:=hp
   have HB3:=hid (HB2.out.trans ((below_box w2 (.cells #[.int .i64 (p1:Nat), .int .i64 (p2:Nat)] 25)).mono HB2.out.size))
   have CE:=hid fun w=>Equal_nilR G w
   go_wp2_with (go_at_call 12;(with_reducible refine (CE.out _).mono ?_);rintro e w4 ⟨rfl,rfl⟩)
   refine bodyPost_ret (v:= .tuple #[.string ⟨#[]⟩, .int .i64 4]) (by simp [results, Tryz.results13,go_sem]) rfl ⟨by rw [HD.out];rfl,HB3.out⟩
  |ok f=>
   obtain ⟨⟨g,rfl,hf⟩, -⟩:=hp
   have HB3:=hid (HB2.out.trans ((below_box w2 (.cells #[.int .i64 0, .int .i64 0] 25)).mono HB2.out.size))
   have CE:=hid (Equal_any (f1:=F) (f2:=f.gf) _ (HF.out.below HB3.out) (hf.gf.below (below_box w2 (.cells #[.int .i64 0, .int .i64 0] 25))))
   clear hf
   by_cases he:F=f.gf
   ·have hd:decide (F=f.gf)=true:=decide_eq_true he
    have HD2:Hid (textF F=some t):=hid (HD.out.trans (if_pos he.symm))
    clear he
    go_wp2_with (go_at_call 12;(with_reducible refine CE.out.mono ?_);rintro e w4 ⟨rfl,hb⟩;have HB4:=hid (HB3.out.trans (hb.mono HB3.out.size));clear hb)
    refine bodyPost_ret (v:= .tuple #[.string (bs t), .int .i64 0]) (by simp [results, Tryz.results13,go_sem]) rfl ⟨by rw [HD2.out];rfl,HB4.out⟩
   ·have hd:decide (F=f.gf)=false:=decide_eq_false he
    have HD2:Hid (textF F=none):=hid (HD.out.trans (if_neg fun e=>he e.symm))
    clear he
    go_wp2_with (go_at_call 12;(with_reducible refine CE.out.mono ?_);rintro e w4 ⟨rfl,hb⟩;have HB4:=hid (HB3.out.trans (hb.mono HB3.out.size));clear hb)
    refine bodyPost_ret (v:= .tuple #[.string ⟨#[]⟩, .int .i64 4]) (by simp [results, Tryz.results13,go_sem]) rfl ⟨by rw [HD2.out];rfl,HB4.out⟩
end Go.Proofs.YtomimkgaelkaoaaGreatDoor
