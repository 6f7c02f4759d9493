/- The walk of the law ShowParens. -/
import Derived.Test.YtomimkgaelkaoaaGreatDoorC13ShPe
import Derived.Maps.OwnSet
import Derived.OwnWalk
import Derived.WalkSmall
import Derived.Laws.EntriesVeiled
import Derived.Deep.DeepCutAuto
import Derived.Deep.RegionHeld3
set_option linter.unusedVariables false
set_option linter.unusedSimpArgs false
namespace Go.Proofs.YtomimkgaelkaoaaGreatDoor
open Go.Lib (hid)
open Go.ChangeShapes Go.WideShapes Go.ChangeAt Go.RowKit
theorem keyX {k:Int} (h: -9223372036854775808≤k∧k≤9223372036854775807):keyOf Tryz.prog 36 (.int .i64 k)=some (.int .i64 k):=
 Maps.keyOf_int_mk Tryz.underlying36 (by simp [Lit.wf,IntKind.min,IntKind.max,IntKind.signed,IntKind.bits];omega)
theorem keyedX:Maps.Keyed Tryz.prog 36 :=Maps.int_keyed Tryz.underlying36
def intElem (v:Value):Option (DataW Unit×List MemPlace):=
 match v with
 | .int .i64 n=>some (.lit (.int .i64 n), [])
 |_=>none
theorem intElem_inv {v:Value} {x:Int} {ps:List MemPlace} (h:intElem v=some (.lit (.int .i64 x),ps)):v= .int .i64 x:=by
 unfold intElem at h
 split at h
 ·cases h;rfl
 ·cases h
def WantM (w:World) (b n:Nat) (S:Int→Int):Prop:=
 ∃D:DataW Unit,w.ownsMap Tryz.prog 36 intElem b n D∧∀k,D.atKey (.int .i64 k) (.lit (.int .i64 0))= .lit (.int .i64 (S k))
theorem WantM.made (w:World):WantM (w.alloc (.map #[] 0)) w.heap.size 0 (fun _=>0):=
 ⟨_,World.ownsMap_made w _ _ _,fun k=>by simp [DataW.atKey]⟩
theorem WantM.look {w:World} {b n:Nat} {S:Int→Int} (h:WantM w b n S) {k:Int} (hk: -9223372036854775808≤k∧k≤9223372036854775807):
  (Instr.lookup 51 (.map (some b)) (.int .i64 k) false).run Tryz.prog w= .ok (.int .i64 (S k)) w:=by
 obtain ⟨D,h1,h2⟩:=h
 obtain ⟨v,ps,q1,q2⟩:=h1.lookup keyedX Tryz.underlying51 (Tryz.zeroValue3 w) (rfl:intElem (.int .i64 0)=some (.lit (.int .i64 0), [])) (keyX hk)
 rw [h2] at q2
 rw [q1,intElem_inv q2]
theorem litX_ne {j k:Int} (h:j≠k):Lit.int .i64 j≠Lit.int .i64 k:=fun e=>h (by cases e;rfl)
theorem WantM.put {w:World} {b n:Nat} {S:Int→Int} (h:WantM w b n S) (hn:n<maxLen) {k:Int} (hk: -9223372036854775808≤k∧k≤9223372036854775807) (x:Int):
  ∃w',(Instr.mapUpdate 51 (.map (some b)) (.int .i64 k) (.int .i64 x)).run Tryz.prog w= .ok () w'∧WantM w' b (n+1) (fun j=>if j=k then x else S j)∧w.grownBy w' (some b):=by
 obtain ⟨D,h1,h2⟩:=h
 obtain ⟨w',q1,q2,q3⟩:=h1.update keyedX Tryz.underlying51 hn (keyX hk) (rfl:intElem (.int .i64 x)=some (.lit (.int .i64 x), []))
 refine ⟨w',q1,⟨_,q2,fun j=> ?_⟩,q3⟩
 by_cases e:j=k
 ·subst e;rw [Maps.atKey_put_same h1.isMap (by simp [WideAt.IsKeyLit])];simp
 ·rw [Maps.atKey_put_other (litX_ne e),h2];simp [e]
theorem want_made (W:World) (k:Nat) (hk:k≤1000): ∃W2 W3,(Instr.mapUpdate 51 (.map (some W.heap.size)) (.int .i64 2) (.int .i64 1)).run Tryz.prog (W.alloc (.map #[] 0))= .ok () W2∧
  (Instr.mapUpdate 51 (.map (some W.heap.size)) (.int .i64 3) (.int .i64 2)).run Tryz.prog W2= .ok () W3∧
  (Instr.lookup 51 (.map (some W.heap.size)) (.int .i64 k) false).run Tryz.prog W3= .ok (.int .i64 (kidsN k)) W3∧Below W.heap.size W W3:=by
 obtain ⟨W2,r2,M2,g2⟩:=(WantM.made W).put (by unfold maxLen;omega) (k:=2) (by omega) 1
 obtain ⟨W3,r3,M3,g3⟩:=M2.put (by unfold maxLen;omega) (k:=3) (by omega) 2
 have e:(if (k:Int)=3 then (2:Int) else if (k:Int)=2 then 1 else 0)=(kidsN k:Int):=by
  unfold kidsN
  by_cases h2:k=2
  ·subst h2;rfl
  ·by_cases h3:k=3
   ·subst h3;rfl
   ·rw [if_neg (by omega),if_neg (by omega),if_neg h2,if_neg h3];rfl
 have hb2:=((Below.refl W.heap.size W).alloc (Nat.le_refl _) (.map #[] 0)).grown g2 (by simp) (fun k h=>by cases h;exact Nat.le_refl _)
 refine ⟨W2,W3,r2,r3, ?_,hb2.grown g3 hb2.size (fun k h=>by cases h;exact Nat.le_refl _)⟩
 have h:=M3.look (k:=(k:Int)) (by omega)
 rw [e] at h
 exact h
theorem text1_arr (s:ByteArray):(⟨#[115,116,114,117,99,116,32,83,32,123,32,97,58,32,98,121,116,101,115,91]⟩++s++⟨#[93,59,32,125]⟩:ByteArray).data.toList=text1 s.data.toList:=by
 simp [ByteArray.data_append,text1,headB]
theorem AtE_lt {xs:List XM}: ∀{e:EA} {k:Nat},AtE xs e k→k<xs.length
 | .num n,k,h=>(List.getElem?_eq_some_iff.1 h).1
 | .name s,k,h=>(List.getElem?_eq_some_iff.1 h).1
 | .not a,k,⟨i,h,_⟩=>(List.getElem?_eq_some_iff.1 h).1
 | .bin op a b,k,⟨i,j,h,_⟩=>(List.getElem?_eq_some_iff.1 h).1
theorem text_of_put {s:List UInt8} {cs:List (List UInt8×Nat)} {ss:List SA} {f:FM} (hp:parseL s= .ok f) (hf:f=putF cs ss) (o: ∀x∈ss,OkS x) (h1:f.g.xs.length≤16384) (h2:f.g.ts.length≤16384) (hl:(prF cs ss).length≤16384):textF f.gf=some (prF cs ss):=by
 refine textF_of hp ?_
 subst hf
 rw [textW_eq cs ss o h1 h2]
 exact if_pos hl
theorem part_type {f:FM} {t:List UInt8} (ht:textF f.gf=some t) {E:EA} {x:Nat} (h0:f.g.ts[0]? =some ⟨1,0,false, [], [],(x:Int), -1, []⟩) (ha:AtE f.g.xs E x) (v:VE E) (hn:nodes E≤40):partType f.gf 0=prIdx kBytes E:=by
 unfold partType
 rw [ht]
 show (typW f.gf.xs f.gf.ts f.gf.ts.length 0 []).getD []=_
 rw [first_text h0 ha]
 unfold wPut
 rw [if_pos (by have:=text_len E v hn;unfold maxText;simpa using this)]
 simp
theorem setCell_noop {w:World} {b o:Nat} {c:Array Value} {T:TypeId} {fr:Nat×Nat} {v:Value} (h:w.heap[b]? =some (.cells c T fr)) (hv:c[o]? =some v):w.setCell ⟨b,o,none⟩ v=w:=by
 have hc:c.setIfInBounds o v=c:=by
  apply Array.ext_getElem?
  intro i
  rw [Array.getElem?_setIfInBounds]
  split
  ·rename_i e;subst e
   split
   ·exact hv.symm
   ·rename_i hl
    rw [Array.getElem?_eq_none (by omega)] at hv
    cases hv
  ·rfl
 unfold World.setCell
 have hm:(w.heap.modify b fun
   | .cells c elem frozen=> .cells (if (none:Option Nat).isSome then c else c.setIfInBounds o v) elem frozen
   |o=>o)=w.heap:=by
  apply Array.ext_getElem?
  intro i
  rw [Array.getElem?_modify]
  split
  ·rename_i e;subst e
   rw [h]
   simp [hc]
  ·rfl
 obtain ⟨heap,tape,drawn,os,output⟩:=w
 simp only at hm ⊢
 exact congrArg (fun h=>World.mk h tape drawn os output) hm
def FS (W0 W:World) (kf kg g kt:Nat) (v0 v1 v2 v3:Value) (w':World):Prop:=
 w'.cell? ⟨kf,0,none⟩=some v0∧w'.cell? ⟨kg,0,none⟩=some v1∧w'.cell? ⟨g,4,none⟩=some v2∧w'.cell? ⟨kt,5,none⟩=some v3∧Below W.heap.size W w'∧Below W0.heap.size W0 w'
theorem FS.keep {W0 W w1 w2:World} {kf kg g kt:Nat} {v0 v1 v2 v3:Value} (hb:Below w1.heap.size w1 w2) (h:FS W0 W kf kg g kt v0 v1 v2 v3 w1):FS W0 W kf kg g kt v0 v1 v2 v3 w2:=by
 obtain ⟨h0,h1,h2,h3,h4,h5⟩:=h
 exact ⟨(hb.cell (World.block_lt_of_cell? _ _ h0)).trans h0,(hb.cell (World.block_lt_of_cell? _ _ h1)).trans h1,(hb.cell (World.block_lt_of_cell? _ _ h2)).trans h2,(hb.cell (World.block_lt_of_cell? _ _ h3)).trans h3,h4.trans (hb.mono h4.size),h5.trans (hb.mono h5.size)⟩
theorem FS.of {W0 W w':World} {kf kg g kt:Nat} {v0 v1 v2 v3:Value} (h:FS W0 W kf kg g kt v0 v1 v2 v3 W) (hb:Below W.heap.size W w'):FS W0 W kf kg g kt v0 v1 v2 v3 w':=FS.keep hb h
def PosB (w:World) (k:Nat):Prop:=w.heap[k]? =some (.cells #[.int .i64 0, .int .i64 0] 25 (0,0))
theorem pos_box {w w':World} (hb:Below (w.alloc (.cells #[.int .i64 0, .int .i64 0] 25)).heap.size (w.alloc (.cells #[.int .i64 0, .int .i64 0] 25)) w'):PosB w' w.heap.size:=(hb.block _ (by simp)).trans (heap_alloc_new _ _)
theorem PosB.keep {w w':World} {k:Nat} (h:PosB w k) (hb:Below w.heap.size w w'):PosB w' k:=(hb.block k (Array.getElem?_eq_some_iff.1 h).1).trans h
theorem PosB.cells {w:World} {k:Nat} (h:PosB w k):w.cell? ⟨k,0,none⟩=some (.int .i64 0)∧w.cell? ⟨k,1,none⟩=some (.int .i64 0)∧w.frozen? ⟨k,0,none⟩=false∧w.frozen? ⟨k,1,none⟩=false:=by
 unfold PosB at h
 exact ⟨by rw [cell_of_row _ _ _ _ _ (0,0) h];rfl,by rw [cell_of_row _ _ _ _ _ (0,0) h];rfl,by simp [World.frozen?,h],by simp [World.frozen?,h]⟩
theorem PosB.noop {w:World} {k:Nat} (h:PosB w k):(w.setCell ⟨k,0,none⟩ (.int .i64 0)).setCell ⟨k,1,none⟩ (.int .i64 0)=w:=by
 rw [setCell_noop h rfl,setCell_noop h rfl]
theorem Calls.factQ {P:Program} {f:FuncId} {args:Array Value} {w:World} {R:Ending→World→Prop} {p:Prop} (h:Calls P f args w R) (hp: ∀e w',R e w'→p):p:=by
 obtain ⟨e,w',fr,hR, -⟩:=h []
 exact hp e w' hR
structure FullF (F:FM) (E:EA) (y:Nat):Prop where
 ts:F.g.ts= [⟨1,0,false, [], [],(y:Int), -1, []⟩]
 at':AtE F.g.xs E y
 tx: ∃t,textF F.gf=some t
theorem fullF {s:List UInt8} {E:EA} (v:VE E) (hn:nodes E≤40) (hp:parseL s= .ok (oneF [] E ⟨0, [], []⟩)): ∃y,FullF (oneF [] E ⟨0, [], []⟩) E y:=by
 obtain ⟨y,h1,h2,h3⟩:=one_at E ⟨0, [], []⟩
 refine ⟨y,h1,h2,_,text_of_put hp rfl (fun x hx=> ?_) (by rw [h3];omega) (by rw [h1];simp) (one_short E v hn)⟩
 rw [List.mem_singleton.1 hx]
 intro i hi
 rw [List.mem_singleton.1 hi]
 exact ⟨⟨rfl, .inl rfl⟩,by simp⟩
theorem type_one {F:FM} {E:EA} {y g:Nat} {w w':World} (h0:F.g.ts[0]? =some ⟨1,0,false, [], [],(y:Int), -1, []⟩) (ha:AtE F.g.xs E y) {t:List UInt8} (ht:textF F.gf=some t) (v:VE E) (hn:nodes E≤40) (hF:FileR g w F) (hO:FileOK F.gf) (hE:Env w) (hK:KEnv (fun b=>b<w.heap.size) w) (hN:NEnv w):
  Calls Tryz.prog 16 #[.pointer (some ⟨g,1,none⟩), .int .i64 0] w fun e w'=>e= .returned (.string (bs (prIdx kBytes E)))∧Below w.heap.size w w':=by
 have h:=Type_any w hF.gf hO hE hK hN 0
 rwa [part_type ht h0 ha v hn] at h
set_option maxHeartbeats 4000000 in
set_option maxRecDepth 100000 in
theorem ShowParens_walk (s:ByteArray) (w:World) (ws:s.size≤maxLen) (hE:Env w) (hK:KEnv (fun b=>b<w.heap.size) w) (hN:NEnv w):
  Calls Tryz.prog 4 #[.string s] w fun e w'=>e= .returned (.bool true)∧Below w.heap.size w w':=by
 have HW:=hid fun w' (hb:Below w.heap.size w w')=>wakes8_any w' (hE.below hb) (hK.low hb) (hN.below hb)
 obtain ⟨m,hm,hml,hm3⟩: ∃m:Nat,min (s.size:Int) 300=(m:Int)∧m≤s.size∧m≤300:=⟨min s.size 300,by omega,by omega,by omega⟩
 obtain ⟨C,hC⟩: ∃C,s.extract 0 m=C:=⟨_,rfl⟩
 have hcs:C.size≤300:=by rw [←hC,ByteArray.size_extract];omega
 have n1: ¬9223372036854775807<20+C.size:=by omega
 have n2: ¬9223372036854775807<20+C.size+4:=by omega
 have key:=Parse_any (⟨#[115,116,114,117,99,116,32,83,32,123,32,97,58,32,98,121,116,101,115,91]⟩++C++⟨#[93,59,32,125]⟩) w hE hK
 rw [text1_arr] at key
 cases hp:parseL (text1 C.data.toList) with
 |bad p x=>
  rw [hp] at key
  have key:=hid key
  clear hE hK hN hp ws hm3
  go_enter Tryz.func4, Tryz.ntmps4
  go_upto_region 3 with (go_at_call 10;refine key.out.mono ?_;rintro e' w3 ⟨⟨rfl,hx⟩,hb⟩;have hxb:((x:Int) !=0)=true:=(by simp;omega);have HB3:=hid (hb.trans (((below_box w3 (.cells #[.pointer none] 23)).alloc (by simp) (.cells #[.int .i64 (p.1:Nat), .int .i64 (p.2:Nat)] 25)).mono hb.size));clear hb hx)
  generalize (w3.alloc (.cells #[.pointer none] 23)).alloc (.cells #[.int .i64 (p.1:Nat), .int .i64 (p.2:Nat)] 25)=W4 at*
  go_upto_region 4 with (go_at_call 11;refine (HW.out _ HB3.out).mono ?_;rintro q w5 ⟨rfl,hb⟩;have HB5:=hid (HB3.out.trans (hb.mono HB3.out.size));clear hb)
  go_wp2_with (go_at_call 11;refine (HW.out _ HB5.out).mono ?_;rintro q w6 ⟨rfl,hb⟩;have HB6:=hid (HB5.out.trans (hb.mono HB5.out.size));clear hb)
  go_ret
  exact ⟨rfl,HB6.out⟩
 |ok f=>
  rw [hp] at key
  have key:=hid key
  have HP:=hid hp
  have HCS:=hid hcs
  clear hp ws hm3 hcs
  go_enter Tryz.func4, Tryz.ntmps4
  go_upto_region 3 with (go_at_call 10;refine key.out.mono ?_;rintro e' w3 ⟨⟨⟨g,rfl,hF⟩,hl,hc,hs⟩,hb⟩;have hb2:=(below_box w3 (.cells #[.pointer (some ⟨g,1,none⟩)] 23)).alloc (by simp) (.cells #[.int .i64 0, .int .i64 0] 25);have HO:=hid (file_ok HP.out hF hl hc hs);have HF4:=hid (hF.below hb2);have HB4:=hid (hb.trans (hb2.mono hb.size));have HX4:Hid (((w3.alloc (.cells #[.pointer (some ⟨g,1,none⟩)] 23)).alloc (.cells #[.int .i64 0, .int .i64 0] 25)).heap[w3.heap.size]? =some (.cells #[.pointer (some ⟨g,1,none⟩)] 23 (0,0))):=hid (by rw [Below.heap_alloc _ _ _ (by simp)];exact heap_alloc_new _ _);clear hb hb2 hF hl hc hs)
  generalize (w3.alloc (.cells #[.pointer (some ⟨g,1,none⟩)] 23)).alloc (.cells #[.int .i64 0, .int .i64 0] 25)=W4 at*
  clear n1 n2 hm hml hC key
  by_cases h1:f.g.ts.length=1
  ·by_cases h2:f.ss.length=1
   ·by_cases h3:f.g.xs.length≤40
    ·have h3': ¬(40:Int)<(f.g.xs.length:Int):=by omega
     go_upto_region 5 with (go_at_call 11;refine (HW.out _ HB4.out).mono ?_;rintro q w5 ⟨rfl,hb⟩;have HB5:=hid (HB4.out.trans (hb.mono HB4.out.size));have HF5:=hid (HF4.out.below hb);have HX5:=hid ((hb.block w3.heap.size (Array.getElem?_eq_some_iff.1 HX4.out).1).trans HX4.out);have b0:=cells1c HX5.out;obtain ⟨ac,cc,bs',cs,ax,cx,at',ct,e1,e2,e3,e4,g1,g2,g3,g4,hg⟩:=HF5.out.look;rw [h1] at e4;rw [h2] at e2;clear hb g1 g2 g4 e1)
     clear h3' b0 e2 e3 e4 g3
     have HL3:=hid h3
     obtain ⟨cst,sst,hput⟩: ∃a b,f=putF a b:=by obtain ⟨a,b,h, -⟩:=parse_tree HP.out;exact ⟨a,b,h⟩
     have HOX:Hid (OrdX f.g.xs):=hid (by rw [hput];exact putF_ordX _ _)
     clear hput
     obtain ⟨ac,cc,bs',cs,ax,cx,at',ct,e1,e2,e3,e4,g1,g2,g3,g4,hg⟩:=HF5.out.look
     have b0:=cells1c HX5.out
     have HS5:=hid g3
     clear e1 e2 e4 g1 g2 g4 g3
     go_upto_region 6 with fail
     clear e3 b0
     go_loopw [77] (fun s77 wr=> ∃i:Nat,s77= .int .i64 i∧i≤f.g.xs.length∧Below w5.heap.size w5 wr) (fun s77 _=>f.g.xs.length - (intOf s77).toNat)
     case atStart=>exact ⟨0,rfl,Nat.zero_le _,Below.refl _ _⟩
     case round=>
      obtain ⟨i,rfl,hi,hbr⟩:=hrel
      by_cases hlt:i<f.g.xs.length
      ·have hlt':(i:Int)<(f.g.xs.length:Int):=by omega
       obtain ⟨x,hx⟩: ∃x,f.g.xs[i]? =some x:=⟨_,List.getElem?_eq_getElem hlt⟩
       obtain ⟨hko,hkn,hk3⟩:=HOX.out i x hx
       obtain ⟨kx,kv,e0,hkx,o0,o1,o2,o3,o4,hkv⟩:=xs_at (HS5.out.below XrC.kept hbr) hx
       subst e0
       obtain ⟨ka,kc,rfl, -, -⟩:=hkv.shape
       have hb1:=below_box wr (.cells #[.int .i64 x.k, .string (bs x.op), .int .u64 x.n, .string (bs x.s), .slice ka x.kids.length kc] 40)
       have hx1:=heap_alloc_new wr (.cells #[.int .i64 x.k, .string (bs x.op), .int .u64 x.n, .string (bs x.s), .slice ka x.kids.length kc] 40)
       have HB6:=hid (hbr.trans (hb1.mono hbr.size))
       have HKV:=hid (hkv.below IntC.kept hb1)
       have HKO:=hid hko
       have HKN:=hid hkn
       clear hkv hko hkn hb1 hbr hx
       go_upto_region 8 with fail
       generalize wr.alloc (.cells #[.int .i64 x.k, .string (bs x.op), .int .u64 x.n, .string (bs x.s), .slice ka x.kids.length kc] 40)=W6 at*
       obtain ⟨W7,W8,r2,r3,r4,hb8⟩:=want_made W6 x.k (by omega)
       have hmm:= @run_makeMap Tryz.prog
       have d0:W8.cell? ⟨wr.heap.size,0,none⟩=some (.int .i64 x.k):=by rw [(hb8.cell (p:=⟨wr.heap.size,0,none⟩) (Array.getElem?_eq_some_iff.1 hx1).1),cell_of_row _ _ _ _ _ (0,0) hx1];rfl
       have d4:W8.cell? ⟨wr.heap.size,4,none⟩=some (.slice ka x.kids.length kc):=by rw [(hb8.cell (p:=⟨wr.heap.size,4,none⟩) (Array.getElem?_eq_some_iff.1 hx1).1),cell_of_row _ _ _ _ _ (0,0) hx1];rfl
       clear o0 o1 o2 o3 o4 hk3 hkx
       go_upto_region 9 with fail
       clear r2 r3 r4 hmm
       have HKV8:=hid (HKV.out.below IntC.kept hb8)
       have HB8:=hid (HB6.out.trans (hb8.mono HB6.out.size))
       have hk2:x.kids.length≤2:=by rw [HKN.out];unfold kidsN;split<;>(try split)<;>omega
       have hne:((x.kids.length:Int) !=(kidsN x.k:Int))=false:=by rw [HKN.out];simp
       clear hb8 HB6 HKV hx1 d0
       go_upto_region 10 with fail
       go_loopw [90] (fun s90 wr'=> ∃j:Nat,s90= .int .i64 j∧j≤x.kids.length∧wr'=W8) (fun s90 _=>x.kids.length - (intOf s90).toNat)
       case atStart=>exact ⟨0,rfl,Nat.zero_le _,rfl⟩
       case round=>
        obtain ⟨j,rfl,hj,rfl⟩:=hrel
        by_cases hjl:j<x.kids.length
        ·have hjl':(j:Int)<(x.kids.length:Int):=by omega
         obtain ⟨c,hc⟩: ∃c,x.kids[j]? =some c:=⟨_,List.getElem?_eq_getElem hjl⟩
         obtain ⟨kk,e0,hkk,q0⟩:=ints_at HKV8.out hc
         subst e0
         have hci: ¬(i:Int)≤(c:Int):=by have:=HKO.out c (List.mem_of_getElem? hc);omega
         have hc0: ¬(c:Int)<0:=by omega
         clear hc
         go_wp2_with fail
         go_roundw
         case rel=>exact ⟨j+1,by go_num,by omega,trivial⟩
         case measure=>simp [intOf];omega
        ·obtain rfl:j=x.kids.length:=by omega
         have hjl': ¬(x.kids.length:Int)<(x.kids.length:Int):=by omega
         go_wp2_with fail
         go_roundw
         case rel=>exact ⟨i+1,by go_num,by omega,HB8.out⟩
         case measure=>simp [intOf];omega
      ·obtain rfl:i=f.g.xs.length:=by omega
       have hlt': ¬(f.g.xs.length:Int)<(f.g.xs.length:Int):=by omega
       have HB6:=hid (HB5.out.trans (hbr.mono HB5.out.size))
       have HF6:=hid (HF5.out.below hbr)
       have HX6:=hid ((hbr.block w3.heap.size (Array.getElem?_eq_some_iff.1 HX5.out).1).trans HX5.out)
       clear hbr
       obtain ⟨E,x,HVE,ht0,hat,hnd⟩:=parens_file HP.out
       have HVE:=hid HVE
       have HAT:=hid hat
       have hnd:=hid hnd
       obtain ⟨ac,cc,bs',cs,ax,cx,at',ct,e1,e2,e3,e4,g1,g2,g3,g4,hg⟩:=HF6.out.look
       obtain ⟨kt,av,cv,e0,tk,t0,t1,t2,t3,t4,t5,t6⟩:=ts_at g4 (i:=0) ht0
       subst e0
       replace t5:wr.cell? ⟨kt,5,none⟩=some (.int .i64 x):=t5
       have hxl:x<f.g.xs.length:=AtE_lt hat
       have b0:=cells1c HX6.out
       rw [h1] at e4
       have hx0: ¬(x:Int)<0:=by omega
       have hx1: ¬(f.g.xs.length:Int)≤(x:Int):=by omega
       have HT0:=hid ht0
       clear e1 e2 g1 g2 g3 g4 t0 t1 t2 t3 t4 t6 ht0 hat hi
       go_upto_region 22 with fail
       have hmf: ∀(fn:Fn) (first cap:Array Value) (w:World),(Instr.makeFunc fn first cap).run Tryz.prog w= .ok (.func fn first cap) w:=fun _ _ _ _=>rfl
       go_upto_region 23 with fail
       obtain ⟨pcs,pss,hpf, -,hps, -, -,hpl⟩:=parens_short HP.out (by show C.size≤300;exact HCS.out) h2 h1 HL3.out
       have HTF:=hid (text_of_put HP.out hpf (fun y hy=>(hps y hy).2.1) (by have:=HL3.out;omega) (by omega) hpl)
       clear hpf hps hpl hmf
       have hb7:=below_box wr (.cells #[.func (.func 14) #[] #[.pointer (some ⟨w3.heap.size,0,none⟩), .pointer (some ⟨wr.heap.size,0,none⟩)]] 52)
       have HB7:=hid (HB6.out.trans (hb7.mono HB6.out.size))
       have HFW:Hid (FullW f g w3.heap.size wr.heap.size (wr.alloc (.cells #[.func (.func 14) #[] #[.pointer (some ⟨w3.heap.size,0,none⟩), .pointer (some ⟨wr.heap.size,0,none⟩)]] 52))):=hid ⟨HF6.out.below hb7,HO.out,(hb7.block w3.heap.size (Array.getElem?_eq_some_iff.1 HX6.out).1).trans HX6.out,heap_alloc_new _ _,hE.below HB7.out,hK.low HB7.out,hN.below HB7.out⟩
       have m4:=(hb7.cell (p:=⟨g,4,none⟩) hg).trans e4
       have m5:=(hb7.cell (p:=⟨kt,5,none⟩) tk).trans t5
       clear hb7 e3 e4 t5 b0 HF6 HX6 HB6 HS5
       generalize wr.alloc (.cells #[.func (.func 14) #[] #[.pointer (some ⟨w3.heap.size,0,none⟩), .pointer (some ⟨wr.heap.size,0,none⟩)]] 52)=W7 at*
       have k0:=cells1c HFW.out.bf
       have k1:=cells1c HFW.out.bg
       have hn40:nodes E≤40:=Nat.le_trans hnd.out HL3.out
       have CF:=hid fun w' (hf:FullW f g w3.heap.size wr.heap.size w')=>full_any HTF.out E x w' HVE.out hn40 HAT.out hf
       have hfl:=full_len E HVE.out
       have CPF:=hid fun w' (hb:Below w.heap.size w w')=>(show Calls Tryz.prog 10 #[.string (⟨#[115,116,114,117,99,116,32,83,32,123,32,97,58,32,98,121,116,101,115,91]⟩++bs (fullE E)++⟨#[93,59,32,125]⟩)] w' fun e w2=>ParsePost (parseL (text1 (fullE E))) e w2∧Below w'.heap.size w' w2 from by
        have h:=Parse_any (⟨#[115,116,114,117,99,116,32,83,32,123,32,97,58,32,98,121,116,101,115,91]⟩++bs (fullE E)++⟨#[93,59,32,125]⟩) w' (hE.below hb) (hK.low hb)
        rwa [text1_arr,show (bs (fullE E)).data.toList=fullE E from by simp [bs]] at h)
       have hfs:(bs (fullE E)).size≤1600:=by rw [bs_size];omega
       generalize bs (fullE E)=FE at CF CPF hfs
       have n1: ¬9223372036854775807<20+FE.size:=by omega
       have n2: ¬9223372036854775807<20+FE.size+4:=by omega
       clear hfl
       have A0:=hid (Below.refl W7.heap.size W7).drew
       have A1:=hid (A0.out.alloc (Nat.le_refl _) (.cells #[.int .i64 0, .int .i64 0] 25))
       have B0:=hid HB7.out.drew
       have B1:=hid (B0.out.alloc (show w.heap.size≤W7.drew.heap.size from HB7.out.size) (.cells #[.int .i64 0, .int .i64 0] 25))
       have CF:=hid fun w' (hb:Below W7.heap.size W7 w')=>CF.out w' (HFW.out.below hb)
       have l0:(W7.drew.alloc (.cells #[.int .i64 0, .int .i64 0] 25)).cell? ⟨w3.heap.size,0,none⟩=_:=(A1.out.cell (p:=⟨w3.heap.size,0,none⟩) (Array.getElem?_eq_some_iff.1 HFW.out.bf).1).trans k0
       have l1:(W7.drew.alloc (.cells #[.int .i64 0, .int .i64 0] 25)).cell? ⟨wr.heap.size,0,none⟩=_:=(A1.out.cell (p:=⟨wr.heap.size,0,none⟩) (Array.getElem?_eq_some_iff.1 HFW.out.bg).1).trans k1
       have l4:(W7.drew.alloc (.cells #[.int .i64 0, .int .i64 0] 25)).cell? ⟨g,4,none⟩=_:=(A1.out.cell (p:=⟨g,4,none⟩) (World.block_lt_of_cell? _ _ m4)).trans m4
       have l5:(W7.drew.alloc (.cells #[.int .i64 0, .int .i64 0] 25)).cell? ⟨kt,5,none⟩=_:=(A1.out.cell (p:=⟨kt,5,none⟩) (World.block_lt_of_cell? _ _ m5)).trans m5
       have F7:Hid (FS w W7 w3.heap.size wr.heap.size g kt _ _ _ _ W7):=hid ⟨k0,k1,m4,m5,Below.refl _ _,HB7.out⟩
       rcases parens_full HVE.out hn40 with hp2|⟨pp,hp2⟩
       ·rw [hp2] at CPF
        obtain ⟨y2,hFF⟩:=fullF HVE.out hn40 hp2
        have HO2:=hid (show FileOK (oneF [] E ⟨0, [], []⟩).gf from Calls.factQ (CPF.out W7 HB7.out) fun e w' h=>by
         obtain ⟨⟨⟨g,rfl,hF⟩,hl,hc,hs⟩, -⟩:=h
         exact file_ok hp2 hF hl hc hs)
        have HFF:=hid hFF
        clear hp2 hFF
        generalize oneF [] E ⟨0, [], []⟩=F2 at*
        go_cut [13,15] (fun s13 s15 wx=> ∃g2,s13= .pointer (some ⟨g2,1,none⟩)∧s15= .int .i64 0∧FileR g2 wx F2∧Below w.heap.size w wx∧Below W7.heap.size W7 wx)
        case first=>
         go_region_held3 (fun w'=>w'.cell? ⟨w3.heap.size,0,none⟩=some (.pointer (some ⟨g,1,none⟩))∧w'.cell? ⟨wr.heap.size,0,none⟩=some (.func (.func 14) #[] #[.pointer (some ⟨w3.heap.size,0,none⟩), .pointer (some ⟨wr.heap.size,0,none⟩)])∧w'.cell? ⟨g,4,none⟩=some (.slice (some ⟨kt,0,none⟩) 1 ct)∧w'.cell? ⟨kt,5,none⟩=some (.int .i64 x)∧Below W7.heap.size W7 w'∧Below w.heap.size w w')
          (first|assumption|exact ⟨k0,k1,m4,m5,A0.out,B0.out⟩|(refine FS.keep (by assumption) ?_;assumption)|(refine FS.keep ((Below.refl _ _).alloc (Nat.le_refl _) _) ?_;assumption)|exact FS.of F7.out (Q9.out.alloc Q9.out.size _)|exact FS.of F7.out ((Q9.out.setCell (by first|exact Nat.le_refl _|exact Q8.out.size) _).setCell (by first|exact Nat.le_refl _|exact Q8.out.size) _)|(refine ⟨?_, ?_, ?_, ?_, ?_, ?_⟩<;>(first|assumption|go_keep))|go_keep)
          (first|(go_at_call 14;(refine (CF.out _ (by first|assumption|(go_split_ands;assumption))).mono ?_);rintro e' w8 ⟨rfl,hb8⟩;have Q8:Hid (Below W7.heap.size W7 w8):=hid (by first|exact A0.out.trans (hb8.mono A0.out.size)|exact A1.out.trans (hb8.mono A1.out.size));(first|have P8:PosB w8 W7.heap.size:=pos_box (w:=W7.drew) hb8|skip))|(go_at_call 10;(refine (CPF.out _ (by first|assumption|(go_split_ands;assumption))).mono ?_);rintro e' w9 ⟨⟨⟨g2,rfl,hF⟩, -⟩,hb9⟩;have HF9:=hid hF;clear hF;have Q9:Hid (Below W7.heap.size W7 w9):=hid (by first|exact Q8.out.trans (hb9.mono Q8.out.size)|exact (Q8.out.alloc Q8.out.size _).trans (hb9.mono (Q8.out.alloc Q8.out.size _).size));(first|(have P9:PosB w9 W7.heap.size:=PosB.keep P8 hb9;have hP9:=PosB.cells P9;obtain ⟨y0,y1,y2,y3⟩:=hP9)|(have P9:PosB w9 w8.heap.size:=pos_box hb9;have hP9:=PosB.cells P9;obtain ⟨y0,y1,y2,y3⟩:=hP9)|skip)))
         all_goals
          go_wp2_with fail
          go_meet
          first
           |exact ⟨_,rfl,rfl,HF9.out.below (below_box _ _),HB7.out.trans ((Q9.out.alloc Q9.out.size _).mono HB7.out.size),Q9.out.alloc Q9.out.size _⟩
           |(rw [PosB.noop P9];exact ⟨_,rfl,rfl,HF9.out,HB7.out.trans (Q9.out.mono HB7.out.size),Q9.out⟩)
           |exact ⟨_,rfl,rfl,HF9.out,HB7.out.trans (Q9.out.mono HB7.out.size),Q9.out⟩
        case rest=>
         obtain ⟨g2,rfl,rfl,hF,hbx,hby⟩:=hcut
         obtain ⟨t1,ht1⟩:=HFF.out.tx
         obtain ⟨ac,cc,bs',cs,ax2,cx2,at2,ct2,e1,e2,e3,e4,g1,g2',g3,g4,hg2⟩:=hF.look
         rw [show F2.g.ts.length=1 from by rw [HFF.out.ts];rfl] at e4
         have b0:=cells1c (HFW.out.below hby).bf
         obtain ⟨T,hT⟩: ∃T,bs (prIdx kBytes E)=T:=⟨_,rfl⟩
         have cA: ∀d os,Calls Tryz.prog 16 #[.pointer (some ⟨g2,1,none⟩), .int .i64 0] (Go.Sort.grow (redrawn wc d) os) fun e w''=>e= .returned (.string T)∧∃p:Regrown,w''=Go.Sort.grow (redrawn wc p.d) p.os:=fun d os=>by
          have hbb:=hbx.trans ((below_regrown wc d os).mono hbx.size)
          have h:=type_one (w':=wc) (by rw [HFF.out.ts];rfl) HFF.out.at' ht1 HVE.out hn40 (hF.below (below_regrown wc d os)) HO2.out (hE.below hbb) (hK.low hbb) (hN.below hbb)
          rw [hT] at h
          exact Calls.regrown_of h
         have cB: ∀d os,Calls Tryz.prog 16 #[.pointer (some ⟨g,1,none⟩), .int .i64 0] (Go.Sort.grow (redrawn wc d) os) fun e w''=>e= .returned (.string T)∧∃p:Regrown,w''=Go.Sort.grow (redrawn wc p.d) p.os:=fun d os=>by
          have hbb:=hbx.trans ((below_regrown wc d os).mono hbx.size)
          have h:=type_one (w':=wc) HT0.out HAT.out HTF.out HVE.out hn40 ((HFW.out.below hby).file.below (below_regrown wc d os)) HO.out (hE.below hbb) (hK.low hbb) (hN.below hbb)
          rw [hT] at h
          exact Calls.regrown_of h
         have r0:=cell_regrown b0
         have r4:=cell_regrown e4
         have HBX:=hid hbx
         clear e1 e2 e3 e4 g1 g2' g3 g4 hT hbx hby hF ht1 b0
         go_wp2_with fail
         refine wp_region_quiet_below (by kernel_rfl) (by kernel_rfl) ?_
         repeat (with_reducible refine wpQuiet_step (fun K hK=> ?_);go_simp;first|(with_reducible refine hK _ ?_;clear hK K)|(apply Exists.intro;refine ⟨fun _=> ?_,hK _ ?_⟩;(first|(with_reducible exact cA _ _)|(with_reducible exact cB _ _));clear hK K))
         refine wpQuiet_nil ?_
         intro _ hw'
         obtain ⟨⟨dq,osq⟩,hw''⟩:=hw'
         subst hw''
         go_wp2_with fail
         go_ret
         exact ⟨by simp,HBX.out.trans ((below_regrown wc dq osq).mono HBX.out.size)⟩
       ·rw [hp2] at CPF
        go_cut [15] (fun s15 wx=>s15= .int .i64 8∧Below w.heap.size w wx)
        case first=>
         go_region_held3 (fun w'=>w'.cell? ⟨w3.heap.size,0,none⟩=some (.pointer (some ⟨g,1,none⟩))∧w'.cell? ⟨wr.heap.size,0,none⟩=some (.func (.func 14) #[] #[.pointer (some ⟨w3.heap.size,0,none⟩), .pointer (some ⟨wr.heap.size,0,none⟩)])∧w'.cell? ⟨g,4,none⟩=some (.slice (some ⟨kt,0,none⟩) 1 ct)∧w'.cell? ⟨kt,5,none⟩=some (.int .i64 x)∧Below W7.heap.size W7 w'∧Below w.heap.size w w')
          (first|assumption|exact ⟨k0,k1,m4,m5,A0.out,B0.out⟩|(refine FS.keep (by assumption) ?_;assumption)|(refine FS.keep ((Below.refl _ _).alloc (Nat.le_refl _) _) ?_;assumption)|exact FS.of F7.out (Q9.out.alloc Q9.out.size _)|exact FS.of F7.out ((Q9.out.setCell (by first|exact Nat.le_refl _|exact Q8.out.size) _).setCell (by first|exact Nat.le_refl _|exact Q8.out.size) _)|(refine ⟨?_, ?_, ?_, ?_, ?_, ?_⟩<;>(first|assumption|go_keep))|go_keep)
          (first|(go_at_call 14;(refine (CF.out _ (by first|assumption|(go_split_ands;assumption))).mono ?_);rintro e' w8 ⟨rfl,hb8⟩;have Q8:Hid (Below W7.heap.size W7 w8):=hid (by first|exact A0.out.trans (hb8.mono A0.out.size)|exact A1.out.trans (hb8.mono A1.out.size));(first|have P8:PosB w8 W7.heap.size:=pos_box (w:=W7.drew) hb8|skip))|(go_at_call 10;(refine (CPF.out _ (by first|assumption|(go_split_ands;assumption))).mono ?_);rintro e' w9 ⟨⟨rfl, -⟩,hb9⟩;have Q9:Hid (Below W7.heap.size W7 w9):=hid (by first|exact Q8.out.trans (hb9.mono Q8.out.size)|exact (Q8.out.alloc Q8.out.size _).trans (hb9.mono (Q8.out.alloc Q8.out.size _).size));(first|(have P9:PosB w9 W7.heap.size:=PosB.keep P8 hb9;have hP9:=PosB.cells P9;obtain ⟨y0,y1,y2,y3⟩:=hP9)|(have P9:PosB w9 w8.heap.size:=pos_box hb9;have hP9:=PosB.cells P9;obtain ⟨y0,y1,y2,y3⟩:=hP9)|skip)))
         all_goals
          go_wp2_with fail
          go_meet
          first
           |exact ⟨rfl,(HB7.out.trans ((Q9.out.alloc Q9.out.size _).mono HB7.out.size))⟩
           |exact ⟨rfl,(HB7.out.trans (((Q9.out.setCell (by first|exact Nat.le_refl _|exact Q8.out.size) _).setCell (by first|exact Nat.le_refl _|exact Q8.out.size) _).mono HB7.out.size))⟩
           |exact ⟨rfl,(HB7.out.trans (Q9.out.mono HB7.out.size))⟩
        case rest=>
         obtain ⟨rfl,hbx⟩:=hcut
         go_wp2_with fail
         go_ret
         exact ⟨rfl,hbx⟩
    ·have h3':(40:Int)<(f.g.xs.length:Int):=by omega
     go_upto_region 4 with (go_at_call 11;refine (HW.out _ HB4.out).mono ?_;rintro q w5 ⟨rfl,hb⟩;have HB5:=hid (HB4.out.trans (hb.mono HB4.out.size));have HF5:=hid (HF4.out.below hb);have HX5:=hid ((hb.block w3.heap.size (Array.getElem?_eq_some_iff.1 HX4.out).1).trans HX4.out);have b0:=cells1c HX5.out;obtain ⟨ac,cc,bs',cs,ax,cx,at',ct,e1,e2,e3,e4,g1,g2,g3,g4,hg⟩:=HF5.out.look;rw [h1] at e4;rw [h2] at e2;clear hb g1 g2 g3 g4 e1)
     clear b0 e4
     go_wp2_with (go_at_call 11;refine (HW.out _ HB5.out).mono ?_;rintro q w6 ⟨rfl,hb⟩;have HB6:=hid (HB5.out.trans (hb.mono HB5.out.size));have b6:=cells1c ((hb.block w3.heap.size (Array.getElem?_eq_some_iff.1 HX5.out).1).trans HX5.out);clear hb)
     go_ret
     exact ⟨rfl,HB6.out⟩
   ·have h2':((f.ss.length:Int) !=1)=true:=by simp;omega
    go_upto_region 4 with (go_at_call 11;refine (HW.out _ HB4.out).mono ?_;rintro q w5 ⟨rfl,hb⟩;have HB5:=hid (HB4.out.trans (hb.mono HB4.out.size));have HF5:=hid (HF4.out.below hb);have HX5:=hid ((hb.block w3.heap.size (Array.getElem?_eq_some_iff.1 HX4.out).1).trans HX4.out);have b0:=cells1c HX5.out;obtain ⟨ac,cc,bs',cs,ax,cx,at',ct,e1,e2,e3,e4,g1,g2,g3,g4,hg⟩:=HF5.out.look;rw [h1] at e4;clear hb g1 g2 g3 g4 e1 e3)
    clear b0 e4
    go_wp2_with (go_at_call 11;refine (HW.out _ HB5.out).mono ?_;rintro q w6 ⟨rfl,hb⟩;have HB6:=hid (HB5.out.trans (hb.mono HB5.out.size));have b6:=cells1c ((hb.block w3.heap.size (Array.getElem?_eq_some_iff.1 HX5.out).1).trans HX5.out);clear hb)
    go_ret
    exact ⟨rfl,HB6.out⟩
  ·have h1':((f.g.ts.length:Int) !=1)=true:=by simp;omega
   go_upto_region 4 with (go_at_call 11;refine (HW.out _ HB4.out).mono ?_;rintro q w5 ⟨rfl,hb⟩;have HB5:=hid (HB4.out.trans (hb.mono HB4.out.size));have HF5:=hid (HF4.out.below hb);have HX5:=hid ((hb.block w3.heap.size (Array.getElem?_eq_some_iff.1 HX4.out).1).trans HX4.out);have b0:=cells1c HX5.out;obtain ⟨ac,cc,bs',cs,ax,cx,at',ct,e1,e2,e3,e4,g1,g2,g3,g4,hg⟩:=HF5.out.look;clear hb g1 g2 g3 g4 e1 e2 e3)
   clear b0 e4
   go_wp2_with (go_at_call 11;refine (HW.out _ HB5.out).mono ?_;rintro q w6 ⟨rfl,hb⟩;have HB6:=hid (HB5.out.trans (hb.mono HB5.out.size));have b6:=cells1c ((hb.block w3.heap.size (Array.getElem?_eq_some_iff.1 HX5.out).1).trans HX5.out);clear hb)
   go_ret
   exact ⟨rfl,HB6.out⟩
end Go.Proofs.YtomimkgaelkaoaaGreatDoor
