/- Layer 8, the mathematics: how the text of a File is written, piece by piece, into at most MaxText bytes. No program. · Layer 8, the mathematics: the text of a tree, and that the writer of its File writes it. No program. -/
import Derived.Test.YtomimkgaelkaoaaGreatDoorC13ParseP
set_option linter.unusedVariables false
set_option linter.unusedSimpArgs false
namespace Go.Proofs.YtomimkgaelkaoaaGreatDoor
structure XG where
 k:Int
 op:List UInt8
 n:Nat
 s:List UInt8
 kids:List Int
deriving DecidableEq
structure TG where
 k:Int
 size:Nat
 little:Bool
 s:List UInt8
 args:List Nat
 e:Int
 i:Int
 cs:List (Nat×Nat)
deriving DecidableEq
structure GF where
 cs:List (List UInt8×Nat)
 ss:List SM
 xs:List XG
 ts:List TG
deriving DecidableEq
def ints (l:List Nat):List Int:=l.map fun (k:Nat)=>(k:Int)
def XM.gx (x:XM):XG:=⟨x.k,x.op,x.n,x.s,ints x.kids⟩
def TM.gt (t:TM):TG:=⟨t.k,t.size,t.little,t.s,t.args,t.e,t.i,t.cs⟩
def FM.gf (f:FM):GF:=⟨f.cs,f.ss,f.g.xs.map XM.gx,f.g.ts.map TM.gt⟩
abbrev OW:=List UInt8→Option (List UInt8)
def maxText:Nat:=16384
def wNo:OW:=fun _=>none
def wPut (s:List UInt8):OW:=fun t=>if t.length+s.length≤maxText then some (t++s) else none
def wSeq (a b:OW):OW:=fun t=>(a t).bind b
def wAll:List OW→OW
 | []=>some
 |a::l=>wSeq a (wAll l)
def wPuts (l:List (List UInt8)):OW:=wAll (l.map wPut)
def decD:Nat→Nat→List UInt8
 |0,_=> []
 |f+1,n=>if n<10 then [UInt8.ofNat (48+n)] else decD f (n / 10)++ [UInt8.ofNat (48+n % 10)]
def decL (n:Nat):List UInt8:=decD 20 n
def wNum (n:Nat):OW:=wPut (decL n)
def wList (n:Nat) (el:Nat→OW):OW:=
 wSeq (wAll ((List.range n).map fun i=>wSeq (wPut (if i=0 then [40] else [44,32])) (el i))) (if n=0 then some else wPut [41])
def opndW (xs:List XG) (n:Nat) (rec:Int→OW) (at':Int) (least:Nat):OW:=
 if 0≤at'∧at'<n then
  match xs[at'.toNat]? with
  |none=>wNo
  |some x=>if x.k≠3∨least≤levelL x.op then rec at' else wAll [wPut [40],rec at',wPut [41]]
 else wNo
def bodyE (xs:List XG) (n:Nat) (rec:Int→OW):OW:=
 match xs[n]? with
 |none=>wNo
 |some x=>
  if x.k=0 then wNum x.n
  else if x.k=1 then wPut x.s
  else if x.k=2 then
   match x.kids with
   | [a]=>wAll [wPut [33],opndW xs n rec a 9]
   |_=>wNo
  else if x.k=3 then
   match x.kids with
   | [a,b]=>wAll [opndW xs n rec a (levelL x.op),wPut [32],wPut x.op,wPut [32],opndW xs n rec b (levelL x.op+1)]
   |_=>wNo
  else wNo
def exprW (xs:List XG):Nat→Int→OW
 |0,_=>wNo
 |n+1,at'=>if at'=n then bodyE xs n (exprW xs n) else exprW xs n at'
def wordN (z:Nat) (li:Bool):List UInt8:=
 if z=1 then [117,56] else if z=2 then (if li=true then [117,49,54,108,101] else [117,49,54,98,101]) else if z=3 then (if li=true then [117,50,52,108,101] else [117,50,52,98,101])
 else if z=4 then (if li=true then [117,51,50,108,101] else [117,51,50,98,101]) else if z=8 then (if li=true then [117,54,52,108,101] else [117,54,52,98,101]) else []
def idxW (xs:List XG) (word:List UInt8) (e:Int):OW:=wAll [wPut word,wPut [91],exprW xs xs.length e,wPut [93]]
def dSwitch:List UInt8:= [115,119,105,116,99,104,32,40]
def dCase:List UInt8:= [32,99,97,115,101,32]
def dElse:List UInt8:= [32,101,108,115,101,58,32]
def choiceW (xs:List XG) (rec:Int→OW) (t:TG):OW:=
 wAll [wPut dSwitch,exprW xs xs.length t.e,wPut [41,32,123],wAll (t.cs.map fun c=>wAll [wPut dCase,wNum c.1,wPut [58,32],rec (c.2:Int),wPut [59]]),
  (if t.i≠ -1 then wAll [wPut dElse,rec t.i,wPut [59]] else some),wPut [32,125]]
def refW (xs:List XG) (t:TG):OW:=wSeq (wPut t.s) (wList t.args.length fun i=>exprW xs xs.length ((t.args.getD i 0:Nat):Int))
def bodyT (xs:List XG) (ts:List TG) (n:Nat) (rec:Int→OW):OW:=
 match ts[n]? with
 |none=>wNo
 |some t=>
  if t.k=0 then wPut (wordN t.size t.little)
  else if t.k=1 then idxW xs kBytes t.e
  else if t.k=2 then idxW xs kZero t.e
  else if t.k=3 then idxW xs kSkip t.e
  else if t.k=4 then wPut kTail
  else if t.k=5 then wSeq (rec t.i) (idxW xs [] t.e)
  else if t.k=6 then wSeq (wPut (kRest++ [32])) (rec t.i)
  else if t.k=7 then wAll [idxW xs kWindow t.e,wPut [32],rec t.i]
  else if t.k=8 then wAll [idxW xs kAt t.e,wPut [32],rec t.i]
  else if t.k=9 then choiceW xs rec t
  else if t.k=10 then refW xs t
  else if t.k=11 then wPut kNone
  else wNo
def typW (xs:List XG) (ts:List TG):Nat→Int→OW
 |0,_=>wNo
 |n+1,at'=>if at'=n then bodyT xs ts n (typW xs ts n) else typW xs ts n at'
def dDer (k:Nat):List UInt8:=if k=1 then [32,61,32,115,105,122,101,111,102,40] else if k=2 then [32,61,32,99,111,117,110,116,111,102,40] else if k=3 then [32,61,32,99,114,99,51,50,40] else [32,61,32,97,100,108,101,114,51,50,40]
def derW (x:IM):OW:=
 if x.der=0 then some
 else if x.der=1∨x.der=2 then wAll [wPut (dDer x.der),wPut x.a,wPut [41]]
 else if x.der=3∨x.der=4 then wAll [wPut (dDer x.der),wPut x.a,wPut [46,46],wPut x.b,wPut [41]]
 else wNo
def dWhere:List UInt8:= [32,119,104,101,114,101,32]
def fieldW (xs:List XG) (ts:List TG) (x:IM):OW:=
 wAll [wPut x.s,wPut [58,32],typW xs ts ts.length x.t,derW x,(if x.wh≠ -1 then wSeq (wPut dWhere) (exprW xs xs.length x.wh) else some),wPut [59]]
def packW (x:IM):OW:=
 wAll [wPut (kPack++ [32]),wPut (wordN x.size x.little),wPut [32,123],wAll (x.subs.map fun s=>wAll [wPut [32],wPut s.1,wPut [58,32],wPut (decL s.2),wPut [59]]),wPut [32,125]]
def itemW (xs:List XG) (ts:List TG) (x:IM):OW:=wAll [wPut [32,32],if 0<x.subs.length then packW x else fieldW xs ts x,wPut [10]]
def structW (xs:List XG) (ts:List TG) (s:SM):OW:=
 wAll [wPut (kStruct++ [32]),wPut s.s,wList s.ps.length (fun i=>wPut (s.ps.getD i [])),wPut [32,123,10],wAll (s.is.map (itemW xs ts)),wPut [125,10]]
def constW (c:List UInt8×Nat):OW:=wAll [wPut (kConst++ [32]),wPut c.1,wPut [32,61,32],wNum c.2,wPut [59,10]]
def fileW (f:GF):OW:=if f.xs.length≤maxText∧f.ts.length≤maxText then wSeq (wAll (f.cs.map constW)) (wAll (f.ss.map (structW f.xs f.ts))) else wNo
def textW (f:GF):Option (List UInt8):=fileW f []
theorem exprW_lim (xs:List XG): ∀(n:Nat) (at':Int),exprW xs n at'=if 0≤at'∧at'<n then bodyE xs at'.toNat (exprW xs at'.toNat) else wNo
 |0,at'=>by
  rw [if_neg (by omega)];rfl
 |n+1,at'=>by
  rw [exprW]
  by_cases h:at'=n
  ·subst h
   rw [if_pos rfl,if_pos (by omega)]
   simp
  ·rw [if_neg h,exprW_lim xs n at']
   by_cases h2:0≤at'∧at'<n
   ·rw [if_pos h2,if_pos (by omega)]
   ·rw [if_neg h2,if_neg (by omega)]
theorem typW_lim (xs:List XG) (ts:List TG): ∀(n:Nat) (at':Int),typW xs ts n at'=if 0≤at'∧at'<n then bodyT xs ts at'.toNat (typW xs ts at'.toNat) else wNo
 |0,at'=>by
  rw [if_neg (by omega)];rfl
 |n+1,at'=>by
  rw [typW]
  by_cases h:at'=n
  ·subst h
   rw [if_pos rfl,if_pos (by omega)]
   simp
  ·rw [if_neg h,typW_lim xs ts n at']
   by_cases h2:0≤at'∧at'<n
   ·rw [if_pos h2,if_pos (by omega)]
   ·rw [if_neg h2,if_neg (by omega)]
end Go.Proofs.YtomimkgaelkaoaaGreatDoor
namespace Go.Proofs.YtomimkgaelkaoaaGreatDoor
def paren (b:Bool) (s:List UInt8):List UInt8:=if b=true then [40]++s++ [41] else s
def low (v:Nat):EA→Bool
 | .bin op _ _=>decide (levelL op<v)
 |_=>false
def prE:EA→List UInt8
 | .num n=>decL n
 | .name s=>s
 | .not a=> [33]++paren (low 9 a) (prE a)
 | .bin op a b=>paren (low (levelL op) a) (prE a)++([32]++(op++([32]++paren (low (levelL op+1) b) (prE b))))
def prL {α:Type} (g:α→List UInt8):List α→List UInt8
 | []=> []
 |x::r=> [40]++g x++(r.flatMap fun y=> [44,32]++g y)++ [41]
def idxWord (k:Nat):List UInt8:=if k=1 then kBytes else if k=2 then kZero else if k=3 then kSkip else if k=7 then kWindow else kAt
def prIdx (w:List UInt8) (e:EA):List UInt8:=w++([91]++(prE e++ [93]))
def prT:TA→List UInt8
 | .int z li=>wordN z li
 | .ref s es=>s++prL prE es
 | .idx k e=>prIdx (idxWord k) e
 | .win k e t=>prIdx (idxWord k) e++([32]++prT t)
 | .rest t=>(kRest++ [32])++prT t
 | .leaf k=>if k=4 then kTail else kNone
 | .arr t e=>prT t++prIdx [] e
 | .sw e cs els=>dSwitch++(prE e++([41,32,123]++(prT cs++((if els.isNil=true then [] else dElse++(prT els++ [59]))++ [32,125]))))
 | .nil=> []
 | .snoc cs n t=>prT cs++(dCase++(decL n++([58,32]++(prT t++ [59]))))
def prDer (d:DA):List UInt8:=if d.k=0 then [] else if d.k≤2 then dDer d.k++(d.a++ [41]) else dDer d.k++(d.a++([46,46]++(d.b++ [41])))
def prWh:Option EA→List UInt8
 |none=> []
 |some e=>dWhere++prE e
def prSub (s:List UInt8×Nat):List UInt8:= [32]++(s.1++([58,32]++(decL s.2++ [59])))
def prI:IA→List UInt8
 | .field s t d wh=>s++([58,32]++(prT t++(prDer d++(prWh wh++ [59]))))
 | .pack z li subs=>(kPack++ [32])++(wordN z li++([32,123]++(subs.flatMap prSub++ [32,125])))
def prS (s:SA):List UInt8:=(kStruct++ [32])++(s.s++(prL (fun p=>p) s.ps++([32,123,10]++((s.is.flatMap fun x=> [32,32]++(prI x++ [10]))++ [125,10]))))
def prC (c:List UInt8×Nat):List UInt8:=(kConst++ [32])++(c.1++([32,61,32]++(decL c.2++ [59,10])))
def prF (cs:List (List UInt8×Nat)) (ss:List SA):List UInt8:=cs.flatMap prC++ss.flatMap prS
theorem wPut_app (a b:List UInt8):wSeq (wPut a) (wPut b)=wPut (a++b):=by
 funext t
 unfold wSeq wPut
 by_cases h:t.length+a.length≤maxText
 ·rw [if_pos h]
  show (if (t++a).length+b.length≤maxText then some (t++a++b) else none)=_
  rw [List.length_append,List.length_append,List.append_assoc,Nat.add_assoc]
 ·rw [if_neg h,if_neg (by rw [List.length_append];omega)]
  rfl
theorem wPut_some (a:List UInt8):wSeq (wPut a) some=wPut a:=by
 funext t
 unfold wSeq wPut
 split<;>rfl
theorem wSeq_assoc (a b c:OW):wSeq (wSeq a b) c=wSeq a (wSeq b c):=by
 funext t
 unfold wSeq
 cases a t<;>rfl
theorem wSome_seq (a:OW):wSeq some a=a:=rfl
theorem wAll_cons (a:OW) (l:List OW):wAll (a::l)=wSeq a (wAll l):=rfl
theorem wAll_nil:wAll []=some:=rfl
theorem wAll_map {α:Type} (f:α→OW) (g:α→List UInt8): ∀(l:List α),(∀x∈l,f x=wPut (g x))→∀s,wSeq (wPut s) (wAll (l.map f))=wPut (s++l.flatMap g)
 | [],_,s=>by rw [List.map_nil,wAll_nil,wPut_some,List.flatMap_nil,List.append_nil]
 |x::l,h,s=>by
  rw [List.map_cons,wAll_cons,h x (by simp),←wSeq_assoc,wPut_app,wAll_map f g l (fun y hy=>h y (by simp [hy])),List.flatMap_cons,List.append_assoc]
theorem wAll_mapS {α:Type} (f:α→OW) (g:α→List UInt8) (l:List α) (h: ∀x∈l,f x=wPut (g x)) (s:List UInt8) (k:OW):wSeq (wPut s) (wSeq (wAll (l.map f)) k)=wSeq (wPut (s++l.flatMap g)) k:=by
 rw [←wSeq_assoc,wAll_map f g l h]
def AtE (xs:List XM):EA→Nat→Prop
 | .num n,k=>xs[k]? =some ⟨0, [],n, [], []⟩
 | .name s,k=>xs[k]? =some ⟨1, [],0,s, []⟩
 | .not a,k=> ∃i,xs[k]? =some ⟨2, [],0, [], [i]⟩∧i<k∧AtE xs a i
 | .bin op a b,k=> ∃i j,xs[k]? =some ⟨3,op,0, [], [i,j]⟩∧i<k∧j<k∧AtE xs a i∧AtE xs b j
def AtEs (xs:List XM):List EA→List Nat→Prop
 | [],ks=>ks= []
 |e::es,ks=> ∃k r,ks=k::r∧AtE xs e k∧AtEs xs es r
def AtT (xs:List XM) (ts:List TM):TA→Nat→List (Nat×Nat)→Prop
 | .int z li,k,_=>ts[k]? =some ⟨0,z,li, [], [], -1, -1, []⟩
 | .ref s es,k,_=> ∃ks,ts[k]? =some ⟨10,0,false,s,ks, -1, -1, []⟩∧AtEs xs es ks
 | .idx q e,k,_=> ∃i:Nat,ts[k]? =some ⟨q,0,false, [], [],i, -1, []⟩∧AtE xs e i
 | .win q e t,k,_=> ∃i j:Nat,ts[k]? =some ⟨q,0,false, [], [],i,j, []⟩∧AtE xs e i∧j<k∧AtT xs ts t j []
 | .rest t,k,_=> ∃j:Nat,ts[k]? =some ⟨6,0,false, [], [], -1,j, []⟩∧j<k∧AtT xs ts t j []
 | .leaf q,k,_=>ts[k]? =some ⟨q,0,false, [], [], -1, -1, []⟩
 | .arr t e,k,_=> ∃i j:Nat,ts[k]? =some ⟨5,0,false, [], [],i,j, []⟩∧AtE xs e i∧j<k∧AtT xs ts t j []
 | .sw e cs els,k,_=> ∃(i:Nat) (j:Int) (cl:List (Nat×Nat)),ts[k]? =some ⟨9,0,false, [], [],i,j,cl⟩∧AtE xs e i∧AtT xs ts cs k cl∧((els.isNil=true∧j= -1)∨(els.isNil=false∧∃u:Nat,j=u∧u<k∧AtT xs ts els u []))
 | .nil,_,cl=>cl= []
 | .snoc cs n t,k,cl=> ∃c2 i,cl=c2++ [(n,i)]∧AtT xs ts cs k c2∧i<k∧AtT xs ts t i []
def OkT:TA→Bool→Prop
 | .int _ _,b=>b=false
 | .ref _ _,b=>b=false
 | .idx k _,b=>b=false∧(k=1∨k=2∨k=3)
 | .win k _ t,b=>b=false∧(k=7∨k=8)∧OkT t false
 | .rest t,b=>b=false∧OkT t false
 | .leaf k,b=>b=false∧(k=4∨k=11)
 | .arr t _,b=>b=false∧OkT t false
 | .sw _ cs els,b=>b=false∧OkT cs true∧(els.isNil=false→OkT els false)
 | .nil,b=>b=true
 | .snoc cs _ t,b=>b=true∧OkT cs true∧OkT t false
theorem get_more {α:Type} {l m:List α} {k:Nat} {x:α} (h:l[k]? =some x):(l++m)[k]? =some x:=by
 rw [List.getElem?_append_left (List.getElem?_eq_some_iff.1 h).1];exact h
theorem AtE.more {xs ys:List XM}: ∀{e:EA} {k:Nat},AtE xs e k→AtE (xs++ys) e k
 | .num _,_,h=>get_more h
 | .name _,_,h=>get_more h
 | .not _,_,⟨i,h,hi,ha⟩=>⟨i,get_more h,hi,ha.more⟩
 | .bin _ _ _,_,⟨i,j,h,hi,hj,ha,hb⟩=>⟨i,j,get_more h,hi,hj,ha.more,hb.more⟩
theorem AtE.lt {xs:List XM}: ∀{e:EA} {k:Nat},AtE xs e k→k<xs.length
 | .num _,_,h=>(List.getElem?_eq_some_iff.1 h).1
 | .name _,_,h=>(List.getElem?_eq_some_iff.1 h).1
 | .not _,_,⟨_,h,_⟩=>(List.getElem?_eq_some_iff.1 h).1
 | .bin _ _ _,_,⟨_,_,h,_⟩=>(List.getElem?_eq_some_iff.1 h).1
theorem AtEs.more {xs ys:List XM}: ∀{es:List EA} {ks:List Nat},AtEs xs es ks→AtEs (xs++ys) es ks
 | [],_,h=>h
 |_::_,_,⟨k,r,e,h,hr⟩=>⟨k,r,e,h.more,hr.more⟩
theorem AtT.more {xs ys:List XM} {ts us:List TM}: ∀{t:TA} {k:Nat} {cl:List (Nat×Nat)},AtT xs ts t k cl→AtT (xs++ys) (ts++us) t k cl
 | .int _ _,_,_,h=>get_more h
 | .ref _ _,_,_,⟨ks,h,h1⟩=>⟨ks,get_more h,h1.more⟩
 | .idx _ _,_,_,⟨i,h,h1⟩=>⟨i,get_more h,h1.more⟩
 | .win _ _ _,_,_,⟨i,j,h,h1,h2,h3⟩=>⟨i,j,get_more h,h1.more,h2,h3.more⟩
 | .rest _,_,_,⟨j,h,h2,h3⟩=>⟨j,get_more h,h2,h3.more⟩
 | .leaf _,_,_,h=>get_more h
 | .arr _ _,_,_,⟨i,j,h,h1,h2,h3⟩=>⟨i,j,get_more h,h1.more,h2,h3.more⟩
 | .sw _ _ _,_,_,⟨i,j,cl,h,h1,h2,h3⟩=>⟨i,j,cl,get_more h,h1.more,h2.more,h3.imp id fun ⟨e,u,e1,h4,h5⟩=>⟨e,u,e1,h4,h5.more⟩⟩
 | .nil,_,_,h=>h
 | .snoc _ _ _,_,_,⟨c2,i,h,h1,h2,h3⟩=>⟨c2,i,h,h1.more,h2,h3.more⟩
theorem AtT.up {xs:List XM} {ts:List TM}: ∀{t:TA} {k k':Nat} {cl:List (Nat×Nat)},OkT t true→k≤k'→AtT xs ts t k cl→AtT xs ts t k' cl
 | .int _ _,_,_,_,o,_,_=>by cases o
 | .ref _ _,_,_,_,o,_,_=>by cases o
 | .idx _ _,_,_,_,o,_,_=>by cases o.1
 | .win _ _ _,_,_,_,o,_,_=>by cases o.1
 | .rest _,_,_,_,o,_,_=>by cases o.1
 | .leaf _,_,_,_,o,_,_=>by cases o.1
 | .arr _ _,_,_,_,o,_,_=>by cases o.1
 | .sw _ _ _,_,_,_,o,_,_=>by cases o.1
 | .nil,_,_,_,_,_,h=>h
 | .snoc _ _ _,_,_,_,o,hk,⟨c2,i,h,h1,h2,h3⟩=>⟨c2,i,h,h1.up o.2.1 hk,by omega,h3⟩
structure Grow (g g':GM):Prop where
 xs: ∃ys,g'.xs=g.xs++ys
 ts: ∃us,g'.ts=g.ts++us
theorem Grow.refl (g:GM):Grow g g:=⟨⟨[],by simp⟩,⟨[],by simp⟩⟩
theorem Grow.trans {a b c:GM} (h:Grow a b) (k:Grow b c):Grow a c:=by
 obtain ⟨⟨ys,h1⟩,us,h2⟩:=h
 obtain ⟨⟨ys',k1⟩,us',k2⟩:=k
 exact ⟨⟨ys++ys',by rw [k1,h1,List.append_assoc]⟩,⟨us++us',by rw [k2,h2,List.append_assoc]⟩⟩
theorem Grow.addX (g:GM) (x:XM):Grow g (g.addX x):=⟨⟨[x],rfl⟩,⟨[],by simp [GM.addX]⟩⟩
theorem Grow.addT (g:GM) (x:TM):Grow g (g.addT x):=⟨⟨[],by simp [GM.addT]⟩,⟨[x],rfl⟩⟩
theorem Grow.e {a b:GM} (h:Grow a b) {e:EA} {k:Nat} (h1:AtE a.xs e k):AtE b.xs e k:=by
 obtain ⟨⟨ys,h2⟩,_⟩:=h
 rw [h2];exact h1.more
theorem Grow.es {a b:GM} (h:Grow a b) {e:List EA} {k:List Nat} (h1:AtEs a.xs e k):AtEs b.xs e k:=by
 obtain ⟨⟨ys,h2⟩,_⟩:=h
 rw [h2];exact h1.more
theorem Grow.t {a b:GM} (h:Grow a b) {e:TA} {k:Nat} {cl:List (Nat×Nat)} (h1:AtT a.xs a.ts e k cl):AtT b.xs b.ts e k cl:=by
 obtain ⟨⟨ys,h2⟩,us,h3⟩:=h
 rw [h2,h3];exact h1.more
theorem addX_at (g:GM) (x:XM):(g.addX x).xs[(g.addX x).x]? =some x:=by simp [GM.addX,GM.x]
theorem addT_at (g:GM) (x:TM):(g.addT x).ts[(g.addT x).t]? =some x:=by simp [GM.addT,GM.t]
theorem addX_x (g:GM) (x:XM):(g.addX x).x=g.xs.length:=by simp [GM.addX,GM.x]
theorem addT_t (g:GM) (x:TM):(g.addT x).t=g.ts.length:=by simp [GM.addT,GM.t]
theorem putE_at: ∀(e:EA) (g:GM),Grow g (putE e g)∧AtE (putE e g).xs e (putE e g).x
 | .num n,g=>⟨.addX _ _,addX_at _ _⟩
 | .name s,g=>⟨.addX _ _,addX_at _ _⟩
 | .not a,g=>by
  obtain ⟨h1,h2⟩:=putE_at a g
  refine ⟨h1.trans (.addX _ _),_,addX_at _ _, ?_,(Grow.addX _ _).e h2⟩
  rw [putE,addX_x];exact h2.lt
 | .bin op a b,g=>by
  obtain ⟨h1,h2⟩:=putE_at a g
  obtain ⟨h3,h4⟩:=putE_at b (putE a g)
  refine ⟨(h1.trans h3).trans (.addX _ _),_,_,addX_at _ _, ?_, ?_,(Grow.addX _ _).e (h3.e h2),(Grow.addX _ _).e h4⟩
  ·rw [putE,addX_x];exact (h3.e h2).lt
  ·rw [putE,addX_x];exact h4.lt
theorem AtEs.snoc {xs:List XM} {e:EA} {k:Nat}: ∀{es:List EA} {ks:List Nat},AtEs xs es ks→AtE xs e k→AtEs xs (es++ [e]) (ks++ [k])
 | [],_,h,he=>by
  have h:_= []:=h
  subst h
  exact ⟨k, [],rfl,he,rfl⟩
 |_::_,_,⟨k',r,e1,h,hr⟩,he=>⟨k',r++ [k],by rw [e1];rfl,h,hr.snoc he⟩
theorem putEs_from (g0:GM): ∀(es:List EA) (s:GM×List Nat) (es0:List EA),Grow g0 s.1→AtEs s.1.xs es0 s.2→Grow g0 (es.foldl stepE s).1∧AtEs (es.foldl stepE s).1.xs (es0++es) (es.foldl stepE s).2
 | [],s,es0,h1,h2=>⟨h1,by rw [List.append_nil];exact h2⟩
 |e::es,s,es0,h1,h2=>by
  obtain ⟨h3,h4⟩:=putE_at e s.1
  have:=putEs_from g0 es (stepE s e) (es0++ [e]) (h1.trans h3) ((h3.es h2).snoc h4)
  rw [List.append_assoc] at this
  exact this
theorem putEs_at (es:List EA) (g:GM):Grow g (putEs es g).1∧AtEs (putEs es g).1.xs es (putEs es g).2:=putEs_from g es (g, []) [] (.refl g) rfl
theorem AtT.lt {xs:List XM} {ts:List TM}: ∀{t:TA} {k:Nat} {cl:List (Nat×Nat)},OkT t false→AtT xs ts t k cl→k<ts.length
 | .int _ _,_,_,_,h=>(List.getElem?_eq_some_iff.1 h).1
 | .ref _ _,_,_,_,⟨_,h,_⟩=>(List.getElem?_eq_some_iff.1 h).1
 | .idx _ _,_,_,_,⟨_,h,_⟩=>(List.getElem?_eq_some_iff.1 h).1
 | .win _ _ _,_,_,_,⟨_,_,h,_⟩=>(List.getElem?_eq_some_iff.1 h).1
 | .rest _,_,_,_,⟨_,h,_⟩=>(List.getElem?_eq_some_iff.1 h).1
 | .leaf _,_,_,_,h=>(List.getElem?_eq_some_iff.1 h).1
 | .arr _ _,_,_,_,⟨_,_,h,_⟩=>(List.getElem?_eq_some_iff.1 h).1
 | .sw _ _ _,_,_,_,⟨_,_,_,h,_⟩=>(List.getElem?_eq_some_iff.1 h).1
 | .nil,_,_,o,_=>by cases o
 | .snoc _ _ _,_,_,o,_=>by cases o.1
theorem grow_lt {g g':GM} (h:Grow g g'):g.ts.length≤g'.ts.length:=by
 obtain ⟨_,us,h⟩:=h
 rw [h,List.length_append];omega
theorem putT_at: ∀(t:TA) (g:GM),Grow g (putT t g).1∧(OkT t false→AtT (putT t g).1.xs (putT t g).1.ts t (putT t g).1.t [])∧(OkT t true→AtT (putT t g).1.xs (putT t g).1.ts t (putT t g).1.ts.length (putT t g).2)
 | .int z li,g=>⟨.addT _ _,fun _=>addT_at _ _,fun o=>by cases o⟩
 | .ref s es,g=>by
  obtain ⟨h1,h2⟩:=putEs_at es g
  exact ⟨h1.trans (.addT _ _),fun _=>⟨_,addT_at _ _,(Grow.addT _ _).es h2⟩,fun o=>by cases o⟩
 | .idx k e,g=>by
  obtain ⟨h1,h2⟩:=putE_at e g
  exact ⟨h1.trans (.addT _ _),fun _=>⟨_,addT_at _ _,(Grow.addT _ _).e h2⟩,fun o=>by cases o.1⟩
 | .win k e t,g=>by
  obtain ⟨h1,h2⟩:=putE_at e g
  obtain ⟨h3,h4, -⟩:=putT_at t (putE e g)
  refine ⟨(h1.trans h3).trans (.addT _ _),fun o=>⟨_,_,addT_at _ _,(Grow.addT _ _).e (h3.e h2), ?_,(Grow.addT _ _).t (h4 o.2.2)⟩,fun o=>by cases o.1⟩
  rw [putT,addT_t];exact (h4 o.2.2).lt o.2.2
 | .rest t,g=>by
  obtain ⟨h3,h4, -⟩:=putT_at t g
  refine ⟨h3.trans (.addT _ _),fun o=>⟨_,addT_at _ _, ?_,(Grow.addT _ _).t (h4 o.2)⟩,fun o=>by cases o.1⟩
  rw [putT,addT_t];exact (h4 o.2).lt o.2
 | .leaf k,g=>⟨.addT _ _,fun _=>addT_at _ _,fun o=>by cases o.1⟩
 | .arr t e,g=>by
  obtain ⟨h3,h4, -⟩:=putT_at t g
  obtain ⟨h1,h2⟩:=putE_at e (putT t g).1
  refine ⟨(h3.trans h1).trans (.addT _ _),fun o=>⟨_,_,addT_at _ _,(Grow.addT _ _).e h2, ?_,(Grow.addT _ _).t (h1.t (h4 o.2))⟩,fun o=>by cases o.1⟩
  rw [putT,addT_t]
  exact Nat.lt_of_lt_of_le ((h4 o.2).lt o.2) (grow_lt h1)
 | .sw e cs els,g=>by
  obtain ⟨h1,h2⟩:=putE_at e g
  obtain ⟨h3, -,h4⟩:=putT_at cs (putE e g)
  obtain ⟨h5,h6, -⟩:=putT_at els (putT cs (putE e g)).1
  refine ⟨((h1.trans h3).trans h5).trans (.addT _ _),fun o=>⟨_,_,_,addT_at _ _,(Grow.addT _ _).e (h5.e (h3.e h2)), ?_, ?_⟩,fun o=>by cases o.1⟩
  ·rw [putT,addT_t]
   exact (Grow.addT _ _).t ((h5.t (h4 o.2.1)).up o.2.1 (grow_lt h5))
  ·cases hn:els.isNil
   ·refine .inr ⟨rfl,_,by rw [if_neg (by decide)], ?_,(Grow.addT _ _).t (h6 (o.2.2 hn))⟩
    rw [putT,addT_t]
    exact (h6 (o.2.2 hn)).lt (o.2.2 hn)
   ·exact .inl ⟨rfl,by rw [if_pos rfl]⟩
 | .nil,g=>⟨.refl g,fun o=>(by cases o),fun _=>rfl⟩
 | .snoc cs n t,g=>by
  obtain ⟨h3, -,h4⟩:=putT_at cs g
  obtain ⟨h5,h6, -⟩:=putT_at t (putT cs g).1
  exact ⟨h3.trans h5,fun o=>(by cases o.1),fun o=>⟨_,_,rfl,(h5.t (h4 o.2.1)).up o.2.1 (grow_lt h5),(h6 o.2.2).lt o.2.2,h6 o.2.2⟩⟩
theorem opndW_low {xs:List XM} {e:EA} {i n:Nat} (h:AtE xs e i) (hi:i<n) {rec:Int→OW} (hr:rec (i:Int)=wPut (prE e)) (v:Nat):opndW (xs.map XM.gx) n rec (i:Int) v=wPut (paren (low v e) (prE e)):=by
 have key: ∀x:XM,xs[i]? =some x→(opndW (xs.map XM.gx) n rec (i:Int) v=if x.k≠3∨v≤levelL x.op then wPut (prE e) else wPut ([40]++prE e++ [41])):=by
  intro x hx
  unfold opndW
  rw [if_pos ⟨by omega,by omega⟩,show ((i:Int).toNat)=i from rfl,List.getElem?_map,hx]
  show (if (x.k:Int)≠3∨v≤levelL x.op then rec i else wAll [wPut [40],rec i,wPut [41]])=_
  rw [hr]
  have e2:wAll [wPut [40],wPut (prE e),wPut [41]]=wPut ([40]++prE e++ [41]):=by
   rw [wAll_cons,wAll_cons,wAll_cons,wAll_nil,wPut_some,wPut_app,wPut_app,List.append_assoc]
  rw [e2]
  by_cases h3:x.k=3
  ·by_cases hl:v≤levelL x.op
   ·rw [if_pos (.inr hl),if_pos (.inr hl)]
   ·rw [if_neg (by omega),if_neg (by omega)]
  ·rw [if_pos (.inl (by omega)),if_pos (.inl (by omega))]
 have kp: ∀b:Bool,(wPut (paren b (prE e)):OW)=if b=true then wPut ([40]++prE e++ [41]) else wPut (prE e):=by
  intro b;unfold paren;split<;>rfl
 rw [kp]
 cases e with
 |num m=>rw [key _ h];rfl
 |name s=>rw [key _ h];rfl
 |not a=>obtain ⟨_,h,_⟩:=h;rw [key _ h];rfl
 |bin op a b=>
  obtain ⟨_,_,h,_⟩:=h
  rw [key _ h]
  unfold low
  by_cases h2:levelL op<v
  ·rw [if_neg (by simp;omega),if_pos (decide_eq_true h2)]
  ·rw [if_pos (.inr (by show v≤levelL op;omega)),if_neg (by simp;omega)]
theorem exprW_at {xs:List XM}: ∀{e:EA} {k n:Nat},AtE xs e k→k<n→exprW (xs.map XM.gx) n (k:Int)=wPut (prE e)
 | .num m,k,n,h,hk=>by
  rw [exprW_lim,if_pos (by omega),show ((k:Int).toNat)=k from rfl]
  unfold bodyE
  rw [List.getElem?_map,show xs[k]? =_ from h]
  rfl
 | .name m,k,n,h,hk=>by
  rw [exprW_lim,if_pos (by omega),show ((k:Int).toNat)=k from rfl]
  unfold bodyE
  rw [List.getElem?_map,show xs[k]? =_ from h]
  rfl
 | .not a,k,n,⟨i,h,hi,ha⟩,hk=>by
  rw [exprW_lim,if_pos (by omega),show ((k:Int).toNat)=k from rfl]
  unfold bodyE
  rw [List.getElem?_map,h]
  show wAll [wPut [33],opndW (xs.map XM.gx) k (exprW (xs.map XM.gx) k) (i:Int) 9]=_
  rw [opndW_low ha hi (exprW_at ha hi),wAll_cons,wAll_cons,wAll_nil,wPut_some,wPut_app]
  rfl
 | .bin op a b,k,n,⟨i,j,h,hi,hj,ha,hb⟩,hk=>by
  rw [exprW_lim,if_pos (by omega),show ((k:Int).toNat)=k from rfl]
  unfold bodyE
  rw [List.getElem?_map,h]
  show wAll [opndW (xs.map XM.gx) k (exprW (xs.map XM.gx) k) (i:Int) (levelL op),wPut [32],wPut op,wPut [32],opndW (xs.map XM.gx) k (exprW (xs.map XM.gx) k) (j:Int) (levelL op+1)]=_
  rw [opndW_low ha hi (exprW_at ha hi),opndW_low hb hj (exprW_at hb hj),wAll_cons,wAll_cons,wAll_cons,wAll_cons,wAll_cons,wAll_nil,wPut_some,wPut_app,wPut_app,wPut_app,wPut_app]
  rfl
theorem exprW_top {xs:List XM} {e:EA} {k:Nat} (h:AtE xs e k):exprW (xs.map XM.gx) (xs.map XM.gx).length (k:Int)=wPut (prE e):=exprW_at h (by rw [List.length_map];exact h.lt)
theorem idxW_at {xs:List XM} {e:EA} {k:Nat} (h:AtE xs e k) (w:List UInt8):idxW (xs.map XM.gx) w (k:Int)=wPut (prIdx w e):=by
 unfold idxW
 rw [exprW_top h,wAll_cons,wAll_cons,wAll_cons,wAll_cons,wAll_nil,wPut_some,wPut_app,wPut_app,wPut_app]
 rfl
theorem wList_at {n:Nat} {el:Nat→OW} {g:Nat→List UInt8} (h: ∀i,i<n+1→el i=wPut (g i)):wList (n+1) el=wPut ([40]++g 0++((List.range n).flatMap fun i=> [44,32]++g (i+1))++ [41]):=by
 unfold wList
 rw [if_neg (by omega),List.range_succ_eq_map,List.map_cons,wAll_cons,if_pos rfl,h 0 (by omega),wPut_app,List.map_map,wSeq_assoc,wAll_mapS _ (fun i=> [44,32]++g (i+1)),wPut_app]
 intro i hi
 have:=List.mem_range.1 hi
 show wSeq (wPut (if i+1=0 then [40] else [44,32])) (el (i+1))=_
 rw [if_neg (by omega),h (i+1) (by omega),wPut_app]
theorem wList_none (el:Nat→OW):wList 0 el=some:=rfl
theorem AtEs.len {xs:List XM}: ∀{es:List EA} {ks:List Nat},AtEs xs es ks→ks.length=es.length
 | [],_,h=>by have h:_= []:=h;subst h;rfl
 |_::_,_,⟨k,r,e,h,hr⟩=>by rw [e,List.length_cons,List.length_cons,hr.len]
theorem AtEs.at {xs:List XM}: ∀{es:List EA} {ks:List Nat},AtEs xs es ks→∀(i:Nat) e,es[i]? =some e→AtE xs e (ks.getD i 0)
 | [],_,_,i,e,h=>by simp at h
 |e0::es,_,⟨k,r,e1,h,hr⟩,0,e,he=>by
  rw [List.getElem?_cons_zero] at he
  cases he
  rw [e1];exact h
 |e0::es,_,⟨k,r,e1,h,hr⟩,i+1,e,he=>by
  rw [List.getElem?_cons_succ] at he
  rw [e1,List.getD_cons_succ];exact hr.at i e he
theorem range_flat {α:Type} (f:Nat→List UInt8) (g:α→List UInt8): ∀(l:List α),(∀i x,l[i]? =some x→f i=g x)→(List.range l.length).flatMap f=l.flatMap g
 | [],_=>rfl
 |x::l,h=>by
  rw [List.length_cons,List.range_succ_eq_map,List.flatMap_cons,List.flatMap_cons,h 0 x rfl,List.flatMap_map,←range_flat (fun i=>f (i+1)) g l fun i y hy=>h (i+1) y hy]
theorem wList_map {α:Type} (l:List α) (el:Nat→OW) (g:α→List UInt8) (h: ∀i x,l[i]? =some x→el i=wPut (g x)) (s:List UInt8) (k:OW):
  wSeq (wPut s) (wSeq (wList l.length el) k)=wSeq (wPut (s++prL g l)) k:=by
 cases l with
 |nil=>rw [List.length_nil,wList_none,wSome_seq,prL,List.append_nil]
 |cons x r=>
  have h0: ∀i,i<r.length+1→el i=wPut ((fun i=>match (x::r)[i]? with|some y=>g y|none=> []) i):=by
   intro i hi
   have e:(x::r)[i]? =some ((x::r)[i]'hi):=List.getElem?_eq_getElem hi
   rw [h i _ e]
   show wPut _=wPut (match (x::r)[i]? with|some y=>g y|none=> [])
   rw [e]
  rw [List.length_cons,wList_at h0,←wSeq_assoc,wPut_app]
  have e2:((List.range r.length).flatMap fun i=> [44,32]++((fun i=>match (x::r)[i]? with|some y=>g y|none=> []) (i+1)))=r.flatMap fun y=> [44,32]++g y:=by
   refine range_flat _ _ r fun i y hy=> ?_
   show [44,32]++(match (x::r)[i+1]? with|some y=>g y|none=> [])=_
   rw [List.getElem?_cons_succ,hy]
  rw [e2]
  rfl
theorem wSeq_some (a:OW):wSeq a some=a:=by
 funext t;unfold wSeq;cases a t<;>rfl
theorem caseW_cons (rec:Int→OW) (n:Nat) (i:Nat) {s:List UInt8} (h:rec (i:Int)=wPut s):wAll [wPut dCase,wNum n,wPut [58,32],rec (i:Int),wPut [59]]=wPut (dCase++(decL n++([58,32]++(s++ [59])))):=by
 rw [h,wAll_cons,wAll_cons,wAll_cons,wAll_cons,wAll_cons,wAll_nil,wPut_some,wPut_app]
 unfold wNum
 rw [wPut_app,wPut_app,wPut_app]
theorem wAll_snoc (l:List OW) (a:OW):wAll (l++ [a])=wSeq (wAll l) a:=by
 induction l with
 |nil=>rw [List.nil_append,wAll_cons,wAll_nil,wSeq_some,wSome_seq]
 |cons b l ih=>rw [List.cons_append,wAll_cons,ih,wAll_cons,wSeq_assoc]
theorem typW_at {xs:List XM} {ts:List TM}: ∀(t:TA),
  (OkT t false→∀k n,AtT xs ts t k []→k<n→typW (xs.map XM.gx) (ts.map TM.gt) n (k:Int)=wPut (prT t))∧
  (OkT t true→∀k cl,AtT xs ts t k cl→∀s,wSeq (wPut s) (wAll (cl.map fun c=>wAll [wPut dCase,wNum c.1,wPut [58,32],typW (xs.map XM.gx) (ts.map TM.gt) k (c.2:Int),wPut [59]]))=wPut (s++prT t))
 | .int z li=>by
  refine ⟨fun o k n h hk=> ?_,fun o=>by cases o⟩
  rw [typW_lim,if_pos (by omega),show ((k:Int).toNat)=k from rfl]
  unfold bodyT
  rw [List.getElem?_map,show ts[k]? =_ from h]
  rfl
 | .ref s es=>by
  refine ⟨fun o k n h hk=> ?_,fun o=>by cases o⟩
  obtain ⟨ks,h,h1⟩:=h
  rw [typW_lim,if_pos (by omega),show ((k:Int).toNat)=k from rfl]
  unfold bodyT
  rw [List.getElem?_map,h]
  show refW (xs.map XM.gx) (TM.gt ⟨10,0,false,s,ks, -1, -1, []⟩)=_
  unfold refW
  show wSeq (wPut s) (wList ks.length fun i=>exprW (xs.map XM.gx) (xs.map XM.gx).length ((ks.getD i 0:Nat):Int))=_
  have:=wList_map es (fun i=>exprW (xs.map XM.gx) (xs.map XM.gx).length ((ks.getD i 0:Nat):Int)) prE (fun i e he=>exprW_top (h1.at i e he)) s some
  rw [wSeq_some,wPut_some] at this
  rw [h1.len,this]
  rfl
 | .idx q e=>by
  refine ⟨fun o k n h hk=> ?_,fun o=>by cases o.1⟩
  obtain ⟨i,h,h1⟩:=h
  rw [typW_lim,if_pos (by omega),show ((k:Int).toNat)=k from rfl]
  unfold bodyT
  rw [List.getElem?_map,h]
  obtain ⟨-,rfl|rfl|rfl⟩:=o
  ·exact idxW_at h1 kBytes
  ·exact idxW_at h1 kZero
  ·exact idxW_at h1 kSkip
 | .win q e t=>by
  refine ⟨fun o k n h hk=> ?_,fun o=>by cases o.1⟩
  obtain ⟨i,j,h,h1,h2,h3⟩:=h
  have ih:=(typW_at t).1 o.2.2 j k h3 h2
  rw [typW_lim,if_pos (by omega),show ((k:Int).toNat)=k from rfl]
  unfold bodyT
  rw [List.getElem?_map,h]
  obtain ⟨-,rfl|rfl, -⟩:=o
  ·show wAll [idxW (xs.map XM.gx) kWindow (i:Int),wPut [32],typW (xs.map XM.gx) (ts.map TM.gt) k (j:Int)]=_
   rw [ih,idxW_at h1,wAll_cons,wAll_cons,wAll_cons,wAll_nil,wPut_some,wPut_app,wPut_app]
   rfl
  ·show wAll [idxW (xs.map XM.gx) kAt (i:Int),wPut [32],typW (xs.map XM.gx) (ts.map TM.gt) k (j:Int)]=_
   rw [ih,idxW_at h1,wAll_cons,wAll_cons,wAll_cons,wAll_nil,wPut_some,wPut_app,wPut_app]
   rfl
 | .rest t=>by
  refine ⟨fun o k n h hk=> ?_,fun o=>by cases o.1⟩
  obtain ⟨j,h,h2,h3⟩:=h
  have ih:=(typW_at t).1 o.2 j k h3 h2
  rw [typW_lim,if_pos (by omega),show ((k:Int).toNat)=k from rfl]
  unfold bodyT
  rw [List.getElem?_map,h]
  show wSeq (wPut (kRest++ [32])) (typW (xs.map XM.gx) (ts.map TM.gt) k (j:Int))=_
  rw [ih,wPut_app]
  rfl
 | .leaf q=>by
  refine ⟨fun o k n h hk=> ?_,fun o=>by cases o.1⟩
  rw [typW_lim,if_pos (by omega),show ((k:Int).toNat)=k from rfl]
  unfold bodyT
  rw [List.getElem?_map,show ts[k]? =_ from h]
  obtain ⟨-,rfl|rfl⟩:=o
  ·rfl
  ·rfl
 | .arr t e=>by
  refine ⟨fun o k n h hk=> ?_,fun o=>by cases o.1⟩
  obtain ⟨i,j,h,h1,h2,h3⟩:=h
  have ih:=(typW_at t).1 o.2 j k h3 h2
  rw [typW_lim,if_pos (by omega),show ((k:Int).toNat)=k from rfl]
  unfold bodyT
  rw [List.getElem?_map,h]
  show wSeq (typW (xs.map XM.gx) (ts.map TM.gt) k (j:Int)) (idxW (xs.map XM.gx) [] (i:Int))=_
  rw [ih,idxW_at h1,wPut_app]
  rfl
 | .sw e cs els=>by
  refine ⟨fun o k n h hk=> ?_,fun o=>by cases o.1⟩
  obtain ⟨i,j,cl,h,h1,h2,h3⟩:=h
  have ih:=(typW_at cs).2 o.2.1 k cl h2
  rw [typW_lim,if_pos (by omega),show ((k:Int).toNat)=k from rfl]
  unfold bodyT
  rw [List.getElem?_map,h]
  show choiceW (xs.map XM.gx) (typW (xs.map XM.gx) (ts.map TM.gt) k) (TM.gt ⟨9,0,false, [], [],i,j,cl⟩)=_
  unfold choiceW
  show wAll [wPut dSwitch,exprW (xs.map XM.gx) (xs.map XM.gx).length (i:Int),wPut [41,32,123],wAll (cl.map fun c=>wAll [wPut dCase,wNum c.1,wPut [58,32],typW (xs.map XM.gx) (ts.map TM.gt) k (c.2:Int),wPut [59]]),(if j≠ -1 then wAll [wPut dElse,typW (xs.map XM.gx) (ts.map TM.gt) k j,wPut [59]] else some),wPut [32,125]]=_
  rw [exprW_top h1,wAll_cons,wAll_cons,wAll_cons,wAll_cons,←wSeq_assoc,←wSeq_assoc,←wSeq_assoc,wPut_app,wPut_app,ih]
  rw [show ∀a b:OW,wAll [a,b]=wSeq a b from fun a b=>by rw [wAll_cons,wAll_cons,wAll_nil,wSeq_some]]
  have hels:(if j≠ -1 then wAll [wPut dElse,typW (xs.map XM.gx) (ts.map TM.gt) k j,wPut [59]] else some)=if els.isNil=true then some else wPut (dElse++(prT els++ [59])):=by
   rcases h3 with ⟨hn,rfl⟩|⟨hn,u,rfl,hu,hu2⟩
   ·rw [if_neg (by simp),if_pos hn]
   ·rw [if_pos (by omega),if_neg (by rw [hn];decide),(typW_at els).1 (o.2.2 hn) u k hu2 hu,wAll_cons,wAll_cons,wAll_cons,wAll_nil,wPut_some,wPut_app,wPut_app]
  rw [hels]
  by_cases hn:els.isNil=true
  ·rw [if_pos hn,wSome_seq,wPut_app]
   simp only [prT,hn,if_true,List.append_assoc,List.nil_append]
  ·rw [if_neg hn,wPut_app,wPut_app]
   simp only [prT,hn,if_false,List.append_assoc,Bool.false_eq_true]
 | .nil=>by
  refine ⟨fun o=>(by cases o),fun _ k cl h s=> ?_⟩
  have h:cl= []:=h
  subst h
  rw [List.map_nil,wAll_nil,wPut_some]
  show _=wPut (s++ [])
  rw [List.append_nil]
 | .snoc cs m t=>by
  refine ⟨fun o=>(by cases o.1),fun o k cl h s=> ?_⟩
  obtain ⟨c2,i,rfl,h1,hi,h2⟩:=h
  rw [List.map_append,List.map_cons,List.map_nil,wAll_snoc,←wSeq_assoc,(typW_at cs).2 o.2.1 k c2 h1]
  show wSeq (wPut (s++prT cs)) (wAll [wPut dCase,wNum m,wPut [58,32],typW (xs.map XM.gx) (ts.map TM.gt) k (i:Int),wPut [59]])=_
  rw [caseW_cons _ _ _ ((typW_at t).1 o.2.2 i k h2 hi),wPut_app,List.append_assoc]
  rfl
theorem typW_top {xs:List XM} {ts:List TM} {t:TA} {k:Nat} (o:OkT t false) (h:AtT xs ts t k []):typW (xs.map XM.gx) (ts.map TM.gt) (ts.map TM.gt).length (k:Int)=wPut (prT t):=(typW_at t).1 o k _ h (by rw [List.length_map];exact h.lt o)
def OkI:IA→Prop
 | .field _ t d _=>OkT t false∧d.k≤4
 | .pack _ _ subs=>subs≠ []
def OkS (s:SA):Prop:= ∀x∈s.is,OkI x
def AtI (xs:List XM) (ts:List TM):IA→IM→Prop
 | .field s t d wh,y=> ∃(k:Nat) (u:Int),y=⟨s,k,d.k,d.a,d.b,u,0,false, []⟩∧AtT xs ts t k []∧((wh=none∧u= -1)∨∃e v,wh=some e∧u=(v:Nat)∧AtE xs e v)
 | .pack z li subs,y=>y=⟨[], -1,0, [], [], -1,z,li,subs⟩
theorem AtI.grow {a b:GM} (h:Grow a b): ∀{x:IA} {y:IM},AtI a.xs a.ts x y→AtI b.xs b.ts x y
 | .field _ _ _ _,_,⟨k,u,e,h1,h2⟩=>⟨k,u,e,h.t h1,h2.imp id fun ⟨e,v,e1,e2,h3⟩=>⟨e,v,e1,e2,h.e h3⟩⟩
 | .pack _ _ _,_,e=>e
theorem putI_at (x:IA) (g:GM) (o:OkI x):Grow g (putI x g).1∧AtI (putI x g).1.xs (putI x g).1.ts x (putI x g).2:=by
 cases x with
 |pack z li subs=>exact ⟨.refl g,rfl⟩
 |field s t d wh=>
  obtain ⟨h1,h2, -⟩:=putT_at t g
  cases wh with
  |none=>exact ⟨h1,_,_,rfl,h2 o.1, .inl ⟨rfl,rfl⟩⟩
  |some e=>
   obtain ⟨h3,h4⟩:=putE_at e (putT t g).1
   exact ⟨h1.trans h3,_,_,rfl,h3.t (h2 o.1), .inr ⟨e,_,rfl,rfl,h4⟩⟩
inductive All2 {α β:Type} (R:α→β→Prop):List α→List β→Prop
 |nil:All2 R [] []
 |cons {a b l m}:R a b→All2 R l m→All2 R (a::l) (b::m)
theorem All2.snoc {α β:Type} {R:α→β→Prop} {l:List α} {m:List β} (h:All2 R l m) {a:α} {b:β} (hab:R a b):All2 R (l++ [a]) (m++ [b]):=by
 induction h with
 |nil=>exact .cons hab .nil
 |cons h1 _ ih=>exact .cons h1 ih
theorem All2.imp {α β:Type} {R S:α→β→Prop} (hRS: ∀a b,R a b→S a b) {l:List α} {m:List β} (h:All2 R l m):All2 S l m:=by
 induction h with
 |nil=>exact .nil
 |cons h1 _ ih=>exact .cons (hRS _ _ h1) ih
theorem putIs_from (g0:GM): ∀(is:List IA) (s:GM×List IM) (is0:List IA),(∀x∈is,OkI x)→Grow g0 s.1→All2 (AtI s.1.xs s.1.ts) is0 s.2→Grow g0 (is.foldl stepI s).1∧All2 (AtI (is.foldl stepI s).1.xs (is.foldl stepI s).1.ts) (is0++is) (is.foldl stepI s).2
 | [],s,is0,_,h1,h2=>⟨h1,by rw [List.append_nil];exact h2⟩
 |x::is,s,is0,o,h1,h2=>by
  obtain ⟨h3,h4⟩:=putI_at x s.1 (o x (by simp))
  have:=putIs_from g0 is (stepI s x) (is0++ [x]) (fun y hy=>o y (by simp [hy])) (h1.trans h3) ((h2.imp fun _ _ h=>h.grow h3).snoc h4)
  rw [List.append_assoc] at this
  exact this
theorem putIs_at (is:List IA) (g:GM) (o: ∀x∈is,OkI x):Grow g (putIs is g).1∧All2 (AtI (putIs is g).1.xs (putIs is g).1.ts) is (putIs is g).2:=putIs_from g is (g, []) [] o (.refl g) .nil
def AtS (xs:List XM) (ts:List TM) (s:SA) (y:SM):Prop:=y.s=s.s∧y.ps=s.ps∧All2 (AtI xs ts) s.is y.is
theorem putSs_from (g0:GM): ∀(ss:List SA) (s:GM×List SM) (ss0:List SA),(∀x∈ss,OkS x)→Grow g0 s.1→All2 (AtS s.1.xs s.1.ts) ss0 s.2→Grow g0 (ss.foldl stepS s).1∧All2 (AtS (ss.foldl stepS s).1.xs (ss.foldl stepS s).1.ts) (ss0++ss) (ss.foldl stepS s).2
 | [],s,ss0,_,h1,h2=>⟨h1,by rw [List.append_nil];exact h2⟩
 |x::ss,s,ss0,o,h1,h2=>by
  obtain ⟨h3,h4⟩:=putIs_at x.is s.1 (o x (by simp))
  have:=putSs_from g0 ss (stepS s x) (ss0++ [x]) (fun y hy=>o y (by simp [hy])) (h1.trans h3) ((h2.imp fun _ _ h=>⟨h.1,h.2.1,h.2.2.imp fun _ _ h=>h.grow h3⟩).snoc ⟨rfl,rfl,h4⟩)
  rw [List.append_assoc] at this
  exact this
theorem putF_at (cs:List (List UInt8×Nat)) (ss:List SA) (o: ∀x∈ss,OkS x):All2 (AtS (putF cs ss).g.xs (putF cs ss).g.ts) ss (putF cs ss).ss:=(putSs_from gm0 ss (gm0, []) [] o (.refl gm0) .nil).2
theorem derW_at (d:DA) (hd:d.k≤4) (y:IM) (h1:y.der=d.k) (h2:y.a=d.a) (h3:y.b=d.b) (s:List UInt8) (k:OW):wSeq (wPut s) (wSeq (derW y) k)=wSeq (wPut (s++prDer d)) k:=by
 unfold derW prDer
 rw [h1,h2,h3]
 by_cases h0:d.k=0
 ·rw [if_pos h0,if_pos h0,wSome_seq,List.append_nil]
 ·rw [if_neg h0,if_neg h0]
  by_cases h2:d.k=1∨d.k=2
  ·rw [if_pos h2,if_pos (by omega),wAll_cons,wAll_cons,wAll_cons,wAll_nil,wPut_some,wPut_app,wPut_app,←wSeq_assoc,wPut_app]
  ·rw [if_neg h2,if_pos (by omega),if_neg (by omega),wAll_cons,wAll_cons,wAll_cons,wAll_cons,wAll_cons,wAll_nil,wPut_some,wPut_app,wPut_app,wPut_app,wPut_app,←wSeq_assoc,wPut_app]
theorem itemW_at {xs:List XM} {ts:List TM} {x:IA} {y:IM} (o:OkI x) (h:AtI xs ts x y):itemW (xs.map XM.gx) (ts.map TM.gt) y=wPut ([32,32]++(prI x++ [10])):=by
 unfold itemW
 cases x with
 |pack z li subs=>
  have h:y=_:=h
  subst h
  have hs:0<subs.length:=List.length_pos_iff.2 o
  rw [if_pos hs]
  unfold packW
  show wAll [wPut [32,32],wAll [wPut (kPack++ [32]),wPut (wordN z li),wPut [32,123],wAll (subs.map fun s=>wAll [wPut [32],wPut s.1,wPut [58,32],wPut (decL s.2),wPut [59]]),wPut [32,125]],wPut [10]]=_
  have hsub: ∀s∈subs,(fun s:List UInt8×Nat=>wAll [wPut [32],wPut s.1,wPut [58,32],wPut (decL s.2),wPut [59]]) s=wPut (prSub s):=by
   intro s _
   show wAll _=_
   rw [wAll_cons,wAll_cons,wAll_cons,wAll_cons,wAll_cons,wAll_nil,wPut_some,wPut_app,wPut_app,wPut_app,wPut_app]
   rfl
  have hp:wAll [wPut (kPack++ [32]),wPut (wordN z li),wPut [32,123],wAll (subs.map fun s=>wAll [wPut [32],wPut s.1,wPut [58,32],wPut (decL s.2),wPut [59]]),wPut [32,125]]=wPut (prI (.pack z li subs)):=by
   rw [wAll_cons,wAll_cons,wAll_cons,wAll_cons,wAll_cons,wAll_nil,wPut_some,←wSeq_assoc,←wSeq_assoc,wPut_app,wPut_app,wAll_mapS _ prSub _ hsub,wPut_app]
   simp only [prI,List.append_assoc]
  rw [hp,wAll_cons,wAll_cons,wAll_cons,wAll_nil,wPut_some,wPut_app,wPut_app]
 |field s t d wh=>
  obtain ⟨k,u,rfl,h1,h2⟩:=h
  rw [if_neg (by simp)]
  unfold fieldW
  show wAll [wPut [32,32],wAll [wPut s,wPut [58,32],typW (xs.map XM.gx) (ts.map TM.gt) (ts.map TM.gt).length (k:Int),derW ⟨s,k,d.k,d.a,d.b,u,0,false, []⟩,(if u≠ -1 then wSeq (wPut dWhere) (exprW (xs.map XM.gx) (xs.map XM.gx).length u) else some),wPut [59]],wPut [10]]=_
  have hw:(if u≠ -1 then wSeq (wPut dWhere) (exprW (xs.map XM.gx) (xs.map XM.gx).length u) else some)=if wh=none then some else wPut (prWh wh):=by
   rcases h2 with ⟨rfl,rfl⟩|⟨e,v,rfl,rfl,h3⟩
   ·rw [if_neg (by simp),if_pos rfl]
   ·rw [if_pos (by omega),if_neg (by simp),exprW_top h3,wPut_app]
    rfl
  have hp:wAll [wPut s,wPut [58,32],typW (xs.map XM.gx) (ts.map TM.gt) (ts.map TM.gt).length (k:Int),derW ⟨s,k,d.k,d.a,d.b,u,0,false, []⟩,(if u≠ -1 then wSeq (wPut dWhere) (exprW (xs.map XM.gx) (xs.map XM.gx).length u) else some),wPut [59]]=wPut (prI (.field s t d wh)):=by
   rw [hw,typW_top o.1 h1,wAll_cons,wAll_cons,wAll_cons,wAll_cons,←wSeq_assoc,←wSeq_assoc,wPut_app,wPut_app,derW_at d o.2 _ rfl rfl rfl,wAll_cons,wAll_cons,wAll_nil,wPut_some]
   cases wh with
   |none=>
    rw [if_pos rfl,wSome_seq,wPut_app]
    simp only [prI,prWh,List.append_assoc,List.nil_append]
   |some e=>
    rw [if_neg (by simp),wPut_app,wPut_app]
    simp only [prI,prWh,List.append_assoc]
  rw [hp,wAll_cons,wAll_cons,wAll_cons,wAll_nil,wPut_some,wPut_app,wPut_app]
theorem all2_map {α β:Type} {R:α→β→Prop} {f:β→OW} {g:α→List UInt8} {l:List α} {m:List β} (h:All2 R l m):(∀a∈l,∀b,R a b→f b=wPut (g a))→∀s,wSeq (wPut s) (wAll (m.map f))=wPut (s++l.flatMap g):=by
 induction h with
 |nil=>intro _ s;rw [List.map_nil,wAll_nil,wPut_some,List.flatMap_nil,List.append_nil]
 |cons h1 _ ih=>
  intro hf s
  rw [List.map_cons,wAll_cons,hf _ (by simp) _ h1,←wSeq_assoc,wPut_app,ih (fun a ha b hb=>hf a (by simp [ha]) b hb),List.flatMap_cons,List.append_assoc]
theorem structW_at {xs:List XM} {ts:List TM} {s:SA} {y:SM} (o:OkS s) (h:AtS xs ts s y):structW (xs.map XM.gx) (ts.map TM.gt) y=wPut (prS s):=by
 obtain ⟨h1,h2,h3⟩:=h
 unfold structW
 rw [h1,h2,wAll_cons,wAll_cons,←wSeq_assoc,wPut_app,wAll_cons]
 have hps:=wList_map s.ps (fun i=>wPut (s.ps.getD i [])) (fun p=>p) (fun i x hx=>by
  show wPut (s.ps.getD i [])=wPut x
  rw [List.getD_eq_getElem?_getD,hx];rfl)
 rw [hps,wAll_cons,←wSeq_assoc,wPut_app,wAll_cons,←wSeq_assoc,all2_map h3 (fun a ha b hb=>itemW_at (o a ha) hb),wAll_cons,wAll_nil,wPut_some,wPut_app]
 simp only [prS,List.append_assoc]
theorem constW_at (c:List UInt8×Nat):constW c=wPut (prC c):=by
 unfold constW wNum
 rw [wAll_cons,wAll_cons,wAll_cons,wAll_cons,wAll_cons,wAll_nil,wPut_some,wPut_app,wPut_app,wPut_app,wPut_app]
 rfl
theorem textW_eq (cs:List (List UInt8×Nat)) (ss:List SA) (o: ∀x∈ss,OkS x) (h1:(putF cs ss).g.xs.length≤maxText) (h2:(putF cs ss).g.ts.length≤maxText):textW (putF cs ss).gf=if (prF cs ss).length≤maxText then some (prF cs ss) else none:=by
 unfold textW fileW FM.gf
 rw [if_pos (by simpa using ⟨h1,h2⟩)]
 have hc:=wAll_map constW prC cs (fun c _=>constW_at c) []
 have hs:=all2_map (putF_at cs ss o) (fun a ha b hb=>structW_at (o a ha) hb) ([]++cs.flatMap prC)
 show wSeq (wSeq (wPut []) (wAll (cs.map constW))) (wAll ((putF cs ss).ss.map (structW ((putF cs ss).g.xs.map XM.gx) ((putF cs ss).g.ts.map TM.gt)))) []=_
 rw [hc,hs]
 unfold wPut prF
 simp
end Go.Proofs.YtomimkgaelkaoaaGreatDoor
