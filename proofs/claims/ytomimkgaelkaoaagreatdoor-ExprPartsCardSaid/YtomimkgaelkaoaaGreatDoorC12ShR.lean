/- Layer 8, the mathematics: how the text of a File is written, piece by piece, into at most MaxText bytes. No program. · Layer 8, the mathematics: the text of a tree, and that the writer of its File writes it. No program. · Layer 8, the mathematics: what the text of a tree is read as: its tokens. No program. · Layer 7, the mathematics: enough steps are enough; operators level by level. No program. · Layer 8, the mathematics: the tokens of a tree are parsed to it: expressions. No program. -/
import Derived.Test.YtomimkgaelkaoaaGreatDoorC12ParseP
import Derived.Test.YtomimkgaelkaoaaGreatDoorC12ParseQ
set_option linter.unusedVariables false
set_option linter.unusedSimpArgs false
namespace Go.Proofs.YtomimkgaelkaoaaGreatDoor
def decD:Nat→Nat→List UInt8
 |0,_=> []
 |f+1,n=>if n<10 then [UInt8.ofNat (48+n)] else decD f (n / 10)++ [UInt8.ofNat (48+n % 10)]
def decL (n:Nat):List UInt8:=decD 20 n
def wordN (z:Nat) (li:Bool):List UInt8:=
 if z=1 then [117,56] else if z=2 then (if li=true then [117,49,54,108,101] else [117,49,54,98,101]) else if z=3 then (if li=true then [117,50,52,108,101] else [117,50,52,98,101])
 else if z=4 then (if li=true then [117,51,50,108,101] else [117,51,50,98,101]) else if z=8 then (if li=true then [117,54,52,108,101] else [117,54,52,98,101]) else []
def dSwitch:List UInt8:= [115,119,105,116,99,104,32,40]
def dCase:List UInt8:= [32,99,97,115,101,32]
def dElse:List UInt8:= [32,101,108,115,101,58,32]
def dDer (k:Nat):List UInt8:=if k=1 then [32,61,32,115,105,122,101,111,102,40] else if k=2 then [32,61,32,99,111,117,110,116,111,102,40] else if k=3 then [32,61,32,99,114,99,51,50,40] else [32,61,32,97,100,108,101,114,51,50,40]
def dWhere:List UInt8:= [32,119,104,101,114,101,32]
end Go.Proofs.YtomimkgaelkaoaaGreatDoor
namespace Go.Proofs.YtomimkgaelkaoaaGreatDoor
def paren (b:Bool) (s:List UInt8):List UInt8:=if b=true then [40]++s++ [41] else s
def low (v:Nat):EA→Bool
 | .bin op _ _=>decide (levelL op<v)
 |_=>false
def prE:EA→List UInt8
 | .num n=>decL n
 | .name s=>s
 | .not a=> [33]++paren (low 9 a) (prE a)
 | .bin op a b=>paren (low (levelL op) a) (prE a)++([32]++(op++([32]++paren (low (levelL op+1) b) (prE b))))
def prL {α:Type} (g:α→List UInt8):List α→List UInt8
 | []=> []
 |x::r=> [40]++g x++(r.flatMap fun y=> [44,32]++g y)++ [41]
def idxWord (k:Nat):List UInt8:=if k=1 then kBytes else if k=2 then kZero else if k=3 then kSkip else if k=7 then kWindow else kAt
def prIdx (w:List UInt8) (e:EA):List UInt8:=w++([91]++(prE e++ [93]))
def prT:TA→List UInt8
 | .int z li=>wordN z li
 | .ref s es=>s++prL prE es
 | .idx k e=>prIdx (idxWord k) e
 | .win k e t=>prIdx (idxWord k) e++([32]++prT t)
 | .rest t=>(kRest++ [32])++prT t
 | .leaf k=>if k=4 then kTail else kNone
 | .arr t e=>prT t++prIdx [] e
 | .sw e cs els=>dSwitch++(prE e++([41,32,123]++(prT cs++((if els.isNil=true then [] else dElse++(prT els++ [59]))++ [32,125]))))
 | .nil=> []
 | .snoc cs n t=>prT cs++(dCase++(decL n++([58,32]++(prT t++ [59]))))
def prDer (d:DA):List UInt8:=if d.k=0 then [] else if d.k≤2 then dDer d.k++(d.a++ [41]) else dDer d.k++(d.a++([46,46]++(d.b++ [41])))
def prWh:Option EA→List UInt8
 |none=> []
 |some e=>dWhere++prE e
def prSub (s:List UInt8×Nat):List UInt8:= [32]++(s.1++([58,32]++(decL s.2++ [59])))
def prI:IA→List UInt8
 | .field s t d wh=>s++([58,32]++(prT t++(prDer d++(prWh wh++ [59]))))
 | .pack z li subs=>(kPack++ [32])++(wordN z li++([32,123]++(subs.flatMap prSub++ [32,125])))
def AtE (xs:List XM):EA→Nat→Prop
 | .num n,k=>xs[k]? =some ⟨0, [],n, [], []⟩
 | .name s,k=>xs[k]? =some ⟨1, [],0,s, []⟩
 | .not a,k=> ∃i,xs[k]? =some ⟨2, [],0, [], [i]⟩∧i<k∧AtE xs a i
 | .bin op a b,k=> ∃i j,xs[k]? =some ⟨3,op,0, [], [i,j]⟩∧i<k∧j<k∧AtE xs a i∧AtE xs b j
def AtEs (xs:List XM):List EA→List Nat→Prop
 | [],ks=>ks= []
 |e::es,ks=> ∃k r,ks=k::r∧AtE xs e k∧AtEs xs es r
def AtT (xs:List XM) (ts:List TM):TA→Nat→List (Nat×Nat)→Prop
 | .int z li,k,_=>ts[k]? =some ⟨0,z,li, [], [], -1, -1, []⟩
 | .ref s es,k,_=> ∃ks,ts[k]? =some ⟨10,0,false,s,ks, -1, -1, []⟩∧AtEs xs es ks
 | .idx q e,k,_=> ∃i:Nat,ts[k]? =some ⟨q,0,false, [], [],i, -1, []⟩∧AtE xs e i
 | .win q e t,k,_=> ∃i j:Nat,ts[k]? =some ⟨q,0,false, [], [],i,j, []⟩∧AtE xs e i∧j<k∧AtT xs ts t j []
 | .rest t,k,_=> ∃j:Nat,ts[k]? =some ⟨6,0,false, [], [], -1,j, []⟩∧j<k∧AtT xs ts t j []
 | .leaf q,k,_=>ts[k]? =some ⟨q,0,false, [], [], -1, -1, []⟩
 | .arr t e,k,_=> ∃i j:Nat,ts[k]? =some ⟨5,0,false, [], [],i,j, []⟩∧AtE xs e i∧j<k∧AtT xs ts t j []
 | .sw e cs els,k,_=> ∃(i:Nat) (j:Int) (cl:List (Nat×Nat)),ts[k]? =some ⟨9,0,false, [], [],i,j,cl⟩∧AtE xs e i∧AtT xs ts cs k cl∧((els.isNil=true∧j= -1)∨(els.isNil=false∧∃u:Nat,j=u∧u<k∧AtT xs ts els u []))
 | .nil,_,cl=>cl= []
 | .snoc cs n t,k,cl=> ∃c2 i,cl=c2++ [(n,i)]∧AtT xs ts cs k c2∧i<k∧AtT xs ts t i []
def OkT:TA→Bool→Prop
 | .int _ _,b=>b=false
 | .ref _ _,b=>b=false
 | .idx k _,b=>b=false∧(k=1∨k=2∨k=3)
 | .win k _ t,b=>b=false∧(k=7∨k=8)∧OkT t false
 | .rest t,b=>b=false∧OkT t false
 | .leaf k,b=>b=false∧(k=4∨k=11)
 | .arr t _,b=>b=false∧OkT t false
 | .sw _ cs els,b=>b=false∧OkT cs true∧(els.isNil=false→OkT els false)
 | .nil,b=>b=true
 | .snoc cs _ t,b=>b=true∧OkT cs true∧OkT t false
theorem get_more {α:Type} {l m:List α} {k:Nat} {x:α} (h:l[k]? =some x):(l++m)[k]? =some x:=by
 rw [List.getElem?_append_left (List.getElem?_eq_some_iff.1 h).1];exact h
theorem AtE.more {xs ys:List XM}: ∀{e:EA} {k:Nat},AtE xs e k→AtE (xs++ys) e k
 | .num _,_,h=>get_more h
 | .name _,_,h=>get_more h
 | .not _,_,⟨i,h,hi,ha⟩=>⟨i,get_more h,hi,ha.more⟩
 | .bin _ _ _,_,⟨i,j,h,hi,hj,ha,hb⟩=>⟨i,j,get_more h,hi,hj,ha.more,hb.more⟩
theorem AtE.lt {xs:List XM}: ∀{e:EA} {k:Nat},AtE xs e k→k<xs.length
 | .num _,_,h=>(List.getElem?_eq_some_iff.1 h).1
 | .name _,_,h=>(List.getElem?_eq_some_iff.1 h).1
 | .not _,_,⟨_,h,_⟩=>(List.getElem?_eq_some_iff.1 h).1
 | .bin _ _ _,_,⟨_,_,h,_⟩=>(List.getElem?_eq_some_iff.1 h).1
theorem AtEs.more {xs ys:List XM}: ∀{es:List EA} {ks:List Nat},AtEs xs es ks→AtEs (xs++ys) es ks
 | [],_,h=>h
 |_::_,_,⟨k,r,e,h,hr⟩=>⟨k,r,e,h.more,hr.more⟩
theorem AtT.more {xs ys:List XM} {ts us:List TM}: ∀{t:TA} {k:Nat} {cl:List (Nat×Nat)},AtT xs ts t k cl→AtT (xs++ys) (ts++us) t k cl
 | .int _ _,_,_,h=>get_more h
 | .ref _ _,_,_,⟨ks,h,h1⟩=>⟨ks,get_more h,h1.more⟩
 | .idx _ _,_,_,⟨i,h,h1⟩=>⟨i,get_more h,h1.more⟩
 | .win _ _ _,_,_,⟨i,j,h,h1,h2,h3⟩=>⟨i,j,get_more h,h1.more,h2,h3.more⟩
 | .rest _,_,_,⟨j,h,h2,h3⟩=>⟨j,get_more h,h2,h3.more⟩
 | .leaf _,_,_,h=>get_more h
 | .arr _ _,_,_,⟨i,j,h,h1,h2,h3⟩=>⟨i,j,get_more h,h1.more,h2,h3.more⟩
 | .sw _ _ _,_,_,⟨i,j,cl,h,h1,h2,h3⟩=>⟨i,j,cl,get_more h,h1.more,h2.more,h3.imp id fun ⟨e,u,e1,h4,h5⟩=>⟨e,u,e1,h4,h5.more⟩⟩
 | .nil,_,_,h=>h
 | .snoc _ _ _,_,_,⟨c2,i,h,h1,h2,h3⟩=>⟨c2,i,h,h1.more,h2,h3.more⟩
structure Grow (g g':GM):Prop where
 xs: ∃ys,g'.xs=g.xs++ys
 ts: ∃us,g'.ts=g.ts++us
theorem Grow.trans {a b c:GM} (h:Grow a b) (k:Grow b c):Grow a c:=by
 obtain ⟨⟨ys,h1⟩,us,h2⟩:=h
 obtain ⟨⟨ys',k1⟩,us',k2⟩:=k
 exact ⟨⟨ys++ys',by rw [k1,h1,List.append_assoc]⟩,⟨us++us',by rw [k2,h2,List.append_assoc]⟩⟩
theorem Grow.e {a b:GM} (h:Grow a b) {e:EA} {k:Nat} (h1:AtE a.xs e k):AtE b.xs e k:=by
 obtain ⟨⟨ys,h2⟩,_⟩:=h
 rw [h2];exact h1.more
theorem Grow.es {a b:GM} (h:Grow a b) {e:List EA} {k:List Nat} (h1:AtEs a.xs e k):AtEs b.xs e k:=by
 obtain ⟨⟨ys,h2⟩,_⟩:=h
 rw [h2];exact h1.more
theorem Grow.t {a b:GM} (h:Grow a b) {e:TA} {k:Nat} {cl:List (Nat×Nat)} (h1:AtT a.xs a.ts e k cl):AtT b.xs b.ts e k cl:=by
 obtain ⟨⟨ys,h2⟩,us,h3⟩:=h
 rw [h2,h3];exact h1.more
theorem AtEs.snoc {xs:List XM} {e:EA} {k:Nat}: ∀{es:List EA} {ks:List Nat},AtEs xs es ks→AtE xs e k→AtEs xs (es++ [e]) (ks++ [k])
 | [],_,h,he=>by
  have h:_= []:=h
  subst h
  exact ⟨k, [],rfl,he,rfl⟩
 |_::_,_,⟨k',r,e1,h,hr⟩,he=>⟨k',r++ [k],by rw [e1];rfl,h,hr.snoc he⟩
theorem AtT.lt {xs:List XM} {ts:List TM}: ∀{t:TA} {k:Nat} {cl:List (Nat×Nat)},OkT t false→AtT xs ts t k cl→k<ts.length
 | .int _ _,_,_,_,h=>(List.getElem?_eq_some_iff.1 h).1
 | .ref _ _,_,_,_,⟨_,h,_⟩=>(List.getElem?_eq_some_iff.1 h).1
 | .idx _ _,_,_,_,⟨_,h,_⟩=>(List.getElem?_eq_some_iff.1 h).1
 | .win _ _ _,_,_,_,⟨_,_,h,_⟩=>(List.getElem?_eq_some_iff.1 h).1
 | .rest _,_,_,_,⟨_,h,_⟩=>(List.getElem?_eq_some_iff.1 h).1
 | .leaf _,_,_,_,h=>(List.getElem?_eq_some_iff.1 h).1
 | .arr _ _,_,_,_,⟨_,_,h,_⟩=>(List.getElem?_eq_some_iff.1 h).1
 | .sw _ _ _,_,_,_,⟨_,_,_,h,_⟩=>(List.getElem?_eq_some_iff.1 h).1
 | .nil,_,_,o,_=>by cases o
 | .snoc _ _ _,_,_,o,_=>by cases o.1
theorem AtEs.at {xs:List XM}: ∀{es:List EA} {ks:List Nat},AtEs xs es ks→∀(i:Nat) e,es[i]? =some e→AtE xs e (ks.getD i 0)
 | [],_,_,i,e,h=>by simp at h
 |e0::es,_,⟨k,r,e1,h,hr⟩,0,e,he=>by
  rw [List.getElem?_cons_zero] at he
  cases he
  rw [e1];exact h
 |e0::es,_,⟨k,r,e1,h,hr⟩,i+1,e,he=>by
  rw [List.getElem?_cons_succ] at he
  rw [e1,List.getD_cons_succ];exact hr.at i e he
def OkI:IA→Prop
 | .field _ t d _=>OkT t false∧d.k≤4
 | .pack _ _ subs=>subs≠ []
def OkS (s:SA):Prop:= ∀x∈s.is,OkI x
inductive All2 {α β:Type} (R:α→β→Prop):List α→List β→Prop
 |nil:All2 R [] []
 |cons {a b l m}:R a b→All2 R l m→All2 R (a::l) (b::m)
theorem All2.snoc {α β:Type} {R:α→β→Prop} {l:List α} {m:List β} (h:All2 R l m) {a:α} {b:β} (hab:R a b):All2 R (l++ [a]) (m++ [b]):=by
 induction h with
 |nil=>exact .cons hab .nil
 |cons h1 _ ih=>exact .cons h1 ih
theorem All2.imp {α β:Type} {R S:α→β→Prop} (hRS: ∀a b,R a b→S a b) {l:List α} {m:List β} (h:All2 R l m):All2 S l m:=by
 induction h with
 |nil=>exact .nil
 |cons h1 _ ih=>exact .cons (hRS _ _ h1) ih
end Go.Proofs.YtomimkgaelkaoaaGreatDoor
namespace Go.Proofs.YtomimkgaelkaoaaGreatDoor
def Lx (txt:List UInt8) (ts:List Tk) (C:List UInt8→Prop):Prop:=
 ∀rest,C rest→∀Vs,(∀p,∃us,lexG false p rest= .ok us∧us.map (·.tk)=Vs)→∀p,∃us,lexG false p (txt++rest)= .ok us∧us.map (·.tk)=ts++Vs
theorem Lx.nil (C:List UInt8→Prop):Lx [] [] C:=fun rest _ Vs hV p=>hV p
structure NameOK (s:List UInt8):Prop where
 ne:s≠ []
 w: ∀x∈s,isW x=true
 d:isD (s.headD 0)=false
 len:s.length≤32
def VE:EA→Prop
 | .num n=>n<18446744073709551616
 | .name s=>NameOK s∧isKw s=false
 | .not a=>VE a
 | .bin op a b=>1≤levelL op∧VE a∧VE b
def HdE (s:List UInt8):Prop:= ∃c r,s=c::r∧c≠61
theorem HdE.paren {s:List UInt8} (h:HdE s) (b:Bool):HdE (paren b s):=by
 unfold Go.Proofs.YtomimkgaelkaoaaGreatDoor.paren
 split
 ·exact ⟨40,s++ [41],rfl,by decide⟩
 ·exact h
def VT:TA→Prop
 | .int z li=>(z,li)∈intsL.map (·.2)
 | .ref s es=>NameOK s∧isKw s=false∧∀e∈es,VE e
 | .idx k e=>VE e
 | .win k e t=>VE e∧VT t
 | .rest t=>VT t
 | .leaf _=>True
 | .arr t e=>VT t∧VE e
 | .sw e cs els=>VE e∧VT cs∧VT els
 | .nil=>True
 | .snoc cs n t=>VT cs∧n<18446744073709551616∧VT t
def DerOK (d:DA):Prop:=d.k≤4∧(d.k≠0→NameOK d.a∧isKw d.a=false)∧(3≤d.k→NameOK d.b∧isKw d.b=false)∧(d.k=0→d.a= [])∧(d.k≤2→d.b= [])
def VI:IA→Prop
 | .field s t d wh=>NameOK s∧isKw s=false∧VT t∧DerOK d∧∀e,wh=some e→VE e
 | .pack z li subs=>(z,li)∈intsL.map (·.2)∧∀x∈subs,NameOK x.1∧isKw x.1=false∧x.2≤1048576
def VS (s:SA):Prop:=NameOK s.s∧isKw s.s=false∧(∀p∈s.ps,NameOK p∧isKw p=false)∧∀x∈s.is,VI x
def VC (c:List UInt8×Nat):Prop:=NameOK c.1∧isKw c.1=false∧c.2<18446744073709551616
end Go.Proofs.YtomimkgaelkaoaaGreatDoor
namespace Go.Proofs.YtomimkgaelkaoaaGreatDoor
theorem loop_stop: ∀(n v d:Nat) (a a':EA) (l l':List Tok),loopB n v d a l= .ok a' l'→levelL (hd l').tk.t<v
 |0,v,d,a,a',l,l',h=>by rw [loopB] at h;cases h
 |n+1,v,d,a,a',l,l',h=>by
  rw [loopB] at h
  split at h
  ·cases hb:bin n (levelL (hd l).tk.t+1) d l.tail with
   |bad l1 e=>rw [hb] at h;cases h
   |ok b l1=>rw [hb] at h;exact loop_stop n v d _ a' l1 l' h
  ·cases h;omega
theorem bin_stop {n v d:Nat} {a:EA} {l l':List Tok} (h:bin n v d l= .ok a l'):levelL (hd l').tk.t<v:=by
 cases n with
 |zero=>rw [bin] at h;cases h
 |succ n=>
  rw [bin] at h
  cases hu:unary n d l with
  |bad l1 e=>rw [hu] at h;cases h
  |ok b l1=>rw [hu] at h;exact loop_stop n v d b a l1 l' h
theorem levelL_le (t:List UInt8):levelL t≤8:=by
 unfold levelL
 cases h:opsL.find? (fun x=>x.1==t) with
 |none=>exact Nat.zero_le _
 |some p=>
  have hm:=List.mem_of_find?_eq_some h
  have: ∀x∈opsL,x.2≤8:=by decide
  exact this p hm
end Go.Proofs.YtomimkgaelkaoaaGreatDoor
namespace Go.Proofs.YtomimkgaelkaoaaGreatDoor
def OkD:EA→Nat→Prop
 | .num _,_=>True
 | .name _,_=>True
 | .not a,d=>d<32∧(if low 9 a=true then d+1<32∧OkD a (d+2) else OkD a (d+1))
 | .bin op a b,d=>(if low (levelL op) a=true then d<32∧OkD a (d+1) else OkD a d)∧(if low (levelL op+1) b=true then d<32∧OkD b (d+1) else OkD b d)
def OkP (v:Nat) (e:EA) (d:Nat):Prop:=if low v e=true then d<32∧OkD e (d+1) else OkD e d
theorem OkD.less: ∀{e:EA} {d d':Nat},OkD e d→d'≤d→OkD e d'
 | .num _,_,_,_,_=>trivial
 | .name _,_,_,_,_=>trivial
 | .not a,d,d',h,hd=>by
  refine ⟨by have:=h.1;omega, ?_⟩
  have h2:=h.2
  split
  ·rename_i hl
   rw [if_pos hl] at h2
   exact ⟨by omega,h2.2.less (by omega)⟩
  ·rename_i hl
   rw [if_neg hl] at h2
   exact h2.less (by omega)
 | .bin op a b,d,d',h,hd=>by
  obtain ⟨h1,h2⟩:=h
  constructor
  ·split
   ·rename_i hl
    rw [if_pos hl] at h1
    exact ⟨by omega,h1.2.less (by omega)⟩
   ·rename_i hl
    rw [if_neg hl] at h1
    exact h1.less hd
  ·split
   ·rename_i hl
    rw [if_pos hl] at h2
    exact ⟨by omega,h2.2.less (by omega)⟩
   ·rename_i hl
    rw [if_neg hl] at h2
    exact h2.less hd
def lvl:EA→Nat
 | .bin op _ _=>levelL op
 |_=>9
theorem low_lvl {v:Nat} {e:EA} (hv:v≤9):low v e=true↔lvl e<v:=by
 cases e with
 |bin op a b=>exact ⟨fun h=>of_decide_eq_true h,fun h=>decide_eq_true h⟩
 |num n=>exact ⟨fun h=>(by cases h),fun h=>by (have:9<v:=h);omega⟩
 |name s=>exact ⟨fun h=>(by cases h),fun h=>by (have:9<v:=h);omega⟩
 |not a=>exact ⟨fun h=>(by cases h),fun h=>by (have:9<v:=h);omega⟩
theorem OkP.mono {v v':Nat} {e:EA} {d:Nat} (h:OkP v e d) (hv:v'≤v) (h9:v≤9):OkP v' e d:=by
 unfold OkP at h ⊢
 by_cases h1:low v e=true
 ·rw [if_pos h1] at h
  split
  ·exact h
  ·exact h.2.less (by omega)
 ·rw [if_neg h1] at h
  rw [if_neg fun h2=>h1 ((low_lvl h9).2 (by have:=(low_lvl (by omega)).1 h2;omega))]
  exact h
theorem lvl_pos {e:EA} (v:VE e):1≤lvl e:=by
 cases e with
 |bin op a b=>exact v.1
 |num n=>exact (by decide:1≤9)
 |name s=>exact (by decide:1≤9)
 |not a=>exact (by decide:1≤9)
def TkV (t:Tok):Prop:=(t.tk.k=0→NameOK t.tk.t)∧(t.tk.k=1→t.tk.n<18446744073709551616)
def AllV (l:List Tok):Prop:= ∀t∈l,TkV t
theorem hd_mem {l:List Tok} (hw:WF l):hd l∈l:=by
 have:=hw.hd
 exact List.mem_of_getElem? this
def LeftOK (d:Nat) (a:EA) (l:List Tok):Prop:=OkP 9 a d∨∃op x y,a= .bin op x y∧levelL (hd l).tk.t≤levelL op∧OkD a d
theorem ok_exprs: ∀n,(∀d l a l',AllV l→WF l→unary n d l= .ok a l'→VE a∧OkP 9 a d∧AllV l'∧WF l')∧
  (∀v d l a l',AllV l→WF l→1≤v→v≤9→bin n v d l= .ok a l'→VE a∧OkP v a d∧AllV l'∧WF l')∧
  (∀v d a0 l a l',AllV l→WF l→1≤v→v≤9→VE a0→LeftOK d a0 l→loopB n v d a0 l= .ok a l'→VE a∧LeftOK d a l'∧AllV l'∧WF l'∧(a=a0∨v≤lvl a))
 |0=>⟨fun d l a l' _ _ h=>(by rw [unary] at h;cases h),fun v d l a l' _ _ _ _ h=>(by rw [bin] at h;cases h),fun v d a0 l a l' _ _ _ _ _ _ h=>(by rw [loopB] at h;cases h)⟩
 |n+1=>by
  obtain ⟨i1,i2,i3⟩:=ok_exprs n
  have tl: ∀{l:List Tok},AllV l→AllV l.tail:=fun h t ht=>h t (List.mem_of_mem_tail ht)
  refine ⟨fun d l a l' hv hw h=> ?_,fun v d l a l' hv hw h1 h9 h=> ?_,fun v d a0 l a l' hv hw h1 h9 hva hl h=> ?_⟩
  ·rw [unary] at h
   by_cases h1:isT sExcl l=true
   ·rw [if_pos h1] at h
    have hwt:=hw.isT h1 (by decide)
    cases he:enterP (begE l.tail) d l.tail with
    |bad _ _=>rw [he] at h;cases h
    |ok u l1=>
     obtain ⟨rfl, -,hd32⟩:=enter_same he
     rw [he,PR.bind_ok] at h
     cases hu:unary n (d+1) l.tail with
     |bad _ _=>rw [hu] at h;cases h
     |ok b l2=>
      rw [hu] at h
      cases h
      obtain ⟨k1,k2,k3,k4⟩:=i1 _ _ _ _ (tl hv) hwt hu
      refine ⟨k1, ?_,k3,k4⟩
      unfold OkP
      rw [if_neg (show ¬low 9 (EA.not b)=true from Bool.false_ne_true)]
      exact ⟨hd32,k2⟩
   ·rw [if_neg h1] at h
    by_cases h2:isT sLp l=true
    ·rw [if_pos h2] at h
     have hwt:=hw.isT h2 (by decide)
     cases he:enterP (begE l.tail) d l.tail with
     |bad _ _=>rw [he] at h;cases h
     |ok u l1=>
      obtain ⟨rfl, -,hd32⟩:=enter_same he
      rw [he,PR.bind_ok] at h
      cases hu:bin n 1 (d+1) l.tail with
      |bad _ _=>rw [hu] at h;cases h
      |ok b l2=>
       rw [hu,PR.bind_ok] at h
       obtain ⟨k1,k2,k3,k4⟩:=i2 _ _ _ _ _ (tl hv) hwt (Nat.le_refl _) (by omega) hu
       cases hn:need sRp l2 with
       |bad _ _=>rw [hn] at h;cases h
       |ok u2 l3=>
        rw [hn,PR.bind_ok] at h
        unfold need at hn
        split at hn
        ·rename_i h41
         cases hn
         injection h with e1 e2
         subst e1 e2
         have k5:OkD b (d+1):=by
          unfold OkP at k2
          split at k2
          ·exact k2.2.less (Nat.le_succ _)
          ·exact k2
         refine ⟨k1, ?_,tl k3,k4.isT h41 (by decide)⟩
         unfold OkP
         split
         ·exact ⟨hd32,k5⟩
         ·exact k5.less (by omega)
        ·cases hn
    ·rw [if_neg h2] at h
     by_cases h3:isNum l=true
     ·rw [if_pos h3] at h
      cases h
      exact ⟨(hv _ (hd_mem hw)).2 (num_ne h3),by unfold OkP;rw [if_neg (show ¬low 9 (EA.num (hd l).tk.n)=true from Bool.false_ne_true)];trivial,tl hv,hw.isNum h3⟩
     ·rw [if_neg h3] at h
      by_cases h4:isName l=true
      ·rw [if_pos h4] at h
       cases h
       refine ⟨⟨(hv _ (hd_mem hw)).1 (name_ne h4), ?_⟩,by unfold OkP;rw [if_neg (show ¬low 9 (EA.name (hd l).tk.t)=true from Bool.false_ne_true)];trivial,tl hv,hw.isName h4⟩
       unfold isName at h4
       simp only [Bool.and_eq_true,Bool.not_eq_true'] at h4
       exact h4.2
      ·rw [if_neg h4] at h;cases h
  ·rw [bin] at h
   cases hu:unary n d l with
   |bad _ _=>rw [hu] at h;cases h
   |ok b l2=>
    rw [hu,PR.bind_ok] at h
    obtain ⟨k1,k2,k3,k4⟩:=i1 _ _ _ _ hv hw hu
    obtain ⟨m1,m2,m3,m4,m5⟩:=i3 _ _ _ _ _ _ k3 k4 h1 h9 k1 (.inl k2) h
    refine ⟨m1, ?_,m3,m4⟩
    rcases m2 with m2|⟨op,x,y,rfl, -,m2⟩
    ·exact m2.mono h9 (Nat.le_refl _)
    ·rcases m5 with e|m5
     ·subst e
      exact k2.mono h9 (Nat.le_refl _)
     ·unfold OkP
      rw [if_neg fun hlow=>by have:=(low_lvl h9).1 hlow;omega]
      exact m2
  ·rw [loopB] at h
   by_cases hv':v≤levelL (hd l).tk.t
   ·rw [if_pos hv'] at h
    have hwt:=hw.tailT (level_ne h1 hv')
    have hl8:=levelL_le (hd l).tk.t
    cases hu:bin n (levelL (hd l).tk.t+1) d l.tail with
    |bad _ _=>rw [hu] at h;cases h
    |ok b l2=>
     rw [hu,PR.bind_ok] at h
     obtain ⟨k1,k2,k3,k4⟩:=i2 _ _ _ _ _ (tl hv) hwt (by omega) (by omega) hu
     have hs:=bin_stop hu
     have ha:OkP (levelL (hd l).tk.t) a0 d:=by
      rcases hl with hl|⟨op,x,y,rfl,hle,hl⟩
      ·exact hl.mono (by omega) (Nat.le_refl _)
      ·unfold OkP
       rw [if_neg fun hlow=>by have:=(low_lvl (by omega)).1 hlow;simp only [lvl] at this;omega]
       exact hl
     have hn:OkD (.bin (hd l).tk.t a0 b) d:=⟨ha,k2⟩
     obtain ⟨m1,m2,m3,m4,m5⟩:=i3 _ _ _ _ _ _ k3 k4 h1 h9 (show VE (.bin (hd l).tk.t a0 b) from ⟨by omega,hva,k1⟩) (.inr ⟨_,_,_,rfl,by omega,hn⟩) h
     refine ⟨m1,m2,m3,m4, .inr ?_⟩
     rcases m5 with e|m5
     ·subst e;exact hv'
     ·exact m5
   ·rw [if_neg hv'] at h
    cases h
    exact ⟨hva,hl,hv,hw, .inl rfl⟩
theorem ok_bin {n d:Nat} {l l':List Tok} {a:EA} (hv:AllV l) (hw:WF l) (h:bin n 1 d l= .ok a l'):VE a∧OkD a d∧AllV l'∧WF l':=by
 obtain ⟨k1,k2,k3,k4⟩:=(ok_exprs n).2.1 1 d l a l' hv hw (Nat.le_refl _) (by omega) h
 refine ⟨k1, ?_,k3,k4⟩
 unfold OkP at k2
 rw [if_neg fun hlow=>by have:=(low_lvl (by omega)).1 hlow;have:=lvl_pos k1;omega] at k2
 exact k2
end Go.Proofs.YtomimkgaelkaoaaGreatDoor
