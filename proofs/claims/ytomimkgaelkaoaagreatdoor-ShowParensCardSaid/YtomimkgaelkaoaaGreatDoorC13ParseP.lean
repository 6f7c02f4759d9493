/- Layer 7, the mathematics: descriptions as trees, and their parser as a plain function of tokens. No program. -/
import Derived.Test.YtomimkgaelkaoaaGreatDoorC13LexP
set_option linter.unusedVariables false
set_option linter.unusedSimpArgs false
namespace Go.Proofs.YtomimkgaelkaoaaGreatDoor
def kConst:List UInt8:= [99,111,110,115,116]
def kStruct:List UInt8:= [115,116,114,117,99,116]
def kPack:List UInt8:= [112,97,99,107]
def kWhere:List UInt8:= [119,104,101,114,101]
def kSizeof:List UInt8:= [115,105,122,101,111,102]
def kCountof:List UInt8:= [99,111,117,110,116,111,102]
def kCrc32:List UInt8:= [99,114,99,51,50]
def kAdler32:List UInt8:= [97,100,108,101,114,51,50]
def kBytes:List UInt8:= [98,121,116,101,115]
def kZero:List UInt8:= [122,101,114,111]
def kSkip:List UInt8:= [115,107,105,112]
def kWindow:List UInt8:= [119,105,110,100,111,119]
def kAt:List UInt8:= [97,116]
def kRest:List UInt8:= [114,101,115,116]
def kTail:List UInt8:= [116,97,105,108]
def kNone:List UInt8:= [110,111,110,101]
def kSwitch:List UInt8:= [115,119,105,116,99,104]
def kCase:List UInt8:= [99,97,115,101]
def kElse:List UInt8:= [101,108,115,101]
def sExcl:List UInt8:= [33]
def sLp:List UInt8:= [40]
def sRp:List UInt8:= [41]
def sLb:List UInt8:= [91]
def sRb:List UInt8:= [93]
def sLc:List UInt8:= [123]
def sRc:List UInt8:= [125]
def sComma:List UInt8:= [44]
def sColon:List UInt8:= [58]
def sSemi:List UInt8:= [59]
def sEq:List UInt8:= [61]
def sDots:List UInt8:= [46,46]
def kwL:List (List UInt8):= [kConst,kStruct,kPack,kWhere,kSizeof,kCountof,kCrc32,kAdler32,kBytes,kZero,kSkip,kWindow,kAt,kRest,kTail,kNone,kSwitch,kCase,kElse]
def intsL:List (List UInt8×Nat×Bool):= [([117,56],1,false),([117,49,54,98,101],2,false),([117,49,54,108,101],2,true),([117,50,52,98,101],3,false),([117,50,52,108,101],3,true),([117,51,50,98,101],4,false),([117,51,50,108,101],4,true),([117,54,52,98,101],8,false),([117,54,52,108,101],8,true)]
def opsL:List (List UInt8×Nat):= [([124,124],1),([38,38],2),([61,61],3),([33,61],3),([60],3),([60,61],3),([62],3),([62,61],3),([124],4),([38],5),([60,60],6),([62,62],6),([43],7),([45],7),([42],8),([47],8),([37],8)]
def intW (t:List UInt8):Option (Nat×Bool):=(intsL.find? (fun x=>x.1==t)).map (·.2)
def isKw (t:List UInt8):Bool:=kwL.contains t||(intW t).isSome
def levelL (t:List UInt8):Nat:=((opsL.find? (fun x=>x.1==t)).map (·.2)).getD 0
def hd (l:List Tok):Tok:=l.headD ⟨tkEnd,(0,0)⟩
def isT (g:List UInt8) (l:List Tok):Bool:=decide ((hd l).tk.t=g)
def isName (l:List Tok):Bool:=decide ((hd l).tk.k=0) && !isKw (hd l).tk.t
def isNum (l:List Tok):Bool:=decide ((hd l).tk.k=1)
def begE (l:List Tok):Bool:=isT sExcl l||isT sLp l||isNum l||isName l
def tyW:List (List UInt8):= [kBytes,kZero,kSkip,kWindow,kAt,kRest,kTail,kNone,kSwitch]
def begT (l:List Tok):Bool:=tyW.contains (hd l).tk.t||(intW (hd l).tk.t).isSome||isName l
inductive PR (α:Type)
 |ok (a:α) (l:List Tok)
 |bad (l:List Tok) (e:Nat)
def PR.bind {α β:Type} (r:PR α) (f:α→List Tok→PR β):PR β:=
 match r with
 | .ok a l=>f a l
 | .bad l e=> .bad l e
theorem PR.bind_ok {α β:Type} (a:α) (l:List Tok) (f:α→List Tok→PR β):(PR.ok a l).bind f=f a l:=rfl
theorem PR.bind_bad {α β:Type} (l:List Tok) (e:Nat) (f:α→List Tok→PR β):(PR.bad l e:PR α).bind f= .bad l e:=rfl
theorem PR.bind_assoc {α β γ:Type} (r:PR α) (f:α→List Tok→PR β) (h:β→List Tok→PR γ):(r.bind f).bind h=r.bind fun a l=>(f a l).bind h:=by cases r<;>rfl
def need (g:List UInt8) (l:List Tok):PR Unit:=if isT g l=true then .ok () l.tail else .bad l 4
def nameP (l:List Tok):PR (List UInt8):=if isName l=true then .ok (hd l).tk.t l.tail else .bad l 4
def numP (l:List Tok):PR Nat:=if isNum l=true then .ok (hd l).tk.n l.tail else .bad l 4
def expectP (b:Bool) (l:List Tok):PR Unit:=if b=true then .ok () l else .bad l 4
def roomP (k:Nat) (l:List Tok):PR Unit:=if 64≤k then .bad l 10 else .ok () l
def enterP (b:Bool) (d:Nat) (l:List Tok):PR Unit:=if b=false then .bad l 4 else if 32≤d then .bad l 8 else .ok () l
inductive EA
 |num (n:Nat)
 |name (s:List UInt8)
 |not (a:EA)
 |bin (op:List UInt8) (a b:EA)
deriving DecidableEq
inductive TA
 |int (size:Nat) (little:Bool)
 |ref (s:List UInt8) (args:List EA)
 |idx (k:Nat) (e:EA)
 |win (k:Nat) (e:EA) (t:TA)
 |rest (t:TA)
 |leaf (k:Nat)
 |arr (t:TA) (e:EA)
 |sw (e:EA) (cs els:TA)
 |nil
 |snoc (cs:TA) (n:Nat) (t:TA)
deriving DecidableEq
structure DA where
 k:Nat
 a:List UInt8
 b:List UInt8
deriving DecidableEq
inductive IA
 |field (s:List UInt8) (t:TA) (d:DA) (wh:Option EA)
 |pack (size:Nat) (little:Bool) (subs:List (List UInt8×Nat))
deriving DecidableEq
structure SA where
 s:List UInt8
 ps:List (List UInt8)
 is:List IA
deriving DecidableEq
mutual
def unary:Nat→Nat→List Tok→PR EA
 |0,_,l=> .bad l 99
 |n+1,d,l=>
  if isT sExcl l=true then (enterP (begE l.tail) d l.tail).bind fun _ l1=>(unary n (d+1) l1).bind fun a l2=> .ok (.not a) l2
  else if isT sLp l=true then (enterP (begE l.tail) d l.tail).bind fun _ l1=>(bin n 1 (d+1) l1).bind fun a l2=>(need sRp l2).bind fun _ l3=> .ok a l3
  else if isNum l=true then .ok (.num (hd l).tk.n) l.tail
  else if isName l=true then .ok (.name (hd l).tk.t) l.tail
  else .bad l 4
def bin:Nat→Nat→Nat→List Tok→PR EA
 |0,_,_,l=> .bad l 99
 |n+1,v,d,l=>(unary n d l).bind fun a l1=>loopB n v d a l1
def loopB:Nat→Nat→Nat→EA→List Tok→PR EA
 |0,_,_,_,l=> .bad l 99
 |n+1,v,d,a,l=>
  if v≤levelL (hd l).tk.t then (bin n (levelL (hd l).tk.t+1) d l.tail).bind fun b l1=>loopB n v d (.bin (hd l).tk.t a b) l1
  else .ok a l
end
def idxP (n d:Nat) (l:List Tok):PR EA:=(need sLb l).bind fun _ l1=>(bin n 1 d l1).bind fun e l2=>(need sRb l2).bind fun _ l3=> .ok e l3
def argsL:Nat→List EA→Nat→List Tok→PR (List EA)
 |0,_,_,l=> .bad l 99
 |n+1,es,d,l=>
  if isT sComma l=true then (expectP (begE l.tail) l.tail).bind fun _ l1=>(roomP es.length l1).bind fun _ l2=>(bin n 1 d l2).bind fun e l3=>argsL n (es++ [e]) d l3
  else .ok es l
def argsP (n d:Nat) (l:List Tok):PR (List EA):=(bin n 1 d l).bind fun e l1=>(argsL n [e] d l1).bind fun es l2=>(need sRp l2).bind fun _ l3=> .ok es l3
def singleP (n d:Nat) (l:List Tok):PR TA:=
 match intW (hd l).tk.t with
 |some (z,li)=> .ok (.int z li) l.tail
 |none=>if isT sLp l.tail=true then (argsP n d l.tail.tail).bind fun es l1=> .ok (.ref (hd l).tk.t es) l1 else .ok (.ref (hd l).tk.t []) l.tail
def elemP (n d:Nat) (l:List Tok):PR TA:=
 (singleP n d l).bind fun t l1=>if isT sLb l1=true then (idxP n d l1).bind fun e l2=> .ok (.arr t e) l2 else .ok t l1
mutual
def typP:Nat→Nat→List Tok→PR TA
 |0,_,l=> .bad l 99
 |n+1,d,l=>
  if begT l=false then .bad l 4
  else if isT kBytes l=true then (idxP n d l.tail).bind fun e l1=> .ok (.idx 1 e) l1
  else if isT kZero l=true then (idxP n d l.tail).bind fun e l1=> .ok (.idx 2 e) l1
  else if isT kSkip l=true then (idxP n d l.tail).bind fun e l1=> .ok (.idx 3 e) l1
  else if isT kWindow l=true then (idxP n d l.tail).bind fun e l1=>(innerP n d l1).bind fun t l2=> .ok (.win 7 e t) l2
  else if isT kAt l=true then (idxP n d l.tail).bind fun e l1=>(innerP n d l1).bind fun t l2=> .ok (.win 8 e t) l2
  else if isT kRest l=true then (innerP n d l.tail).bind fun t l2=> .ok (.rest t) l2
  else if isT kTail l=true then .ok (.leaf 4) l.tail
  else if isT kNone l=true then .ok (.leaf 11) l.tail
  else if isT kSwitch l=true then switchP n d l.tail
  else elemP n d l
def innerP:Nat→Nat→List Tok→PR TA
 |0,_,l=> .bad l 99
 |n+1,d,l=>(enterP (begT l) d l).bind fun _ l1=>typP n (d+1) l1
def branchP:Nat→Nat→List Tok→PR TA
 |0,_,l=> .bad l 99
 |n+1,d,l=>(need sColon l).bind fun _ l1=>(innerP n d l1).bind fun t l2=>(need sSemi l2).bind fun _ l3=> .ok t l3
def casesL:Nat→Nat→Nat→TA→List Tok→PR TA
 |0,_,_,_,l=> .bad l 99
 |n+1,d,k,cs,l=>
  if isT kCase l=true then (roomP k l).bind fun _ _=>(numP l.tail).bind fun v l1=>(branchP n d l1).bind fun t l2=>casesL n d (k+1) (.snoc cs v t) l2
  else .ok cs l
def switchP:Nat→Nat→List Tok→PR TA
 |0,_,l=> .bad l 99
 |n+1,d,l=>(need sLp l).bind fun _ l1=>(bin n 1 d l1).bind fun e l2=>(need sRp l2).bind fun _ l3=>(need sLc l3).bind fun _ l4=>
  (casesL n d 0 .nil l4).bind fun cs l5=>
   if isT kElse l5=true then (branchP n d l5.tail).bind fun t l6=>(need sRc l6).bind fun _ l7=> .ok (.sw e cs t) l7
   else (need sRc l5).bind fun _ l7=> .ok (.sw e cs .nil) l7
end
def derK (l:List Tok):Nat:=if isT kSizeof l=true then 1 else if isT kCountof l=true then 2 else if isT kCrc32 l=true then 3 else if isT kAdler32 l=true then 4 else 0
def derP (l:List Tok):PR DA:=
 if derK l=0 then .bad l 4
 else (need sLp l.tail).bind fun _ l1=>(nameP l1).bind fun a l2=>
  if derK l≤2 then (need sRp l2).bind fun _ l3=> .ok ⟨derK l,a, []⟩ l3
  else (need sDots l2).bind fun _ l3=>(nameP l3).bind fun b l4=>(need sRp l4).bind fun _ l5=> .ok ⟨derK l,a,b⟩ l5
def optD (l:List Tok):PR DA:=if isT sEq l=true then derP l.tail else .ok ⟨0, [], []⟩ l
def optW (n:Nat) (l:List Tok):PR (Option EA):=if isT kWhere l=true then (bin n 1 0 l.tail).bind fun e l1=> .ok (some e) l1 else .ok none l
def fieldP (n:Nat) (l:List Tok):PR IA:=
 (nameP l).bind fun s l1=>(need sColon l1).bind fun _ l2=>(typP n 0 l2).bind fun t l3=>(optD l3).bind fun d l4=>(optW n l4).bind fun w l5=>(need sSemi l5).bind fun _ l6=> .ok (.field s t d w) l6
def subP (l:List Tok):PR (List UInt8×Nat):=
 (nameP l).bind fun s l1=>(need sColon l1).bind fun _ l2=>(numP l2).bind fun v l3=>(need sSemi l3).bind fun _ l4=> .ok (s,min v 1048576) l4
def subsL:Nat→List (List UInt8×Nat)→List Tok→PR (List (List UInt8×Nat))
 |0,_,l=> .bad l 99
 |n+1,ss,l=>
  if isT sRc l=true then .ok ss l.tail
  else (expectP (isName l) l).bind fun _ _=>(roomP ss.length l).bind fun _ _=>(subP l).bind fun x l1=>subsL n (ss++ [x]) l1
def packP (n:Nat) (l:List Tok):PR IA:=
 match intW (hd l).tk.t with
 |none=> .bad l 4
 |some (z,li)=>(need sLc l.tail).bind fun _ l1=>(subP l1).bind fun x l2=>(subsL n [x] l2).bind fun ss l3=> .ok (.pack z li ss) l3
def itemP (n:Nat) (l:List Tok):PR IA:=if isT kPack l=true then packP n l.tail else fieldP n l
def itemsL:Nat→List IA→List Tok→PR (List IA)
 |0,_,l=> .bad l 99
 |n+1,is,l=>
  if isT sRc l=true then .ok is l.tail
  else (expectP (isName l||isT kPack l) l).bind fun _ _=>(roomP is.length l).bind fun _ _=>(itemP n l).bind fun x l1=>itemsL n (is++ [x]) l1
def paramsL:Nat→List (List UInt8)→List Tok→PR (List (List UInt8))
 |0,_,l=> .bad l 99
 |n+1,ps,l=>
  if isT sComma l=true then (expectP (isName l.tail) l.tail).bind fun _ l1=>(roomP ps.length l1).bind fun _ l2=>(nameP l2).bind fun x l3=>paramsL n (ps++ [x]) l3
  else .ok ps l
def paramsP (n:Nat) (l:List Tok):PR (List (List UInt8)):=(nameP l).bind fun s l1=>(paramsL n [s] l1).bind fun ps l2=>(need sRp l2).bind fun _ l3=> .ok ps l3
def optP (n:Nat) (l:List Tok):PR (List (List UInt8)):=if isT sLp l=true then paramsP n l.tail else .ok [] l
def structP (n:Nat) (l:List Tok):PR SA:=
 (need kStruct l).bind fun _ l1=>(nameP l1).bind fun s l2=>(optP n l2).bind fun ps l3=>(need sLc l3).bind fun _ l4=>(itemsL n [] l4).bind fun is l5=> .ok ⟨s,ps,is⟩ l5
def constP (l:List Tok):PR (List UInt8×Nat):=
 (need kConst l).bind fun _ l1=>(nameP l1).bind fun s l2=>(need sEq l2).bind fun _ l3=>(numP l3).bind fun v l4=>(need sSemi l4).bind fun _ l5=> .ok (s,v) l5
def fileL:Nat→List (List UInt8×Nat)→List SA→List Tok→PR (List (List UInt8×Nat)×List SA)
 |0,_,_,l=> .bad l 99
 |n+1,cs,ss,l=>
  if (hd l).tk.k=3 then .ok (cs,ss) l
  else if isT kConst l=true then (roomP cs.length l).bind fun _ _=>(constP l).bind fun c l1=>fileL n (cs++ [c]) ss l1
  else if isT kStruct l=true then (roomP ss.length l).bind fun _ _=>(structP n l).bind fun s l1=>fileL n cs (ss++ [s]) l1
  else .bad l 4
def fuel (l:List Tok):Nat:=8*l.length+20
def fileP (l:List Tok):PR (List (List UInt8×Nat)×List SA):=fileL (fuel l) [] [] l
structure XM where
 k:Nat
 op:List UInt8
 n:Nat
 s:List UInt8
 kids:List Nat
deriving DecidableEq
structure TM where
 k:Nat
 size:Nat
 little:Bool
 s:List UInt8
 args:List Nat
 e:Int
 i:Int
 cs:List (Nat×Nat)
deriving DecidableEq
structure IM where
 s:List UInt8
 t:Int
 der:Nat
 a:List UInt8
 b:List UInt8
 wh:Int
 size:Nat
 little:Bool
 subs:List (List UInt8×Nat)
deriving DecidableEq
structure SM where
 s:List UInt8
 ps:List (List UInt8)
 is:List IM
deriving DecidableEq
structure GM where
 xs:List XM
 ts:List TM
deriving DecidableEq
def GM.addX (g:GM) (x:XM):GM:=⟨g.xs++ [x],g.ts⟩
def GM.addT (g:GM) (t:TM):GM:=⟨g.xs,g.ts++ [t]⟩
def GM.x (g:GM):Nat:=g.xs.length - 1
def GM.t (g:GM):Nat:=g.ts.length - 1
def putE:EA→GM→GM
 | .num n,g=>g.addX ⟨0, [],n, [], []⟩
 | .name s,g=>g.addX ⟨1, [],0,s, []⟩
 | .not a,g=>(putE a g).addX ⟨2, [],0, [], [(putE a g).x]⟩
 | .bin op a b,g=>(putE b (putE a g)).addX ⟨3,op,0, [], [(putE a g).x,(putE b (putE a g)).x]⟩
def stepE (s:GM×List Nat) (e:EA):GM×List Nat:=(putE e s.1,s.2++ [(putE e s.1).x])
def putEs (l:List EA) (g:GM):GM×List Nat:=l.foldl stepE (g, [])
def TA.isNil:TA→Bool
 | .nil=>true
 |_=>false
def putT:TA→GM→GM×List (Nat×Nat)
 | .int z li,g=>(g.addT ⟨0,z,li, [], [], -1, -1, []⟩, [])
 | .ref s es,g=>((putEs es g).1.addT ⟨10,0,false,s,(putEs es g).2, -1, -1, []⟩, [])
 | .idx k e,g=>((putE e g).addT ⟨k,0,false, [], [],(putE e g).x, -1, []⟩, [])
 | .win k e t,g=>((putT t (putE e g)).1.addT ⟨k,0,false, [], [],(putE e g).x,(putT t (putE e g)).1.t, []⟩, [])
 | .rest t,g=>((putT t g).1.addT ⟨6,0,false, [], [], -1,(putT t g).1.t, []⟩, [])
 | .leaf k,g=>(g.addT ⟨k,0,false, [], [], -1, -1, []⟩, [])
 | .arr t e,g=>((putE e (putT t g).1).addT ⟨5,0,false, [], [],(putE e (putT t g).1).x,(putT t g).1.t, []⟩, [])
 | .sw e cs els,g=>((putT els (putT cs (putE e g)).1).1.addT ⟨9,0,false, [], [],(putE e g).x,if els.isNil then -1 else (putT els (putT cs (putE e g)).1).1.t,(putT cs (putE e g)).2⟩, [])
 | .nil,g=>(g, [])
 | .snoc cs n t,g=>((putT t (putT cs g).1).1,(putT cs g).2++ [(n,(putT t (putT cs g).1).1.t)])
def putW:Option EA→GM→GM
 |none,g=>g
 |some e,g=>putE e g
def whI:Option EA→GM→Int
 |none,g=> -1
 |some e,g=>(putE e g).x
def putI:IA→GM→GM×IM
 | .field s t d wh,g=>(putW wh (putT t g).1,⟨s,(putT t g).1.t,d.k,d.a,d.b,whI wh (putT t g).1,0,false, []⟩)
 | .pack z li subs,g=>(g,⟨[], -1,0, [], [], -1,z,li,subs⟩)
def stepI (s:GM×List IM) (x:IA):GM×List IM:=((putI x s.1).1,s.2++ [(putI x s.1).2])
def putIs (l:List IA) (g:GM):GM×List IM:=l.foldl stepI (g, [])
def putS (s:SA) (g:GM):GM×SM:=((putIs s.is g).1,⟨s.s,s.ps,(putIs s.is g).2⟩)
def stepS (s:GM×List SM) (x:SA):GM×List SM:=((putS x s.1).1,s.2++ [(putS x s.1).2])
def putSs (l:List SA) (g:GM):GM×List SM:=l.foldl stepS (g, [])
structure FM where
 cs:List (List UInt8×Nat)
 ss:List SM
 g:GM
deriving DecidableEq
def gm0:GM:=⟨[], []⟩
def putF (cs:List (List UInt8×Nat)) (ss:List SA):FM:=⟨cs,(putSs ss gm0).2,(putSs ss gm0).1⟩
theorem putEs_snoc (l:List EA) (e:EA) (g:GM):putEs (l++ [e]) g=stepE (putEs l g) e:=by simp [putEs,List.foldl_append]
theorem putIs_snoc (l:List IA) (e:IA) (g:GM):putIs (l++ [e]) g=stepI (putIs l g) e:=by simp [putIs,List.foldl_append]
theorem putSs_snoc (l:List SA) (e:SA) (g:GM):putSs (l++ [e]) g=stepS (putSs l g) e:=by simp [putSs,List.foldl_append]
structure TokOK (t:Tok):Prop where
 k:t.tk.k≤2
 ne:t.tk.t≠ []
 kw:t.tk.k≠0→isKw t.tk.t=false
 op:t.tk.k≠2→levelL t.tk.t=0
 br:t.tk.k=0→t.tk.t≠ [125]
def WF (l:List Tok):Prop:= ∃i e,l=i++ [e]∧e.tk=tkEnd∧∀t∈i,TokOK t
theorem WF.ne {l:List Tok} (h:WF l):l≠ []:=by obtain ⟨i,e,rfl,_⟩:=h;simp
theorem WF.pos {l:List Tok} (h:WF l):0<l.length:=List.length_pos_iff.2 h.ne
theorem WF.hd {l:List Tok} (h:WF l):l[0]? =some (hd l):=by
 cases l with
 |nil=>exact absurd rfl h.ne
 |cons a r=>rfl
theorem WF.cases {l:List Tok} (h:WF l):((Go.Proofs.YtomimkgaelkaoaaGreatDoor.hd l).tk=tkEnd∧l= [Go.Proofs.YtomimkgaelkaoaaGreatDoor.hd l])∨(TokOK (Go.Proofs.YtomimkgaelkaoaaGreatDoor.hd l)∧WF l.tail):=by
 obtain ⟨i,e,rfl,he,hi⟩:=h
 cases i with
 |nil=>exact .inl ⟨he,rfl⟩
 |cons a r=>exact .inr ⟨hi a (by simp),r,e,rfl,he,fun t ht=>hi t (by simp [ht])⟩
theorem WF.tail {l:List Tok} (h:WF l) (hk:(Go.Proofs.YtomimkgaelkaoaaGreatDoor.hd l).tk.k≠3):WF l.tail:=by
 rcases h.cases with ⟨h1,_⟩|⟨_,h2⟩
 ·rw [h1] at hk;exact absurd rfl hk
 ·exact h2
theorem WF.tailT {l:List Tok} (h:WF l) (hk:(Go.Proofs.YtomimkgaelkaoaaGreatDoor.hd l).tk.t≠ []):WF l.tail:=by
 rcases h.cases with ⟨h1,_⟩|⟨_,h2⟩
 ·rw [h1] at hk;exact absurd rfl hk
 ·exact h2
theorem isT_ne {g:List UInt8} {l:List Tok} (h:isT g l=true) (hg:g≠ []):(hd l).tk.t≠ []:=by
 unfold isT at h;rw [of_decide_eq_true h];exact hg
theorem WF.isT {g:List UInt8} {l:List Tok} (h:WF l) (ht:isT g l=true) (hg:g≠ []):WF l.tail:=h.tailT (isT_ne ht hg)
theorem name_ne {l:List Tok} (h:isName l=true):(hd l).tk.k=0:=by
 unfold isName at h
 rw [Bool.and_eq_true] at h
 exact of_decide_eq_true h.1
theorem num_ne {l:List Tok} (h:isNum l=true):(hd l).tk.k=1:=of_decide_eq_true h
theorem WF.isName {l:List Tok} (h:WF l) (ht:isName l=true):WF l.tail:=h.tail (by rw [name_ne ht];decide)
theorem WF.isNum {l:List Tok} (h:WF l) (ht:isNum l=true):WF l.tail:=h.tail (by rw [num_ne ht];decide)
end Go.Proofs.YtomimkgaelkaoaaGreatDoor
