/- Plain mathematics of layer 1, without a program: what each function of package word returns. · Layer 10, mathematics: what an expression of a list evaluates to. No program. · Layer 10, mathematics: an expression of a parsed File as one that is evaluated. No program. · Layer 10, mathematics: an expression's tree and what its list evaluates to (for ExprParts and ExprText). No program. · Layer 10, mathematics (for ExprParts): a File's lists go on as its parts are laid. No program. -/
import Derived.WalkKit
import Derived.Test.YtomimkgaelkaoaaGreatDoorC13ParseP
set_option linter.unusedVariables false
set_option linter.unusedSimpArgs false
namespace Go.Proofs.YtomimkgaelkaoaaGreatDoor
def addR (a b:Int):Int×Int:=if a+b≤18446744073709551615 then (a+b,0) else (0,5)
def subR (a b:Int):Int×Int:=if b≤a then (a - b,0) else (0,5)
def mulR (a b:Int):Int×Int:=if a*b≤18446744073709551615 then (a*b,0) else (0,5)
def divR (a b:Int):Int×Int:=if b=0 then (0,6) else (a / b,0)
def modR (a b:Int):Int×Int:=if b=0 then (0,6) else (a % b,0)
def shlR (a n:Int):Int×Int:=if n≤63∧a*2 ^ n.toNat≤18446744073709551615 then (a*2 ^ n.toNat,0) else (0,5)
def shrR (a n:Int):Int×Int:=if n≤63 then (a / 2 ^ n.toNat,0) else (0,5)
def truthV (b:Bool):Int:=if b then 1 else 0
def andV (a b:Int):Int:=((a.toNat &&& b.toNat:Nat):Int)
def orV (a b:Int):Int:=((a.toNat|||b.toNat:Nat):Int)
def opR (l:List UInt8) (a b:Int):Int×Int:=
 if (l== [43])=true then addR a b else
 if (l== [45])=true then subR a b else
 if (l== [42])=true then mulR a b else
 if (l== [47])=true then divR a b else
 if (l== [37])=true then modR a b else
 if (l== [60,60])=true then shlR a b else
 if (l== [62,62])=true then shrR a b else
 if (l== [38])=true then (andV a b,0) else
 if (l== [124])=true then (orV a b,0) else
 if (l== [61,61])=true then (truthV (a==b),0) else
 if (l== [33,61])=true then (truthV (a !=b),0) else
 if (l== [60])=true then (truthV (decide (a<b)),0) else
 if (l== [60,61])=true then (truthV (decide (a≤b)),0) else
 if (l== [62])=true then (truthV (decide (b<a)),0) else
 if (l== [62,61])=true then (truthV (decide (b≤a)),0) else
 if (l== [38,38])=true then (truthV (a !=0 && b !=0),0) else
 if (l== [124,124])=true then (truthV (a !=0||b !=0),0) else (0,4)
end Go.Proofs.YtomimkgaelkaoaaGreatDoor
namespace Go.Proofs.YtomimkgaelkaoaaGreatDoor
structure XE where
 k:Int
 op:List UInt8
 n:Int
 s:List UInt8
 kids:List Int
abbrev EnvL:=List (List UInt8×Int)
def getE (e:EnvL) (s:List UInt8):Option Int:=(e.reverse.find? (fun x=>decide (x.1=s))).map (·.2)
def opsX (x:XE):Option (List Int):=
 if x.k=0∨x.k=1 then some [] else if x.k=2 then (if x.kids.length=1 then some x.kids else none) else if x.k=3 then (if x.kids.length=2 then some x.kids else none) else none
def evX (x:XE) (e:EnvL) (v:Int→Int×Int):Int×Int:=
 if x.k=0 then (x.n,0)
 else if x.k=1 then (match getE e x.s with|none=>(0,11)|some n=>(n,0))
 else if (v (x.kids.getD 0 0)).2≠0 then v (x.kids.getD 0 0)
 else if x.k=2 then (truthV (decide ((v (x.kids.getD 0 0)).1=0)),0)
 else if (v (x.kids.getD 1 0)).2≠0 then v (x.kids.getD 1 0)
 else opR x.op (v (x.kids.getD 0 0)).1 (v (x.kids.getD 1 0)).1
def vat (V:List (Int×Int)) (i:Int):Int×Int:=if 0≤i then V.getD i.toNat (0,2) else (0,2)
def oneX (V:List (Int×Int)) (x:XE) (e:EnvL):Int×Int:=
 match opsX x with
 |none=>(0,2)
 |some ks=>if ks.all (fun k=>decide ((vat V k).2≠2))=true then evX x e (vat V) else (0,2)
def allX (xs:List XE) (e:EnvL):List (Int×Int):=xs.foldl (fun V x=>V++ [oneX V x e]) []
def evalL (xs:List XE) (i:Int) (e:EnvL):Int×Int:=vat (allX xs e) i
theorem rev_ind {α:Type} {P:List α→Prop} (h0:P []) (hs: ∀l x,P l→P (l++ [x])) (xs:List α):P xs:=by
 have: ∀l:List α,P l.reverse:=fun l=>by
  induction l with
  |nil=>exact h0
  |cons x l ih=>rw [List.reverse_cons];exact hs _ _ ih
 rw [←List.reverse_reverse xs]
 exact this _
theorem allX_snoc (xs:List XE) (x:XE) (e:EnvL):allX (xs++ [x]) e=allX xs e++ [oneX (allX xs e) x e]:=by
 unfold allX;rw [List.foldl_append];rfl
theorem allX_len (xs:List XE) (e:EnvL):(allX xs e).length=xs.length:=by
 induction xs using rev_ind with
 |h0=>rfl
 |hs xs x ih=>rw [allX_snoc,List.length_append,List.length_append,ih];rfl
theorem allX_take (xs ys:List XE) (e:EnvL):(allX (xs++ys) e).take xs.length=allX xs e:=by
 induction ys using rev_ind with
 |h0=>rw [List.append_nil,←allX_len xs e,List.take_length]
 |hs ys y ih=>
  rw [←List.append_assoc,allX_snoc,List.take_append_of_le_length (by rw [allX_len,List.length_append];omega),ih]
end Go.Proofs.YtomimkgaelkaoaaGreatDoor
namespace Go.Proofs.YtomimkgaelkaoaaGreatDoor
def XM.xe (x:XM):XE:=⟨x.k,x.op,x.n,x.s,x.kids.map fun (k:Nat)=>(k:Int)⟩
end Go.Proofs.YtomimkgaelkaoaaGreatDoor
namespace Go.Proofs.YtomimkgaelkaoaaGreatDoor
def evT:EA→EnvL→Int×Int
 | .num n,_=>((n:Int),0)
 | .name s,e=>match getE e s with|none=>(0,11)|some n=>(n,0)
 | .not a,e=>if (evT a e).2≠0 then evT a e else (truthV (decide ((evT a e).1=0)),0)
 | .bin op a b,e=>if (evT a e).2≠0 then evT a e else if (evT b e).2≠0 then evT b e else opR op (evT a e).1 (evT b e).1
theorem putE_ext (t:EA): ∀g:GM,∃ys,(putE t g).xs=g.xs++ys∧ys≠ []:=by
 induction t with
 |num n=>intro g;exact ⟨_,rfl,by simp⟩
 |name s=>intro g;exact ⟨_,rfl,by simp⟩
 |not a ih=>
  intro g
  obtain ⟨ys,h,_⟩:=ih g
  exact ⟨ys++_,by simp only [putE,GM.addX];rw [h,List.append_assoc],by simp⟩
 |bin op a b iha ihb=>
  intro g
  obtain ⟨ys,h,_⟩:=iha g
  obtain ⟨zs,k,_⟩:=ihb (putE a g)
  exact ⟨ys++(zs++_),by simp only [putE,GM.addX];rw [k,h,List.append_assoc,List.append_assoc],by simp⟩
theorem putE_x (t:EA) (g:GM):(putE t g).x<(putE t g).xs.length:=by
 obtain ⟨ys,h,hy⟩:=putE_ext t g
 have:0<ys.length:=List.length_pos_iff.2 hy
 unfold GM.x
 rw [h,List.length_append];omega
theorem vat_pre (xs ys:List XE) (e:EnvL) {k:Nat} (h:k<xs.length):vat (allX (xs++ys) e) (k:Int)=vat (allX xs e) (k:Int):=by
 unfold vat
 rw [if_pos (by omega),if_pos (by omega),←allX_take xs ys e,List.getD_eq_getElem?_getD,List.getD_eq_getElem?_getD]
 simp only [Int.toNat_natCast]
 rw [List.getElem?_take_of_lt h]
theorem vat_last (xs:List XE) (x:XE) (e:EnvL):vat (allX (xs++ [x]) e) ((xs.length:Nat):Int)=oneX (allX xs e) x e:=by
 unfold vat
 rw [if_pos (by omega),allX_snoc,List.getD_eq_getElem?_getD,Int.toNat_natCast,List.getElem?_append_right (by rw [allX_len];omega),allX_len]
 simp
theorem snd_ite {c:Prop} [Decidable c] {a b:Int×Int} (h:a.2≠2) (k:b.2≠2):(if c then a else b).2≠2:=by
 split<;>assumption
theorem opR_ne2 (op:List UInt8) (a b:Int):(opR op a b).2≠2:=by
 unfold opR addR subR mulR divR modR shlR shrR
 repeat' (refine snd_ite ?_ ?_)
 all_goals simp
theorem evT_ne2 (t:EA) (e:EnvL):(evT t e).2≠2:=by
 induction t with
 |num n=>simp [evT]
 |name s=>unfold evT;split<;>simp
 |not a ih=>unfold evT;split<;>simp_all
 |bin op a b iha ihb=>
  unfold evT
  split
  ·exact iha
  ·split
   ·exact ihb
   ·exact opR_ne2 _ _ _
theorem evalL_put (t:EA) (e:EnvL): ∀g:GM,evalL ((putE t g).xs.map XM.xe) ((putE t g).x:Int) e=evT t e:=by
 induction t with
 |num n=>
  intro g
  unfold evalL GM.x
  simp only [putE,GM.addX,List.map_append,List.map_cons,List.map_nil,List.length_append,List.length_cons,List.length_nil,Nat.zero_add,Nat.add_sub_cancel]
  have:=vat_last (g.xs.map XM.xe) (XM.xe ⟨0, [],n, [], []⟩) e
  rw [List.length_map] at this
  rw [this]
  simp [oneX,opsX,evX,XM.xe,evT]
 |name s=>
  intro g
  unfold evalL GM.x
  simp only [putE,GM.addX,List.map_append,List.map_cons,List.map_nil,List.length_append,List.length_cons,List.length_nil,Nat.zero_add,Nat.add_sub_cancel]
  have:=vat_last (g.xs.map XM.xe) (XM.xe ⟨1, [],0,s, []⟩) e
  rw [List.length_map] at this
  rw [this]
  simp [oneX,opsX,evX,XM.xe,evT]
  all_goals (cases getE e s<;>rfl)
 |not a ih=>
  intro g
  have h:=ih g
  unfold evalL at h ⊢
  have hn:=evT_ne2 a e
  unfold GM.x
  simp only [putE,GM.addX,List.map_append,List.map_cons,List.map_nil,List.length_append,List.length_cons,List.length_nil,Nat.zero_add,Nat.add_sub_cancel]
  have:=vat_last ((putE a g).xs.map XM.xe) (XM.xe ⟨2, [],0, [], [(putE a g).x]⟩) e
  rw [List.length_map] at this
  rw [this]
  simp [oneX,opsX,evX,XM.xe,evT,h,hn]
 |bin op a b iha ihb=>
  intro g
  have h:=iha g
  have k:=ihb (putE a g)
  unfold evalL at h k ⊢
  obtain ⟨ys,hy, -⟩:=putE_ext b (putE a g)
  have hx:=putE_x a g
  have h2:vat (allX ((putE b (putE a g)).xs.map XM.xe) e) ((putE a g).x:Int)=evT a e:=by
   rw [hy,List.map_append,vat_pre _ _ _ (by rw [List.length_map];exact hx),h]
  have hn:=evT_ne2 a e
  have hm:=evT_ne2 b e
  unfold GM.x at k h2 ⊢
  simp only [putE,GM.addX,List.map_append,List.map_cons,List.map_nil,List.length_append,List.length_cons,List.length_nil,Nat.zero_add,Nat.add_sub_cancel]
  have:=vat_last ((putE b (putE a g)).xs.map XM.xe) (XM.xe ⟨3,op,0, [], [(putE a g).xs.length - 1,(putE b (putE a g)).xs.length - 1]⟩) e
  rw [List.length_map] at this
  unfold GM.x
  rw [this]
  simp [oneX,opsX,evX,XM.xe,evT,h2,k,hn,hm]
end Go.Proofs.YtomimkgaelkaoaaGreatDoor
namespace Go.Proofs.YtomimkgaelkaoaaGreatDoor
def GExt (g g':GM):Prop:=(∃a,g'.xs=g.xs++a)∧∃b,g'.ts=g.ts++b
theorem GExt.refl (g:GM):GExt g g:=⟨⟨[],by simp⟩,⟨[],by simp⟩⟩
theorem GExt.trans {a b c:GM} (h:GExt a b) (k:GExt b c):GExt a c:=by
 obtain ⟨⟨x,h1⟩,⟨y,h2⟩⟩:=h
 obtain ⟨⟨z,k1⟩,⟨w,k2⟩⟩:=k
 exact ⟨⟨x++z,by rw [k1,h1,List.append_assoc]⟩,⟨y++w,by rw [k2,h2,List.append_assoc]⟩⟩
theorem GExt.addX (g:GM) (x:XM):GExt g (g.addX x):=⟨⟨[x],rfl⟩,⟨[],by simp [GM.addX]⟩⟩
theorem GExt.addT (g:GM) (t:TM):GExt g (g.addT t):=⟨⟨[],by simp [GM.addT]⟩,⟨[t],rfl⟩⟩
theorem ext_E: ∀(e:EA) (g:GM),GExt g (putE e g)
 | .num n,g=>GExt.addX _ _
 | .name s,g=>GExt.addX _ _
 | .not a,g=>(ext_E a g).trans (GExt.addX _ _)
 | .bin op a b,g=>((ext_E a g).trans (ext_E b _)).trans (GExt.addX _ _)
theorem ext_fold {α β:Type} (f:GM×β→α→GM×β) (h: ∀s x,GExt s.1 (f s x).1): ∀(l:List α) (s:GM×β),GExt s.1 (l.foldl f s).1
 | [],s=>GExt.refl _
 |x::l,s=>(h s x).trans (ext_fold f h l (f s x))
theorem ext_Es (l:List EA) (g:GM):GExt g (putEs l g).1:=ext_fold stepE (fun s x=>ext_E x s.1) l (g, [])
theorem ext_T: ∀(t:TA) (g:GM),GExt g (putT t g).1
 | .int z li,g=>GExt.addT _ _
 | .ref s es,g=>(ext_Es es g).trans (GExt.addT _ _)
 | .idx k e,g=>(ext_E e g).trans (GExt.addT _ _)
 | .win k e t,g=>((ext_E e g).trans (ext_T t _)).trans (GExt.addT _ _)
 | .rest t,g=>(ext_T t g).trans (GExt.addT _ _)
 | .leaf k,g=>GExt.addT _ _
 | .arr t e,g=>((ext_T t g).trans (ext_E e _)).trans (GExt.addT _ _)
 | .sw e cs els,g=>(((ext_E e g).trans (ext_T cs _)).trans (ext_T els _)).trans (GExt.addT _ _)
 | .nil,g=>GExt.refl g
 | .snoc cs n t,g=>(ext_T cs g).trans (ext_T t _)
theorem ext_W: ∀(w:Option EA) (g:GM),GExt g (putW w g)
 |none,g=>GExt.refl g
 |some e,g=>ext_E e g
theorem ext_I: ∀(i:IA) (g:GM),GExt g (putI i g).1
 | .field s t d wh,g=>(ext_T t g).trans (ext_W wh _)
 | .pack z li subs,g=>GExt.refl g
theorem ext_Is (l:List IA) (g:GM):GExt g (putIs l g).1:=ext_fold stepI (fun s x=>ext_I x s.1) l (g, [])
theorem ext_Is' (l:List IA) (s:GM×List IM):GExt s.1 (l.foldl stepI s).1:=ext_fold stepI (fun s x=>ext_I x s.1) l s
theorem ext_Ss' (l:List SA) (s:GM×List SM):GExt s.1 (l.foldl stepS s).1:=ext_fold stepS (fun s x=>ext_Is x.is s.1) l s
inductive Begins (k:Nat) (E:EA):TA→Prop
 |idx:Begins k E (.idx k E)
 |arr (t:TA) (e:EA):Begins k E t→Begins k E (.arr t e)
theorem begins_ext {k:Nat} {E:EA}: ∀{t:TA},Begins k E t→GExt ((putE E gm0).addT ⟨k,0,false, [], [],(putE E gm0).x, -1, []⟩) (putT t gm0).1
 |_, .idx=>GExt.refl _
 |_, .arr t e h=>((begins_ext h).trans (ext_E e _)).trans (GExt.addT _ _)
theorem file_first {k:Nat} {E:EA} {t:TA} (h:Begins k E t) (cs:List (List UInt8×Nat)) (s u:List UInt8) (ps:List (List UInt8)) (d:DA) (wh:Option EA) (is:List IA) (ss:List SA) (e:EnvL):
  ∃x:Nat,(putF cs (⟨s,ps, .field u t d wh::is⟩::ss)).g.ts[0]? =some ⟨k,0,false, [], [],(x:Int), -1, []⟩∧x<(putF cs (⟨s,ps, .field u t d wh::is⟩::ss)).g.xs.length∧
   evalL ((putF cs (⟨s,ps, .field u t d wh::is⟩::ss)).g.xs.map XM.xe) (x:Int) e=evT E e:=by
 have hx:GExt ((putE E gm0).addT ⟨k,0,false, [], [],(putE E gm0).x, -1, []⟩) (putF cs (⟨s,ps, .field u t d wh::is⟩::ss)).g:=
  (((begins_ext h).trans (ext_W wh _)).trans (ext_Is' is (stepI (gm0, []) (.field u t d wh)))).trans (ext_Ss' ss (stepS (gm0, []) ⟨s,ps, .field u t d wh::is⟩))
 obtain ⟨⟨a,ha⟩,⟨b,hb⟩⟩:=hx
 have hlt:=putE_x E gm0
 have ht0:(putE E gm0).ts= []:=by
  have: ∀(e:EA) (g:GM),(putE e g).ts=g.ts:=fun e=>by
   induction e with
   |num n=>intro g;rfl
   |name s=>intro g;rfl
   |not a ih=>intro g;simp only [putE,GM.addX];exact ih g
   |bin op a b iha ihb=>intro g;simp only [putE,GM.addX];rw [ihb,iha]
  rw [this];rfl
 refine ⟨(putE E gm0).x, ?_, ?_, ?_⟩
 ·rw [hb]
  simp [GM.addT,ht0]
 ·rw [ha]
  simp only [GM.addT,List.length_append];omega
 ·rw [ha,List.map_append]
  unfold evalL
  rw [vat_pre _ _ _ (by rw [List.length_map];exact hlt)]
  exact evalL_put E e gm0
end Go.Proofs.YtomimkgaelkaoaaGreatDoor
