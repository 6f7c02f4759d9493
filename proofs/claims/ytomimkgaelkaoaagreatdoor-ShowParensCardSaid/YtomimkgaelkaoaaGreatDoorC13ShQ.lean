/- Layer 8, the mathematics: the tokens of a tree are parsed to it: types, items, the File; and what is parsed is such a tree. No program. -/
import Derived.Test.YtomimkgaelkaoaaGreatDoorC13ShR
set_option linter.unusedVariables false
set_option linter.unusedSimpArgs false
namespace Go.Proofs.YtomimkgaelkaoaaGreatDoor
theorem bind_okE {α β:Type} {r:PR α} {f:α→List Tok→PR β} {a:β} {l:List Tok} (h:r.bind f= .ok a l): ∃b l1,r= .ok b l1∧f b l1= .ok a l:=by
 cases r with
 |bad l1 e=>cases h
 |ok b l1=>exact ⟨b,l1,rfl,h⟩
theorem need_okE {g:List UInt8} {l l':List Tok} {u:Unit} (h:need g l= .ok u l'):isT g l=true∧l'=l.tail:=by
 unfold need at h
 split at h
 ·rename_i h1;cases h;exact ⟨h1,rfl⟩
 ·cases h
theorem name_okE {l l':List Tok} {s:List UInt8} (h:nameP l= .ok s l'):isName l=true∧s=(hd l).tk.t∧l'=l.tail:=by
 unfold nameP at h
 split at h
 ·rename_i h1;cases h;exact ⟨h1,rfl,rfl⟩
 ·cases h
theorem num_okE {l l':List Tok} {n:Nat} (h:numP l= .ok n l'):isNum l=true∧n=(hd l).tk.n∧l'=l.tail:=by
 unfold numP at h
 split at h
 ·rename_i h1;cases h;exact ⟨h1,rfl,rfl⟩
 ·cases h
def LX (l:List Tok):Prop:=AllV l∧WF l
theorem LX.tl {l:List Tok} (h:LX l) (hw:WF l.tail):LX l.tail:=⟨fun t ht=>h.1 t (List.mem_of_mem_tail ht),hw⟩
theorem LX.t {l:List Tok} {g:List UInt8} (h:LX l) (ht:isT g l=true) (hg:g≠ []):LX l.tail:=h.tl (h.2.isT ht hg)
theorem LX.name {l:List Tok} (h:LX l) (hn:isName l=true):NameOK (hd l).tk.t∧isKw (hd l).tk.t=false∧LX l.tail:=by
 refine ⟨(h.1 _ (hd_mem h.2)).1 (name_ne hn), ?_,h.tl (h.2.isName hn)⟩
 unfold isName at hn
 simp only [Bool.and_eq_true,Bool.not_eq_true'] at hn
 exact hn.2
theorem LX.num {l:List Tok} (h:LX l) (hn:isNum l=true):(hd l).tk.n<18446744073709551616∧LX l.tail:=⟨(h.1 _ (hd_mem h.2)).2 (num_ne hn),h.tl (h.2.isNum hn)⟩
theorem LX.bin {n d:Nat} {l l':List Tok} {a:EA} (h:LX l) (e:bin n 1 d l= .ok a l'):VE a∧OkD a d∧LX l':=by
 obtain ⟨h1,h2,h3,h4⟩:=ok_bin h.1 h.2 e
 exact ⟨h1,h2,h3,h4⟩
theorem need_LX {g:List UInt8} {l l':List Tok} {u:Unit} (hl:LX l) (h:need g l= .ok u l') (hg:g≠ []):LX l':=by
 obtain ⟨h1,rfl⟩:=need_okE h
 exact hl.t h1 hg
def isElem:TA→Bool
 | .int _ _=>true
 | .ref _ _=>true
 |_=>false
def clen:TA→Nat
 | .snoc cs _ _=>clen cs+1
 |_=>0
def OkTD:TA→Nat→Prop
 | .int _ _,_=>True
 | .ref _ es,d=>(∀e∈es,OkD e d)∧es.length≤64
 | .idx _ e,d=>OkD e d
 | .win _ e t,d=>OkD e d∧d<32∧OkTD t (d+1)
 | .rest t,d=>d<32∧OkTD t (d+1)
 | .leaf _,_=>True
 | .arr t e,d=>OkTD t d∧OkD e d∧isElem t=true
 | .sw e cs els,d=>OkD e d∧OkTD cs d∧clen cs≤64∧(els.isNil=false→d<32∧OkTD els (d+1))
 | .nil,_=>True
 | .snoc cs _ t,d=>OkTD cs d∧d<32∧OkTD t (d+1)
theorem ok_idx {n d:Nat} {l l':List Tok} {a:EA} (hl:LX l) (h:idxP n d l= .ok a l'):VE a∧OkD a d∧LX l':=by
 unfold idxP at h
 obtain ⟨u,l1,h1,h⟩:=bind_okE h
 have k1:=need_LX hl h1 (by decide)
 obtain ⟨e,l2,h2,h⟩:=bind_okE h
 obtain ⟨k2,k3,k4⟩:=k1.bin h2
 obtain ⟨u2,l3,h3,h⟩:=bind_okE h
 cases h
 exact ⟨k2,k3,need_LX k4 h3 (by decide)⟩
theorem ok_argsL: ∀(n:Nat) (es:List EA) (d:Nat) (l:List Tok) (es':List EA) (l':List Tok),LX l→(∀e∈es,VE e∧OkD e d)→es.length≤64→argsL n es d l= .ok es' l'→(∀e∈es',VE e∧OkD e d)∧es'.length≤64∧LX l'∧(es≠ []→es'≠ [])
 |0,es,d,l,es',l',hl,hv,hn,h=>by rw [argsL] at h;cases h
 |n+1,es,d,l,es',l',hl,hv,hn,h=>by
  rw [argsL] at h
  by_cases hc:isT sComma l=true
  ·rw [if_pos hc] at h
   have k0:=hl.t hc (by decide)
   obtain ⟨u,l1,h1,h⟩:=bind_okE h
   obtain ⟨rfl, -⟩:=expect_same h1
   obtain ⟨u2,l2,h2,h⟩:=bind_okE h
   obtain ⟨rfl,h64⟩:=room_same h2
   obtain ⟨e,l3,h3,h⟩:=bind_okE h
   obtain ⟨k1,k2,k3⟩:=k0.bin h3
   obtain ⟨m1,m2,m3,m4⟩:=ok_argsL n (es++ [e]) d l3 es' l' k3 (fun x hx=>by
    rcases List.mem_append.1 hx with hx|hx
    ·exact hv x hx
    ·rw [List.mem_singleton.1 hx];exact ⟨k1,k2⟩) (by simp;omega) h
   exact ⟨m1,m2,m3,fun _=>m4 (by simp)⟩
  ·rw [if_neg hc] at h
   cases h
   exact ⟨hv,hn,hl,id⟩
theorem ok_args {n d:Nat} {l l':List Tok} {es:List EA} (hl:LX l) (h:argsP n d l= .ok es l'):(∀e∈es,VE e∧OkD e d)∧es.length≤64∧LX l'∧es≠ []:=by
 unfold argsP at h
 obtain ⟨e,l1,h1,h⟩:=bind_okE h
 obtain ⟨k1,k2,k3⟩:=hl.bin h1
 obtain ⟨es2,l2,h2,h⟩:=bind_okE h
 obtain ⟨m1,m2,m3,m4⟩:=ok_argsL n [e] d l1 es2 l2 k3 (fun x hx=>by rw [List.mem_singleton.1 hx];exact ⟨k1,k2⟩) (by simp) h2
 obtain ⟨u,l3,h3,h⟩:=bind_okE h
 cases h
 exact ⟨m1,m2,need_LX m3 h3 (by decide),m4 (by simp)⟩
theorem intW_mem {t:List UInt8} {q:Nat×Bool} (h:intW t=some q):q∈intsL.map (·.2):=by
 unfold intW at h
 obtain ⟨x,hx,rfl⟩:=Option.map_eq_some_iff.1 h
 exact List.mem_map.2 ⟨x,List.mem_of_find?_eq_some hx,rfl⟩
def PT (t:TA) (d:Nat) (l:List Tok):Prop:=VT t∧OkT t false∧OkTD t d∧LX l
theorem ok_single {n d:Nat} {l l':List Tok} {t:TA} (hl:LX l) (hs:(intW (hd l).tk.t).isSome=true∨isName l=true) (h:singleP n d l= .ok t l'):PT t d l'∧isElem t=true:=by
 unfold singleP at h
 cases hi:intW (hd l).tk.t with
 |some q=>
  obtain ⟨z,li⟩:=q
  rw [hi] at h
  cases h
  exact ⟨⟨intW_mem hi,rfl,trivial,hl.tl (hl.2.tailT (intW_ne hi))⟩,rfl⟩
 |none=>
  rw [hi] at h hs
  have hn:isName l=true:=hs.resolve_left (by simp)
  obtain ⟨k1,k2,k3⟩:=hl.name hn
  by_cases hp:isT sLp l.tail=true
  ·simp only [hp,if_true] at h
   obtain ⟨es,l1,h1,h⟩:=bind_okE h
   cases h
   obtain ⟨m1,m2,m3, -⟩:=ok_args (k3.t hp (by decide)) h1
   exact ⟨⟨⟨k1,k2,fun e he=>(m1 e he).1⟩,rfl,⟨fun e he=>(m1 e he).2,m2⟩,m3⟩,rfl⟩
  ·simp only [hp,if_false,Bool.false_eq_true] at h
   cases h
   exact ⟨⟨⟨k1,k2,fun e he=>by cases he⟩,rfl,⟨fun e he=>(by cases he),by simp⟩,k3⟩,rfl⟩
theorem ok_elem {n d:Nat} {l l':List Tok} {t:TA} (hl:LX l) (hs:(intW (hd l).tk.t).isSome=true∨isName l=true) (h:elemP n d l= .ok t l'):PT t d l':=by
 unfold elemP at h
 obtain ⟨t0,l1,h1,h⟩:=bind_okE h
 obtain ⟨⟨k1,k2,k3,k4⟩,k5⟩:=ok_single hl hs h1
 split at h
 ·obtain ⟨e,l2,h2,h⟩:=bind_okE h
  cases h
  obtain ⟨m1,m2,m3⟩:=ok_idx k4 h2
  exact ⟨⟨k1,m1⟩,⟨rfl,k2⟩,⟨k3,m2,k5⟩,m3⟩
 ·cases h
  exact ⟨k1,k2,k3,k4⟩
def PC (t:TA) (d:Nat) (l:List Tok):Prop:=VT t∧OkT t true∧OkTD t d∧LX l∧clen t≤64
theorem ok_types: ∀n,(∀d l t l',LX l→typP n d l= .ok t l'→PT t d l')∧(∀d l t l',LX l→innerP n d l= .ok t l'→d<32∧PT t (d+1) l')∧(∀d l t l',LX l→branchP n d l= .ok t l'→d<32∧PT t (d+1) l')∧
  (∀d k cs l t l',LX l→PC cs d l→clen cs=k→casesL n d k cs l= .ok t l'→PC t d l')∧(∀d l t l',LX l→switchP n d l= .ok t l'→PT t d l')
 |0=>⟨fun d l t l' _ h=>(by rw [typP] at h;cases h),fun d l t l' _ h=>(by rw [innerP] at h;cases h),fun d l t l' _ h=>(by rw [branchP] at h;cases h),fun d k cs l t l' _ _ _ h=>(by rw [casesL] at h;cases h),fun d l t l' _ h=>(by rw [switchP] at h;cases h)⟩
 |n+1=>by
  obtain ⟨i1,i2,i3,i4,i5⟩:=ok_types n
  refine ⟨fun d l t l' hl h=> ?_,fun d l t l' hl h=> ?_,fun d l t l' hl h=> ?_,fun d k cs l t l' hl hc hk h=> ?_,fun d l t l' hl h=> ?_⟩
  ·rw [typP] at h
   by_cases hb:begT l=false
   ·rw [if_pos hb] at h;cases h
   ·rw [if_neg hb] at h
    by_cases h1:isT kBytes l=true
    ·rw [if_pos h1] at h
     obtain ⟨e,l1,h2,h⟩:=bind_okE h
     cases h
     obtain ⟨m1,m2,m3⟩:=ok_idx (hl.t h1 (by decide)) h2
     exact ⟨m1,⟨rfl, .inl rfl⟩,m2,m3⟩
    ·rw [if_neg h1] at h
     by_cases h1:isT kZero l=true
     ·rw [if_pos h1] at h
      obtain ⟨e,l1,h2,h⟩:=bind_okE h
      cases h
      obtain ⟨m1,m2,m3⟩:=ok_idx (hl.t h1 (by decide)) h2
      exact ⟨m1,⟨rfl, .inr (.inl rfl)⟩,m2,m3⟩
     ·rw [if_neg h1] at h
      by_cases h1:isT kSkip l=true
      ·rw [if_pos h1] at h
       obtain ⟨e,l1,h2,h⟩:=bind_okE h
       cases h
       obtain ⟨m1,m2,m3⟩:=ok_idx (hl.t h1 (by decide)) h2
       exact ⟨m1,⟨rfl, .inr (.inr rfl)⟩,m2,m3⟩
      ·rw [if_neg h1] at h
       by_cases h1:isT kWindow l=true
       ·rw [if_pos h1] at h
        obtain ⟨e,l1,h2,h⟩:=bind_okE h
        obtain ⟨m1,m2,m3⟩:=ok_idx (hl.t h1 (by decide)) h2
        obtain ⟨t2,l2,h3,h⟩:=bind_okE h
        cases h
        obtain ⟨p1,p2,p3,p4,p5⟩:=i2 _ _ _ _ m3 h3
        exact ⟨⟨m1,p2⟩,⟨rfl, .inl rfl,p3⟩,⟨m2,p1,p4⟩,p5⟩
       ·rw [if_neg h1] at h
        by_cases h1:isT kAt l=true
        ·rw [if_pos h1] at h
         obtain ⟨e,l1,h2,h⟩:=bind_okE h
         obtain ⟨m1,m2,m3⟩:=ok_idx (hl.t h1 (by decide)) h2
         obtain ⟨t2,l2,h3,h⟩:=bind_okE h
         cases h
         obtain ⟨p1,p2,p3,p4,p5⟩:=i2 _ _ _ _ m3 h3
         exact ⟨⟨m1,p2⟩,⟨rfl, .inr rfl,p3⟩,⟨m2,p1,p4⟩,p5⟩
        ·rw [if_neg h1] at h
         by_cases h1:isT kRest l=true
         ·rw [if_pos h1] at h
          obtain ⟨t2,l2,h3,h⟩:=bind_okE h
          cases h
          obtain ⟨p1,p2,p3,p4,p5⟩:=i2 _ _ _ _ (hl.t h1 (by decide)) h3
          exact ⟨p2,⟨rfl,p3⟩,⟨p1,p4⟩,p5⟩
         ·rw [if_neg h1] at h
          by_cases h1:isT kTail l=true
          ·rw [if_pos h1] at h
           cases h
           exact ⟨trivial,⟨rfl, .inl rfl⟩,trivial,hl.t h1 (by decide)⟩
          ·rw [if_neg h1] at h
           by_cases h1:isT kNone l=true
           ·rw [if_pos h1] at h
            cases h
            exact ⟨trivial,⟨rfl, .inr rfl⟩,trivial,hl.t h1 (by decide)⟩
           ·rw [if_neg h1] at h
            by_cases h2:isT kSwitch l=true
            ·rw [if_pos h2] at h
             exact i5 _ _ _ _ (hl.t h2 (by decide)) h
            ·rw [if_neg h2] at h
             refine ok_elem hl ?_ h
             cases hs:(intW (hd l).tk.t).isSome
             ·right
              cases hn:isName l
              ·exfalso
               apply hb
               unfold begT
               rw [hs,hn]
               unfold isT at*
               simp_all [tyW]
              ·rfl
             ·exact .inl rfl
  ·rw [innerP] at h
   obtain ⟨u,l1,h1,h⟩:=bind_okE h
   obtain ⟨rfl, -,hd32⟩:=enter_same h1
   rw [h1,PR.bind_ok] at h
   exact ⟨hd32,i1 _ _ _ _ hl h⟩
  ·rw [branchP] at h
   obtain ⟨u,l1,h1,h⟩:=bind_okE h
   obtain ⟨t2,l2,h2,h⟩:=bind_okE h
   obtain ⟨u3,l3,h3,h⟩:=bind_okE h
   cases h
   obtain ⟨p1,p2,p3,p4,p5⟩:=i2 _ _ _ _ (need_LX hl h1 (by decide)) h2
   exact ⟨p1,p2,p3,p4,need_LX p5 h3 (by decide)⟩
  ·rw [casesL] at h
   by_cases h1:isT kCase l=true
   ·rw [if_pos h1] at h
    obtain ⟨u,l1,h2,h⟩:=bind_okE h
    obtain ⟨-,h64⟩:=room_same h2
    obtain ⟨v,l2,h3,h⟩:=bind_okE h
    obtain ⟨h4,rfl,rfl⟩:=num_okE h3
    obtain ⟨q1,q2⟩:=(hl.t h1 (by decide)).num h4
    obtain ⟨t2,l3,h5,h⟩:=bind_okE h
    obtain ⟨p1,p2,p3,p4,p5⟩:=i3 _ _ _ _ q2 h5
    obtain ⟨c1,c2,c3,c4,c5⟩:=hc
    exact i4 _ _ (.snoc cs (hd l.tail).tk.n t2) _ _ _ p5 ⟨⟨c1,q1,p2⟩,⟨rfl,c2,p3⟩,⟨c3,p1,p4⟩,p5,by unfold clen;omega⟩ (by show clen cs+1=k+1;omega) h
   ·rw [if_neg h1] at h
    cases h
    exact hc
  ·rw [switchP] at h
   obtain ⟨u,l1,h1,h⟩:=bind_okE h
   obtain ⟨e,l2,h2,h⟩:=bind_okE h
   obtain ⟨m1,m2,m3⟩:=(need_LX hl h1 (by decide)).bin h2
   obtain ⟨u3,l3,h3,h⟩:=bind_okE h
   obtain ⟨u4,l4,h4,h⟩:=bind_okE h
   have k4:=need_LX (need_LX m3 h3 (by decide)) h4 (by decide)
   obtain ⟨cs,l5,h5,h⟩:=bind_okE h
   obtain ⟨c1,c2,c3,c4,c5⟩:=i4 _ _ .nil _ _ _ k4 ⟨trivial,rfl,trivial,k4,by show 0≤64;omega⟩ rfl h5
   by_cases h6:isT kElse l5=true
   ·rw [if_pos h6] at h
    obtain ⟨t2,l6,h7,h⟩:=bind_okE h
    obtain ⟨p1,p2,p3,p4,p5⟩:=i3 _ _ _ _ (c4.t h6 (by decide)) h7
    obtain ⟨u8,l8,h8,h⟩:=bind_okE h
    cases h
    exact ⟨⟨m1,c1,p2⟩,⟨rfl,c2,fun _=>p3⟩,⟨m2,c3,c5,fun _=>⟨p1,p4⟩⟩,need_LX p5 h8 (by decide)⟩
   ·rw [if_neg h6] at h
    obtain ⟨u8,l8,h8,h⟩:=bind_okE h
    cases h
    exact ⟨⟨m1,c1,trivial⟩,⟨rfl,c2,fun e=>by cases e⟩,⟨m2,c3,c5,fun e=>by cases e⟩,need_LX c4 h8 (by decide)⟩
def FolT (r:List Tok):Prop:=isT sLp r=false∧isT sLb r=false
theorem hdT {t:Tok} {l:List Tok} {V:Tk} (h:t.tk=V) (g:List UInt8):isT g (t::l)=decide (V.t=g):=by
 unfold isT
 rw [show hd (t::l)=t from rfl,h]
theorem lvl_hd {t:Tok} {l:List Tok} {V:Tk} (h:t.tk=V) (h0:levelL V.t=0):levelL (hd (t::l)).tk.t=0:=by
 rw [show hd (t::l)=t from rfl,h];exact h0
theorem rt_idx {e:EA} (v:VE e) {n d:Nat} {x r:List Tok} (h:x.map (·.tk)=sg [91]::(ktE e++ [sg [93]])) (hw:WF (x++r)) (hr:r≠ []) (o:OkD e d) (hn:8*(x++r).length≤n):idxP n d (x++r)= .ok e r:=by
 obtain ⟨t,x2,rfl,h1,h2⟩:=tk_cons h
 obtain ⟨x3,x4,rfl,h3,h4⟩:=tk_split h2
 obtain ⟨t2,x5,rfl,h5,h6⟩:=tk_cons h4
 obtain rfl:=tk_nil h6
 rw [List.cons_append] at hw hn ⊢
 have hw2:WF (x3++ [t2]++r):=hw.isT (g:=sLb) (isT_hd (by rw [h1];rfl)) (by decide)
 unfold idxP
 rw [need_hd (by rw [h1];rfl),PR.bind_ok]
 rw [List.append_assoc] at hw2 hn ⊢
 rw [rt_bin v h3 hw2 (by simp) o (lvl_hd h5 (by decide)) (by simp only [List.length_cons] at hn;omega),PR.bind_ok]
 show (need sRb (t2::r)).bind _=_
 rw [need_hd (by rw [h5];rfl),PR.bind_ok]
theorem rt_argsL: ∀(es:List EA) (n:Nat) (es0:List EA) (d:Nat) (x r:List Tok),(∀e∈es,VE e∧OkD e d)→es0.length+es.length≤64→x.map (·.tk)=(es.flatMap fun y=>sg [44]::ktE y)→WF (x++r)→r≠ []→isT sComma r=false→levelL (hd r).tk.t=0→8*(x++r).length+1≤n→argsL n es0 d (x++r)= .ok (es0++es) r
 | [],n,es0,d,x,r,v,hl,h,hw,hr,hc,h0,hn=>by
  obtain rfl:=tk_nil h
  obtain ⟨n,rfl⟩: ∃n',n=n'+1:=⟨n - 1,by omega⟩
  rw [List.nil_append,argsL,if_neg (by rw [hc];decide),List.append_nil]
 |e::es,n,es0,d,x,r,v,hl,h,hw,hr,hc,h0,hn=>by
  rw [List.flatMap_cons,List.cons_append] at h
  obtain ⟨t,x2,rfl,h1,h2⟩:=tk_cons h
  obtain ⟨x3,x4,rfl,h3,h4⟩:=tk_split h2
  obtain ⟨n,rfl⟩: ∃n',n=n'+1:=⟨n - 1,by omega⟩
  obtain ⟨v1,v2⟩:=v e (by simp)
  rw [List.length_cons] at hl
  rw [List.cons_append] at hw hn ⊢
  have hw2:WF (x3++x4++r):=hw.isT (g:=sComma) (isT_hd (by rw [h1];rfl)) (by decide)
  rw [argsL,if_pos (isT_hd (by rw [h1];rfl))]
  show (expectP (begE (x3++x4++r)) (x3++x4++r)).bind _=_
  rw [show begE (x3++x4++r)=true by rw [List.append_assoc];exact (begE_tk e v1 x3 (x4++r) [] (by rw [List.append_nil];exact h3)).1]
  rw [List.append_assoc] at hw2 hn ⊢
  have hne:x4++r≠ []:=by simp [hr]
  have h0':levelL (hd (x4++r)).tk.t=0:=by
   cases es with
   |nil=>
    obtain rfl:=tk_nil h4
    exact h0
   |cons _ _=>
    rw [List.flatMap_cons,List.cons_append] at h4
    obtain ⟨t3,x5,rfl,h5,h6⟩:=tk_cons h4
    exact lvl_hd h5 (by decide)
  have hlen:(x4++r).length≤(x3++(x4++r)).length:=by simp
  unfold expectP roomP
  rw [if_pos rfl,PR.bind_ok,if_neg (by omega),PR.bind_ok,rt_bin v1 h3 hw2 hne v2 h0' (by simp only [List.length_cons] at hn;omega),PR.bind_ok]
  rw [rt_argsL es n (es0++ [e]) d x4 r (fun y hy=>v y (by simp [hy])) (by simp;omega) h4 (hw2.drop hne) hr hc h0 (by simp only [List.length_cons] at hn;omega)]
  simp
theorem rt_args {es:List EA} (hne:es≠ []) {n d:Nat} {t:Tok} {x r:List Tok} (v: ∀e∈es,VE e∧OkD e d) (hl:es.length≤64) (h:(t::x).map (·.tk)=ktL ktE es) (hw:WF (x++r)) (hr:r≠ []) (hn:8*(x++r).length+2≤n):argsP n d (x++r)= .ok es r:=by
 cases es with
 |nil=>exact absurd rfl hne
 |cons e es=>
  unfold ktL at h
  rw [List.map_cons,List.cons.injEq] at h
  obtain ⟨h0,h⟩:=h
  obtain ⟨x1,x2,rfl,h1,h2⟩:=tk_split h
  obtain ⟨x3,x4,rfl,h3,h4⟩:=tk_split h2
  obtain ⟨t2,x5,rfl,h5,h6⟩:=tk_cons h4
  obtain rfl:=tk_nil h6
  obtain ⟨v1,v2⟩:=v e (by simp)
  rw [List.length_cons] at hl
  have e1:x1++(x3++ [t2])++r=x1++(x3++(t2::r)):=by simp
  rw [e1] at hw hn ⊢
  have hw2:WF (x3++(t2::r)):=hw.drop (by simp)
  have h0':levelL (hd (x3++(t2::r))).tk.t=0:=by
   cases es with
   |nil=>
    obtain rfl:=tk_nil h3
    exact lvl_hd h5 (by decide)
   |cons _ _=>
    rw [List.flatMap_cons,List.cons_append] at h3
    obtain ⟨t3,x5,rfl,h7,h6⟩:=tk_cons h3
    exact lvl_hd h7 (by decide)
  have hlen:(x3++(t2::r)).length≤(x1++(x3++(t2::r))).length:=by simp
  unfold argsP
  rw [rt_bin v1 h1 hw (by simp) v2 h0' hn,PR.bind_ok]
  rw [rt_argsL es n [e] d x3 (t2::r) (fun y hy=>v y (by simp [hy])) (by simp;omega) h3 hw2 (by simp) (by rw [hdT h5];decide) (lvl_hd h5 (by decide)) (by omega),PR.bind_ok]
  show (need sRp (t2::r)).bind _=_
  rw [need_hd (by rw [h5];rfl),PR.bind_ok]
  rfl
theorem kw_not {s:List UInt8} (h:isKw s=false):(∀g∈kwL,s≠g)∧intW s=none:=by
 unfold isKw at h
 simp only [Bool.or_eq_false_iff] at h
 refine ⟨fun g hg e=> ?_,by simpa using h.2⟩
 subst e
 have:=h.1
 rw [←Bool.not_eq_true] at this
 exact this (List.contains_iff_mem.2 hg)
theorem isName_hd {t:Tok} {l:List Tok} {s:List UInt8} (h:t.tk=wd s) (hk:isKw s=false):isName (t::l)=true:=by
 unfold isName
 rw [show hd (t::l)=t from rfl,h]
 simp [wd,hk]
theorem nameP_hd {t:Tok} {l:List Tok} {s:List UInt8} (h:t.tk=wd s) (hk:isKw s=false):nameP (t::l)= .ok s l:=by
 unfold nameP
 rw [if_pos (isName_hd h hk),show hd (t::l)=t from rfl,h]
 rfl
theorem numP_hd {t:Tok} {l:List Tok} {n:Nat} (h:t.tk=nmT n):numP (t::l)= .ok n l:=by
 unfold numP isNum
 rw [show hd (t::l)=t from rfl,h]
 rfl
theorem rt_single {t:TA} (v:VT t) {n d:Nat} {x r:List Tok} (he:isElem t=true) (h:x.map (·.tk)=ktT t) (hw:WF (x++r)) (hr:r≠ []) (o:OkTD t d) (hf:isT sLp r=false) (hn:8*(x++r).length≤n):singleP n d (x++r)= .ok t r:=by
 cases t with
 |int z li=>
  obtain ⟨t,x2,rfl,h1,h2⟩:=tk_cons h
  obtain rfl:=tk_nil h2
  unfold singleP
  rw [List.singleton_append,show (hd (t::r)).tk.t=wordN z li by rw [show hd (t::r)=t from rfl,h1];rfl,(int_wd8 _ v).2.1]
  rfl
 |ref s es=>
  obtain ⟨t,x2,rfl,h1,h2⟩:=tk_cons h
  unfold singleP
  rw [List.cons_append] at hw hn ⊢
  rw [show (hd (t::(x2++r))).tk.t=s by rw [show hd (t::(x2++r))=t from rfl,h1];rfl,(kw_not v.2.1).2]
  show (if isT sLp (x2++r)=true then (argsP n d (x2++r).tail).bind fun es l1=> .ok (TA.ref s es) l1 else .ok (TA.ref s []) (x2++r))=_
  cases es with
  |nil=>
   obtain rfl:=tk_nil h2
   rw [List.nil_append,if_neg (by rw [hf];decide)]
  |cons e es=>
   have h2':=h2
   unfold ktL at h2'
   obtain ⟨t2,x3,rfl,h3,h4⟩:=tk_cons h2'
   have hw2:WF (t2::x3++r):=hw.tailT (by rw [show hd (t::(t2::x3++r))=t from rfl,h1];exact v.1.ne)
   rw [List.cons_append] at hw2
   have hp:isT sLp (t2::(x3++r))=true:=isT_hd (by rw [h3];rfl)
   rw [List.cons_append,if_pos hp]
   show (argsP n d (x3++r)).bind _=_
   rw [rt_args (by simp) (fun y hy=>⟨v.2.2 y hy,o.1 y hy⟩) o.2 h2 (hw2.isT hp (by decide)) hr (by simp only [List.length_cons,List.cons_append] at hn;omega),PR.bind_ok]
 |idx k e=>cases he
 |win k e t=>cases he
 |rest t=>cases he
 |leaf k=>cases he
 |arr t e=>cases he
 |sw e cs els=>cases he
 |nil=>cases he
 |snoc cs n t=>cases he
theorem elem_hd {t:TA} (v:VT t) (he:isElem t=true) {x:List Tok} (r:List Tok) {rest:List Tk} (h:x.map (·.tk)=ktT t++rest): ∃s,(hd (x++r)).tk.t=s∧(∀g∈tyW,s≠g)∧begT (x++r)=true:=by
 cases t with
 |int z li=>
  obtain ⟨t,x2,rfl,h1,h2⟩:=tk_cons h
  refine ⟨wordN z li,by rw [List.cons_append,show hd (t::(x2++r))=t from rfl,h1];rfl,fun g hg e=> ?_, ?_⟩
  ·have:=(int_wd8 _ v).2.2.1
   rw [←Bool.not_eq_true] at this
   exact this (List.contains_iff_mem.2 (by rw [show wordN (z,li).1 (z,li).2=g from e];exact hg))
  ·unfold begT
   rw [List.cons_append,show hd (t::(x2++r))=t from rfl,h1]
   show (_||(intW (wordN z li)).isSome||_)=true
   rw [(int_wd8 _ v).2.1]
   simp
 |ref s es=>
  obtain ⟨t,x2,rfl,h1,h2⟩:=tk_cons h
  refine ⟨s,by rw [List.cons_append,show hd (t::(x2++r))=t from rfl,h1];rfl,fun g hg=>(kw_not v.2.1).1 g ?_, ?_⟩
  ·have key: ∀g∈tyW,g∈kwL:=by decide
   exact key g hg
  ·unfold begT
   rw [List.cons_append,isName_hd h1 v.2.1]
   simp
 |idx k e=>cases he
 |win k e t=>cases he
 |rest t=>cases he
 |leaf k=>cases he
 |arr t e=>cases he
 |sw e cs els=>cases he
 |nil=>cases he
 |snoc cs n t=>cases he
theorem typ_elem8 {n d:Nat} {l:List Tok} {s:List UInt8} (hb:begT l=true) (hs:(hd l).tk.t=s) (h: ∀g∈tyW,s≠g):typP (n+1) d l=elemP n d l:=by
 have hh: ∀g∈tyW,isT g l=false:=fun g hg=>decide_eq_false (by rw [hs];exact h g hg)
 rw [typP,if_neg (by rw [hb];decide),hh kBytes (by decide),hh kZero (by decide),hh kSkip (by decide),hh kWindow (by decide),hh kAt (by decide),hh kRest (by decide),hh kTail (by decide),hh kNone (by decide),hh kSwitch (by decide)]
 rfl
theorem begT_wd8 {t:Tok} {l:List Tok} {g:List UInt8} (h:t.tk=wd g) (hg:g∈tyW):begT (t::l)=true:=by
 unfold begT
 rw [show hd (t::l)=t from rfl,h]
 show (tyW.contains g||_||_)=true
 rw [List.contains_iff_mem.2 hg]
 rfl
theorem begT_tk: ∀(t:TA),VT t→OkT t false→∀(x r:List Tok) (rest:List Tk),x.map (·.tk)=ktT t++rest→(∀u e,t= .arr u e→isElem u=true)→begT (x++r)=true:=by
 intro t v o x r rest h harr
 cases t with
 |int z li=>exact (elem_hd v rfl r h).choose_spec.2.2
 |ref s es=>exact (elem_hd v rfl r h).choose_spec.2.2
 |arr u e=>
  unfold ktT at h
  rw [List.append_assoc] at h
  exact (elem_hd v.1 (harr u e rfl) r h).choose_spec.2.2
 |idx k e=>
  obtain ⟨t,x2,rfl,h1,h2⟩:=tk_cons h
  refine begT_wd8 h1 ?_
  obtain ⟨-,rfl|rfl|rfl⟩:=o<;>decide
 |win k e u=>
  obtain ⟨t,x2,rfl,h1,h2⟩:=tk_cons h
  refine begT_wd8 h1 ?_
  obtain ⟨-,rfl|rfl, -⟩:=o<;>decide
 |rest u=>
  obtain ⟨t,x2,rfl,h1,h2⟩:=tk_cons h
  exact begT_wd8 h1 (by decide)
 |leaf k=>
  obtain ⟨t,x2,rfl,h1,h2⟩:=tk_cons h
  refine begT_wd8 h1 ?_
  split<;>decide
 |sw e cs els=>
  obtain ⟨t,x2,rfl,h1,h2⟩:=tk_cons h
  exact begT_wd8 h1 (by decide)
 |nil=>cases o
 |snoc cs n u=>cases o.1
theorem ok_arr {t:TA} {d:Nat} (o:OkTD t d): ∀u e,t= .arr u e→isElem u=true:=fun u e h=>by
 subst h;exact o.2.2
theorem rtT: ∀(t:TA),VT t→
  (OkT t false→∀(d n:Nat) (x r:List Tok),x.map (·.tk)=ktT t→WF (x++r)→r≠ []→OkTD t d→FolT r→8*(x++r).length+1≤n→typP n d (x++r)= .ok t r)∧
  (OkT t true→∀(d n:Nat) (x r:List Tok),x.map (·.tk)=ktT t→WF (x++r)→r≠ []→OkTD t d→clen t≤64→8*(x++r).length≤n→∃m,8*r.length≤m∧casesL n d 0 .nil (x++r)=casesL m d (clen t) t r)
 | .int z li,v=>by
  refine ⟨fun _ d n x r h hw hr o hf hn=> ?_,fun o=>by cases o⟩
  obtain ⟨n,rfl⟩: ∃n',n=n'+1:=⟨n - 1,by omega⟩
  obtain ⟨s,e1,e2,e3⟩:=elem_hd (t:=TA.int z li) v rfl r (rest:= []) (by rw [List.append_nil];exact h)
  rw [typ_elem8 e3 e1 e2]
  unfold elemP
  rw [rt_single (t:=TA.int z li) v rfl h hw hr o hf.1 (by omega),PR.bind_ok,if_neg (by rw [hf.2];decide)]
 | .ref s es,v=>by
  refine ⟨fun _ d n x r h hw hr o hf hn=> ?_,fun o=>by cases o⟩
  obtain ⟨n,rfl⟩: ∃n',n=n'+1:=⟨n - 1,by omega⟩
  obtain ⟨s,e1,e2,e3⟩:=elem_hd (t:=TA.ref s es) v rfl r (rest:= []) (by rw [List.append_nil];exact h)
  rw [typ_elem8 e3 e1 e2]
  unfold elemP
  rw [rt_single (t:=TA.ref _ es) v rfl h hw hr o hf.1 (by omega),PR.bind_ok,if_neg (by rw [hf.2];decide)]
 | .arr u e,v=>by
  refine ⟨fun o' d n x r h hw hr o hf hn=> ?_,fun o=>by cases o.1⟩
  obtain ⟨n,rfl⟩: ∃n',n=n'+1:=⟨n - 1,by omega⟩
  unfold ktT at h
  obtain ⟨s,e1,e2,e3⟩:=elem_hd v.1 o.2.2 r h
  rw [typ_elem8 e3 e1 e2]
  obtain ⟨x1,x2,rfl,h1,h2⟩:=tk_split h
  have hb:isT sLb (x2++r)=true∧isT sLp (x2++r)=false:=by
   obtain ⟨t2,x3,rfl,h3,h4⟩:=tk_cons h2
   rw [List.cons_append,hdT h3,hdT h3]
   decide
  have hne:x2++r≠ []:=by simp [hr]
  rw [List.append_assoc] at hw hn ⊢
  have hlen:(x2++r).length≤(x1++(x2++r)).length:=by simp
  unfold elemP
  rw [rt_single v.1 o.2.2 h1 hw hne o.1 hb.2 (by omega),PR.bind_ok,if_pos hb.1,rt_idx v.2 h2 (hw.drop hne) hr o.2.1 (by omega),PR.bind_ok]
 | .idx k e,v=>by
  refine ⟨fun o' d n x r h hw hr o hf hn=> ?_,fun o=>by cases o.1⟩
  obtain ⟨n,rfl⟩: ∃n',n=n'+1:=⟨n - 1,by omega⟩
  obtain ⟨t,x2,rfl,h1,h2⟩:=tk_cons h
  rw [List.cons_append] at hw hn ⊢
  have hb:begT (t::(x2++r))=true:=begT_wd8 h1 (by obtain ⟨-,rfl|rfl|rfl⟩:=o'<;>decide)
  have hw2:WF (x2++r):=hw.tailT (by rw [show hd (t::(x2++r))=t from rfl,h1];obtain ⟨-,rfl|rfl|rfl⟩:=o'<;>decide)
  have hi:=rt_idx v (n:=n) h2 hw2 hr o (by simp only [List.length_cons] at hn;omega)
  rw [typP,if_neg (by rw [hb];decide)]
  simp only [hdT h1]
  obtain ⟨-,rfl|rfl|rfl⟩:=o'
  ·rw [if_pos (by decide)]
   show (idxP n d (x2++r)).bind _=_
   rw [hi,PR.bind_ok]
  ·rw [if_neg (by decide),if_pos (by decide)]
   show (idxP n d (x2++r)).bind _=_
   rw [hi,PR.bind_ok]
  ·rw [if_neg (by decide),if_neg (by decide),if_pos (by decide)]
   show (idxP n d (x2++r)).bind _=_
   rw [hi,PR.bind_ok]
 | .win k e u,v=>by
  refine ⟨fun o' d n x r h hw hr o hf hn=> ?_,fun o=>by cases o.1⟩
  obtain ⟨n,rfl⟩: ∃n',n=n'+1:=⟨n - 1,by omega⟩
  unfold ktT ktIdx at h
  obtain ⟨xi,x3,rfl,h5,h3⟩:=tk_split h
  obtain ⟨t,x2,rfl,h1,h2⟩:=tk_cons h5
  have e1:t::x2++x3++r=t::(x2++(x3++r)):=by simp
  rw [e1] at hw hn ⊢
  have hb:begT (t::(x2++(x3++r)))=true:=begT_wd8 h1 (by obtain ⟨-,rfl|rfl, -⟩:=o'<;>decide)
  have hw2:WF (x2++(x3++r)):=hw.tailT (by rw [show hd (t::(x2++(x3++r)))=t from rfl,h1];obtain ⟨-,rfl|rfl, -⟩:=o'<;>decide)
  have hne:x3++r≠ []:=by simp [hr]
  have hl2:(x3++r).length+2≤(x2++(x3++r)).length:=by
   have:2≤(x2.map (·.tk)).length:=by rw [h2];simp
   rw [List.length_map] at this
   rw [@List.length_append _ (x2) _]
   omega
  rw [List.length_cons] at hn
  have hi:=rt_idx v.1 (n:=n) h2 hw2 hne o.1 (by omega)
  have hin:innerP n d (x3++r)= .ok u r:=by
   obtain ⟨n,rfl⟩: ∃n',n=n'+1:=⟨n - 1,by omega⟩
   rw [innerP,enter_ok (begT_tk u v.2 o'.2.2 x3 r [] (by rw [List.append_nil];exact h3) (ok_arr o.2.2)) o.2.1,PR.bind_ok]
   exact (rtT u v.2).1 o'.2.2 (d+1) n x3 r h3 (hw2.drop hne) hr o.2.2 hf (by omega)
  rw [typP,if_neg (by rw [hb];decide)]
  simp only [hdT h1]
  obtain ⟨-,rfl|rfl, -⟩:=o'
  ·rw [if_neg (by decide),if_neg (by decide),if_neg (by decide),if_pos (by decide)]
   show (idxP n d (x2++(x3++r))).bind _=_
   rw [hi,PR.bind_ok,hin,PR.bind_ok]
  ·rw [if_neg (by decide),if_neg (by decide),if_neg (by decide),if_neg (by decide),if_pos (by decide)]
   show (idxP n d (x2++(x3++r))).bind _=_
   rw [hi,PR.bind_ok,hin,PR.bind_ok]
 | .rest u,v=>by
  refine ⟨fun o' d n x r h hw hr o hf hn=> ?_,fun o=>by cases o.1⟩
  obtain ⟨n,rfl⟩: ∃n',n=n'+1:=⟨n - 1,by omega⟩
  obtain ⟨t,x3,rfl,h1,h3⟩:=tk_cons h
  rw [List.cons_append] at hw hn ⊢
  have hb:begT (t::(x3++r))=true:=begT_wd8 h1 (by decide)
  have hw2:WF (x3++r):=hw.tailT (by rw [show hd (t::(x3++r))=t from rfl,h1];decide)
  rw [List.length_cons] at hn
  have hin:innerP n d (x3++r)= .ok u r:=by
   obtain ⟨n,rfl⟩: ∃n',n=n'+1:=⟨n - 1,by omega⟩
   rw [innerP,enter_ok (begT_tk u v o'.2 x3 r [] (by rw [List.append_nil];exact h3) (ok_arr o.2)) o.1,PR.bind_ok]
   exact (rtT u v).1 o'.2 (d+1) n x3 r h3 hw2 hr o.2 hf (by omega)
  rw [typP,if_neg (by rw [hb];decide)]
  simp only [hdT h1]
  rw [if_neg (by decide),if_neg (by decide),if_neg (by decide),if_neg (by decide),if_neg (by decide),if_pos (by decide)]
  show (innerP n d (x3++r)).bind _=_
  rw [hin,PR.bind_ok]
 | .leaf k,v=>by
  refine ⟨fun o' d n x r h hw hr o hf hn=> ?_,fun o=>by cases o.1⟩
  obtain ⟨n,rfl⟩: ∃n',n=n'+1:=⟨n - 1,by omega⟩
  obtain ⟨t,x3,rfl,h1,h3⟩:=tk_cons h
  obtain rfl:=tk_nil h3
  have hb:begT (t::r)=true:=begT_wd8 h1 (by split<;>decide)
  rw [List.singleton_append,typP,if_neg (by rw [hb];decide)]
  simp only [hdT h1]
  obtain ⟨-,rfl|rfl⟩:=o'
  ·rw [if_neg (by decide),if_neg (by decide),if_neg (by decide),if_neg (by decide),if_neg (by decide),if_neg (by decide),if_pos (by decide)]
   rfl
  ·rw [if_neg (by decide),if_neg (by decide),if_neg (by decide),if_neg (by decide),if_neg (by decide),if_neg (by decide),if_neg (by decide),if_pos (by decide)]
   rfl
 | .sw e cs els,v=>by
  refine ⟨fun o' d n x r h hw hr o hf hn=> ?_,fun o=>by cases o.1⟩
  obtain ⟨n,rfl⟩: ∃n',n=n'+1:=⟨n - 1,by omega⟩
  unfold ktT at h
  obtain ⟨t,x2,rfl,h1,h2⟩:=tk_cons h
  obtain ⟨t2,x3,rfl,h3,h4⟩:=tk_cons h2
  obtain ⟨xe,x4,rfl,h5,h6⟩:=tk_split h4
  obtain ⟨t3,x5,rfl,h7,h8⟩:=tk_cons h6
  obtain ⟨t4,x6,rfl,h9,h10⟩:=tk_cons h8
  obtain ⟨xc,x7,rfl,h11,h12⟩:=tk_split h10
  obtain ⟨xl,x8,rfl,h13,h14⟩:=tk_split h12
  obtain ⟨t5,x9,rfl,h15,h16⟩:=tk_cons h14
  obtain rfl:=tk_nil h16
  have e1:t::t2::(xe++t3::t4::(xc++(xl++ [t5])))++r=t::t2::(xe++(t3::t4::(xc++(xl++(t5::r))))):=by simp
  rw [e1] at hw hn ⊢
  have hb:begT (t::t2::(xe++(t3::t4::(xc++(xl++(t5::r))))))=true:=begT_wd8 h1 (by decide)
  have w2:WF (t2::(xe++(t3::t4::(xc++(xl++(t5::r)))))):=hw.isT (g:=kSwitch) (isT_hd (by rw [h1];rfl)) (by decide)
  have w3:WF (xe++(t3::t4::(xc++(xl++(t5::r))))):=w2.isT (g:=sLp) (isT_hd (by rw [h3];rfl)) (by decide)
  have w4:WF (t3::t4::(xc++(xl++(t5::r)))):=w3.drop (by simp)
  have w5:WF (t4::(xc++(xl++(t5::r)))):=w4.isT (g:=sRp) (isT_hd (by rw [h7];rfl)) (by decide)
  have w6:WF (xc++(xl++(t5::r))):=w5.isT (g:=sLc) (isT_hd (by rw [h9];rfl)) (by decide)
  have w7:WF (xl++(t5::r)):=w6.drop (by simp)
  have lc:(xl++(t5::r)).length≤(xc++(xl++(t5::r))).length:=by simp
  have le:(t3::t4::(xc++(xl++(t5::r)))).length≤(xe++(t3::t4::(xc++(xl++(t5::r))))).length:=by simp
  simp only [List.length_cons] at hn le
  rw [typP,if_neg (by rw [hb];decide)]
  simp only [hdT h1]
  rw [if_neg (by decide),if_neg (by decide),if_neg (by decide),if_neg (by decide),if_neg (by decide),if_neg (by decide),if_neg (by decide),if_neg (by decide),if_pos (by decide)]
  show switchP n d (t2::(xe++(t3::t4::(xc++(xl++(t5::r))))))=_
  obtain ⟨n,rfl⟩: ∃n',n=n'+1:=⟨n - 1,by omega⟩
  rw [switchP,need_hd (by rw [h3];rfl),PR.bind_ok,rt_bin v.1 h5 w3 (by simp) o.1 (lvl_hd h7 (by decide)) (by omega),PR.bind_ok,need_hd (by rw [h7];rfl),PR.bind_ok,need_hd (by rw [h9];rfl),PR.bind_ok]
  obtain ⟨m,hm,hc⟩:=(rtT cs v.2.1).2 o'.2.1 d n xc (xl++(t5::r)) h11 w6 (by simp) o.2.1 o.2.2.1 (by omega)
  rw [hc]
  have hlen7:0<(xl++(t5::r)).length:=by rw [List.length_append,List.length_cons];omega
  obtain ⟨m,rfl⟩: ∃m',m=m'+1:=⟨m - 1,by omega⟩
  by_cases hels:els.isNil=true
  ·rw [if_pos hels] at h13
   obtain rfl:=tk_nil h13
   have hnil:els= .nil:=by
    cases els with
    |nil=>rfl
    |_=>cases hels
   rw [List.nil_append,casesL,if_neg (by rw [hdT h15];decide),PR.bind_ok,if_neg (by rw [hdT h15];decide),need_hd (by rw [h15];rfl),PR.bind_ok,hnil]
  ·rw [if_neg hels] at h13
   have hels':els.isNil=false:=by simpa using hels
   obtain ⟨t6,x10,rfl,h17,h18⟩:=tk_cons h13
   obtain ⟨t7,x11,rfl,h19,h20⟩:=tk_cons h18
   obtain ⟨x12,x13,rfl,h21,h22⟩:=tk_split h20
   obtain ⟨t8,x14,rfl,h23,h24⟩:=tk_cons h22
   obtain rfl:=tk_nil h24
   have e2:t6::t7::(x12++ [t8])++(t5::r)=t6::t7::(x12++(t8::t5::r)):=by simp
   rw [e2] at w7 lc hm le hn ⊢
   have w8:WF (t7::(x12++(t8::t5::r))):=w7.isT (g:=kElse) (isT_hd (by rw [h17];rfl)) (by decide)
   have w9:WF (x12++(t8::t5::r)):=w8.isT (g:=sColon) (isT_hd (by rw [h19];rfl)) (by decide)
   simp only [List.length_cons] at lc
   have hb2:branchP n d (t7::(x12++(t8::t5::r)))= .ok els (t5::r):=by
    obtain ⟨n,rfl⟩: ∃n',n=n'+1:=⟨n - 1,by omega⟩
    rw [branchP,need_hd (by rw [h19];rfl),PR.bind_ok]
    obtain ⟨n,rfl⟩: ∃n',n=n'+1:=⟨n - 1,by omega⟩
    rw [innerP,enter_ok (begT_tk els v.2.2 (o'.2.2 hels') x12 (t8::t5::r) [] (by rw [List.append_nil];exact h21) (ok_arr (o.2.2.2 hels').2)) (o.2.2.2 hels').1,PR.bind_ok,
     (rtT els v.2.2).1 (o'.2.2 hels') (d+1) n x12 (t8::t5::r) h21 w9 (by simp) (o.2.2.2 hels').2 ⟨by rw [hdT h23];decide,by rw [hdT h23];decide⟩ (by omega),PR.bind_ok,need_hd (by rw [h23];rfl),PR.bind_ok]
   rw [casesL,if_neg (by rw [hdT h17];decide),PR.bind_ok,if_pos (by rw [hdT h17];decide)]
   show (branchP n d (t7::(x12++(t8::t5::r)))).bind _=_
   rw [hb2,PR.bind_ok,need_hd (by rw [h15];rfl),PR.bind_ok]
 | .nil,v=>by
  refine ⟨fun o=>(by cases o),fun _ d n x r h hw hr o hc hn=> ?_⟩
  obtain rfl:=tk_nil h
  exact ⟨n,hn,rfl⟩
 | .snoc cs k u,v=>by
  refine ⟨fun o=>(by cases o.1),fun o' d n x r h hw hr o hc hn=> ?_⟩
  unfold ktT at h
  obtain ⟨xc,x1,rfl,h1,h2⟩:=tk_split h
  obtain ⟨t,x2,rfl,h3,h4⟩:=tk_cons h2
  obtain ⟨t2,x3,rfl,h5,h6⟩:=tk_cons h4
  obtain ⟨t3,x4,rfl,h7,h8⟩:=tk_cons h6
  obtain ⟨x5,x6,rfl,h9,h10⟩:=tk_split h8
  obtain ⟨t4,x7,rfl,h11,h12⟩:=tk_cons h10
  obtain rfl:=tk_nil h12
  have e1:xc++t::t2::t3::(x5++ [t4])++r=xc++(t::t2::t3::(x5++(t4::r))):=by simp
  rw [e1] at hw hn ⊢
  have hcl:clen cs+1≤64:=hc
  obtain ⟨m,hm,hcs⟩:=(rtT cs v.1).2 o'.2.1 d n xc (t::t2::t3::(x5++(t4::r))) h1 hw (by simp) o.1 (by omega) hn
  simp only [List.length_cons] at hm
  have w1:WF (t::t2::t3::(x5++(t4::r))):=hw.drop (by simp)
  have w2:WF (t2::t3::(x5++(t4::r))):=w1.isT (g:=kCase) (isT_hd (by rw [h3];rfl)) (by decide)
  have w3:WF (t3::(x5++(t4::r))):=w2.tail (by rw [show hd (t2::t3::(x5++(t4::r)))=t2 from rfl,h5];exact (by decide:(1:Nat)≠3))
  have w4:WF (x5++(t4::r)):=w3.isT (g:=sColon) (isT_hd (by rw [h7];rfl)) (by decide)
  obtain ⟨m,rfl⟩: ∃m',m=m'+1:=⟨m - 1,by omega⟩
  have hl5:r.length+1≤(x5++(t4::r)).length:=by simp
  refine ⟨m,by omega, ?_⟩
  have hb2:branchP m d (t3::(x5++(t4::r)))= .ok u r:=by
   obtain ⟨m,rfl⟩: ∃m',m=m'+1:=⟨m - 1,by omega⟩
   rw [branchP,need_hd (by rw [h7];rfl),PR.bind_ok]
   obtain ⟨m,rfl⟩: ∃m',m=m'+1:=⟨m - 1,by omega⟩
   rw [innerP,enter_ok (begT_tk u v.2.2 o'.2.2 x5 (t4::r) [] (by rw [List.append_nil];exact h9) (ok_arr o.2.2)) o.2.1,PR.bind_ok,
    (rtT u v.2.2).1 o'.2.2 (d+1) m x5 (t4::r) h9 w4 (by simp) o.2.2 ⟨by rw [hdT h11];decide,by rw [hdT h11];decide⟩ (by omega),PR.bind_ok,need_hd (by rw [h11];rfl),PR.bind_ok]
  rw [hcs,casesL,if_pos (isT_hd (by rw [h3];rfl))]
  unfold roomP
  rw [if_neg (by omega),PR.bind_ok]
  show (numP (t2::t3::(x5++(t4::r)))).bind _=_
  rw [numP_hd h5,PR.bind_ok,hb2,PR.bind_ok]
  rfl
end Go.Proofs.YtomimkgaelkaoaaGreatDoor
