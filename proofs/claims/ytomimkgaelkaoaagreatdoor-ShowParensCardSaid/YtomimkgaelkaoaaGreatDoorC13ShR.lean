/- Layer 7, the mathematics: enough steps are enough; operators level by level. No program. · Layer 8, the mathematics: the tokens of a tree are parsed to it: expressions. No program. -/
import Derived.Test.YtomimkgaelkaoaaGreatDoorC13ParseQ
import Derived.Test.YtomimkgaelkaoaaGreatDoorC13ShL
set_option linter.unusedVariables false
set_option linter.unusedSimpArgs false
namespace Go.Proofs.YtomimkgaelkaoaaGreatDoor
theorem bind_same {α β:Type} {r r':PR α} {f f':α→List Tok→PR β} (h:r=r') (k: ∀a l,r= .ok a l→f a l=f' a l):r.bind f=r'.bind f':=by
 subst h
 cases r with
 |ok a l=>exact k a l rfl
 |bad l e=>rfl
theorem good_ok {α:Type} {s:Nat} {l l':List Tok} {r:PR α} {a:α} (h:Good s l r) (hw:WF l) (e:r= .ok a l'):WF l'∧l'.length+s≤l.length:=by
 have:=h hw
 rw [e] at this
 exact this
theorem expr_fuel: ∀n,(∀m d l,WF l→8*l.length+1≤n→8*l.length+1≤m→unary n d l=unary m d l)∧
  (∀m v d l,1≤v→WF l→8*l.length+2≤n→8*l.length+2≤m→bin n v d l=bin m v d l)∧
  (∀m v d a l,1≤v→WF l→8*l.length+2≤n→8*l.length+2≤m→loopB n v d a l=loopB m v d a l)
 |0=>⟨fun m d l _ h _=>by omega,fun m v d l _ _ h _=>by omega,fun m v d a l _ _ h _=>by omega⟩
 |n+1=>by
  obtain ⟨i1,i2,i3⟩:=expr_fuel n
  refine ⟨fun m d l hw h1 h2=> ?_,fun m v d l hv hw h1 h2=> ?_,fun m v d a l hv hw h1 h2=> ?_⟩
  ·obtain ⟨m,rfl⟩: ∃m',m=m'+1:=⟨m - 1,by omega⟩
   have hp:=hw.pos
   have htl:l.tail.length=l.length - 1:=List.length_tail
   rw [unary,unary]
   split
   ·rename_i h
    have hwt:=hw.isT h (by decide)
    refine bind_same rfl fun _ l1 e=> ?_
    obtain ⟨rfl,_⟩:=enter_same e
    exact bind_same (i1 _ _ _ hwt (by omega) (by omega)) fun _ _ _=>rfl
   ·split
    ·rename_i h
     have hwt:=hw.isT h (by decide)
     refine bind_same rfl fun _ l1 e=> ?_
     obtain ⟨rfl,_⟩:=enter_same e
     exact bind_same (i2 _ _ _ _ (Nat.le_refl _) hwt (by omega) (by omega)) fun _ _ _=>rfl
    ·rfl
  ·obtain ⟨m,rfl⟩: ∃m',m=m'+1:=⟨m - 1,by omega⟩
   rw [bin,bin]
   refine bind_same (i1 _ _ _ hw (by omega) (by omega)) fun a l1 e=> ?_
   obtain ⟨w1,k1⟩:=good_ok ((good_expr n).1 d l) hw e
   exact i3 _ _ _ _ _ hv w1 (by omega) (by omega)
  ·obtain ⟨m,rfl⟩: ∃m',m=m'+1:=⟨m - 1,by omega⟩
   rw [loopB,loopB]
   split
   ·rename_i h
    have hwt:=hw.tailT (level_ne hv h)
    have hp:=hw.pos
    have htl:l.tail.length=l.length - 1:=List.length_tail
    refine bind_same (i2 _ _ _ _ (by omega) hwt (by omega) (by omega)) fun b l1 e=> ?_
    obtain ⟨w1,k1⟩:=good_ok (good_bin n _ d l.tail (by omega)) hwt e
    exact i3 _ _ _ _ _ hv w1 (by omega) (by omega)
   ·rfl
theorem bin_fuel {n m v d:Nat} {l:List Tok} (hv:1≤v) (hw:WF l) (h1:8*l.length+2≤n) (h2:8*l.length+2≤m):bin n v d l=bin m v d l:=(expr_fuel n).2.1 m v d l hv hw h1 h2
theorem unary_fuel {n m d:Nat} {l:List Tok} (hw:WF l) (h1:8*l.length+1≤n) (h2:8*l.length+1≤m):unary n d l=unary m d l:=(expr_fuel n).1 m d l hw h1 h2
theorem loop_stop: ∀(n v d:Nat) (a a':EA) (l l':List Tok),loopB n v d a l= .ok a' l'→levelL (hd l').tk.t<v
 |0,v,d,a,a',l,l',h=>by rw [loopB] at h;cases h
 |n+1,v,d,a,a',l,l',h=>by
  rw [loopB] at h
  split at h
  ·cases hb:bin n (levelL (hd l).tk.t+1) d l.tail with
   |bad l1 e=>rw [hb] at h;cases h
   |ok b l1=>rw [hb] at h;exact loop_stop n v d _ a' l1 l' h
  ·cases h;omega
theorem bin_stop {n v d:Nat} {a:EA} {l l':List Tok} (h:bin n v d l= .ok a l'):levelL (hd l').tk.t<v:=by
 cases n with
 |zero=>rw [bin] at h;cases h
 |succ n=>
  rw [bin] at h
  cases hu:unary n d l with
  |bad l1 e=>rw [hu] at h;cases h
  |ok b l1=>rw [hu] at h;exact loop_stop n v d b a l1 l' h
theorem levelL_le (t:List UInt8):levelL t≤8:=by
 unfold levelL
 cases h:opsL.find? (fun x=>x.1==t) with
 |none=>exact Nat.zero_le _
 |some p=>
  have hm:=List.mem_of_find?_eq_some h
  have: ∀x∈opsL,x.2≤8:=by decide
  exact this p hm
end Go.Proofs.YtomimkgaelkaoaaGreatDoor
namespace Go.Proofs.YtomimkgaelkaoaaGreatDoor
def pU (d:Nat) (l:List Tok):PR EA:=unary (8*l.length+1) d l
def pB (v d:Nat) (l:List Tok):PR EA:=bin (8*l.length+2) v d l
def pL (v d:Nat) (a:EA) (l:List Tok):PR EA:=loopB (8*l.length+2) v d a l
theorem pB_of {n v d:Nat} {l:List Tok} (hv:1≤v) (hw:WF l) (h1:8*l.length+2≤n):bin n v d l=pB v d l:=bin_fuel hv hw h1 (Nat.le_refl _)
theorem pU_excl {d:Nat} {l:List Tok} (hw:WF l) (h:isT sExcl l=true):pU d l=(enterP (begE l.tail) d l.tail).bind fun _ l1=>(pU (d+1) l1).bind fun a l2=> .ok (.not a) l2:=by
 have hwt:=hw.isT h (by decide)
 have htl:l.tail.length=l.length - 1:=List.length_tail
 have hp:=hw.pos
 unfold pU
 rw [unary,if_pos h]
 refine bind_same rfl fun _ l1 e=> ?_
 obtain ⟨rfl,_⟩:=enter_same e
 exact bind_same (unary_fuel hwt (by omega) (by omega)) fun _ _ _=>rfl
theorem pU_lp {d:Nat} {l:List Tok} (hw:WF l) (h:isT sLp l=true):pU d l=(enterP (begE l.tail) d l.tail).bind fun _ l1=>(pB 1 (d+1) l1).bind fun a l2=>(need sRp l2).bind fun _ l3=> .ok a l3:=by
 have hwt:=hw.isT h (by decide)
 have htl:l.tail.length=l.length - 1:=List.length_tail
 have hp:=hw.pos
 have h0: ¬isT sExcl l=true:=fun h0=>by
  have e1:=of_decide_eq_true h
  have e2:=of_decide_eq_true h0
  rw [e1] at e2;cases e2
 unfold pU
 rw [unary,if_neg h0,if_pos h]
 refine bind_same rfl fun _ l1 e=> ?_
 obtain ⟨rfl,_⟩:=enter_same e
 exact bind_same (pB_of (Nat.le_refl _) hwt (by omega)) fun _ _ _=>rfl
theorem pB_eq {v d:Nat} {l:List Tok} (hv:1≤v) (hw:WF l):pB v d l=(pU d l).bind fun a l1=>pL v d a l1:=by
 unfold pB
 rw [bin]
 refine bind_same (unary_fuel hw (by omega) (by omega)) fun a l1 e=> ?_
 obtain ⟨w1,k1⟩:=good_ok ((good_expr _).1 d l) hw e
 exact (expr_fuel _).2.2 _ _ _ _ _ hv w1 (by omega) (by omega)
theorem pL_go {v d:Nat} {a:EA} {l:List Tok} (hv:1≤v) (hw:WF l) (h:v≤levelL (hd l).tk.t):pL v d a l=(pB (levelL (hd l).tk.t+1) d l.tail).bind fun b l1=>pL v d (.bin (hd l).tk.t a b) l1:=by
 have hwt:=hw.tailT (level_ne hv h)
 have hp:=hw.pos
 have htl:l.tail.length=l.length - 1:=List.length_tail
 unfold pL
 rw [loopB,if_pos h]
 refine bind_same (pB_of (by omega) hwt (by omega)) fun b l1 e=> ?_
 obtain ⟨w1,k1⟩:=good_ok (good_bin _ _ d l.tail (by omega)) hwt e
 exact (expr_fuel _).2.2 _ _ _ _ _ hv w1 (by omega) (by omega)
theorem pL_stop {v d:Nat} {a:EA} {l:List Tok} (h:levelL (hd l).tk.t<v):pL v d a l= .ok a l:=by
 unfold pL
 rw [loopB,if_neg (by omega)]
def OkD:EA→Nat→Prop
 | .num _,_=>True
 | .name _,_=>True
 | .not a,d=>d<32∧(if low 9 a=true then d+1<32∧OkD a (d+2) else OkD a (d+1))
 | .bin op a b,d=>(if low (levelL op) a=true then d<32∧OkD a (d+1) else OkD a d)∧(if low (levelL op+1) b=true then d<32∧OkD b (d+1) else OkD b d)
def OkP (v:Nat) (e:EA) (d:Nat):Prop:=if low v e=true then d<32∧OkD e (d+1) else OkD e d
theorem OkD.less: ∀{e:EA} {d d':Nat},OkD e d→d'≤d→OkD e d'
 | .num _,_,_,_,_=>trivial
 | .name _,_,_,_,_=>trivial
 | .not a,d,d',h,hd=>by
  refine ⟨by have:=h.1;omega, ?_⟩
  have h2:=h.2
  split
  ·rename_i hl
   rw [if_pos hl] at h2
   exact ⟨by omega,h2.2.less (by omega)⟩
  ·rename_i hl
   rw [if_neg hl] at h2
   exact h2.less (by omega)
 | .bin op a b,d,d',h,hd=>by
  obtain ⟨h1,h2⟩:=h
  constructor
  ·split
   ·rename_i hl
    rw [if_pos hl] at h1
    exact ⟨by omega,h1.2.less (by omega)⟩
   ·rename_i hl
    rw [if_neg hl] at h1
    exact h1.less hd
  ·split
   ·rename_i hl
    rw [if_pos hl] at h2
    exact ⟨by omega,h2.2.less (by omega)⟩
   ·rename_i hl
    rw [if_neg hl] at h2
    exact h2.less hd
def lvl:EA→Nat
 | .bin op _ _=>levelL op
 |_=>9
theorem low_lvl {v:Nat} {e:EA} (hv:v≤9):low v e=true↔lvl e<v:=by
 cases e with
 |bin op a b=>exact ⟨fun h=>of_decide_eq_true h,fun h=>decide_eq_true h⟩
 |num n=>exact ⟨fun h=>(by cases h),fun h=>by (have:9<v:=h);omega⟩
 |name s=>exact ⟨fun h=>(by cases h),fun h=>by (have:9<v:=h);omega⟩
 |not a=>exact ⟨fun h=>(by cases h),fun h=>by (have:9<v:=h);omega⟩
theorem OkP.mono {v v':Nat} {e:EA} {d:Nat} (h:OkP v e d) (hv:v'≤v) (h9:v≤9):OkP v' e d:=by
 unfold OkP at h ⊢
 by_cases h1:low v e=true
 ·rw [if_pos h1] at h
  split
  ·exact h
  ·exact h.2.less (by omega)
 ·rw [if_neg h1] at h
  rw [if_neg fun h2=>h1 ((low_lvl h9).2 (by have:=(low_lvl (by omega)).1 h2;omega))]
  exact h
theorem tk_split {x:List Tok} {a b:List Tk} (h:x.map (·.tk)=a++b): ∃x1 x2,x=x1++x2∧x1.map (·.tk)=a∧x2.map (·.tk)=b:=by
 obtain ⟨x1,x2,h1,h2,h3⟩:=List.map_eq_append_iff.1 h
 exact ⟨x1,x2,h1,h2,h3⟩
theorem tk_cons {x:List Tok} {a:Tk} {b:List Tk} (h:x.map (·.tk)=a::b): ∃t x2,x=t::x2∧t.tk=a∧x2.map (·.tk)=b:=by
 obtain ⟨t,x2,h1,h2,h3⟩:=List.map_eq_cons_iff.1 h
 exact ⟨t,x2,h1,h2,h3⟩
theorem tk_nil {x:List Tok} (h:x.map (·.tk)= []):x= []:=List.map_eq_nil_iff.1 h
theorem WF.drop {x r:List Tok} (h:WF (x++r)) (hr:r≠ []):WF r:=by
 obtain ⟨i,e,h1,h2,h3⟩:=h
 rcases List.eq_nil_or_concat r with h|⟨r',b,rfl⟩
 ·exact absurd h hr
 ·rw [List.concat_eq_append,←List.append_assoc] at h1
  obtain ⟨h4,h5⟩:=List.append_inj' h1 rfl
  refine ⟨r',b,by rw [List.concat_eq_append], ?_,fun t ht=>h3 t (by rw [←h4];simp [ht])⟩
  have:b=e:=by simpa using h5
  rw [this];exact h2
theorem isT_hd {t:Tok} {l:List Tok} {g:List UInt8} (h:t.tk.t=g):isT g (t::l)=true:=decide_eq_true h
theorem need_hd {t:Tok} {l:List Tok} {g:List UInt8} (h:t.tk.t=g):need g (t::l)= .ok () l:=by
 unfold need
 rw [if_pos (isT_hd h)]
 rfl
theorem isT_no8 {t:Tok} {l:List Tok} {g:List UInt8} (h:t.tk.t≠g):isT g (t::l)=false:=decide_eq_false h
theorem begE_tk: ∀(e:EA),VE e→∀(x r:List Tok) (rest:List Tk),x.map (·.tk)=ktE e++rest→begE (x++r)=true∧∃t x2,x=t::x2
 | .num n,v,x,r,rest,h=>by
  obtain ⟨t,x2,rfl,h1, -⟩:=tk_cons h
  refine ⟨?_,t,x2,rfl⟩
  unfold begE isNum
  rw [List.cons_append,show hd (t::(x2++r))=t from rfl,h1]
  simp [nmT]
 | .name s,v,x,r,rest,h=>by
  obtain ⟨t,x2,rfl,h1, -⟩:=tk_cons h
  refine ⟨?_,t,x2,rfl⟩
  unfold begE isName
  rw [List.cons_append,show hd (t::(x2++r))=t from rfl,h1]
  simp [wd,v.2]
 | .not a,v,x,r,rest,h=>by
  obtain ⟨t,x2,rfl,h1, -⟩:=tk_cons h
  refine ⟨?_,t,x2,rfl⟩
  unfold begE
  rw [List.cons_append,isT_hd (g:=sExcl) (by rw [h1];rfl)]
  rfl
 | .bin op a b,v,x,r,rest,h=>by
  rw [ktE,List.append_assoc] at h
  unfold ktPar at h
  split at h
  ·obtain ⟨t,x2,rfl,h1, -⟩:=tk_cons h
   refine ⟨?_,t,x2,rfl⟩
   unfold begE
   rw [List.cons_append,isT_hd (g:=sLp) (by rw [h1];rfl)]
   simp
  ·exact begE_tk a v.2.1 x r _ h
theorem begE_par {e:EA} (v:VE e) {b:Bool} {x:List Tok} (r:List Tok) {rest:List Tk} (h:x.map (·.tk)=ktPar b (ktE e)++rest):begE (x++r)=true:=by
 unfold ktPar at h
 split at h
 ·obtain ⟨t,x2,rfl,h1, -⟩:=tk_cons h
  unfold begE
  rw [List.cons_append,isT_hd (g:=sLp) (by rw [h1];rfl)]
  simp
 ·exact (begE_tk e v x r _ h).1
theorem level_rp {t:Tok} {l:List Tok} (h:t.tk=sg [41]):levelL (hd (t::l)).tk.t=0:=by
 rw [show hd (t::l)=t from rfl,h];decide
theorem low_of {op:List UInt8} {a b:EA}:low 9 (.bin op a b)=true:=decide_eq_true (by have:=levelL_le op;omega)
theorem enter_ok {b:Bool} {d:Nat} {l:List Tok} (hb:b=true) (h:d<32):enterP b d l= .ok () l:=by
 unfold enterP
 rw [if_neg (by rw [hb];decide),if_neg (by omega)]
theorem pU_paren {e:EA} {d:Nat} {x r:List Tok} (v:VE e) (hd32:d<32) (hw:WF (x++r)) (hr:r≠ []) (h:x.map (·.tk)=sg [40]::(ktE e++ [sg [41]]))
  (ih: ∀(x r:List Tok),x.map (·.tk)=ktE e→WF (x++r)→r≠ []→levelL (hd r).tk.t=0→pB 1 (d+1) (x++r)= .ok e r):pU d (x++r)= .ok e r:=by
 obtain ⟨t,x2,rfl,h1,h2⟩:=tk_cons h
 obtain ⟨x3,x4,rfl,h3,h4⟩:=tk_split h2
 obtain ⟨t2,x5,rfl,h5,h6⟩:=tk_cons h4
 obtain rfl:=tk_nil h6
 have ht:isT sLp (t::(x3++ [t2]++r))=true:=isT_hd (by rw [h1];rfl)
 rw [List.cons_append] at hw ⊢
 have hw2:WF (x3++ [t2]++r):=hw.isT ht (by decide)
 rw [pU_lp hw ht]
 show (enterP (begE (x3++ [t2]++r)) d (x3++ [t2]++r)).bind _=_
 rw [enter_ok (begE_tk e v (x3++ [t2]) r [sg [41]] (by rw [List.map_append,h3];simp [h5])).1 hd32,PR.bind_ok]
 rw [List.append_assoc] at hw2 ⊢
 rw [ih x3 ([t2]++r) h3 hw2 (by simp) (level_rp h5),PR.bind_ok]
 show (need sRp (t2::r)).bind _=_
 rw [need_hd (by rw [h5];rfl),PR.bind_ok]
theorem lvl_pos {e:EA} (v:VE e):1≤lvl e:=by
 cases e with
 |bin op a b=>exact v.1
 |num n=>exact (by decide:1≤9)
 |name s=>exact (by decide:1≤9)
 |not a=>exact (by decide:1≤9)
theorem rtE: ∀(e:EA),VE e→(∀(d:Nat) (x r:List Tok),x.map (·.tk)=ktE e→WF (x++r)→r≠ []→OkD e d→
  (low 9 e=false→pU d (x++r)= .ok e r)∧(∀v,1≤v→v≤lvl e→levelL (hd r).tk.t≤lvl e→pB v d (x++r)=pL v d e r))
 | .num n,v,d,x,r,h,hw,hr,o=>by
  obtain ⟨t,x2,rfl,h1,h2⟩:=tk_cons h
  obtain rfl:=tk_nil h2
  have hu:pU d ([t]++r)= .ok (.num n) r:=by
   unfold pU
   rw [unary,if_neg (by rw [List.singleton_append,isT_no8 (by rw [h1];intro e;exact absurd (show isD 33=true from ((decL_facts v).2.1 33 (by rw [show decL n= [33] from e];simp)).1) (by decide))];decide),if_neg (by rw [List.singleton_append,isT_no8 (by rw [h1];intro e;exact absurd (show isD 40=true from ((decL_facts v).2.1 40 (by rw [show decL n= [40] from e];simp)).1) (by decide))];decide),if_pos (by unfold isNum;rw [List.singleton_append,show hd (t::r)=t from rfl,h1];rfl)]
   rw [List.singleton_append,show hd (t::r)=t from rfl,h1]
   rfl
  exact ⟨fun _=>hu,fun v' h1 _ _=>by rw [pB_eq h1 hw,hu,PR.bind_ok]⟩
 | .name s,v,d,x,r,h,hw,hr,o=>by
  obtain ⟨t,x2,rfl,h1,h2⟩:=tk_cons h
  obtain rfl:=tk_nil h2
  have hu:pU d ([t]++r)= .ok (.name s) r:=by
   unfold pU
   rw [unary,if_neg (by rw [List.singleton_append,isT_no8 (by rw [h1];intro e;exact absurd (v.1.w 33 (by rw [show s= [33] from e];simp)) (by decide))];decide),if_neg (by rw [List.singleton_append,isT_no8 (by rw [h1];intro e;exact absurd (v.1.w 40 (by rw [show s= [40] from e];simp)) (by decide))];decide),if_neg (by unfold isNum;rw [List.singleton_append,show hd (t::r)=t from rfl,h1];simp [wd]),if_pos (by unfold isName;rw [List.singleton_append,show hd (t::r)=t from rfl,h1];simp [wd,v.2])]
   rw [List.singleton_append,show hd (t::r)=t from rfl,h1]
   rfl
  exact ⟨fun _=>hu,fun v' h1 _ _=>by rw [pB_eq h1 hw,hu,PR.bind_ok]⟩
 | .not a,v,d,x,r,h,hw,hr,o=>by
  have va:VE a:=v
  obtain ⟨t,x2,rfl,h1,h2⟩:=tk_cons h
  have ht:isT sExcl (t::(x2++r))=true:=isT_hd (by rw [h1];rfl)
  rw [List.cons_append] at hw ⊢
  have hw2:WF (x2++r):=hw.isT ht (by decide)
  have hu:pU d (t::(x2++r))= .ok (.not a) r:=by
   rw [pU_excl hw ht]
   show (enterP (begE (x2++r)) d (x2++r)).bind _=_
   rw [enter_ok (begE_par va r (rest:= []) (by rw [List.append_nil];exact h2)) o.1,PR.bind_ok]
   have h3:=o.2
   by_cases hl:low 9 a=true
   ·rw [if_pos hl] at h3
    unfold ktPar at h2
    rw [if_pos hl] at h2
    rw [pU_paren va h3.1 hw2 hr h2 fun x r hx hwx hrx h0=>by
     rw [((rtE a va) _ x r hx hwx hrx h3.2).2 1 (by omega) (lvl_pos va) (by omega),pL_stop (by omega)],PR.bind_ok]
   ·rw [if_neg hl] at h3
    unfold ktPar at h2
    rw [if_neg hl] at h2
    rw [((rtE a va) _ x2 r h2 hw2 hr h3).1 (by simpa using hl),PR.bind_ok]
  exact ⟨fun _=>hu,fun v' h1 _ _=>by rw [pB_eq h1 hw,hu,PR.bind_ok]⟩
 | .bin op a b,v,d,x,r,h,hw,hr,o=>by
  refine ⟨fun h9=>absurd low_of (by rw [h9];decide),fun v' h1 h2 h3=> ?_⟩
  obtain ⟨xa,x2,rfl,ha,hb⟩:=tk_split h
  obtain ⟨t,xb,rfl,ht,hb⟩:=tk_cons hb
  have h2:v'≤levelL op:=h2
  have h3:levelL (hd r).tk.t≤levelL op:=h3
  have hl8:=levelL_le op
  have htt:(hd (t::(xb++r))).tk.t=op:=by rw [show hd (t::(xb++r))=t from rfl,ht];rfl
  rw [List.append_assoc,List.cons_append] at hw ⊢
  have hw2:WF (t::(xb++r)):=hw.drop (by simp)
  have hw3:WF (xb++r):=hw2.tailT (by rw [htt];exact (op_sign v.1).2)
  -- an operand
  have opnd: ∀(e:EA) (ve:VE e) (w:Nat) (y s:List Tok) (u:Nat),1≤u→u≤w→w≤9→y.map (·.tk)=ktPar (low w e) (ktE e)→WF (y++s)→s≠ []→OkP w e d→levelL (hd s).tk.t≤w→
    (∀(d:Nat) (x r:List Tok),x.map (·.tk)=ktE e→WF (x++r)→r≠ []→OkD e d→(low 9 e=false→pU d (x++r)= .ok e r)∧(∀v,1≤v→v≤lvl e→levelL (hd r).tk.t≤lvl e→pB v d (x++r)=pL v d e r))→
    pB u d (y++s)=pL u d e s:=by
   intro e ve w y s u hu huw hw9 hy hwy hs ok hls ih
   unfold OkP at ok
   unfold ktPar at hy
   by_cases hl:low w e=true
   ·rw [if_pos hl] at ok hy
    have hlv:=(low_lvl hw9).1 hl
    rw [pB_eq hu hwy,pU_paren ve ok.1 hwy hs hy fun x r hx hwx hrx h0=>by
     rw [(ih _ x r hx hwx hrx ok.2).2 1 (by omega) (lvl_pos ve) (by omega),pL_stop (by omega)],PR.bind_ok]
   ·rw [if_neg hl] at ok hy
    have hlv:w≤lvl e:=by
     rcases Nat.lt_or_ge (lvl e) w with h|h
     ·exact absurd ((low_lvl hw9).2 h) hl
     ·exact h
    exact (ih d y s hy hwy hs ok).2 u hu (by omega) (by omega)
  rw [opnd a v.2.1 (levelL op) xa (t::(xb++r)) v' h1 h2 (by omega) ha hw (by simp) o.1 (by rw [htt];omega) (rtE a v.2.1)]
  rw [pL_go h1 hw2 (by rw [htt];exact h2),htt]
  show (pB (levelL op+1) d (xb++r)).bind _=_
  rw [opnd b v.2.2 (levelL op+1) xb r (levelL op+1) (by omega) (Nat.le_refl _) (by omega) hb hw3 hr o.2 (by omega) (rtE b v.2.2),pL_stop (by omega),PR.bind_ok]
theorem rt_bin {e:EA} (v:VE e) {n d:Nat} {x r:List Tok} (h:x.map (·.tk)=ktE e) (hw:WF (x++r)) (hr:r≠ []) (o:OkD e d) (h0:levelL (hd r).tk.t=0) (hn:8*(x++r).length+2≤n):bin n 1 d (x++r)= .ok e r:=by
 rw [pB_of (Nat.le_refl _) hw hn,(rtE e v d x r h hw hr o).2 1 (Nat.le_refl _) (lvl_pos v) (by omega),pL_stop (by omega)]
def TkV (t:Tok):Prop:=(t.tk.k=0→NameOK t.tk.t)∧(t.tk.k=1→t.tk.n<18446744073709551616)
def AllV (l:List Tok):Prop:= ∀t∈l,TkV t
theorem hd_mem {l:List Tok} (hw:WF l):hd l∈l:=by
 have:=hw.hd
 exact List.mem_of_getElem? this
def LeftOK (d:Nat) (a:EA) (l:List Tok):Prop:=OkP 9 a d∨∃op x y,a= .bin op x y∧levelL (hd l).tk.t≤levelL op∧OkD a d
theorem ok_exprs: ∀n,(∀d l a l',AllV l→WF l→unary n d l= .ok a l'→VE a∧OkP 9 a d∧AllV l'∧WF l')∧
  (∀v d l a l',AllV l→WF l→1≤v→v≤9→bin n v d l= .ok a l'→VE a∧OkP v a d∧AllV l'∧WF l')∧
  (∀v d a0 l a l',AllV l→WF l→1≤v→v≤9→VE a0→LeftOK d a0 l→loopB n v d a0 l= .ok a l'→VE a∧LeftOK d a l'∧AllV l'∧WF l'∧(a=a0∨v≤lvl a))
 |0=>⟨fun d l a l' _ _ h=>(by rw [unary] at h;cases h),fun v d l a l' _ _ _ _ h=>(by rw [bin] at h;cases h),fun v d a0 l a l' _ _ _ _ _ _ h=>(by rw [loopB] at h;cases h)⟩
 |n+1=>by
  obtain ⟨i1,i2,i3⟩:=ok_exprs n
  have tl: ∀{l:List Tok},AllV l→AllV l.tail:=fun h t ht=>h t (List.mem_of_mem_tail ht)
  refine ⟨fun d l a l' hv hw h=> ?_,fun v d l a l' hv hw h1 h9 h=> ?_,fun v d a0 l a l' hv hw h1 h9 hva hl h=> ?_⟩
  ·rw [unary] at h
   by_cases h1:isT sExcl l=true
   ·rw [if_pos h1] at h
    have hwt:=hw.isT h1 (by decide)
    cases he:enterP (begE l.tail) d l.tail with
    |bad _ _=>rw [he] at h;cases h
    |ok u l1=>
     obtain ⟨rfl, -,hd32⟩:=enter_same he
     rw [he,PR.bind_ok] at h
     cases hu:unary n (d+1) l.tail with
     |bad _ _=>rw [hu] at h;cases h
     |ok b l2=>
      rw [hu] at h
      cases h
      obtain ⟨k1,k2,k3,k4⟩:=i1 _ _ _ _ (tl hv) hwt hu
      refine ⟨k1, ?_,k3,k4⟩
      unfold OkP
      rw [if_neg (show ¬low 9 (EA.not b)=true from Bool.false_ne_true)]
      exact ⟨hd32,k2⟩
   ·rw [if_neg h1] at h
    by_cases h2:isT sLp l=true
    ·rw [if_pos h2] at h
     have hwt:=hw.isT h2 (by decide)
     cases he:enterP (begE l.tail) d l.tail with
     |bad _ _=>rw [he] at h;cases h
     |ok u l1=>
      obtain ⟨rfl, -,hd32⟩:=enter_same he
      rw [he,PR.bind_ok] at h
      cases hu:bin n 1 (d+1) l.tail with
      |bad _ _=>rw [hu] at h;cases h
      |ok b l2=>
       rw [hu,PR.bind_ok] at h
       obtain ⟨k1,k2,k3,k4⟩:=i2 _ _ _ _ _ (tl hv) hwt (Nat.le_refl _) (by omega) hu
       cases hn:need sRp l2 with
       |bad _ _=>rw [hn] at h;cases h
       |ok u2 l3=>
        rw [hn,PR.bind_ok] at h
        unfold need at hn
        split at hn
        ·rename_i h41
         cases hn
         injection h with e1 e2
         subst e1 e2
         have k5:OkD b (d+1):=by
          unfold OkP at k2
          split at k2
          ·exact k2.2.less (Nat.le_succ _)
          ·exact k2
         refine ⟨k1, ?_,tl k3,k4.isT h41 (by decide)⟩
         unfold OkP
         split
         ·exact ⟨hd32,k5⟩
         ·exact k5.less (by omega)
        ·cases hn
    ·rw [if_neg h2] at h
     by_cases h3:isNum l=true
     ·rw [if_pos h3] at h
      cases h
      exact ⟨(hv _ (hd_mem hw)).2 (num_ne h3),by unfold OkP;rw [if_neg (show ¬low 9 (EA.num (hd l).tk.n)=true from Bool.false_ne_true)];trivial,tl hv,hw.isNum h3⟩
     ·rw [if_neg h3] at h
      by_cases h4:isName l=true
      ·rw [if_pos h4] at h
       cases h
       refine ⟨⟨(hv _ (hd_mem hw)).1 (name_ne h4), ?_⟩,by unfold OkP;rw [if_neg (show ¬low 9 (EA.name (hd l).tk.t)=true from Bool.false_ne_true)];trivial,tl hv,hw.isName h4⟩
       unfold isName at h4
       simp only [Bool.and_eq_true,Bool.not_eq_true'] at h4
       exact h4.2
      ·rw [if_neg h4] at h;cases h
  ·rw [bin] at h
   cases hu:unary n d l with
   |bad _ _=>rw [hu] at h;cases h
   |ok b l2=>
    rw [hu,PR.bind_ok] at h
    obtain ⟨k1,k2,k3,k4⟩:=i1 _ _ _ _ hv hw hu
    obtain ⟨m1,m2,m3,m4,m5⟩:=i3 _ _ _ _ _ _ k3 k4 h1 h9 k1 (.inl k2) h
    refine ⟨m1, ?_,m3,m4⟩
    rcases m2 with m2|⟨op,x,y,rfl, -,m2⟩
    ·exact m2.mono h9 (Nat.le_refl _)
    ·rcases m5 with e|m5
     ·subst e
      exact k2.mono h9 (Nat.le_refl _)
     ·unfold OkP
      rw [if_neg fun hlow=>by have:=(low_lvl h9).1 hlow;omega]
      exact m2
  ·rw [loopB] at h
   by_cases hv':v≤levelL (hd l).tk.t
   ·rw [if_pos hv'] at h
    have hwt:=hw.tailT (level_ne h1 hv')
    have hl8:=levelL_le (hd l).tk.t
    cases hu:bin n (levelL (hd l).tk.t+1) d l.tail with
    |bad _ _=>rw [hu] at h;cases h
    |ok b l2=>
     rw [hu,PR.bind_ok] at h
     obtain ⟨k1,k2,k3,k4⟩:=i2 _ _ _ _ _ (tl hv) hwt (by omega) (by omega) hu
     have hs:=bin_stop hu
     have ha:OkP (levelL (hd l).tk.t) a0 d:=by
      rcases hl with hl|⟨op,x,y,rfl,hle,hl⟩
      ·exact hl.mono (by omega) (Nat.le_refl _)
      ·unfold OkP
       rw [if_neg fun hlow=>by have:=(low_lvl (by omega)).1 hlow;simp only [lvl] at this;omega]
       exact hl
     have hn:OkD (.bin (hd l).tk.t a0 b) d:=⟨ha,k2⟩
     obtain ⟨m1,m2,m3,m4,m5⟩:=i3 _ _ _ _ _ _ k3 k4 h1 h9 (show VE (.bin (hd l).tk.t a0 b) from ⟨by omega,hva,k1⟩) (.inr ⟨_,_,_,rfl,by omega,hn⟩) h
     refine ⟨m1,m2,m3,m4, .inr ?_⟩
     rcases m5 with e|m5
     ·subst e;exact hv'
     ·exact m5
   ·rw [if_neg hv'] at h
    cases h
    exact ⟨hva,hl,hv,hw, .inl rfl⟩
theorem ok_bin {n d:Nat} {l l':List Tok} {a:EA} (hv:AllV l) (hw:WF l) (h:bin n 1 d l= .ok a l'):VE a∧OkD a d∧AllV l'∧WF l':=by
 obtain ⟨k1,k2,k3,k4⟩:=(ok_exprs n).2.1 1 d l a l' hv hw (Nat.le_refl _) (by omega) h
 refine ⟨k1, ?_,k3,k4⟩
 unfold OkP at k2
 rw [if_neg fun hlow=>by have:=(low_lvl (by omega)).1 hlow;have:=lvl_pos k1;omega] at k2
 exact k2
end Go.Proofs.YtomimkgaelkaoaaGreatDoor
