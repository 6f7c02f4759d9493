/- Layer 7, the mathematics: what a parser leaves is an end of what it was given. -/
import Derived.Test.YtomimkgaelkaoaaGreatDoorC13ParseP
set_option linter.unusedVariables false
set_option linter.unusedSimpArgs false
namespace Go.Proofs.YtomimkgaelkaoaaGreatDoor
def Good {α:Type} (s:Nat) (l:List Tok) (r:PR α):Prop:=
 WF l→match r with
  | .ok _ l'=>WF l'∧l'.length+s≤l.length
  | .bad l' e=>WF l'∧l'.length≤l.length∧e≠0
theorem Good.bind {α β:Type} {s t:Nat} {l:List Tok} {r:PR α} {f:α→List Tok→PR β} (h:Good s l r) (k: ∀a l',r= .ok a l'→Good t l' (f a l')):Good (s+t) l (r.bind f):=by
 intro hw
 have h1:=h hw
 cases r with
 |bad l' e=>exact h1
 |ok a l'=>
  have h2:=k a l' rfl h1.1
  rw [PR.bind_ok]
  cases hf:f a l' with
  |bad l2 e=>rw [hf] at h2;exact ⟨h2.1,by have:=h1.2;have:=h2.2.1;omega,h2.2.2⟩
  |ok b l2=>rw [hf] at h2;exact ⟨h2.1,by have:=h1.2;have:=h2.2;omega⟩
theorem Good.mono {α:Type} {s t:Nat} {l:List Tok} {r:PR α} (h:Good s l r) (ht:t≤s):Good t l r:=by
 intro hw
 have h1:=h hw
 cases r with
 |bad l' e=>exact h1
 |ok a l'=>exact ⟨h1.1,by have:=h1.2;omega⟩
theorem Good.ok {α:Type} (a:α) (l:List Tok):Good 0 l (.ok a l):=fun hw=>⟨hw,Nat.le_refl _⟩
theorem Good.bad {α:Type} (s:Nat) (l:List Tok) {e:Nat} (he:e≠0):Good s l (.bad l e:PR α):=fun hw=>⟨hw,Nat.le_refl _,he⟩
theorem Good.step {α:Type} {s:Nat} {l:List Tok} {r:PR α} (hn:WF l→WF l.tail) (h:Good s l.tail r):Good (s+1) l r:=by
 intro hw
 have h1:=h (hn hw)
 have h2:=hw.pos
 cases r with
 |bad l' e=>exact ⟨h1.1,by have:=h1.2.1;rw [List.length_tail] at this;omega,h1.2.2⟩
 |ok a l'=>exact ⟨h1.1,by have:=h1.2;rw [List.length_tail] at this;omega⟩
theorem Good.isT {α:Type} {s:Nat} {l:List Tok} {r:PR α} {g:List UInt8} (ht:isT g l=true) (hg:g≠ []) (h:Good s l.tail r):Good (s+1) l r:= .step (fun hw=>hw.isT ht hg) h
theorem good_need (g:List UInt8) (l:List Tok) (hg:g≠ []):Good 1 l (need g l):=by
 unfold need
 split
 ·rename_i h;exact (Good.ok () _).isT h hg
 ·exact .bad _ _ (by decide)
theorem good_name (l:List Tok):Good 1 l (nameP l):=by
 unfold nameP
 split
 ·rename_i h;exact .step (fun hw=>hw.isName h) (.ok _ _)
 ·exact .bad _ _ (by decide)
theorem good_num (l:List Tok):Good 1 l (numP l):=by
 unfold numP
 split
 ·rename_i h;exact .step (fun hw=>hw.isNum h) (.ok _ _)
 ·exact .bad _ _ (by decide)
theorem good_expect (b:Bool) (l:List Tok):Good 0 l (expectP b l):=by
 unfold expectP
 split
 ·exact .ok _ _
 ·exact .bad _ _ (by decide)
theorem good_room (k:Nat) (l:List Tok):Good 0 l (roomP k l):=by
 unfold roomP
 split
 ·exact .bad _ _ (by decide)
 ·exact .ok _ _
theorem good_enter (b:Bool) (d:Nat) (l:List Tok):Good 0 l (enterP b d l):=by
 unfold enterP
 split
 ·exact .bad _ _ (by decide)
 ·split
  ·exact .bad _ _ (by decide)
  ·exact .ok _ _
theorem enter_same {b:Bool} {d:Nat} {l l':List Tok} {u:Unit} (h:enterP b d l= .ok u l'):l'=l∧b=true∧d<32:=by
 unfold enterP at h
 split at h
 ·cases h
 ·split at h
  ·cases h
  ·rename_i h1 h2;cases h;exact ⟨rfl,by simpa using h1,by omega⟩
theorem room_same {k:Nat} {l l':List Tok} {u:Unit} (h:roomP k l= .ok u l'):l'=l∧k<64:=by
 unfold roomP at h
 split at h
 ·cases h
 ·cases h;exact ⟨rfl,by omega⟩
theorem expect_same {b:Bool} {l l':List Tok} {u:Unit} (h:expectP b l= .ok u l'):l'=l∧b=true:=by
 unfold expectP at h
 split at h
 ·rename_i hb;cases h;exact ⟨rfl,hb⟩
 ·cases h
theorem level_ne {l:List Tok} {v:Nat} (hv:1≤v) (h:v≤levelL (hd l).tk.t):(hd l).tk.t≠ []:=fun e=>by
 rw [e,show levelL []=0 from rfl] at h
 omega
theorem good_expr: ∀n,(∀d l,Good 1 l (unary n d l))∧(∀v d l,1≤v→Good 1 l (bin n v d l))∧(∀v d a l,1≤v→Good 0 l (loopB n v d a l))
 |0=>⟨fun d l=>by rw [unary];exact .bad _ _ (by decide),fun v d l _=>by rw [bin];exact .bad _ _ (by decide),fun v d a l _=>by rw [loopB];exact .bad _ _ (by decide)⟩
 |n+1=>by
  obtain ⟨i1,i2,i3⟩:=good_expr n
  refine ⟨fun d l=> ?_,fun v d l hv=> ?_,fun v d a l hv=> ?_⟩
  ·rw [unary]
   split
   ·rename_i h
    refine Good.mono (s:=0+(1+0)+1) (Good.isT h (by decide) ((good_enter _ _ _).bind fun _ l1 _=>(i1 _ _).bind fun _ _ _=> .ok _ _)) (by omega)
   ·split
    ·rename_i h
     refine Good.mono (s:=0+(1+(1+0))+1) (Good.isT h (by decide) ((good_enter _ _ _).bind fun _ l1 _=>(i2 _ _ _ (Nat.le_refl _)).bind fun _ _ _=>(good_need _ _ (by decide)).bind fun _ _ _=> .ok _ _)) (by omega)
    ·split
     ·rename_i h;exact .step (fun hw=>hw.isNum h) (.ok _ _)
     ·split
      ·rename_i h;exact .step (fun hw=>hw.isName h) (.ok _ _)
      ·exact .bad _ _ (by decide)
  ·rw [bin]
   exact (i1 d l).bind fun a l1 _=>i3 v d a l1 hv
  ·rw [loopB]
   split
   ·rename_i h
    refine Good.mono (s:=1+0+1) (Good.step (fun hw=>hw.tailT (level_ne hv h)) ((i2 _ _ _ (by omega)).bind fun _ _ _=>i3 _ _ _ _ hv)) (by omega)
   ·exact .ok _ _
theorem good_bin (n v d:Nat) (l:List Tok) (hv:1≤v):Good 1 l (bin n v d l):=(good_expr n).2.1 v d l hv
theorem good_idx (n d:Nat) (l:List Tok):Good 3 l (idxP n d l):=
 Good.mono (s:=1+(1+(1+0))) ((good_need _ _ (by decide)).bind fun _ _ _=>(good_bin _ _ _ _ (Nat.le_refl _)).bind fun _ _ _=>(good_need _ _ (by decide)).bind fun _ _ _=> .ok _ _) (by omega)
theorem good_argsL: ∀(n:Nat) (es:List EA) (d:Nat) (l:List Tok),Good 0 l (argsL n es d l)
 |0,_,_,_=> .bad _ _ (by decide)
 |n+1,es,d,l=>by
  rw [argsL]
  split
  ·rename_i h
   exact Good.mono (s:=0+(0+(1+0))+1) (Good.isT h (by decide) ((good_expect _ _).bind fun _ _ _=>(good_room _ _).bind fun _ _ _=>(good_bin _ _ _ _ (Nat.le_refl _)).bind fun _ _ _=>good_argsL n _ _ _)) (by omega)
  ·exact .ok _ _
theorem good_args (n d:Nat) (l:List Tok):Good 2 l (argsP n d l):=
 Good.mono (s:=1+(0+(1+0))) ((good_bin _ _ _ _ (Nat.le_refl _)).bind fun _ _ _=>(good_argsL _ _ _ _).bind fun _ _ _=>(good_need _ _ (by decide)).bind fun _ _ _=> .ok _ _) (by omega)
theorem intW_ne {t:List UInt8} {p:Nat×Bool} (h:intW t=some p):t≠ []:=fun e=>by rw [e] at h;cases h
def single1 (l:List Tok):Prop:=(intW (hd l).tk.t).isSome=true∨isName l=true
theorem single1_ne {l:List Tok} (hw:WF l) (h:single1 l):WF l.tail:=by
 rcases h with h|h
 ·obtain ⟨p,hp⟩:=Option.isSome_iff_exists.1 h
  exact hw.tailT (intW_ne hp)
 ·exact hw.isName h
theorem good_single (n d:Nat) (l:List Tok) (h:single1 l):Good 1 l (singleP n d l):=by
 unfold singleP
 split
 ·rename_i z li e
  exact .step (fun hw=>single1_ne hw h) (.ok _ _)
 ·refine .step (fun hw=>single1_ne hw h) ?_
  split
  ·rename_i ht
   exact Good.mono (s:=2+0+1) (Good.isT ht (by decide) ((good_args _ _ _).bind fun _ _ _=> .ok _ _)) (by omega)
  ·exact .ok _ _
theorem good_elem (n d:Nat) (l:List Tok) (h:single1 l):Good 1 l (elemP n d l):=by
 unfold elemP
 refine Good.mono (s:=1+0) ((good_single n d l h).bind fun t l1 _=> ?_) (by omega)
 split
 ·exact Good.mono (s:=3+0) ((good_idx _ _ _).bind fun _ _ _=> .ok _ _) (by omega)
 ·exact .ok _ _
end Go.Proofs.YtomimkgaelkaoaaGreatDoor
