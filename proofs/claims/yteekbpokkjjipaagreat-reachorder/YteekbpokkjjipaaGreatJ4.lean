import Derived.Test.YteekbpokkjjipaaGreatJ2
import Derived.Deep.RegionHeld3
import Derived.Deep.DrawnRows
import Derived.Deep.DeepCutAuto
import Derived.Deep.LoopGhost
import Derived.Deep.QuietTactic
import Derived.BigQuiet
import Derived.Shelf.SlSortCmp.QuietGrown
variable{i n at_ q q0 j c d a p k hb g cap:Nat}{w:Go.World}{v ff:Go.Value}
set_option maxHeartbeats 1000000
namespace Go.Proofs.YteekbpokkjjipaaGreat
namespace Hp
variable {ι:Type} {A:ι->ι->Bool}
def par(i:Nat):Nat:=(i-1)/2
theorem eX(h:0<i):par i<i:=by unfold par;omega
theorem AR(h:0<j):par j=i↔j=2*i+1\/j=2*i+2:=by unfold par;omega
def zS(A:ι->ι->Bool):Prop:=(∀a b c,A b a=false->A c b=false->A c a=false)/\∀a b,A a b=true->A b a=false
theorem zS.self(h:zS A)(a:ι):A a a=false:=by
 cases e:A a a with
 | false => rfl
 | true => exact e.symm.trans (h.2 a a e)
def bY(A:ι->ι->Bool)(L:List ι):Prop:=∀i x y,0<i->L[i]? =some x->L[par i]? =some y->A x y=false
theorem bY.top(hA:zS A){L:List ι}(h:bY A L){t:ι}(ht:L[0]? =some t):∀(i:Nat) (x:ι),L[i]? =some x->A x t=false:=by
 intro i
 induction i using Nat.strongRecOn with
 | ind i ih=>
  intro x hx;by_cases h0:i=0
  ·subst h0;rw[ht]at hx;cases hx;exact hA.self t
  ·have hp:=eX (Nat.pos_of_ne_zero h0);have hl:=(lG.1 hx).1;obtain⟨y,hy⟩:∃y,L[par i]? =some y:=⟨L[par i]'(by omega),by rw[qw]⟩;exact hA.1 _ _ _ (ih _ hp y hy) (h i x y (Nat.pos_of_ne_zero h0) hx hy)
inductive Wy (Q:Nat->Prop):Nat->Nat->Prop
 | refl (i:Nat):Wy Q i i
 | step {i a:Nat}:0<i->Q i->Wy Q (par i) a->Wy Q i a
variable {Q:Nat->Prop}
theorem Wy.snoc(h:Wy Q n i)(h0:0<i)(hq:Q i):Wy Q n (par i):=by
 induction h with
 | refl i => exact .step h0 hq (.refl _)
 | step a b _ ih => exact .step a b (ih h0 hq)
theorem Wy.le(h:Wy Q i a):a<=i:=by
 induction h with
 | refl i => exact nR _
 | step h0 _ _ ih => have:=eX h0;omega
theorem Wy.next(h:Wy Q i a)(hl:a<i):0<i/\Q i/\Wy Q (par i) a:=by
 cases h with
 | refl => omega
 | step a b c => exact⟨a,b,c⟩
theorem set_perm{L:List ι}{y:ι}(x:ι)(h:L[i]? =some y):(y::L.set i x).Perm (x::L):=by
 induction L generalizing i with
 | nil => simp at h
 | cons a L ih=>
  cases i with
  | zero => simp at h;subst h;simp only[qz];exact List.Perm.swap _ _ _
  | succ i=>
   simp only[jD];exact(List.Perm.swap _ _ _).trans (((ih (by simpa using h)).cons a).trans (List.Perm.swap _ _ _))
theorem swap_perm{M:List ι}{y:ι}(x:ι)(hi:i<M.length)(hp:M[p]? =some y)(hne:i≠p):((M.set i y).set p x).Perm (M.set i x):=by
 have h1:(y::(M.set i y).set p x).Perm (x::M.set i y):=set_perm x (by rw[gX hne];exact hp);have hz:M[i]? =some M[i]:=by rw[qw]
 have h2:(M[i]::M.set i y).Perm (y::M):=set_perm y hz;have h3:(M[i]::M.set i x).Perm (x::M):=set_perm x hz;refine List.Perm.cons_inv (a:=y) (List.Perm.cons_inv (a:=M[i]) ?_);refine(h1.cons _).trans ((List.Perm.swap _ _ _).trans ((h2.cons x).trans ((List.Perm.swap _ _ _).trans ((h3.symm.cons y).trans (List.Perm.swap _ _ _)))))
def QU(A:ι->ι->Bool)(L:List ι)(x:ι)(i:Nat):Prop:=∃y,L[par i]? =some y/\A x y=true
def HH(A:ι->ι->Bool)(N:List ι)(i:Nat):Prop:=
 (∀j a b,0<j->j≠i->N[j]? =some a->N[par j]? =some b->A a b=false)/\∀j a b,0<j->par j=i->0<i->N[j]? =some a->N[par i]? =some b->A a b=false
structure dV(A:ι->ι->Bool)(L:List ι)(x:ι)(at_:Nat)(M:List ι)(i:Nat):Prop where
 way:Wy (QU A L x) i at_
 len:M.length=L.length+1
 ile:i<=L.length
 old:∀j,j<=i->M[j]? =(L++[x])[j]?
 perm:(M.set i x).Perm (L++[x])
 hp:zS A->bY A L->HH A (M.set i x) i
theorem dV.init{L:List ι}{x:ι}(h:Wy (QU A L x) L.length at_):dV A L x at_ (L++[x]) L.length:=by
 have e:(L++[x]).set L.length x=L++[x]:=by rw[List.set_append_right _ _ (nR _)];simp
 refine⟨h,by simp,nR _,fun _ _=>rfl,by rw[e],fun hA hH=> ?_⟩;rw[e];refine⟨fun j a b h0 hne ha hb=> ?_,fun j a b h0 hp _ ha _=> ?_⟩
 ·have hl:=(lG.1 ha).1;simp at hl;have:=eX h0;rw[gL (by omega)]at ha hb;exact hH j a b h0 ha hb
 ·have hl:=(lG.1 ha).1;simp at hl;have:=eX h0;omega
theorem dV.step{L:List ι}{x:ι}{at_ i:Nat}{M:List ι}(h:dV A L x at_ M i)(hlt:at_<i):∃y,M[par i]? =some y/\dV A L x at_ (M.set i y) (par i):=by
 obtain⟨h0,⟨y,hy,hxy⟩,hw⟩:=h.way.next hlt;have hp:=eX h0;have hM:M[par i]? =some y:=by
  rw[h.old _ (by omega),gL (by have:=h.ile;omega)];exact hy
 have hil:i<M.length:=by rw[h.len];have:=h.ile;omega
 refine⟨y,hM,hw,by rw[lZ];exact h.len,by have:=h.ile;omega,fun j hj=> ?_,(swap_perm x hil hM (by omega)).trans h.perm,fun hA hH=> ?_⟩
 ·rw[gX (by omega)];exact h.old j (by omega)
 ·obtain⟨H1,H2⟩:=h.hp hA hH;have hpl:par i<(M.set i y).length:=by rw[lZ];omega
  have eo:∀j,j≠i->j≠par i->((M.set i y).set (par i) x)[j]? =(M.set i x)[j]? :=fun j h1 h2=>by
   rw[gX (Ne.symm h2),gX (Ne.symm h1),gX (Ne.symm h1)]
  have ep:((M.set i y).set (par i) x)[par i]? =some x:=by rw[List.getElem?_set_self hpl]
  have ei:((M.set i y).set (par i) x)[i]? =some y:=by rw[gX (by omega),List.getElem?_set_self hil]
  have np:(M.set i x)[par i]? =some y:=by rw[gX (by omega)];exact hM
  have le1:A y x=false:=hA.2 _ _ hxy;refine⟨fun j a b hj hne ha hb=> ?_,fun j a b hj hpj hp0 ha hb=> ?_⟩
  ·by_cases hji:j=i
   ·subst hji;rw[ei]at ha;rw[ep]at hb;cases ha;cases hb;exact le1
   ·rw[eo j hji hne]at ha;by_cases h1:par j=par i
    ·rw[h1,ep]at hb;cases hb;exact hA.1 _ _ _ le1 (H1 j a y hj hji ha (by rw[h1];exact np))
    ·by_cases h2:par j=i
     ·rw[h2,ei]at hb;cases hb;exact H2 j a y hj h2 h0 ha np
     ·rw[eo _ h2 h1]at hb;exact H1 j a b hj hji ha hb
  ·have hpp:=eX hp0;rw[eo _ (by omega) (by omega)]at hb;have hyb:A y b=false:=H1 (par i) y b hp0 (by omega) np hb;by_cases hji:j=i
   ·subst hji;rw[ei]at ha;cases ha;exact hyb
   ·have hjp:j≠par i:=(by intro e;have:=eX hj;omega);rw[eo j hji hjp]at ha;exact hA.1 _ _ _ hyb (H1 j a y hj hji ha (by rw[hpj];exact np))
theorem dV.done{L:List ι}{x:ι}{M:List ι}(h:dV A L x at_ M at_)(he:at_=0\/∃y,L[par at_]? =some y/\A x y=false):(M.set at_ x).Perm (L++[x])/\(zS A->bY A L->bY A (M.set at_ x)):=by
 refine⟨h.perm,fun hA hH j a b hj ha hb=> ?_⟩;obtain⟨H1,_⟩:=h.hp hA hH;by_cases e:j=at_
 ·subst e;rcases he with he|⟨y,hy,hxy⟩
  ·omega
  ·have hp:=eX hj;have hl:=h.ile;rw[List.getElem?_set_self (by rw[h.len];omega)]at ha;rw[gX (by omega),h.old _ (by omega),gL (by omega),hy]at hb;cases ha;cases hb;exact hxy
 ·exact H1 j a b hj e ha hb
def QD(A:ι->ι->Bool)(M0:List ι)(s:ι)(i:Nat):Prop:=
 i<M0.length/\(zS A->∀x,M0[i]? =some x->A s x=false/\∀j y,0<j->par j=par i->M0[j]? =some y->A y x=false)
def oZ(A:ι->ι->Bool)(M0:List ι)(at_ c:Nat)(x:ι):Prop:=
 M0[c]? =some x/\((c=2*at_+1/\∀y,M0[2*at_+2]? =some y->A y x=false)\/(c=2*at_+2/\∃y,M0[2*at_+1]? =some y/\A x y=true))
theorem oZ.par{M0:List ι}{x:ι}(h:oZ A M0 at_ c x):0<c/\Hp.par c=at_:=by
 have h0:0<c:=by rcases h.2 with⟨h,_⟩|⟨h,_⟩<;>omega
 exact⟨h0,(AR h0).2 (by rcases h.2 with⟨h,_⟩|⟨h,_⟩;exact Or.inl h;exact Or.inr h)⟩
theorem oZ.least{M0:List ι}{x:ι}(hA:zS A)(h:oZ A M0 at_ c x){y:ι}(h0:0<j)(hj:Hp.par j=at_)(hy:M0[j]? =some y):A y x=false:=by
 obtain⟨hx,h⟩:=h;rcases(AR h0).1 hj with e|e
 ·rcases h with⟨rfl,_⟩|⟨_,z,hz,hxz⟩
  ·rw[<-e,hy]at hx;cases hx;exact hA.self _
  ·rw[<-e,hy]at hz;cases hz;exact hA.2 _ _ hxz
 ·rcases h with⟨_,h⟩|⟨rfl,_⟩
  ·exact h y (by rw[<-e];exact hy)
  ·rw[<-e,hy]at hx;cases hx;exact hA.self _
structure Dn(A:ι->ι->Bool)(M0:List ι)(s:ι)(at_:Nat):Prop where
 lt:at_=0\/at_<M0.length
 way:Wy (QD A M0 s) at_ 0
def nN(A:ι->ι->Bool)(M0:List ι)(s:ι)(at_:Nat):Prop:=zS A->∀j y,0<j->par j=at_->M0[j]? =some y->A y s=false
theorem Dn.step{M0:List ι}{s x:ι}{at_ c:Nat}(h:Dn A M0 s at_)(hp:oZ A M0 at_ c x)(hx:A x s=true):Dn A M0 s c:=by
 obtain⟨h0,hc⟩:=hp.par;have hl:=(lG.1 hp.1).1;refine⟨Or.inr hl, .step h0 ⟨hl,fun hA z hz=> ?_⟩ (by rw[hc];exact h.way)⟩;rw[hp.1]at hz;cases hz;exact⟨hA.2 _ _ hx,fun j y hj he hy=>hp.least hA hj (he.trans hc) hy⟩
theorem Dn.stop{M0:List ι}{s x:ι}(hp:oZ A M0 at_ c x)(hx:A x s=false):nN A M0 s at_:=by
 intro hA j y hj he hy;exact hA.1 _ _ _ hx (hp.least hA hj he hy)
theorem Dn.none{M0:List ι}{s:ι}(h:M0.length<=2*at_+1):nN A M0 s at_:=by
 intro _ j y hj he hy;have hl:=(lG.1 hy).1;rcases(AR hj).1 he with e|e<;>omega
structure jB(A:ι->ι->Bool)(M0:List ι)(s:ι)(M:List ι)(i:Nat)(mv:ι):Prop where
 way:Wy (QD A M0 s) i 0
 len:M.length=M0.length
 Oc:i<M0.length
 old:∀j,j<=2*i->M[j]? =M0[j]?
 perm:(mv::M).Perm (s::M0)
 hp:zS A->bY A M0->(∀j a b,0<j->j≠i->(M.set i mv)[j]? =some a->(M.set i mv)[par j]? =some b->A a b=false)/\(0<i->∀y,M[i]? =some y->A mv y=false)
theorem jB.init{M0:List ι}{s:ι}(h:Dn A M0 s at_)(he:nN A M0 s at_)(hm:0<M0.length):jB A M0 s M0 at_ s:=by
 have hlt:at_<M0.length:=by rcases h.lt with h|h<;>omega
 refine⟨h.way,rfl,hlt,fun _ _=>rfl,List.Perm.refl _,fun hA hH=>⟨fun j a b hj hne ha hb=> ?_,fun h0 y hy=> ?_⟩⟩
 ·rw[gX (Ne.symm hne)]at ha;by_cases e:par j=at_
  ·rw[e,List.getElem?_set_self hlt]at hb;cases hb;exact he hA j a hj e ha
  ·rw[gX (Ne.symm e)]at hb;exact hH j a b hj ha hb
 ·exact((h.way.next h0).2.1.2 hA y hy).1
theorem jB.step{M0:List ι}{s mv:ι}{i:Nat}{M:List ι}(h:jB A M0 s M i mv)(h0:0<i):∃y,M[i]? =some y/\jB A M0 s (M.set i mv) (par i) y:=by
 obtain⟨_,hq,hw⟩:=h.way.next h0;have hp:=eX h0;have hil:i<M.length:=by rw[h.len];exact h.Oc
 obtain⟨y,hy⟩:∃y,M[i]? =some y:=⟨M[i],by rw[qw]⟩;have hy0:M0[i]? =some y:=by rw[<-h.old i (by omega)];exact hy
 have hpp:2*par i+1<=i:=by unfold par;omega
 refine⟨y,hy,hw,by rw[lZ];exact h.len,by have:=h.Oc;omega,fun j hj=> ?_,(set_perm mv hy).trans h.perm,fun hA hH=> ?_⟩
 ·rw[gX (by omega)];exact h.old j (by omega)
 ·obtain⟨H1,H2⟩:=h.hp hA hH;have hpl:par i<(M.set i mv).length:=by rw[lZ];omega
  have ep:((M.set i mv).set (par i) y)[par i]? =some y:=by rw[List.getElem?_set_self hpl]
  have eo:∀j,j≠par i->((M.set i mv).set (par i) y)[j]? =(M.set i mv)[j]? :=fun j h1=>gX (Ne.symm h1);refine⟨fun j a b hj hne ha hb=> ?_,fun hp0 z hz=> ?_⟩
  ·rw[eo j hne]at ha;by_cases h1:par j=par i
   ·rw[h1,ep]at hb;cases hb;by_cases hji:j=i
    ·subst hji;rw[List.getElem?_set_self hil]at ha;cases ha;exact H2 h0 y hy
    ·have hj2:j<=2*i:=by
       rcases(AR hj).1 h1 with e|e<;>omega
     rw[gX (Ne.symm hji),h.old j hj2]at ha;exact(hq.2 hA y hy0).2 j a hj h1 ha
   ·rw[eo _ h1]at hb;by_cases hji:j=i
    ·subst hji;exact absurd rfl h1
    ·exact H1 j a b hj hji ha hb
  ·rw[gX (by omega),h.old _ (by omega)]at hz;exact hH i y z h0 hy0 hz
theorem jB.done{M0:List ι}{s mv:ι}{M:List ι}(h:jB A M0 s M 0 mv):(∃t,M0[0]? =some t/\(t::M.set 0 mv).Perm (s::M0))/\(zS A->bY A M0->bY A (M.set 0 mv)):=by
 refine⟨?_,fun hA hH j a b hj ha hb=>(h.hp hA hH).1 j a b hj (by omega) ha hb⟩;have hl:=h.Oc;obtain⟨t,ht⟩:∃t,M0[0]? =some t:=⟨M0[0],by rw[qw]⟩;exact⟨t,ht,(set_perm mv ((h.old 0 (by omega)).trans ht)).trans h.perm⟩
theorem bY.take{L:List ι}(h:bY A L)(n:Nat):bY A (L.take n):=by
 intro i x y h0 hx hy;rw[List.getElem?_take]at hx hy;split at hx
 ·split at hy
  ·exact h i x y h0 hx hy
  ·cases hy
 ·cases hx
end Hp
namespace Pt
structure Px(α:Type) where
 aW:α->α->Prop
 lN:α->α->Prop
 thn:α->α->Option α
 z:α
structure Px.Ok{α:Type}(X:Px α):Prop where
 refl:∀a,X.aW a a
 trans:∀{a b c},X.aW a b->X.aW b c->X.aW a c
 told:∀{a b},X.aW a b->a=b\/X.lN a b
 tt:∀{a b c},X.lN a b->X.lN b c->X.lN a c
 p9:∀a,¬X.lN a a
 tot:∀a b,X.lN a b\/a=b\/X.lN b a
 mono:∀{a b c d},X.aW a b->X.thn b c=some d->∃e,X.thn a c=some e/\X.aW e d
 up:∀{a b c},X.thn a b=some c->X.aW a c
section
variable {α:Type} {X:Px α} {St:Nat->Nat->α->Prop} {p:Nat}
inductive Wy (X:Px α) (St:Nat->Nat->α->Prop) (p:Nat):Nat->α->Prop
 | nil:Wy X St p p X.z
 | step {q q':Nat} {a b c:α}:Wy X St p q a->St q q' b->X.thn a b=some c->Wy X St p q' c
def Lea(X:Px α)(St:Nat->Nat->α->Prop)(p q:Nat)(a:α):Prop:=Wy X St p q a/\∀b,Wy X St p q b->X.aW b a->b=a
def pE(X:Px α)(l:List α)(a:α):Prop:=∃x∈l,X.aW x a
structure Iv(X:Px α)(St:Nat->Nat->α->Prop)(p:Nat)(rows:Nat->List α)(opn:List (Nat×α)):Prop where
 rw:∀q a,a∈rows q->Wy X St p q a
 ow:∀q a,(q,a)∈opn->Wy X St p q a
 st:pE X (rows p) X.z\/(p,X.z)∈opn
 sp:∀q a,a∈rows q->∀q' b c,St q q' b->X.thn a b=some c->pE X (rows q') c\/(q',c)∈opn
 ls:∀q a,a∈rows q->∀b,Wy X St p q b->X.aW b a->b=a
 so:∀q,(rows q).Pairwise X.lN
 lo:∀q a,a∈rows q->∀q' b,(q',b)∈opn->¬X.lN b a
theorem pE.trans(hX:X.Ok){l:List α}{a b:α}(h:pE X l a)(hab:X.aW a b):pE X l b:=by
 obtain⟨x,hx,hxa⟩:=h;exact⟨x,hx,hX.trans hxa hab⟩
theorem pE.sub{l m:List α}{a:α}(h:pE X l a)(hs:∀x∈l,x∈m):pE X m a:=by
 obtain⟨x,hx,hxa⟩:=h;exact⟨x,hs x hx,hxa⟩
theorem Iv.init:Iv X St p (fun _=>[]) [(p,X.z)]:=
 ⟨fun _ _ h=>by simp at h,fun q a h=>by simp at h;obtain⟨rfl,rfl⟩:=h;exact .nil,Or.inr (by simp),fun _ _ h=>by simp at h,fun _ _ h=>by simp at h,fun _=>List.Pairwise.nil,fun _ _ h=>by simp at h⟩
theorem Iv.done(hX:X.Ok){rows:Nat->List α}{opn:List (Nat×α)}(h:Iv X St p rows opn){w:α}(hw:∀q b,(q,b)∈opn->¬X.lN b w){u:α}(hu:Wy X St p q u):X.lN u w->pE X (rows q) u:=by
 induction hu with
 | nil=>
  intro ht;rcases h.st with h1|h1
  ·exact h1
  ·exact absurd ht (hw _ _ h1)
 | @step q q' a b c ha hs hc ih=>
  intro ht;have h1:X.lN a w:=(hX.told (hX.up hc)).elim (fun e=>e ▸ ht) (fun e=>hX.tt e ht);obtain⟨x,hx,hxa⟩:=ih h1;obtain⟨e,he,Ux⟩:=hX.mono hxa hc;rcases h.sp q x hx q' b e hs he with h2|h2
  ·exact h2.trans hX Ux
  ·exact absurd ((hX.told Ux).elim (fun k=>k ▸ ht) (fun k=>hX.tt k ht)) (hw _ _ h2)
theorem Iv.all(hX:X.Ok){rows:Nat->List α}(h:Iv X St p rows []){u:α}(hu:Wy X St p q u):pE X (rows q) u:=by
 induction hu with
 | nil=>
  rcases h.st with h1|h1
  ·exact h1
  ·simp at h1
 | @step q q' a b c ha hs hc ih=>
  obtain⟨x,hx,hxa⟩:=ih;obtain⟨e,he,Ux⟩:=hX.mono hxa hc;rcases h.sp q x hx q' b e hs he with h2|h2
  ·exact h2.trans hX Ux
  ·simp at h2
theorem Iv.skip{rows:Nat->List α}{opn rest:List (Nat×α)}{w:α}(h:Iv X St p rows opn)(h1:∀x∈opn,x=(q0,w)\/x∈rest)(h2:∀x∈rest,x∈opn)(hc:pE X (rows q0) w):Iv X St p rows rest:=by
 refine⟨h.rw,fun q a ha=>h.ow q a (h2 _ ha), ?_,fun q a ha q' b c hs hb=> ?_,h.ls,h.so,fun q a ha q' b hb=>h.lo q a ha q' b (h2 _ hb)⟩
 ·rcases h.st with k|k
  ·exact Or.inl k
  ·rcases h1 _ k with e|e
   ·simp only[Prod.mk.injEq]at e;exact Or.inl (by rw[e.1,e.2];exact hc)
   ·exact Or.inr e
 ·rcases h.sp q a ha q' b c hs hb with k|k
  ·exact Or.inl k
  ·rcases h1 _ k with e|e
   ·simp only[Prod.mk.injEq]at e;exact Or.inl (by rw[e.1,e.2];exact hc)
   ·exact Or.inr e
def dL(rows:Nat->List α)(q0:Nat)(w:α):Nat->List α:=fun q=>if q=q0 then rows q++[w]else rows q
theorem kC{rows:Nat->List α}{w a:α}:a∈dL rows q0 w q↔a∈rows q\/q=q0/\a=w:=by
 unfold dL;split
 ·rename_i e;simp[e]
 ·rename_i e;simp[e]
theorem Iv.take(hX:X.Ok){rows:Nat->List α}{opn rest Rl:List (Nat×α)}{w:α}(h:Iv X St p rows opn)(hm:(q0,w)∈opn)(hf:∀q b,(q,b)∈opn->¬X.lN b w)(h1:∀x∈opn,x=(q0,w)\/x∈rest)(h2:∀x∈rest,x∈opn)(hc:¬pE X (rows q0) w)
    (h3:∀x∈rest,x∈Rl) (h4:∀q c,(q,c)∈Rl->(q,c)∈rest\/∃b,St q0 q b/\X.thn w b=some c) (h5:∀q b c,St q0 q b->X.thn w b=some c->pE X (dL rows q0 w q) c\/(q,c)∈Rl):Iv X St p (dL rows q0 w) Rl:=by
 have hsub:∀q,∀x∈rows q,x∈dL rows q0 w q:=fun q x hx=>kC.2 (Or.inl hx);have hself:pE X (dL rows q0 w q0) w:=⟨w,kC.2 (Or.inr ⟨rfl,rfl⟩),hX.refl w⟩;have hww:=h.ow q0 w hm;have hlow:∀q a,a∈rows q->∀q' c b,St q0 q' b->X.thn w b=some c->¬X.lN c a:=fun q a ha q' c b hs hb ht=>by
  rcases hX.told (hX.up hb)with e|e
  ·exact h.lo q a ha q0 w hm (e ▸ ht)
  ·exact h.lo q a ha q0 w hm (hX.tt e ht)
 refine⟨fun q a ha=> ?_,fun q c hqc=> ?_, ?_,fun q a ha q' b c hs hb=> ?_,fun q a ha b hb GH=> ?_,fun q=> ?_,fun q a ha q' c hqc=> ?_⟩
 ·rcases kC.1 ha with k|⟨rfl,rfl⟩
  ·exact h.rw q a k
  ·exact hww
 ·rcases h4 q c hqc with k|⟨b,hs,hb⟩
  ·exact h.ow q c (h2 _ k)
  ·exact .step hww hs hb
 ·rcases h.st with k|k
  ·exact Or.inl (k.sub (hsub p))
  ·rcases h1 _ k with e|e
   ·simp only[Prod.mk.injEq]at e;exact Or.inl (by rw[e.1,e.2];exact hself)
   ·exact Or.inr (h3 _ e)
 ·rcases kC.1 ha with k|⟨rfl,rfl⟩
  ·rcases h.sp q a k q' b c hs hb with k2|k2
   ·exact Or.inl (k2.sub (hsub q'))
   ·rcases h1 _ k2 with e|e
    ·simp only[Prod.mk.injEq]at e;exact Or.inl (by rw[e.1,e.2];exact hself)
    ·exact Or.inr (h3 _ e)
  ·exact h5 q' b c hs hb
 ·rcases kC.1 ha with k|⟨rfl,rfl⟩
  ·exact h.ls q a k b hb GH
  ·rcases hX.told GH with e|e
   ·exact e
   ·exact absurd ((h.done hX hf hb e).trans hX GH) hc
 ·unfold dL;split
  ·rename_i e;subst e;refine List.pairwise_append.2 ⟨h.so q,List.pairwise_singleton _ _,fun a ha b hb=> ?_⟩;simp only[vF]at hb;subst hb;rcases hX.tot a b with k|k|k
   ·exact k
   ·exact absurd ⟨a,ha,k ▸ hX.refl a⟩ hc
   ·exact absurd k (h.lo q a ha q b hm)
  ·exact h.so q
 ·rcases kC.1 ha with k|⟨rfl,rfl⟩
  ·rcases h4 q' c hqc with k2|⟨b,hs,hb⟩
   ·exact h.lo q a k q' c (h2 _ k2)
   ·exact hlow q a k q' c b hs hb
  ·rcases h4 q' c hqc with k2|⟨b,hs,hb⟩
   ·exact hf q' c (h2 _ k2)
   ·intro ht;rcases hX.told (hX.up hb)with e|e
    ·exact hX.p9 a (by rw[e]at ht⊢;exact ht)
    ·exact hX.p9 a (hX.tt e ht)
theorem iT{l m:List α}(hl:l.Nodup)(h:∀a∈l,a∈m):l.length<=m.length:=by
 induction l generalizing m with
 | nil => simp
 | cons a l ih=>
  obtain⟨s,t,rfl⟩:=List.append_of_mem (h a (by simp));have hn:=List.nodup_cons.1 hl;have:=ih (m:=s++t) hn.2 (fun b hb=>by
   have h1:=h b (by simp[hb]);simp only[j3,eO]at h1⊢;rcases h1 with h1|rfl|h1
   ·exact Or.inl h1
   ·exact absurd hb hn.1
   ·exact Or.inr h1)
  simp at this⊢;omega
theorem Ae(hX:X.Ok){l m:List α}(hl:l.Pairwise X.lN)(hm:m.Pairwise X.lN)(h:∀a,a∈l↔a∈m):l=m:=by
 induction l generalizing m with
 | nil=>
  cases m with
  | nil => rfl
  | cons b m => exact absurd ((h b).2 (by simp)) (by simp)
 | cons a l ih=>
  cases m with
  | nil => exact absurd ((h a).1 (by simp)) (by simp)
  | cons b m=>
   have ha:=qp.1 hl;have hb:=qp.1 hm;have e:a=b:=by
    rcases eO.1 ((h a).1 (by simp))with e|e
    ·exact e
    ·rcases eO.1 ((h b).2 (by simp))with k|k
     ·exact k.symm
     ·exact absurd (hX.tt (hb.1 a e) (ha.1 b k)) (hX.p9 b)
   subst e;rw[ih ha.2 hb.2 (fun x=>⟨fun hx=> ?_,fun hx=> ?_⟩)]
   ·rcases eO.1 ((h x).1 (mO _ hx))with k|k
    ·subst k;exact absurd (ha.1 _ hx) (hX.p9 _)
    ·exact k
   ·rcases eO.1 ((h x).2 (mO _ hx))with k|k
    ·subst k;exact absurd (hb.1 _ hx) (hX.p9 _)
    ·exact k
def rR(X:Px α)(St:Nat->Nat->α->Prop)(p:Nat):Option (Nat->List α)->Prop
 | none => ∃(q:Nat) (l:List α),l.Nodup/\64<l.length/\∀a∈l,Lea X St p q a
 | some rows => ∀q,(rows q).Pairwise X.lN/\(∀a,a∈rows q↔Lea X St p q a)/\(rows q).length<=64
theorem Iv.lea{rows:Nat->List α}{opn:List (Nat×α)}(h:Iv X St p rows opn){a:α}(ha:a∈rows q):Lea X St p q a:=⟨h.rw q a ha,h.ls q a ha⟩
theorem Iv.nodup(hX:X.Ok){rows:Nat->List α}{opn:List (Nat×α)}(h:Iv X St p rows opn)(q:Nat):(rows q).Nodup:=
 List.Pairwise.imp (S:=fun a b=>a≠b) (fun {a b} k (e:a=b)=>hX.p9 b (by rw[e]at k;exact k)) (h.so q)
theorem Iv.wide(hX:X.Ok){rows:Nat->List α}{opn:List (Nat×α)}(h:Iv X St p rows opn)(hq:64<(rows q).length):rR X St p none:=⟨q,rows q,h.nodup hX q,hq,fun _ ha=>h.lea ha⟩
theorem Iv.fin(hX:X.Ok){rows:Nat->List α}(h:Iv X St p rows [])(hl:∀q,(rows q).length<=64):rR X St p (some rows):=fun q=>by
 refine⟨h.so q,fun a=>⟨fun ha=>h.lea ha,fun ha=> ?_⟩,hl q⟩;obtain⟨x,hx,hxa⟩:=h.all hX ha.1;have:=ha.2 x (h.rw q x hx) hxa;exact this ▸ hx
theorem rR.same(hX:X.Ok){r s:Option (Nat->List α)}(hr:rR X St p r)(hs:rR X St p s):r=s:=by
 have key:∀rows,rR X St p none->rR X St p (some rows)->False:=fun rows h1 h2=>by
  obtain⟨q,l,hn,hl,ha⟩:=h1;have h3:=iT hn (fun a k=>((h2 q).2.1 a).2 (ha a k));have h4:=(h2 q).2.2;omega
 cases r with
 | none=>
  cases s with
  | none => rfl
  | some rows => exact(key rows hr hs).elim
 | some rows=>
  cases s with
  | none => exact(key rows hs hr).elim
  | some rows'=>
   refine congrArg some (funext fun q=>Ae hX (hr q).1 (hs q).1 (fun a=> ?_));rw[(hr q).2.1,(hs q).2.1]
end
abbrev ah:={ p:Int×Int×Int // (Lit.int .u64 p.1).wf=true/\(Lit.int .u64 p.2.1).wf=true/\(Lit.int .u64 p.2.2).wf=true }
theorem kP(x:Int):(Lit.int .u64 x).wf=true↔0<=x/\x<18446744073709551616:=by
 have e1:IntKind.u64.min=0:=rfl;have e2:IntKind.u64.max=18446744073709551615:=rfl;simp only[Lit.wf,e1,e2,bA,dE];omega
theorem bW{s t:ah}(h1:s.1.1=t.1.1)(h2:s.1.2.1=t.1.2.1)(h3:s.1.2.2=t.1.2.2):s=t:=Subtype.ext (Prod.ext h1 (Prod.ext h2 h3))
theorem bX(s:ah):(0<=s.1.1/\s.1.1<18446744073709551616)/\(0<=s.1.2.1/\s.1.2.1<18446744073709551616)/\(0<=s.1.2.2/\s.1.2.2<18446744073709551616):=
 ⟨(kP _).1 s.2.1,(kP _).1 s.2.2.1,(kP _).1 s.2.2.2⟩
def bF(a b:ah):Option ah:=
 if h:a.1.1+b.1.1<18446744073709551616/\a.1.2.1+b.1.2.1<18446744073709551616/\a.1.2.2+b.1.2.2<18446744073709551616 then
  some ⟨(a.1.1+b.1.1,a.1.2.1+b.1.2.1,a.1.2.2+b.1.2.2),by
   have h1:=bX a;have h2:=bX b;exact⟨(kP _).2 ⟨by simp only;omega,h.1⟩,(kP _).2 ⟨by simp only;omega,h.2.1⟩,(kP _).2 ⟨by simp only;omega,h.2.2⟩⟩⟩
 else none
theorem bz{a b c:ah}(h:bF a b=some c):c.1.1=a.1.1+b.1.1/\c.1.2.1=a.1.2.1+b.1.2.1/\c.1.2.2=a.1.2.2+b.1.2.2:=by
 unfold bF at h;split at h
 ·cases h;exact⟨rfl,rfl,rfl⟩
 ·cases h
theorem jK{a b:ah}(h:a.1.1+b.1.1<18446744073709551616/\a.1.2.1+b.1.2.1<18446744073709551616/\a.1.2.2+b.1.2.2<18446744073709551616):∃c,bF a b=some c:=by
 unfold bF;rw[dif_pos h];exact⟨_,rfl⟩
def PX:Px ah where
 aW a b:=a.1.1<=b.1.1/\a.1.2.1<=b.1.2.1/\a.1.2.2<=b.1.2.2
 lN a b:=a.1.1<b.1.1\/(a.1.1=b.1.1/\(a.1.2.1<b.1.2.1\/(a.1.2.1=b.1.2.1/\a.1.2.2<b.1.2.2)))
 thn:=bF
 z:=⟨(0,0,0),by decide⟩
theorem bH:PX.Ok where
 refl a:=⟨Int.le_refl _,Int.le_refl _,Int.le_refl _⟩
 trans {a b c} h k:=by
  obtain⟨h1,h2,h3⟩:=h;obtain⟨k1,k2,k3⟩:=k;exact⟨Int.le_trans h1 k1,Int.le_trans h2 k2,Int.le_trans h3 k3⟩
 told {a b} h:=by
  obtain⟨h1,h2,h3⟩:=h;by_cases e:a=b
  ·exact Or.inl e
  ·refine Or.inr ?_;have:¬(a.1.1=b.1.1/\a.1.2.1=b.1.2.1/\a.1.2.2=b.1.2.2):=fun k=>e (bW k.1 k.2.1 k.2.2);show _\/_;omega
 tt {a b c} h k:=by
  show _\/_;have h':a.1.1<b.1.1\/(a.1.1=b.1.1/\(a.1.2.1<b.1.2.1\/(a.1.2.1=b.1.2.1/\a.1.2.2<b.1.2.2))):=h;have k':b.1.1<c.1.1\/(b.1.1=c.1.1/\(b.1.2.1<c.1.2.1\/(b.1.2.1=c.1.2.1/\b.1.2.2<c.1.2.2))):=k;omega
 p9 a h:=by
  have h':a.1.1<a.1.1\/(a.1.1=a.1.1/\(a.1.2.1<a.1.2.1\/(a.1.2.1=a.1.2.1/\a.1.2.2<a.1.2.2))):=h;omega
 tot a b:=by
  by_cases e:a=b
  ·exact Or.inr (Or.inl e)
  ·have:¬(a.1.1=b.1.1/\a.1.2.1=b.1.2.1/\a.1.2.2=b.1.2.2):=fun k=>e (bW k.1 k.2.1 k.2.2);show(_\/_)\/_\/(_\/_);omega
 mono {a b c d} h k:=by
  obtain⟨h1,h2,h3⟩:=h;obtain⟨k1,k2,k3⟩:=bz k;have hd:=bX d;obtain⟨e,he⟩:=jK (a:=a) (b:=c) ⟨by omega,by omega,by omega⟩;obtain⟨e1,e2,e3⟩:=bz he;exact⟨e,he,by show _<=_/\_<=_/\_<=_;omega⟩
 up {a b c} k:=by
  obtain⟨k1,k2,k3⟩:=bz k;have hb:=bX b;show _<=_/\_<=_/\_<=_;omega
section
variable {α:Type} {X:Px α} {St:Nat->Nat->α->Prop} {p:Nat}
theorem rH{au:α->α->Bool}(hb:∀a b,au a b=true↔X.aW a b)(l:List α)(w:α):bG au l w=true↔pE X l w:=by
 unfold bG pE;rw[List.any_eq_true];exact⟨fun⟨x,h1,h2⟩=>⟨x,h1,(hb _ _).1 h2⟩,fun⟨x,h1,h2⟩=>⟨x,h1,(hb _ _).2 h2⟩⟩
theorem Ti{au fst:α->α->Bool}(hb:∀a b,au a b=true↔X.aW a b)(hf:∀a b,fst a b=true↔X.lN a b)(hX:X.Ok){rows:Nat->List α}{opn:List (Nat×α)}{w:α}(h:Iv X St p rows opn)(hm:(q0,w)∈opn):
    gq au fst (rows q0) w=if bG au (rows q0) w then rows q0 else rows q0++[w]:=by
 unfold gq;split
 ·rfl
 ·rename_i hc;have h1:dF au (rows q0) w=rows q0:=by
   unfold dF;refine List.filter_eq_self.2 (fun x hx=> ?_);cases e:au w x with
   | false => rfl
   | true=>
    have:=h.ls q0 x hx w (h.ow q0 w hm) ((hb _ _).1 e);subst this;exact absurd ((rH hb _ _).2 ⟨w,hx,hX.refl w⟩) hc
  have h2:(rows q0).findIdx (fun y=>fst w y)=(rows q0).length:=by
   refine List.findIdx_eq_length_of_false (fun x hx=> ?_);cases e:fst w x with
   | false => rfl
   | true => exact absurd ((hf _ _).1 e) (h.lo q0 x hx q0 w hm)
  rw[h1];unfold xH;rw[h2,tK,List.drop_length]
def tot(n:Nat)(rows:Nat->List α):Nat:=((List.range n).map (fun q=>(rows q).length)).sum
theorem vN(n:Nat)(rows:Nat->List α):tot (n+1) rows=tot n rows+(rows n).length:=by simp[tot,List.range_succ]
theorem vO{w:α}(rows:Nat->List α):tot n (dL rows q0 w)=tot n rows+if q0<n then 1 else 0:=by
 induction n with
 | zero => simp[tot]
 | succ n ih=>
  rw[vN,vN,ih];unfold dL;by_cases e:n=q0
  ·subst e;simp;omega
  ·rw[if_neg e];by_cases k:q0<n
   ·rw[if_pos k,if_pos (by omega)];omega
   ·rw[if_neg k,if_neg (by omega)];omega
theorem Aa{m:Nat}{rows:Nat->List α}(h:∀q,q<n->(rows q).length<=m):tot n rows<=m*n:=by
 induction n with
 | zero => simp[tot]
 | succ n ih=>
  rw[vN,Nat.mul_succ];have h1:=ih (fun q hq=>h q (by omega));have h2:=h n (by omega);omega
def I7(n d:Nat)(rows:Nat->List α)(k:Nat):Nat:=(64*n-tot n rows)*(d+1)+k
theorem Nr:I7 n d (fun _=>([]:List α)) 1=64*n*(d+1)+1:=by
 have:tot n (fun _=>([]:List α))=0:=by
  have:=Aa (n:=n) (m:=0) (rows:=fun _=>([]:List α)) (fun _ _=>by simp);omega
 unfold I7;rw[this,Nat.sub_zero]
theorem Nq{k':Nat}{w:α}{rows:Nat->List α}(hq:q0<n)(hl:∀q,q<n->(dL rows q0 w q).length<=64)(hk:0<k)(hk':k'<=k-1+d):I7 n d (dL rows q0 w) k'<I7 n d rows k:=by
 have h1:=Aa hl;have h2:=vO (n:=n) (q0:=q0) (w:=w) rows;rw[if_pos hq]at h2;unfold I7;have h3:64*n-tot n rows=(64*n-tot n (dL rows q0 w))+1:=by omega
 rw[h3,Nat.add_mul,Nat.one_mul];omega
theorem VU{rows:Nat->List α}:k<=I7 n d rows k:=Nat.le_add_left _ _
end
end Pt
namespace Hc
open Go.RowKit Go.Sort Hp
attribute[local go_sem ↓]wp_at_zero wp_at_succ
abbrev Th:=Int×Pt.ah×Int
abbrev tv(a:Th):Value:= .agg #[.int .i64 a.1, .int .u64 a.2.1.1.1, .int .u64 a.2.1.1.2.1, .int .u64 a.2.1.1.2.2, .int .i64 a.2.2]
abbrev It:=Th×Nat
abbrev iv(x:It):Value:= .agg #[.int .i64 x.1.1, .int .u64 x.1.2.1.1.1, .int .u64 x.1.2.1.1.2.1, .int .u64 x.1.2.1.1.2.2, .int .i64 x.1.2.2, .int .u64 (x.2:Nat)]
def EI:El It where
 k:=6
 enc x:=[.int .i64 x.1.1, .int .u64 x.1.2.1.1.1, .int .u64 x.1.2.1.1.2.1, .int .u64 x.1.2.1.1.2.2, .int .i64 x.1.2.2, .int .u64 (x.2:Nat)]
 len _:=rfl
 one x u hu:=by
  simp at hu;rcases hu with rfl|rfl|rfl|rfl|rfl|rfl<;>rfl
theorem gH{ts:List It}(h:Ls EI w v ts){x:It}(hj:ts[j]? =some x):
    ∃b off c,v= .slice (some ⟨b,off,none⟩) ts.length c/\b<w.heap.size/\w.cell? ⟨b,off+j*6,none⟩=some (.int .i64 x.1.1)/\w.cell? ⟨b,off+j*6+1,none⟩=some (.int .u64 x.1.2.1.1.1)/\w.cell? ⟨b,off+j*6+2,none⟩=some (.int .u64 x.1.2.1.1.2.1)/\w.cell? ⟨b,off+j*6+3,none⟩=some (.int .u64 x.1.2.1.1.2.2)/\w.cell? ⟨b,off+j*6+4,none⟩=some (.int .i64 x.1.2.2)/\w.cell? ⟨b,off+j*6+5,none⟩=some (.int .u64 (x.2:Nat)):=by
 obtain⟨b,off,c,hv,hb,hc⟩:=h.get hj;exact⟨b,off,c,hv,hb,hc 0 _ (by decide) rfl,hc 1 _ (by decide) rfl,hc 2 _ (by decide) rfl,hc 3 _ (by decide) rfl,hc 4 _ (by decide) rfl,hc 5 _ (by decide) rfl⟩
abbrev fv(ff:Value):Value:= .func (.func 86) #[ff] #[]
structure dW(K:World->Prop)(V:Th->Prop)(ff:Value)(r:Th->Th->Bool):Prop where
 enter:∀args w,(callFunc 86 args).run Tryz.prog w= .ok (.enter 86 args) w
 calls:∀(a b:Th) (W:World),V a->V b->K W->Calls Tryz.prog 86 #[ff,tv a,tv b] W fun e w'=>e= .returned (.bool (r a b))/\Gr W w'
 gr:∀W W',K W->Gr W W'->K W'
def aW(r:Th->Th->Bool)(a b:It):Bool:=if a.2<b.2 then !r b.1 a.1 else r a.1 b.1
structure Hb(w:World)(hb:Nat)(ff:Value)(v:Value)(L:List It)(np:Nat):Prop where
 blk:w.heap[hb]? =some (.cells #[fv ff,v, .int .u64 (np:Nat)] 249 (0,0))
 own:w.ownsRow 0 251 6 v L.length (fl EI L)
 off:v.ownBlock≠some hb
section
variable {w w':World} {hb np:Nat} {ff:Value} {v:Value} {L:List It}
theorem Hb.lt(h:Hb w hb ff v L np):hb<w.heap.size:=(aG.1 h.blk).1
theorem Hb.c0(h:Hb w hb ff v L np):w.cell? ⟨hb,0,none⟩=some (fv ff):=by simp[World.cell?,h.blk]
theorem Hb.c1(h:Hb w hb ff v L np):w.cell? ⟨hb,1,none⟩=some v:=by simp[World.cell?,h.blk]
theorem Hb.c2(h:Hb w hb ff v L np):w.cell? ⟨hb,2,none⟩=some (.int .u64 (np:Nat)):=by simp[World.cell?,h.blk]
theorem Hb.fz(h:Hb w hb ff v L np)(o:Nat):w.frozen? ⟨hb,o,none⟩=false:=by simp[World.frozen?,h.blk]
theorem Hb.qy(h:Hb w hb ff v L np):Ls EI w v L:=aJ (E:=EI) h.own
theorem Hb.row(h:Hb w hb ff v L np):∀k,v.ownBlock=some k->k<w.heap.size:=fun k hk=>(h.own.lt k hk).2
theorem Hb.kp{S:Nat->Prop}(h:Hb w hb ff v L np)(hk:Kp S w w')(h1:¬S hb)(h2:∀k,v.ownBlock=some k->¬S k):Hb w' hb ff v L np:=
 ⟨(hk.block hb h.lt h1).trans h.blk,ax hk h.own h2,h.off⟩
theorem Hb.below(h:Hb w hb ff v L np)(hb':Below w.heap.size w w'):Hb w' hb ff v L np:=h.kp (S:=fun _=>False) (Kp.of_below hb') (fun h=>h) (fun _ _ h=>h)
theorem Hb.gr(h:Hb w hb ff v L np)(hg:Gr w w'):Hb w' hb ff v L np:=h.below hg.below
end
theorem lJ{n:Value}(h:w.heap[hb]? =some (.cells #[fv ff,v,n] 249 (0,0))):
    (∀v2,(w.setCell ⟨hb,1,none⟩ v2).heap[hb]? =some (.cells #[fv ff,v2,n] 249 (0,0))/\Kp (fun k=>k=hb) w (w.setCell ⟨hb,1,none⟩ v2))/\(∀n2,(w.setCell ⟨hb,2,none⟩ n2).heap[hb]? =some (.cells #[fv ff,v,n2] 249 (0,0))/\Kp (fun k=>k=hb) w (w.setCell ⟨hb,2,none⟩ n2)):=by
 refine⟨fun v2=> ?_,fun n2=> ?_⟩
 ·have e:=setCell_eq_setRow w hb 1 _ _ _ v2 h;rw[e];exact⟨by rw[setRow_heap w hb _ _ _ _ h];simp,rfl,rfl,rfl,by simp[World.setRow],fun k _ hne=>setRow_other w hb k _ (by omega)⟩
 ·have e:=setCell_eq_setRow w hb 2 _ _ _ n2 h;rw[e];exact⟨by rw[setRow_heap w hb _ _ _ _ h];simp,rfl,rfl,rfl,by simp[World.setRow],fun k _ hne=>setRow_other w hb k _ (by omega)⟩
theorem Hb.CY{np:Nat}{L:List It}(h:Hb w hb ff v L np)(n:Nat):Hb (w.setCell ⟨hb,2,none⟩ (.int .u64 n)) hb ff v L n/\Kp (fun k=>k=hb) w (w.setCell ⟨hb,2,none⟩ (.int .u64 n)):=by
 obtain⟨h1,h2⟩:=(lJ h.blk).2 (.int .u64 n);exact⟨⟨h1,ax h2 h.own (fun k hk e=>h.off (e ▸ hk)),h.off⟩,h2⟩
theorem cK{e:TypeId}{s:Nat}{xs:List Value}(u:Value)(h:w.ownsRow 0 e s (.slice (some ⟨g,0,none⟩) n cap) n xs):
    (w.setCell ⟨g,q,none⟩ u).ownsRow 0 e s (.slice (some ⟨g,0,none⟩) n cap) n (xs.set q u)/\Kp (fun k=>k=g) w (w.setCell ⟨g,q,none⟩ u):=by
 obtain⟨h1,⟨h0,_⟩|⟨g',cap',cur,hv,hg,hh,h2,h3,h4,h5⟩⟩:=h
 ·cases h0
 ·cases hv;have e1:=setCell_eq_setRow w g q _ _ _ u hh;have hk1:Kp (fun k=>k=g) w (w.setCell ⟨g,q,none⟩ u):=by
   rw[e1];exact⟨rfl,rfl,rfl,by simp[World.setRow],fun q _ hne=>setRow_other _ g q _ (by omega)⟩
  refine⟨⟨by simpa using h1,Or.inr ⟨g,cap,_,rfl,hg,by rw[e1];exact setRow_heap _ g _ _ _ _ hh,h2,h3, ?_, ?_⟩⟩,hk1⟩
  ·simp[h4]
  ·rw[Array.toList_setIfInBounds,List.take_set,h5]
theorem BA(L:List It)(i:Nat)(x:It):(((((((fl EI L).set (i*6) (.int .i64 x.1.1)).set (i*6+1) (.int .u64 x.1.2.1.1.1)).set (i*6+2) (.int .u64 x.1.2.1.1.2.1)).set (i*6+3) (.int .u64 x.1.2.1.1.2.2)).set (i*6+4) (.int .i64 x.1.2.2)).set (i*6+5) (.int .u64 (x.2:Nat)))=fl EI (L.set i x):=by
 induction L generalizing i with
 | nil => simp[fl]
 | cons y L ih=>
  rw[aV];cases i with
  | zero => simp[EI,fl]
  | succ i=>
   rw[jD,aV,<-ih i,show(i+1)*6=i*6+6 by omega];simp[EI]
theorem fF{N:Nat}{L:List It}(x:It)(h:w.ownsRow 0 251 6 (.slice (some ⟨g,0,none⟩) N cap) N (fl EI L)):((((((w.setCell ⟨g,i*6,none⟩ (.int .i64 x.1.1)).setCell ⟨g,i*6+1,none⟩ (.int .u64 x.1.2.1.1.1)).setCell ⟨g,i*6+2,none⟩ (.int .u64 x.1.2.1.1.2.1)).setCell ⟨g,i*6+3,none⟩ (.int .u64 x.1.2.1.1.2.2)).setCell ⟨g,i*6+4,none⟩ (.int .i64 x.1.2.2)).setCell ⟨g,i*6+5,none⟩ (.int .u64 (x.2:Nat))).ownsRow 0 251 6 (.slice (some ⟨g,0,none⟩) N cap) N (fl EI (L.set i x))/\Kp (fun k=>k=g) w ((((((w.setCell ⟨g,i*6,none⟩ (.int .i64 x.1.1)).setCell ⟨g,i*6+1,none⟩ (.int .u64 x.1.2.1.1.1)).setCell ⟨g,i*6+2,none⟩ (.int .u64 x.1.2.1.1.2.1)).setCell ⟨g,i*6+3,none⟩ (.int .u64 x.1.2.1.1.2.2)).setCell ⟨g,i*6+4,none⟩ (.int .i64 x.1.2.2)).setCell ⟨g,i*6+5,none⟩ (.int .u64 (x.2:Nat))):=by
 obtain⟨h0,m0⟩:=cK (q:=i*6) (.int .i64 x.1.1) h;obtain⟨h1,m1⟩:=cK (q:=i*6+1) (.int .u64 x.1.2.1.1.1) h0;obtain⟨h2,m2⟩:=cK (q:=i*6+2) (.int .u64 x.1.2.1.1.2.1) h1;obtain⟨h3,m3⟩:=cK (q:=i*6+3) (.int .u64 x.1.2.1.1.2.2) h2;obtain⟨h4,m4⟩:=cK (q:=i*6+4) (.int .i64 x.1.2.2) h3;obtain⟨h5,m5⟩:=cK (q:=i*6+5) (.int .u64 (x.2:Nat)) h4;refine⟨?_,(((((m0.trans m1 (fun _ _ h=>h)).trans m2 (fun _ _ h=>h)).trans m3 (fun _ _ h=>h)).trans m4 (fun _ _ h=>h)).trans m5 (fun _ _ h=>h))⟩;rw[<-BA];exact h5
def dS(hb:Nat)(v v':Value)(w w':World):Prop:=Kp (fun k=>k=hb\/v.ownBlock=some k) w w'/\∀g,v'.ownBlock=some g->v.ownBlock=some g\/w.heap.size<=g
theorem fV(i:Nat)(h0:0<i)(hl:i<9223372036854775807)(w:World):Calls Tryz.prog 147 #[.int .i64 i] w fun e w'=>e= .returned (.int .i64 (par i:Nat))/\w'=w:=by
 have hz:((i:Int)-1).tdiv 2=(par i:Nat):=by
  unfold par;rw[Int.tdiv_eq_ediv_of_nonneg (by omega)];omega
 go_enter Tryz.func147,Tryz.ntmps147;go_wp2;go_ret;refine⟨?_,rfl⟩;have hw:wrap64 (par i:Nat)=(par i:Nat):=by unfold wrap64;have:=eX h0;omega
 show Ending.returned (Value.int _ (wrap64 (par i:Nat)))=_;rw[hw]
theorem kJ(ff:Value)(r:Th->Th->Bool){K:World->Prop}{V:Th->Prop}(hF:dW K V ff r)(x y:It)(hx:V x.1)(hy:V y.1)(hb:Nat)(w:World)(hk:K w)(hlt:hb<w.heap.size)(cf:w.cell? ⟨hb,0,none⟩=some (fv ff)):
    Calls Tryz.prog 209 #[.pointer (some ⟨hb,0,none⟩),iv x,iv y] w fun e w'=>e= .returned (.bool (aW r x y))/\Gr w w':=by
 have he:=hF.enter;have hc1:=fun W=>hF.calls y.1 x.1 W hy hx;have hc2:=fun W=>hF.calls x.1 y.1 W hx hy;have Yh:Hid (∀W,Gr w W->K W):=fun W g=>hF.gr _ _ hk g;have hm:Tryz.prog.follows .mixedOrders=true:=by kernel_rfl
 obtain⟨W1,hW1⟩:=aD ((w.alloc (.cells #[.int .i64 x.1.1, .int .u64 x.1.2.1.1.1, .int .u64 x.1.2.1.1.2.1, .int .u64 x.1.2.1.1.2.2, .int .i64 x.1.2.2, .int .u64 (x.2:Nat)] 251)).alloc (.cells #[.int .i64 y.1.1, .int .u64 y.1.2.1.1.1, .int .u64 y.1.2.1.1.2.1, .int .u64 y.1.2.1.1.2.2, .int .i64 y.1.2.2, .int .u64 (y.2:Nat)] 251));have G1:Gr w W1:=by rw[hW1];exact((Gr.refl _).alloc _).alloc _
 have hz:w.heap.size+1<W1.heap.size:=by rw[hW1];simp
 obtain⟨nb,hnb⟩:=aD (w.heap.size);have k0:=cell_grown (a:=⟨hb,0,none⟩) (nU hlt (Nat.lt_of_succ_lt hz)) ((G1.cell hlt).trans cf);obtain⟨p0,p1,p2,p3,p4,p5⟩:W1.cell? ⟨nb,0,none⟩=some (.int .i64 x.1.1)/\W1.cell? ⟨nb,1,none⟩=some (.int .u64 x.1.2.1.1.1)/\W1.cell? ⟨nb,2,none⟩=some (.int .u64 x.1.2.1.1.2.1)/\W1.cell? ⟨nb,3,none⟩=some (.int .u64 x.1.2.1.1.2.2)/\W1.cell? ⟨nb,4,none⟩=some (.int .i64 x.1.2.2)/\W1.cell? ⟨nb,5,none⟩=some (.int .u64 (x.2:Nat)):=by rw[hW1,hnb];simp
 obtain⟨q0,q1,q2,q3,q4,q5⟩:W1.cell? ⟨nb+1,0,none⟩=some (.int .i64 y.1.1)/\W1.cell? ⟨nb+1,1,none⟩=some (.int .u64 y.1.2.1.1.1)/\W1.cell? ⟨nb+1,2,none⟩=some (.int .u64 y.1.2.1.1.2.1)/\W1.cell? ⟨nb+1,3,none⟩=some (.int .u64 y.1.2.1.1.2.2)/\W1.cell? ⟨nb+1,4,none⟩=some (.int .i64 y.1.2.2)/\W1.cell? ⟨nb+1,5,none⟩=some (.int .u64 (y.2:Nat)):=by rw[hW1,hnb];simp
 have k10:=cell_grown (w:=W1) (a:=⟨nb,0,none⟩) (by rw[hnb];exact Nat.lt_of_succ_lt hz) p0;have k11:=cell_grown (w:=W1) (a:=⟨nb,1,none⟩) (by rw[hnb];exact Nat.lt_of_succ_lt hz) p1;have k12:=cell_grown (w:=W1) (a:=⟨nb,2,none⟩) (by rw[hnb];exact Nat.lt_of_succ_lt hz) p2;have k13:=cell_grown (w:=W1) (a:=⟨nb,3,none⟩) (by rw[hnb];exact Nat.lt_of_succ_lt hz) p3;have k14:=cell_grown (w:=W1) (a:=⟨nb,4,none⟩) (by rw[hnb];exact Nat.lt_of_succ_lt hz) p4;have k15:=cell_grown (w:=W1) (a:=⟨nb,5,none⟩) (by rw[hnb];exact Nat.lt_of_succ_lt hz) p5;have k20:=cell_grown (w:=W1) (a:=⟨nb+1,0,none⟩) (by rw[hnb];exact hz) q0;have k21:=cell_grown (w:=W1) (a:=⟨nb+1,1,none⟩) (by rw[hnb];exact hz) q1;have k22:=cell_grown (w:=W1) (a:=⟨nb+1,2,none⟩) (by rw[hnb];exact hz) q2;have k23:=cell_grown (w:=W1) (a:=⟨nb+1,3,none⟩) (by rw[hnb];exact hz) q3;have k24:=cell_grown (w:=W1) (a:=⟨nb+1,4,none⟩) (by rw[hnb];exact hz) q4;have k25:=cell_grown (w:=W1) (a:=⟨nb+1,5,none⟩) (by rw[hnb];exact hz) q5;by_cases hlt2:x.2<y.2
 ·have hlz:(x.2:Int)<(y.2:Int):=by omega
  have HA:Hid (aW r x y= !r y.1 x.1):=by unfold aW;rw[if_pos hlt2];rfl
  rw[HA.o];generalize r y.1 x.1=rr at hc1⊢;clear hc2 HA;go_enter Tryz.func209,Tryz.ntmps209;go_upto_region 2 with fail;rw[<-hW1,<-hnb];clear hW1 hnb cf;go_quiet_grown (first|(go_at_call 86;refine Calls.grown_of (v:= .bool rr) (hc1 _ (Yh.o _ ((G1.drewN _).grown _)))));go_wp2;go_ret;exact⟨rfl,(G1.drewN _).grown _⟩
 ·have hlz:¬(x.2:Int)<(y.2:Int):=by omega
  have HA:Hid (aW r x y=r x.1 y.1):=by unfold aW;rw[if_neg hlt2];rfl
  rw[HA.o];generalize r x.1 y.1=rr at hc2⊢;clear hc1 HA;go_enter Tryz.func209,Tryz.ntmps209;go_upto_region 3 with fail;rw[<-hW1,<-hnb];clear hW1 hnb cf;go_quiet_grown (first|(go_at_call 86;refine Calls.grown_of (v:= .bool rr) (hc2 _ (Yh.o _ ((G1.drewN _).grown _)))));go_wp2;go_ret;exact⟨rfl,(G1.drewN _).grown _⟩
end Hc
namespace Pt
section
variable {α:Type} {X:Px α} {St:Nat->Nat->α->Prop} {p:Nat}
theorem FE(hX:X.Ok)(l:List α)(h:l≠[]):∃m∈l,∀b∈l,¬X.lN b m:=by
 induction l with
 | nil => exact absurd rfl h
 | cons a l ih=>
  by_cases e:l=[]
  ·subst e;exact⟨a,by simp,fun b hb=>by simp at hb;subst hb;exact hX.p9 _⟩
  ·obtain⟨m,hm,hl⟩:=ih e;rcases hX.tot a m with k|k|k
   ·refine⟨a,by simp,fun b hb=> ?_⟩;rcases eO.1 hb with rfl|hb
    ·exact hX.p9 _
    ·exact fun t=>hl b hb (hX.tt t k)
   ·refine⟨m,by simp[hm],fun b hb=> ?_⟩;rcases eO.1 hb with rfl|hb
    ·rw[k];exact hX.p9 _
    ·exact hl b hb
   ·refine⟨m,by simp[hm],fun b hb=> ?_⟩;rcases eO.1 hb with rfl|hb
    ·exact fun t=>hX.p9 _ (hX.tt t k)
    ·exact hl b hb
structure Fg(X:Px α)(all f:List α):Prop where
 so:f.Pairwise X.lN
 mem:∀a,a∈f↔a∈all/\∀b∈all,X.aW b a->b=a
theorem Fg.same(hX:X.Ok){all f g:List α}(h:Fg X all f)(k:Fg X all g):f=g:=Ae hX h.so k.so (fun a=>by rw[h.mem,k.mem])
theorem Dr(hX:X.Ok){all:List α}{x:α}(hx:x∈all):∃m∈all,X.aW m x/\∀b∈all,X.aW b m->b=m:=by
 classical
 obtain⟨m,hm,hf⟩:=FE hX (all.filter (fun y=>decide (X.aW y x))) (fun e=>by
  have:x∈all.filter (fun y=>decide (X.aW y x)):=mF.2 ⟨hx,by simpa using hX.refl x⟩;rw[e]at this;simp at this)
 obtain⟨h1,h2⟩:=mF.1 hm;have h2:X.aW m x:=by simpa using h2
 refine⟨m,h1,h2,fun b hb hbm=> ?_⟩;rcases hX.told hbm with e|e
 ·exact e
 ·exact absurd e (hf b (mF.2 ⟨hb,by simpa using hX.trans hbm h2⟩))
theorem Fg.open(hX:X.Ok){all f:List α}(h:Fg X all f)(t:α):pE X f t↔pE X all t:=by
 constructor
 ·rintro⟨x,hx,hxt⟩;exact⟨x,((h.mem x).1 hx).1,hxt⟩
 ·rintro⟨x,hx,hxt⟩;obtain⟨m,hm,hmx,hl⟩:=Dr hX hx;exact⟨m,(h.mem m).2 ⟨hm,hl⟩,hX.trans hmx hxt⟩
end
theorem rM(a b:ah)(h:PX.aW a b)(k:PX.aW b a):a=b:=bW (Int.le_antisymm h.1 k.1) (Int.le_antisymm h.2.1 k.2.1) (Int.le_antisymm h.2.2 k.2.2)
theorem yN(a b:ah):bF a b=bF b a:=by
 unfold bF;simp only[Int.add_comm b.1.1,Int.add_comm b.1.2.1,Int.add_comm b.1.2.2]
theorem Ag(a:ah):bF PX.z a=some a:=by
 have h:=bX a;have e0:PX.z.1.1=0:=rfl;have e1:PX.z.1.2.1=0:=rfl;have e2:PX.z.1.2.2=0:=rfl;obtain⟨c,hc⟩:=jK (a:=PX.z) (b:=a) ⟨by omega,by omega,by omega⟩;obtain⟨h1,h2,h3⟩:=bz hc;rw[hc];exact congrArg some (bW (by omega) (by omega) (by omega))
def Y0(St:Nat->Nat->ah->Prop)(p:Nat)(t:ah)(q:Nat)(u:ah):Prop:=∃a c,Wy PX St p q a/\bF a t=some c/\PX.aW c u
theorem Y0.least{St:Nat->Nat->ah->Prop}{rows:Nat->List ah}(h:rR PX St p (some rows))(hc:∀q a,Wy PX St p q a->pE PX (rows q) a){t u:ah}:Y0 St p t q u↔∃a∈rows q,∃c,bF a t=some c/\PX.aW c u:=by
 constructor
 ·rintro⟨a,c,ha,hat,Qf⟩;obtain⟨x,hx,hxa⟩:=hc q a ha;obtain⟨e,he,Ux⟩:=bH.mono hxa hat;exact⟨x,hx,e,he,bH.trans Ux Qf⟩
 ·rintro⟨a,ha,c,hat,Qf⟩;exact⟨a,c,((h q).2.1 a).1 ha|>.1,hat,Qf⟩
def UM(St:Nat->Nat->ah->Prop)(p:Nat)(t:ah)(q:Nat)(u:ah):Prop:=∃a,Wy PX St p q a/\bF a t=some u
theorem UM.self(St:Nat->Nat->ah->Prop)(p:Nat)(t:ah):UM St p t p t:=⟨PX.z, .nil,Ag t⟩
theorem Iy{a b c:ah}(h:bF a b=some c):a.1.1+b.1.1<18446744073709551616/\a.1.2.1+b.1.2.1<18446744073709551616/\a.1.2.2+b.1.2.2<18446744073709551616:=by
 unfold bF at h;split at h
 ·assumption
 ·cases h
theorem UM.step{St:Nat->Nat->ah->Prop}{p q q':Nat}{t u v b:ah}(h:UM St p t q u)(hs:St q q' b)(hv:bF b u=some v):UM St p t q' v:=by
 obtain⟨a,ha,hu⟩:=h;have e1:=bz hu;have e2:=bz hv;have d2:=Iy hv;have ta:=bX a;have tt:=bX t;have tb:=bX b;obtain⟨c,hc⟩:=jK (a:=a) (b:=b) (by omega);have e3:=bz hc;obtain⟨d,hd⟩:=jK (a:=c) (b:=t) (by omega);have e4:=bz hd;refine⟨c, .step ha hs hc, ?_⟩;rw[hd];exact congrArg some (bW (by omega) (by omega) (by omega))
theorem JN{b u u' v:ah}(h:PX.aW u' u)(hv:bF b u=some v):∃v',bF b u'=some v'/\PX.aW v' v:=by
 rw[yN]at hv;obtain⟨v',h1,h2⟩:=bH.mono h hv;exact⟨v',by rw[yN];exact h1,h2⟩
section
variable {St:Nat->Nat->ah->Prop} {p:Nat} {t:ah} {at_:Nat->List ah} {todo done:List (Nat×ah)} {q0:Nat} {u0:ah}
end
section
variable {St:Nat->Nat->ah->Prop} {p:Nat} {t:ah} {at_:Nat->List ah}
end
end Pt
end Go.Proofs.YteekbpokkjjipaaGreat
