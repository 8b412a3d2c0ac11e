import Derived.Test.YteekbpokkjjipaaGreatJ4
variable{p N x:Nat}{α β:Type}
namespace Go.Proofs.YteekbpokkjjipaaGreat
namespace Pt
structure rJ(N:Nat)(L:Nat->List (Nat×ah))(ps:Nat×ah->Nat):Prop where
 inj:∀p q t u,p<N->q<N->ps (p,t)=ps (q,u)->p=q/\t=u
 up:∀p t u,p<N->PX.aW t u->t≠u->ps (p,t)<ps (p,u)
 step:∀p q t u b,p<N->(q,b)∈L p->bF b t=some u->q<N/\ps (p,t)<ps (q,u)
structure Cu(f:ah->Int)(l:List ah):Prop where
 so:l.Pairwise PX.lN
 mem:∀t,t∈l↔0<f t/\∀u,0<f u->PX.aW u t->u=t
theorem Cu.nodup{f:ah->Int}{l:List ah}(h:Cu f l):l.Nodup:=h.so.imp fun {a b} k (e:a=b)=>bH.p9 b (by rw[e]at k;exact k)
theorem Cu.same{f:ah->Int}{l m:List ah}(h:Cu f l)(k:Cu f m):l=m:=Ae bH h.so k.so fun a=>by rw[h.mem,k.mem]
def EW(l:List (Nat×ah))(u:ah):List (Nat×ah):=l.filterMap fun s=>(bF s.2 u).map fun v=>(s.1,v)
def ar1(l:List (Nat×ah))(us:List ah):List (Nat×ah):=us.flatMap (EW l)
def arr(N:Nat)(L:Nat->List (Nat×ah))(F:Nat->List ah):List (Nat×ah):=(List.range N).flatMap fun q=>ar1 (L q) (F q)
theorem A9{l:List (Nat×ah)}{u v:ah}:(p,v)∈EW l u↔∃b,(p,b)∈l/\bF b u=some v:=by
 unfold EW;rw[List.mem_filterMap];constructor
 ·rintro⟨⟨q,b⟩,hs,hv⟩;simp only[Option.map_eq_some_iff,Prod.mk.injEq]at hv;obtain⟨a,ha,rfl,rfl⟩:=hv;exact⟨b,hs,ha⟩
 ·rintro⟨b,hs,hv⟩;exact⟨(p,b),hs,by simp[hv]⟩
theorem Jb{L:Nat->List (Nat×ah)}{F:Nat->List ah}{t:ah}:(p,t)∈arr N L F↔∃q u b,q<N/\u∈F q/\(p,b)∈L q/\bF b u=some t:=by
 unfold arr ar1;simp only[List.mem_flatMap,mR,A9];constructor
 ·rintro⟨q,hq,u,hu,b,hb,ht⟩;exact⟨q,u,b,hq,hu,hb,ht⟩
 ·rintro⟨q,u,b,hq,hu,hb,ht⟩;exact⟨q,hq,u,hu,b,hb,ht⟩
def sm{α:Type}(c:α->Int)(l:List α):Int:=(l.map c).sum
section
variable {α β:Type}
theorem Vk(c:α->Int):sm c []=0:=rfl
theorem aQ(c:α->Int)(a:α)(l:List α):sm c (a::l)=c a+sm c l:=by simp[sm]
theorem og(c:α->Int)(l m:List α):sm c (l++m)=sm c l+sm c m:=by
 induction l with
 | nil => simp[sm]
 | cons a l ih => rw[List.cons_append,aQ,aQ,ih];omega
theorem IJ{c:α->Int}{l m:List α}(h:l.Perm m):sm c l=sm c m:=by
 induction h with
 | nil => rfl
 | cons a _ ih => rw[aQ,aQ,ih]
 | swap a b l => rw[aQ,aQ,aQ,aQ];omega
 | trans _ _ h1 h2 => rw[h1,h2]
theorem yS(c:α->Int)(q:α->Bool)(l:List α)(h:∀a∈l,q a=false->c a=0):sm c (l.filter q)=sm c l:=by
 induction l with
 | nil => rfl
 | cons a l ih=>
  rw[List.filter_cons];have ih:=ih fun b hb=>h b (mO _ hb);cases hq:q a with
  | true => rw[if_pos rfl,aQ,aQ,ih]
  | false => rw[if_neg (by simp),aQ,h a mX hq,ih];omega
theorem iV{c:α->Int}{l:List α}(h:∀a∈l,c a=0):sm c l=0:=by
 induction l with
 | nil => rfl
 | cons a l ih => rw[aQ,h a mX,ih fun b hb=>h b (mO _ hb)];rfl
theorem Aq[DecidableEq α]{c:α->Int}{l m:List α}(hl:l.Nodup)(hm:m.Nodup)(h:∀a,c a≠0->(a∈l↔a∈m)):sm c l=sm c m:=by
 rw[<-yS c (fun a=>decide (c a≠0)) l (fun a _ ha=>by simpa using ha),<-yS c (fun a=>decide (c a≠0)) m (fun a _ ha=>by simpa using ha)];refine IJ ((List.perm_ext_iff_of_nodup (hl.filter _) (hm.filter _)).2 fun a=> ?_);rw[mF,mF];constructor
 ·rintro⟨h1,h2⟩;exact⟨(h a (by simpa using h2)).1 h1,h2⟩
 ·rintro⟨h1,h2⟩;exact⟨(h a (by simpa using h2)).2 h1,h2⟩
theorem pW(c:β->Int)(f:α->List β)(l:List α):sm c (l.flatMap f)=sm (fun a=>sm c (f a)) l:=by
 induction l with
 | nil => rfl
 | cons a l ih => rw[K4,og,aQ,ih]
theorem eU{c d:α->Int}{l:List α}(h:∀a∈l,c a=d a):sm c l=sm d l:=by
 induction l with
 | nil => rfl
 | cons a l ih => rw[aQ,aQ,h a mX,ih fun b hb=>h b (mO _ hb)]
theorem nY{c:α->Int}{l:List α}(h:∀a∈l,0<=c a):0<=sm c l:=by
 induction l with
 | nil => exact Int.le_refl _
 | cons a l ih=>
  have h1:=h a mX;have h2:=ih fun b hb=>h b (mO _ hb);rw[aQ];omega
theorem Vj{c:α->Int}{l:List α}(h:∀a∈l,0<=c a){a:α}(ha:a∈l)(hp:0<c a):0<sm c l:=by
 induction l with
 | nil => cases ha
 | cons b l ih=>
  have h2:=nY fun x hx=>h x (mO b hx);have h1:=h b mX;rw[aQ];rcases eO.1 ha with rfl|ha
  ·omega
  ·have:=ih (fun x hx=>h x (mO _ hx)) ha;omega
theorem vY{c:α->Int}{l:List α}(h:∀a∈l,0<=c a):0<sm c l↔∃a∈l,0<c a:=by
 refine⟨fun hp=>Classical.byContradiction fun hn=> ?_,fun⟨a,ha,hp⟩=>Vj h ha hp⟩;have:sm c l=0:=iV fun a ha=>by
  have h1:=h a ha;have h2:¬0<c a:=fun k=>hn ⟨a,ha,k⟩;omega
 omega
theorem Vl(c:α->Int)(l:List α):sm (fun a=> - c a) l= - sm c l:=by
 induction l with
 | nil => rfl
 | cons a l ih => rw[aQ,aQ,ih];omega
end
def one(y x:Nat×ah):Int:=if x=y then 1 else 0
theorem one_nonneg(y x:Nat×ah):0<=one y x:=by unfold one;split<;>omega
def ct(l:List (Nat×ah))(y:Nat×ah)(u:ah):Int:=sm (one y) (EW l u)
theorem zM(l:List (Nat×ah))(y:Nat×ah)(u:ah):0<=ct l y u:=nY fun _ _=>one_nonneg _ _
theorem XE{l:List (Nat×ah)}{t u:ah}:0<ct l (p,t) u↔∃b,(p,b)∈l/\bF b u=some t:=by
 unfold ct;rw[vY fun _ _=>one_nonneg _ _,<-A9];constructor
 ·rintro⟨a,ha,hp⟩;unfold one at hp;split at hp
  ·rename_i e;rw[<-e];exact ha
  ·omega
 ·intro h;exact⟨_,h,by unfold one;rw[if_pos rfl];omega⟩
def Ql(N:Nat)(L:Nat->List (Nat×ah))(F:Nat->List ah)(y:Nat×ah):Int:=sm (fun q=>sm (ct (L q) y) (F q)) (List.range N)
theorem XK(N:Nat)(L:Nat->List (Nat×ah))(F:Nat->List ah)(y:Nat×ah):Ql N L F y=sm (one y) (arr N L F):=by
 unfold Ql arr;rw[pW];refine eU fun q _=> ?_;unfold ar1;rw[pW];rfl
theorem xN(N:Nat)(L:Nat->List (Nat×ah))(F:Nat->List ah)(y:Nat×ah):0<=Ql N L F y:=nY fun _ _=>nY fun _ _=>zM _ _ _
theorem Tf{L:Nat->List (Nat×ah)}{F:Nat->List ah}{t:ah}:0<Ql N L F (p,t)↔∃q u b,q<N/\u∈F q/\(p,b)∈L q/\bF b u=some t:=by
 rw[<-Jb,XK,vY fun _ _=>one_nonneg _ _];constructor
 ·rintro⟨a,ha,hp⟩;unfold one at hp;split at hp
  ·rename_i e;rw[<-e];exact ha
  ·omega
 ·intro h;exact⟨_,h,by unfold one;rw[if_pos rfl];omega⟩
def rhs(N:Nat)(L:Nat->List (Nat×ah))(O F:Nat->List ah)(p:Nat)(t:ah):Int:=(if t∈O p then 1 else 0)+Ql N L F (p,t)
theorem wB(N:Nat)(L:Nat->List (Nat×ah))(O F:Nat->List ah)(p:Nat)(t:ah):0<=rhs N L O F p t:=by
 unfold rhs;have:=xN N L F (p,t);split<;>omega
theorem qN{L:Nat->List (Nat×ah)}{O F:Nat->List ah}{t:ah}:0<rhs N L O F p t↔t∈O p\/∃q u b,q<N/\u∈F q/\(p,b)∈L q/\bF b u=some t:=by
 rw[<-Tf];unfold rhs;have:=xN N L F (p,t);by_cases h:t∈O p
 ·rw[if_pos h];exact⟨fun _=> .inl h,fun _=>by omega⟩
 ·rw[if_neg h];exact⟨fun k=> .inr (by omega),fun k=>k.elim (fun k=>absurd k h) (fun k=>by omega)⟩
structure Ew(N:Nat)(L:Nat->List (Nat×ah))(O:Nat->List ah)(C:Nat->ah->Int)(F:Nat->List ah):Prop where
 eq:∀p t,p<N->C p t=rhs N L O F p t
 fr:∀p,p<N->Cu (C p) (F p)
def pG(W:List (Nat×ah×Int))(y:Nat×ah):Int:=sm (fun e=>if (e.1,e.2.1)=y then e.2.2 else 0) W
structure P9(N:Nat)(L:Nat->List (Nat×ah))(O:Nat->List ah)(C:Nat->ah->Int)(F:Nat->List ah)(W:List (Nat×ah×Int)):Prop where
 eq:∀p t,p<N->C p t+pG W (p,t)=rhs N L O F p t
 fr:∀p,p<N->Cu (C p) (F p)
section
variable {N:Nat} {L:Nat->List (Nat×ah)} {ps:Nat×ah->Nat} {O F Fn:Nat->List ah} {C Cn:Nat->ah->Int} {W:List (Nat×ah×Int)}
theorem Xl(hO:rJ N L ps){t:ah}(hp:p<N)(h:Cu (C p) (F p))(k:Cu (Cn p) (Fn p))(e:∀v,ps (p,v)<=ps (p,t)->C p v=Cn p v):t∈F p↔t∈Fn p:=by
 have hv:∀v,PX.aW v t->C p v=Cn p v:=fun v hv=>e v (by
  by_cases q:v=t
  ·rw[q];exact nR _
  ·exact Nat.le_of_lt (hO.up p v t hp hv q))
 rw[h.mem,k.mem,e t (nR _)];constructor
 ·rintro⟨h1,h2⟩;exact⟨h1,fun u hu ha=>h2 u (by rw[hv u ha];exact hu) ha⟩
 ·rintro⟨h1,h2⟩;exact⟨h1,fun u hu ha=>h2 u (by rw[<-hv u ha];exact hu) ha⟩
theorem MX(hO:rJ N L ps)(h:∀p,p<N->Cu (C p) (F p))(k:∀p,p<N->Cu (Cn p) (Fn p)){t:ah}(e:∀q v,q<N->ps (q,v)<ps (p,t)->C q v=Cn q v):rhs N L O F p t=rhs N L O Fn p t:=by
 unfold rhs Ql;rw[eU (d:=fun q=>sm (ct (L q) (p,t)) (Fn q)) fun q hq=> ?_];have hq:=mR.1 hq;refine Aq (h q hq).nodup (k q hq).nodup fun u hu=> ?_;have hp:0<ct (L q) (p,t) u:=by have:=zM (L q) (p,t) u;omega
 obtain⟨b,hb,hv⟩:=XE.1 hp;have hs:=(hO.step q p u t b hq hb hv).2;exact Xl hO hq (h q hq) (k q hq) fun v hv=>e q v hq (by omega)
theorem P9.settled(hO:rJ N L ps)(h:P9 N L O C F W)(s:Ew N L O Cn Fn)(hW:∀e∈W,x<=ps (e.1,e.2.1)):∀(k p:Nat) (t:ah),ps (p,t)=k->p<N->k<x->C p t=Cn p t:=by
 intro k
 induction k using Nat.strongRecOn with
 | _ k ih=>
  intro p t hk hp hx;have e0:pG W (p,t)=0:=iV fun e he=>by
   rw[if_neg];intro e1;have:=hW e he;rw[e1,hk]at this;omega
  have e1:=h.eq p t hp;rw[e0,MX hO h.fr s.fr (Cn:=Cn) (fun q v hq hv=>ih (ps (q,v)) (by omega) q v rfl hq (by omega)),<-s.eq p t hp]at e1;omega
theorem P9.first(hO:rJ N L ps)(h:P9 N L O C F W)(s:Ew N L O Cn Fn){t:ah}(hp:p<N)(hW:∀e∈W,ps (p,t)<=ps (e.1,e.2.1)):C p t+pG W (p,t)=Cn p t:=by
 rw[h.eq p t hp,MX hO h.fr s.fr (fun q v hq hv=>h.settled hO s hW (ps (q,v)) q v rfl hq hv),<-s.eq p t hp]
theorem P9.fin(hO:rJ N L ps)(h:P9 N L O C F [])(s:Ew N L O Cn Fn)(hp:p<N):(∀t,C p t=Cn p t)/\F p=Fn p:=by
 have h1:∀t,C p t=Cn p t:=fun t=>h.settled hO s (x:=ps (p,t)+1) (fun e he=>by cases he) (ps (p,t)) p t rfl hp (by omega);refine⟨h1,(h.fr p hp).same ?_⟩;rw[show C p=Cn p from funext h1];exact s.fr p hp
end
structure yn(a b:List ah)(ds:List (ah×Int)):Prop where
 nd:(ds.map Prod.fst).Nodup
 mem:∀t n,(t,n)∈ds↔(t∈a/\t∉b/\n= -1)\/(t∈b/\t∉a/\n=1)
def jN(l:List (Nat×ah))(ds:List (ah×Int)):List (Nat×ah×Int):=ds.flatMap fun d=>(EW l d.1).map fun x=>(x.1,x.2,d.2)
theorem Vm(c:Int)(f:α->Int)(l:List α):sm (fun a=>f a*c) l=sm f l*c:=by
 induction l with
 | nil => simp[sm]
 | cons a l ih => rw[aQ,aQ,ih,Int.add_mul]
theorem pF(W V:List (Nat×ah×Int))(y:Nat×ah):pG (W++V) y=pG W y+pG V y:=og _ _ _
theorem qC{W V:List (Nat×ah×Int)}(h:W.Perm V)(y:Nat×ah):pG W y=pG V y:=IJ h
theorem FR(c:β->Int)(f:α->β)(l:List α):sm c (l.map f)=sm (fun a=>c (f a)) l:=by
 induction l with
 | nil => rfl
 | cons a l ih => rw[List.map_cons,aQ,aQ,ih]
theorem Qw(l:List (Nat×ah))(ds:List (ah×Int))(y:Nat×ah):pG (jN l ds) y=sm (fun d=>ct l y d.1*d.2) ds:=by
 unfold pG jN;rw[pW];refine eU fun d _=> ?_;rw[FR];unfold ct;rw[<-Vm];refine eU fun x _=> ?_;unfold one;by_cases e:x=y
 ·rw[if_pos e,if_pos e,Int.one_mul]
 ·rw[if_neg e,if_neg e,Int.zero_mul]
theorem Mx(f g:α->Int)(l:List α):sm (fun a=>f a+g a) l=sm f l+sm g l:=by
 induction l with
 | nil => rfl
 | cons a l ih => rw[aQ,aQ,aQ,ih];omega
theorem yn.sum{a b:List ah}{ds:List (ah×Int)}(h:yn a b ds)(ha:a.Nodup)(hb:b.Nodup)(c:ah->Int):sm (fun d=>c d.1*d.2) ds=sm c b-sm c a:=by
 have hin:∀t n,(t,n)∈ds->n=(if t∈b then 1 else 0)-(if t∈a then 1 else 0):=fun t n ht=>by
  rcases(h.mem t n).1 ht with⟨h1,h2,rfl⟩|⟨h1,h2,rfl⟩
  ·rw[if_neg h2,if_pos h1];rfl
  ·rw[if_pos h1,if_neg h2];rfl
 have e1:sm (fun d=>c d.1*d.2) ds=sm (fun t=>c t*((if t∈b then 1 else 0)-(if t∈a then 1 else 0))) (ds.map Prod.fst):=by
  rw[FR];exact eU fun d hd=>by rw[hin d.1 d.2 hd]
 rw[e1];have hu:∀(m:List ah),m.Nodup->(∀t∈a,t∈m)->(∀t∈b,t∈m)->(∀t∈ds.map Prod.fst,t∈m)->sm (fun t=>c t*((if t∈b then 1 else 0)-(if t∈a then 1 else 0))) (ds.map Prod.fst)=sm c b-sm c a:=fun m hm k1 k2 k3=>by
  have e2:sm (fun t=>c t*((if t∈b then 1 else 0)-(if t∈a then 1 else 0))) (ds.map Prod.fst)=sm (fun t=>c t*((if t∈b then 1 else 0)-(if t∈a then 1 else 0))) m:=by
   refine Aq h.nd hm fun t ht=>⟨k3 t,fun _=> ?_⟩;by_cases h1:t∈a
   ·by_cases h2:t∈b
    ·simp[h1,h2]at ht
    ·exact mM.2 ⟨(t,-1),(h.mem t _).2 (.inl ⟨h1,h2,rfl⟩),rfl⟩
   ·by_cases h2:t∈b
    ·exact mM.2 ⟨(t,1),(h.mem t _).2 (.inr ⟨h2,h1,rfl⟩),rfl⟩
    ·simp[h1,h2]at ht
  have e3:∀l:List ah,l.Nodup->(∀t∈l,t∈m)->sm c l=sm (fun t=>c t*(if t∈l then 1 else 0)) m:=fun l hl hs=>by
   rw[<-eU (c:=fun t=>c t*(if t∈l then 1 else 0)) (d:=c) (l:=l) fun t ht=>by rw[if_pos ht,Int.mul_one]];refine Aq hl hm fun t ht=>⟨hs t,fun _=>Classical.byContradiction fun e=>ht (by simp[e])⟩
  rw[e2,e3 a ha k1,e3 b hb k2];have e4:=Mx (fun t=>c t*(if t∈b then 1 else 0)) (fun t=> - (c t*(if t∈a then 1 else 0))) m;rw[Vl]at e4;rw[Int.sub_eq_add_neg,<-e4];refine eU fun t _=> ?_;rw[Int.mul_sub];omega
 exact hu (a++b.filter fun t=>decide (t∉a)) (List.nodup_append.2 ⟨ha,hb.filter _,fun x hx y hy=>by
  rintro rfl;simp only[mF,dE]at hy;exact hy.2 hx⟩) (fun t ht=>List.mem_append_left _ ht) (fun t ht=>by
   by_cases e:t∈a
   ·exact List.mem_append_left _ e
   ·exact List.mem_append_right _ (mF.2 ⟨ht,by simpa using e⟩)) (fun t ht=>by
   obtain⟨d,hd,rfl⟩:=mM.1 ht;rcases(h.mem d.1 d.2).1 hd with k|k
   ·exact List.mem_append_left _ k.1
   ·exact List.mem_append_right _ (mF.2 ⟨k.1,by simpa using k.2.1⟩))
def bI{β:Type}(f:Nat->β)(p:Nat)(x:β):Nat->β:=fun q=>if q=p then x else f q
theorem bK(f:Nat->β)(p:Nat)(x:β):bI f p x p=x:=if_pos rfl
theorem bJ(f:Nat->β){q:Nat}(x:β)(h:q≠p):bI f p x q=f q:=if_neg h
theorem Te{L:Nat->List (Nat×ah)}{F:Nat->List ah}(hp:p<N)(l:List ah)(y:Nat×ah):Ql N L (bI F p l) y=Ql N L F y+(sm (ct (L p) y) l-sm (ct (L p) y) (F p)):=by
 unfold Ql;have key:∀m:List Nat,m.Nodup->p∈m->sm (fun q=>sm (ct (L q) y) (bI F p l q)) m=sm (fun q=>sm (ct (L q) y) (F q)) m+(sm (ct (L p) y) l-sm (ct (L p) y) (F p)):=fun m=>by
  induction m with
  | nil => intro _ h;cases h
  | cons a m ih=>
   intro hn hm;have hn':=List.nodup_cons.1 hn;rw[aQ,aQ];by_cases e:a=p
   ·subst e;rw[bK,eU (d:=fun q=>sm (ct (L q) y) (F q)) (l:=m) fun q hq=>by rw[bJ F l (show q≠a from fun e=>hn'.1 (e ▸ hq))]];omega
   ·rw[bJ F l e,ih hn'.2 ((eO.1 hm).resolve_left fun h=>e h.symm)];omega
 exact key _ List.nodup_range (mR.2 hp)
section
variable {N:Nat} {L:Nat->List (Nat×ah)} {ps:Nat×ah->Nat} {O F Fn:Nat->List ah} {C Cn:Nat->ah->Int} {W:List (Nat×ah×Int)}
theorem P9.pop(h:P9 N L O C F W)(hp:p<N){t:ah}{f':ah->Int}{l':List ah}{ds:List (ah×Int)}{W1:List (Nat×ah×Int)}(hf:∀u,f' u=if u=t then C p t+pG W (p,t)else C p u)(hl:Cu f' l')(hd:yn (F p) l' ds)(hW1:∀y,pG W1 y=if y=(p,t)then 0 else pG W y):
    P9 N L O (bI C p f') (bI F p l') (W1++jN (L p) ds):=by
 refine⟨fun q u hq=> ?_,fun q hq=> ?_⟩
 ·rw[pF,Qw,hd.sum (h.fr p hp).nodup hl.nodup];have e:=h.eq q u hq;unfold rhs at e⊢;rw[Te hp,hW1];by_cases e1:q=p
  ·subst e1;rw[bK,hf];by_cases e2:u=t
   ·subst e2;rw[if_pos rfl,if_pos rfl];omega
   ·rw[if_neg e2,if_neg fun k=>e2 (Prod.mk.inj k).2];omega
  ·rw[bJ C f' e1,if_neg fun k=>e1 (Prod.mk.inj k).1];omega
 ·by_cases e:q=p
  ·subst e;rw[bK,bK];exact hl
  ·rw[bJ C f' e,bJ F l' e];exact h.fr q hq
theorem He{f f':ah->Int}{l l':List ah}{t u:ah}(h:Cu f l)(k:Cu f' l')(he:∀v,v≠t->f' v=f v)(hu:¬(u∈l↔u∈l')):PX.aW t u:=by
 refine Classical.byContradiction fun hn=>hu ?_;have hne:∀v,PX.aW v u->v≠t:=fun v hv e=>hn (e ▸ hv);rw[h.mem,k.mem,he u (hne u (bH.refl u))];constructor
 ·rintro⟨h1,h2⟩;exact⟨h1,fun v hv ha=>h2 v (by rw[<-he v (hne v ha)];exact hv) ha⟩
 ·rintro⟨h1,h2⟩;exact⟨h1,fun v hv ha=>h2 v (by rw[he v (hne v ha)];exact hv) ha⟩
theorem yn.turned{a b:List ah}{ds:List (ah×Int)}(h:yn a b ds){u:ah}(hu:u∈ds.map Prod.fst):¬(u∈a↔u∈b):=by
 obtain⟨d,hd,rfl⟩:=mM.1 hu;rcases(h.mem d.1 d.2).1 hd with⟨h1,h2,_⟩|⟨h1,h2,_⟩
 ·exact fun e=>h2 (e.1 h1)
 ·exact fun e=>h2 (e.2 h1)
theorem J2(hO:rJ N L ps)(hp:p<N){t:ah}{ds:List (ah×Int)}(hd:∀u∈ds.map Prod.fst,PX.aW t u):∀e∈jN (L p) ds,e.1<N/\ps (p,t)<ps (e.1,e.2.1):=by
 intro e he;unfold jN at he;obtain⟨d,hd1,he⟩:=List.mem_flatMap.1 he;obtain⟨x,hx,rfl⟩:=mM.1 he;obtain⟨b,hb,hv⟩:=A9.1 (show(x.1,x.2)∈EW (L p) d.1 from hx);obtain⟨h1,h2⟩:=hO.step p x.1 d.1 x.2 b hp hb hv;refine⟨h1,Nat.lt_of_le_of_lt ?_ h2⟩;have h3:=hd d.1 (mM.2 ⟨d,hd1,rfl⟩);by_cases e:t=d.1
 ·rw[e];exact nR _
 ·exact Nat.le_of_lt (hO.up p t d.1 hp h3 e)
end
def mix(ps:Nat×ah->Nat)(Co Cn:Nat->ah->Int)(x q:Nat)(v:ah):Int:=if ps (q,v)<x then Cn q v else Co q v
def Il(f:ah->Int)(u:ah):Prop:=0<f u/\∀v,0<f v->PX.aW v u->v=u
noncomputable def rem (ps:Nat×ah->Nat) (Co Cn:Nat->ah->Int) (x q:Nat) (u:ah):Nat:=
 @ite _ (ps (q,u)<x) (Classical.propDecidable _) 0 (@ite _ (∃v,v≠u/\PX.aW v u/\ps (q,v)<x/\0<Cn q v) (Classical.propDecidable _) 1 (@ite _ (∃v,v≠u/\PX.aW v u/\x<=ps (q,v)/\0<Co q v) (Classical.propDecidable _) 3 2))
section
variable {ps:Nat×ah->Nat} {Co Cn:Nat->ah->Int} {x x' q:Nat} {u:ah}
theorem IQ:rem ps Co Cn x q u<=3:=by
 unfold rem;split
 ·omega
 ·split
  ·omega
  ·split<;>omega
theorem wC(hup:∀v,PX.aW v u->v≠u->ps (q,v)<ps (q,u))(hx:x<=x'):rem ps Co Cn x' q u<=rem ps Co Cn x q u/\(¬(Il (mix ps Co Cn x q) u↔Il (mix ps Co Cn x' q) u)->rem ps Co Cn x' q u+1<=rem ps Co Cn x q u):=by
 by_cases h0:ps (q,u)<x
 ·have e:∀v,PX.aW v u->mix ps Co Cn x q v=mix ps Co Cn x' q v:=fun v hv=>by
    have:ps (q,v)<x:=by
     by_cases k:v=u
     ·rw[k];exact h0
     ·exact nU (hup v hv k) h0
    unfold mix;rw[if_pos this,if_pos (nL this hx)]
  have hi:Il (mix ps Co Cn x q) u↔Il (mix ps Co Cn x' q) u:=by
   unfold Il;rw[e u (bH.refl u)];exact⟨fun⟨h1,h2⟩=>⟨h1,fun v hv ha=>h2 v (by rw[e v ha];exact hv) ha⟩,fun⟨h1,h2⟩=>⟨h1,fun v hv ha=>h2 v (by rw[<-e v ha];exact hv) ha⟩⟩
  have r1:rem ps Co Cn x' q u=0:=by unfold rem;rw[if_pos (nL h0 hx)]
  exact⟨by omega,fun hn=>absurd hi hn⟩
 ·have hmu:mix ps Co Cn x q u=Co q u:=by unfold mix;rw[if_neg h0]
  by_cases h1:∃v,v≠u/\PX.aW v u/\ps (q,v)<x/\0<Cn q v
  ·have r0:rem ps Co Cn x q u=1:=(by unfold rem;rw[if_neg h0,if_pos h1]);obtain⟨v,v1,v2,v3,v4⟩:=h1;have n0:∀y,x<=y->¬Il (mix ps Co Cn y q) u:=fun y hy hi=>v1 (hi.2 v (by unfold mix;rw[if_pos (nL v3 hy)];exact v4) v2);refine⟨?_,fun hn=>absurd (iff_of_false (n0 x (nR _)) (n0 x' hx)) hn⟩;rw[r0];unfold rem;by_cases h2:ps (q,u)<x'
   ·rw[if_pos h2];omega
   ·rw[if_neg h2,if_pos ⟨v,v1,v2,nL v3 hx,v4⟩];exact nR _
  ·by_cases h3:∃v,v≠u/\PX.aW v u/\x<=ps (q,v)/\0<Co q v
   ·have r0:rem ps Co Cn x q u=3:=(by unfold rem;rw[if_neg h0,if_neg h1,if_pos h3]);have n0:¬Il (mix ps Co Cn x q) u:=fun hi=>by
     obtain⟨v,v1,v2,v3,v4⟩:=h3;exact v1 (hi.2 v (by unfold mix;rw[if_neg (by omega)];exact v4) v2)
    refine⟨by rw[r0];exact IQ,fun hn=> ?_⟩;rw[r0];unfold rem;by_cases h2:ps (q,u)<x'
    ·rw[if_pos h2];omega
    ·rw[if_neg h2];split
     ·omega
     ·split
      ·rename_i h5;obtain⟨v,v1,v2,v3,v4⟩:=h5;exact absurd (iff_of_false n0 fun hi=>v1 (hi.2 v (by unfold mix;rw[if_neg (by omega)];exact v4) v2)) hn
      ·omega
   ·have r0:rem ps Co Cn x q u=2:=(by unfold rem;rw[if_neg h0,if_neg h1,if_neg h3]);have hun:∀v,PX.aW v u->v≠u->¬0<mix ps Co Cn x q v:=fun v hv k hp=>by
     unfold mix at hp;split at hp
     ·rename_i h5;exact h1 ⟨v,k,hv,h5,hp⟩
     ·rename_i h5;exact h3 ⟨v,k,hv,by omega,hp⟩
    have r2:rem ps Co Cn x' q u<=2/\(¬(Il (mix ps Co Cn x q) u↔Il (mix ps Co Cn x' q) u)->rem ps Co Cn x' q u+1<=2):=by
     unfold rem;by_cases h2:ps (q,u)<x'
     ·rw[if_pos h2];exact⟨by omega,fun _=>by omega⟩
     ·rw[if_neg h2];split
      ·exact⟨by omega,fun _=>by omega⟩
      ·rename_i h6;have h7:¬∃v,v≠u/\PX.aW v u/\x'<=ps (q,v)/\0<Co q v:=fun⟨v,v1,v2,v3,v4⟩=>h3 ⟨v,v1,v2,by omega,v4⟩;rw[if_neg h7];refine⟨nR _,fun hn=>absurd ?_ hn⟩;have abh:mix ps Co Cn x' q u=Co q u:=(by unfold mix;rw[if_neg h2]);have hun':∀v,PX.aW v u->v≠u->¬0<mix ps Co Cn x' q v:=fun v hv k hp=>by
        unfold mix at hp;split at hp
        ·rename_i h5;exact h6 ⟨v,k,hv,h5,hp⟩
        ·rename_i h5;exact h7 ⟨v,k,hv,by omega,hp⟩
       unfold Il;rw[hmu,abh];exact⟨fun⟨k1,_⟩=>⟨k1,fun v hv ha=>Classical.byContradiction fun k=>hun' v ha k hv⟩,fun⟨k1,_⟩=>⟨k1,fun v hv ha=>Classical.byContradiction fun k=>hun v ha k hv⟩⟩
    rw[r0];exact r2
end
def sN{α:Type}(f:α->Nat)(l:List α):Nat:=(l.map f).sum
section
variable {α:Type}
theorem bS(f:α->Nat)(a:α)(l:List α):sN f (a::l)=f a+sN f l:=by simp[sN]
theorem kr{f g:α->Nat}{l:List α}(h:∀a∈l,f a<=g a):sN f l<=sN g l:=by
 induction l with
 | nil => exact nR _
 | cons a l ih=>
  rw[bS,bS];exact Nat.add_le_add (h a mX) (ih fun b hb=>h b (mO _ hb))
theorem QT(f g:α->Nat)(D:α->Prop)(l:List α)(h:∀a∈l,f a<=g a)(hd:∀a∈l,D a->f a+1<=g a):∃m:List α,(∀a,a∈m↔a∈l/\D a)/\m.length+sN f l<=sN g l/\(l.Nodup->m.Nodup):=by
 classical
 induction l with
 | nil => exact⟨[],by simp,nR _,fun _=> .nil⟩
 | cons a l ih=>
  obtain⟨m,h1,h2,h3⟩:=ih (fun b hb=>h b (mO _ hb)) (fun b hb=>hd b (mO _ hb));rw[bS,bS];by_cases e:D a
  ·refine⟨a::m,fun b=> ?_, ?_,fun hn=> ?_⟩
   ·rw[eO,eO,h1];constructor
    ·rintro(rfl|⟨k1,k2⟩)
     ·exact⟨.inl rfl,e⟩
     ·exact⟨.inr k1,k2⟩
    ·rintro⟨rfl|k1,k2⟩
     ·exact .inl rfl
     ·exact .inr ⟨k1,k2⟩
   ·have:=hd a mX e;rw[lC];omega
   ·have hn':=List.nodup_cons.1 hn;exact List.nodup_cons.2 ⟨fun k=>hn'.1 ((h1 a).1 k).1,h3 hn'.2⟩
  ·refine⟨m,fun b=> ?_, ?_,fun hn=>h3 (List.nodup_cons.1 hn).2⟩
   ·rw[h1,eO];constructor
    ·rintro⟨k1,k2⟩;exact⟨.inr k1,k2⟩
    ·rintro⟨rfl|k1,k2⟩
     ·exact absurd k2 e
     ·exact⟨k1,k2⟩
   ·have:=h a mX;omega
theorem TZ{f g:α->Nat}{l:List α}{a:α}{c:Nat}(ha:a∈l)(h:∀b∈l,f b<=g b)(hc:c+f a<=g a):c+sN f l<=sN g l:=by
 induction l with
 | nil => cases ha
 | cons b l ih=>
  rw[bS,bS];rcases eO.1 ha with rfl|ha
  ·have:=kr fun x hx=>h x (mO a hx);omega
  ·have:=ih ha fun x hx=>h x (mO _ hx);have:=h b mX;omega
end
noncomputable def pot (N:Nat) (L:Nat->List (Nat×ah)) (ps:Nat×ah->Nat) (S:Nat->List ah) (Co Cn:Nat->ah->Int) (x:Nat):Nat:=sN (fun q=>(L q).length*sN (rem ps Co Cn x q) (S q)) (List.range N)
theorem VL{L:Nat->List (Nat×ah)}{ps:Nat×ah->Nat}{S:Nat->List ah}{Co Cn:Nat->ah->Int}:pot N L ps S Co Cn x<=sN (fun q=>(L q).length*(3*(S q).length)) (List.range N):=by
 refine kr fun q _=>Nat.mul_le_mul_left _ ?_;have:∀l:List ah,sN (rem ps Co Cn x q) l<=3*l.length:=fun l=>by
  induction l with
  | nil => exact nR _
  | cons a l ih=>
   have:=IQ (ps:=ps) (Co:=Co) (Cn:=Cn) (x:=x) (q:=q) (u:=a);rw[bS,lC];omega
 exact this _
theorem RX(l:List (Nat×ah))(u:ah):(EW l u).length<=l.length:=List.length_filterMap_le _ _
theorem Ra(l:List (Nat×ah))(ds:List (ah×Int)):(jN l ds).length<=l.length*ds.length:=by
 unfold jN
 induction ds with
 | nil => simp
 | cons d ds ih=>
  rw[K4,dK,fQ,lC,Nat.mul_succ];have:=RX l d.1;omega
structure KS(N:Nat)(L:Nat->List (Nat×ah))(ps:Nat×ah->Nat)(O:Nat->List ah)(Co Cn:Nat->ah->Int)(S:Nat->List ah)(B x:Nat)(C:Nat->ah->Int)(F:Nat->List ah)(W:List (Nat×ah×Int)):Prop where
 Le:P9 N L O C F W
 mx:∀p t,p<N->C p t=mix ps Co Cn x p t
 lo:∀e∈W,e.1<N/\x<=ps (e.1,e.2.1)
 bd:W.length+pot N L ps S Co Cn x<=B
theorem Cu.inF{f:ah->Int}{l:List ah}(h:Cu f l)(u:ah):u∈l↔Il f u:=h.mem u
section
variable {N:Nat} {L:Nat->List (Nat×ah)} {ps:Nat×ah->Nat} {O F Fn S:Nat->List ah} {C Co Cn:Nat->ah->Int} {W:List (Nat×ah×Int)} {B x:Nat}
theorem KS.pop(hO:rJ N L ps)(s:Ew N L O Cn Fn)(hS:∀q u,q<N->0<Co q u\/0<Cn q u->u∈S q)(h:KS N L ps O Co Cn S B x C F W)(hp:p<N){t:ah}(hmin:∀e∈W,ps (p,t)<=ps (e.1,e.2.1))(hx:x<=ps (p,t))
    {f':ah->Int} {l':List ah} {ds:List (ah×Int)} {W1 W2:List (Nat×ah×Int)} (hf:∀u,f' u=if u=t then C p t+pG W (p,t)else C p u) (hl:Cu f' l') (hd:yn (F p) l' ds) (hW1:∀y,pG W1 y=if y=(p,t)then 0 else pG W y) (hW2:∀e∈W1,e∈W/\(e.1,e.2.1)≠(p,t)) (hW3:W1.length<=W.length) (Kk:W2.Perm (W1++jN (L p) ds)) :
    KS N L ps O Co Cn S B (ps (p,t)+1) (bI C p f') (bI F p l') W2/\(jN (L p) ds).length+pot N L ps S Co Cn (ps (p,t)+1)<=pot N L ps S Co Cn x:=by
 have hset:=h.Le.settled hO s hmin;have abr:=h.Le.first hO s hp hmin;have hmx:∀q u,q<N->bI C p f' q u=mix ps Co Cn (ps (p,t)+1) q u:=fun q u hq=>by
  by_cases e:q=p/\u=t
  ·obtain⟨rfl,rfl⟩:=e;rw[bK,hf,if_pos rfl,abr];unfold mix;rw[if_pos (Nat.lt_succ_self _)]
  ·have hne:ps (q,u)≠ps (p,t):=fun k=>e (hO.inj q p u t hq hp k);have e1:bI C p f' q u=C q u:=by
    by_cases e2:q=p
    ·subst e2;rw[bK,hf,if_neg fun k=>e ⟨rfl,k⟩]
    ·rw[bJ C f' e2]
   rw[e1];unfold mix;by_cases k:ps (q,u)<ps (p,t)+1
   ·rw[if_pos k];exact hset (ps (q,u)) q u rfl hq (by omega)
   ·rw[if_neg k,h.mx q u hq];unfold mix;rw[if_neg (by omega)]
 have aak:=h.Le.pop hp hf hl hd hW1;have aby:∀u∈ds.map Prod.fst,PX.aW t u:=fun u hu=>He (h.Le.fr p hp) hl (fun v hv=>by rw[hf,if_neg hv]) (hd.turned hu);have Us:=J2 hO hp aby;have ZR:(L p).length*ds.length+pot N L ps S Co Cn (ps (p,t)+1)<=pot N L ps S Co Cn x:=by
  have hup:∀q u,q<N->∀v,PX.aW v u->v≠u->ps (q,v)<ps (q,u):=fun q u hq v hv k=>hO.up q v u hq hv k;have hx':x<=ps (p,t)+1:=by omega
  obtain⟨m,m1,m2,_⟩:=QT (rem ps Co Cn (ps (p,t)+1) p) (rem ps Co Cn x p) (fun u=>¬(Il (mix ps Co Cn x p) u↔Il (mix ps Co Cn (ps (p,t)+1) p) u)) (S p) (fun u _=>(wC (hup p u hp) hx').1) (fun u _ hn=>(wC (hup p u hp) hx').2 hn);have hdl:ds.length<=m.length:=by
   have:=iT hd.nd (m:=m) fun u hu=>by
    have ht:=hd.turned hu;have f1:u∈F p↔Il (mix ps Co Cn x p) u:=by
     rw[(h.Le.fr p hp).inF,show C p=mix ps Co Cn x p from funext fun v=>h.mx p v hp]
    have f2:u∈l'↔Il (mix ps Co Cn (ps (p,t)+1) p) u:=by
     rw[hl.inF,show f'=mix ps Co Cn (ps (p,t)+1) p from funext fun v=>by rw[<-hmx p v hp,bK]]
    refine(m1 u).2 ⟨?_,fun k=>ht (f1.trans (k.trans f2.symm))⟩;have hpos:∀y,0<mix ps Co Cn y p u->u∈S p:=fun y hy=>hS p u hp (by
     unfold mix at hy;split at hy
     ·exact .inr hy
     ·exact .inl hy)
    by_cases k:u∈F p
    ·exact hpos x (f1.1 k).1
    ·have:u∈l':=Classical.byContradiction fun k2=>ht (iff_of_false k k2);exact hpos _ (f2.1 this).1
   rwa [fQ]at this
  refine TZ (a:=p) (mR.2 hp) (fun q hq=>Nat.mul_le_mul_left _ (kr fun u _=>(wC (hup q u (mR.1 hq)) hx').1)) ?_;rw[<-Nat.mul_add];exact Nat.mul_le_mul_left _ (by omega)
 have h2:=Ra (L p) ds;refine⟨⟨⟨fun q u hq=>by rw[qC Kk];exact aak.eq q u hq,aak.fr⟩,hmx,fun e he=> ?_, ?_⟩,by omega⟩
 ·rcases j3.1 (Kk.mem_iff.1 he)with k|k
  ·obtain⟨k1,k2⟩:=hW2 e k;refine⟨(h.lo e k1).1, ?_⟩;have h1:=hmin e k1;have h2:ps (e.1,e.2.1)≠ps (p,t):=fun e1=>by
    obtain⟨e2,e3⟩:=hO.inj _ _ _ _ (h.lo e k1).1 hp e1;exact k2 (by rw[e2,e3])
   omega
  ·exact⟨(Us e k).1,(Us e k).2⟩
 ·have h1:=h.bd;rw[Kk.length_eq,dK];omega
end
theorem VZ(a:ah)(m:List ah)(hm:m.Pairwise PX.lN)(ha:a∉m):∃m':List ah,m'.Pairwise PX.lN/\∀b,b∈m'↔b=a\/b∈m:=by
 induction m with
 | nil => exact⟨[a],List.pairwise_singleton _ _,fun b=>by simp⟩
 | cons c m ih=>
  have hc:=qp.1 hm;rcases bH.tot a c with k|k|k
  ·refine⟨a::c::m,qp.2 ⟨fun b hb=> ?_,hm⟩,fun b=>by simp⟩;rcases eO.1 hb with rfl|hb
   ·exact k
   ·exact bH.tt k (hc.1 b hb)
  ·exact absurd (by rw[k];simp) ha
  ·obtain⟨m',h1,h2⟩:=ih hc.2 fun h=>ha (mO _ h);refine⟨c::m',qp.2 ⟨fun b hb=> ?_,h1⟩,fun b=> ?_⟩
   ·rcases(h2 b).1 hb with rfl|hb
    ·exact k
    ·exact hc.1 b hb
   ·rw[eO,h2,eO];constructor
    ·rintro(h|h|h)
     ·exact .inr (.inl h)
     ·exact .inl h
     ·exact .inr (.inr h)
    ·rintro(h|h|h)
     ·exact .inr (.inl h)
     ·exact .inl h
     ·exact .inr (.inr h)
theorem QO(l:List ah):∃m:List ah,m.Pairwise PX.lN/\∀b,b∈m↔b∈l:=by
 induction l with
 | nil => exact⟨[], .nil,fun b=>Iff.rfl⟩
 | cons a l ih=>
  obtain⟨m,h1,h2⟩:=ih;by_cases e:a∈m
  ·refine⟨m,h1,fun b=> ?_⟩;rw[h2,eO];exact⟨.inr,fun h=>h.elim (fun h=>by rw[h];exact(h2 a).1 e) id⟩
  ·obtain⟨m',h3,h4⟩:=VZ a m h1 e;exact⟨m',h3,fun b=>by rw[h4,h2,eO]⟩
theorem OX(all:List ah):∃f,Fg PX all f:=by
 classical
 obtain⟨m,h1,h2⟩:=QO (all.filter fun a=>decide (∀b∈all,PX.aW b a->b=a));exact⟨m,h1,fun a=>by rw[h2,mF,dE]⟩
def jm(N:Nat)(R:Nat->Nat->List ah)(O:Nat->List ah)(p:Nat):List ah:=(List.range N).flatMap fun q=>(O q).flatMap fun u=>(R q p).filterMap fun a=>bF a u
theorem qV{R:Nat->Nat->List ah}{O:Nat->List ah}{x:ah}:x∈jm N R O p↔∃q u a,q<N/\u∈O q/\a∈R q p/\bF a u=some x:=by
 unfold jm;simp only[List.mem_flatMap,mR,List.mem_filterMap];constructor
 ·rintro⟨q,hq,u,hu,a,ha,hx⟩;exact⟨q,u,a,hq,hu,ha,hx⟩
 ·rintro⟨q,u,a,hq,hu,ha,hx⟩;exact⟨q,hq,u,hu,a,ha,hx⟩
structure Ci(N:Nat)(L:Nat->List (Nat×ah))(St:Nat->Nat->ah->Prop)(R:Nat->Nat->List ah):Prop where
 st:∀p q b,St p q b↔p<N/\(q,b)∈L p
 tz:∀p q b,St p q b->q<N
 way:∀p q a,p<N->a∈R p q->Wy PX St p q a
 cov:∀p q a,p<N->Wy PX St p q a->pE PX (R p q) a
 few:∀p q,p<N->(R p q).length<=64
section
variable {N:Nat} {L:Nat->List (Nat×ah)} {St:Nat->Nat->ah->Prop} {R:Nat->Nat->List ah} {O F:Nat->List ah}
theorem Ci.rch(h:Ci N L St R){r:Nat}{v a:ah}(hr:r<N)(hv:v∈O r)(ha:UM St r v p a):pE PX (jm N R O p) a:=by
 obtain⟨s,hs,h1⟩:=ha;obtain⟨s',h2,h3⟩:=h.cov r p s hr hs;obtain⟨e,h4,h5⟩:=bH.mono h3 h1;exact⟨e,qV.2 ⟨r,v,s',hr,hv,h2,h4⟩,h5⟩
theorem Ci.is(h:Ci N L St R){x:ah}(hx:x∈jm N R O p):∃r v,r<N/\v∈O r/\UM St r v p x:=by
 obtain⟨q,u,a,hq,hu,ha,hx⟩:=qV.1 hx;exact⟨q,u,hq,hu,a,h.way q p a hq ha,hx⟩
theorem Ci.yc(h:Ci N L St R)(hF:∀p,p<N->Fg PX (jm N R O p) (F p)):Ew N L O (rhs N L O F) F:=by
 refine⟨fun _ _ _=>rfl,fun p hp=>⟨(hF p hp).so,fun t=> ?_⟩⟩;have pc:∀a,0<rhs N L O F p a->pE PX (jm N R O p) a:=fun a ha=>by
  rcases qN.1 ha with k|⟨q,u,b,hq,hu,hb,hv⟩
  ·exact h.rch hp k (UM.self St p a)
  ·obtain⟨r,v,hr,hv',hch⟩:=h.is ((hF q hq).mem u|>.1 hu).1;exact h.rch hr hv' (hch.step ((h.st q p b).2 ⟨hq,hb⟩) hv)
 have cp:∀a,a∈jm N R O p->∃x,0<rhs N L O F p x/\PX.aW x a:=fun a ha=>by
  obtain⟨r,v,hr,hv,s,hs,h1⟩:=h.is ha;cases hs with
  | nil=>
   rw[Ag]at h1;exact⟨v,qN.2 (.inl hv),by rw[oJ h1];exact bH.refl _⟩
  | @step q1 _ s1 b _ hw hst hc=>
   have e1:=bz hc;have e2:=bz h1;have d1:=Iy h1;have tb:=bX b;obtain⟨a1,ha1⟩:=jK (a:=s1) (b:=v) (by omega);have e3:=bz ha1;obtain⟨a2,ha2⟩:=jK (a:=b) (b:=a1) (by omega);have e4:=bz ha2;have ea:a2=a:=bW (by omega) (by omega) (by omega);obtain⟨hq1,hL⟩:=(h.st q1 p b).1 hst;obtain⟨w,hw1,hw2⟩:=((hF q1 hq1).open bH a1).2 (h.rch hr hv ⟨s1,hw,ha1⟩);obtain⟨v',h5,h6⟩:=JN hw2 ha2;exact⟨v',qN.2 (.inr ⟨q1,w,b,hq1,hw1,hL,h5⟩),by rw[<-ea];exact h6⟩
 rw[(hF p hp).mem];constructor
 ·rintro⟨h1,h2⟩;obtain⟨x,x1,x2⟩:=cp t h1;obtain⟨y,y1,y2⟩:=pc x x1;have e:=h2 y y1 (bH.trans y2 x2);have ex:x=t:=rM x t x2 (e ▸ y2);refine⟨ex ▸ x1,fun u hu hut=> ?_⟩;obtain⟨y',y1',y2'⟩:=pc u hu;have e':=h2 y' y1' (bH.trans y2' hut);exact rM u t hut (e' ▸ y2')
 ·rintro⟨h1,h2⟩;obtain⟨y,y1,y2⟩:=pc t h1;obtain⟨x,x1,x2⟩:=cp y y1;have e:=h2 x x1 (bH.trans x2 y2);have ey:y=t:=rM y t y2 (e ▸ x2);refine⟨ey ▸ y1,fun b hb hbt=> ?_⟩;obtain⟨x',x1',x2'⟩:=cp b hb;have e':=h2 x' x1' (bH.trans x2' hbt);exact rM b t hbt (e' ▸ x2')
theorem Ci.ex(h:Ci N L St R)(O:Nat->List ah):∃C F,Ew N L O C F/\∀p,p<N->Fg PX (jm N R O p) (F p):=by
 obtain⟨F,hF⟩:∃F:Nat->List ah,∀p,Fg PX (jm N R O p) (F p):=⟨fun p=>(OX (jm N R O p)).choose,fun p=>(OX (jm N R O p)).choose_spec⟩;exact⟨_,F,h.yc fun p _=>hF p,fun p _=>hF p⟩
theorem iD(f:α->List β)(l:List α)(k:Nat)(h:∀a∈l,(f a).length<=k):(l.flatMap f).length<=l.length*k:=by
 induction l with
 | nil => simp
 | cons a l ih=>
  rw[K4,dK,lC,Nat.succ_mul];have:=h a mX;have:=ih fun b hb=>h b (mO _ hb);omega
theorem lu(f:α->List β)(g:α->Nat)(l:List α)(h:∀a∈l,(f a).length<=g a):(l.flatMap f).length<=sN g l:=by
 induction l with
 | nil => simp
 | cons a l ih=>
  rw[K4,dK,bS];have:=h a mX;have:=ih fun b hb=>h b (mO _ hb);omega
theorem Ci.len(h:Ci N L St R)(p:Nat):(jm N R O p).length<=sN (fun q=>(O q).length*64) (List.range N):=
 lu _ _ _ fun q hq=>iD _ _ _ fun _ _=>nT (List.length_filterMap_le _ _) (h.few q p (mR.1 hq))
theorem Fg.len{all f:List ah}(h:Fg PX all f):f.length<=all.length:=
 iT (h.so.imp fun {a b} k (e:a=b)=>bH.p9 b (by rw[e]at k;exact k)) fun a ha=>((h.mem a).1 ha).1
end
theorem Ar(P:α->Prop)[DecidablePred P](l:List α)(hn:l.Nodup)(h:∀a b,P a->P b->a=b):sm (fun a=>if P a then 1 else 0) l<=1:=by
 induction l with
 | nil => show(0:Int)<=1;omega
 | cons a l ih=>
  have hn':=List.nodup_cons.1 hn;rw[aQ];by_cases e:P a
  ·rw[if_pos e,iV fun b hb=>by rw[if_neg fun k=>hn'.1 (h a b e k ▸ hb)]];omega
  ·rw[if_neg e];have:=ih hn'.2;omega
theorem SS(s:Nat×ah)(l:List (Nat×ah))(y:Nat×ah)(u:ah):ct (s::l) y u=(if (bF s.2 u).map (fun v=>(s.1,v))=some y then 1 else 0)+ct l y u:=by
 unfold ct EW;rw[List.filterMap_cons];cases h:(bF s.2 u).map fun v=>(s.1,v)with
 | none => simp
 | some x=>
  simp only[aQ,oI];rfl
theorem aax(l:List (Nat×ah))(y:Nat×ah)(us:List ah)(hn:us.Nodup):sm (ct l y) us<=l.length:=by
 induction l with
 | nil=>
  have h0:sm (ct [] y) us=0:=iV fun _ _=>rfl;rw[h0];simp
 | cons s l ih=>
  rw[eU (fun u _=>SS s l y u),Mx];have h1:=Ar (fun u=>(bF s.2 u).map (fun v=>(s.1,v))=some y) us hn fun a b ha hb=>by
   simp only[Option.map_eq_some_iff]at ha hb;obtain⟨v,h1,h2⟩:=ha;obtain⟨v',h3,h4⟩:=hb;have e:v=v':=(by rw[<-h2]at h4;exact(Prod.mk.inj h4).2.symm);subst e;have e1:=bz h1;have e2:=bz h3;exact bW (by omega) (by omega) (by omega)
  rw[lC];omega
theorem VJ{L:Nat->List (Nat×ah)}{O F:Nat->List ah}(hF:∀q,q<N->(F q).Nodup)(p:Nat)(t:ah):rhs N L O F p t<=1+(sN (fun q=>(L q).length) (List.range N):Nat):=by
 have key:∀m:List Nat,(∀q∈m,q<N)->sm (fun q=>sm (ct (L q) (p,t)) (F q)) m<=(sN (fun q=>(L q).length) m:Nat):=fun m=>by
  induction m with
  | nil => intro _;exact Int.le_refl _
  | cons a m ih=>
   intro h;rw[aQ,bS];have h1:=aax (L a) (p,t) (F a) (hF a (h a mX));have h2:=ih fun q hq=>h q (mO _ hq);omega
 have:=key _ fun q hq=>mR.1 hq;unfold rhs Ql;split<;>omega
def sup(N:Nat)(L:Nat->List (Nat×ah))(O F:Nat->List ah)(p:Nat):List ah:=O p++(arr N L F).filterMap fun y=>if y.1=p then some y.2 else none
theorem I9{L:Nat->List (Nat×ah)}{O F:Nat->List ah}{t:ah}(h:0<rhs N L O F p t):t∈sup N L O F p:=by
 unfold sup;rcases qN.1 h with k|k
 ·exact List.mem_append_left _ k
 ·exact List.mem_append_right _ (List.mem_filterMap.2 ⟨(p,t),Jb.2 k,by simp⟩)
end Pt
end Go.Proofs.YteekbpokkjjipaaGreat
