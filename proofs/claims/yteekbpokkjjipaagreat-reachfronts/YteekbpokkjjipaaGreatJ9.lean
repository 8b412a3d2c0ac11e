import Derived.Test.YteekbpokkjjipaaGreatJ2
variable{p N x:Nat}{α β:Type}
namespace Go.Proofs.YteekbpokkjjipaaGreat
namespace Pt
structure qB(N:Nat)(L:Nat->List (Nat×ah))(ps:Nat×ah->Nat):Prop where
 inj:∀p q t u,p<N->q<N->ps (p,t)=ps (q,u)->p=q/\t=u
 up:∀p t u,p<N->PX.aT t u->t≠u->ps (p,t)<ps (p,u)
 step:∀p q t u b,p<N->(q,b)∈L p->bz b t=some u->q<N/\ps (p,t)<ps (q,u)
structure yS(f:ah->Int)(l:List ah):Prop where
 so:l.Pairwise PX.lq
 mem:∀t,t∈l↔0<f t/\∀u,0<f u->PX.aT u t->u=t
theorem yS.nodup{f:ah->Int}{l:List ah}(h:yS f l):l.Nodup:=h.so.imp fun {a b} k (e:a=b)=>bD.oN b (by rw[e]at k;exact k)
theorem yS.same{f:ah->Int}{l m:List ah}(h:yS f l)(k:yS f m):l=m:=za bD h.so k.so fun a=>by rw[h.mem,k.mem]
def DN(l:List (Nat×ah))(u:ah):List (Nat×ah):=l.filterMap fun s=>(bz s.2 u).map fun v=>(s.1,v)
def ar1(l:List (Nat×ah))(us:List ah):List (Nat×ah):=us.flatMap (DN l)
def arr(N:Nat)(L:Nat->List (Nat×ah))(F:Nat->List ah):List (Nat×ah):=(List.range N).flatMap fun q=>ar1 (L q) (F q)
theorem zQ{l:List (Nat×ah)}{u v:ah}:(p,v)∈DN l u↔∃b,(p,b)∈l/\bz b u=some v:=by
 unfold DN;rw[List.mem_filterMap];constructor
 ·rintro⟨⟨q,b⟩,hs,hv⟩;simp only[Option.map_eq_some_iff,Prod.mk.injEq]at hv;obtain⟨a,ha,rfl,rfl⟩:=hv;exact⟨b,hs,ha⟩
 ·rintro⟨b,hs,hv⟩;exact⟨(p,b),hs,by simp[hv]⟩
theorem Ib{L:Nat->List (Nat×ah)}{F:Nat->List ah}{t:ah}:(p,t)∈arr N L F↔∃q u b,q<N/\u∈F q/\(p,b)∈L q/\bz b u=some t:=by
 unfold arr ar1;simp only[List.mem_flatMap,List.mem_range,zQ];constructor
 ·rintro⟨q,hq,u,hu,b,hb,ht⟩;exact⟨q,u,b,hq,hu,hb,ht⟩
 ·rintro⟨q,u,b,hq,hu,hb,ht⟩;exact⟨q,hq,u,hu,b,hb,ht⟩
def sm{α:Type}(c:α->Int)(l:List α):Int:=(l.map c).sum
section
variable {α β:Type}
theorem TV(c:α->Int):sm c []=0:=rfl
theorem aN(c:α->Int)(a:α)(l:List α):sm c (a::l)=c a+sm c l:=by simp[sm]
theorem qN(c:α->Int)(l m:List α):sm c (l++m)=sm c l+sm c m:=by
 induction l with
 | nil => simp[sm]
 | cons a l ih => rw[List.cons_append,aN,aN,ih];omega
theorem GU{c:α->Int}{l m:List α}(h:l.Perm m):sm c l=sm c m:=by
 induction h with
 | nil => rfl
 | cons a _ ih => rw[aN,aN,ih]
 | swap a b l => rw[aN,aN,aN,aN];omega
 | trans _ _ h1 h2 => rw[h1,h2]
theorem xQ(c:α->Int)(q:α->Bool)(l:List α)(h:∀a∈l,q a=false->c a=0):sm c (l.filter q)=sm c l:=by
 induction l with
 | nil => rfl
 | cons a l ih=>
  rw[List.filter_cons];have ih:=ih fun b hb=>h b (List.mem_cons_of_mem _ hb);cases hq:q a with
  | true => rw[if_pos rfl,aN,aN,ih]
  | false => rw[if_neg (by simp),aN,h a List.mem_cons_self hq,ih];omega
theorem jy{c:α->Int}{l:List α}(h:∀a∈l,c a=0):sm c l=0:=by
 induction l with
 | nil => rfl
 | cons a l ih => rw[aN,h a List.mem_cons_self,ih fun b hb=>h b (List.mem_cons_of_mem _ hb)];rfl
theorem zu[DecidableEq α]{c:α->Int}{l m:List α}(hl:l.Nodup)(hm:m.Nodup)(h:∀a,c a≠0->(a∈l↔a∈m)):sm c l=sm c m:=by
 rw[<-xQ c (fun a=>decide (c a≠0)) l (fun a _ ha=>by simpa using ha),<-xQ c (fun a=>decide (c a≠0)) m (fun a _ ha=>by simpa using ha)];refine GU ((List.perm_ext_iff_of_nodup (hl.filter _) (hm.filter _)).2 fun a=> ?_);rw[mF,mF];constructor
 ·rintro⟨h1,h2⟩;exact⟨(h a (by simpa using h2)).1 h1,h2⟩
 ·rintro⟨h1,h2⟩;exact⟨(h a (by simpa using h2)).2 h1,h2⟩
theorem oG(c:β->Int)(f:α->List β)(l:List α):sm c (l.flatMap f)=sm (fun a=>sm c (f a)) l:=by
 induction l with
 | nil => rfl
 | cons a l ih => rw[List.flatMap_cons,qN,aN,ih]
theorem eF{c d:α->Int}{l:List α}(h:∀a∈l,c a=d a):sm c l=sm d l:=by
 induction l with
 | nil => rfl
 | cons a l ih => rw[aN,aN,h a List.mem_cons_self,ih fun b hb=>h b (List.mem_cons_of_mem _ hb)]
theorem ny{c:α->Int}{l:List α}(h:∀a∈l,0<=c a):0<=sm c l:=by
 induction l with
 | nil => exact Int.le_refl _
 | cons a l ih=>
  have h1:=h a List.mem_cons_self;have h2:=ih fun b hb=>h b (List.mem_cons_of_mem _ hb);rw[aN];omega
theorem TU{c:α->Int}{l:List α}(h:∀a∈l,0<=c a){a:α}(ha:a∈l)(hp:0<c a):0<sm c l:=by
 induction l with
 | nil => cases ha
 | cons b l ih=>
  have h2:=ny fun x hx=>h x (List.mem_cons_of_mem b hx);have h1:=h b List.mem_cons_self;rw[aN];rcases fF.1 ha with rfl|ha
  ·omega
  ·have:=ih (fun x hx=>h x (List.mem_cons_of_mem _ hx)) ha;omega
theorem uK{c:α->Int}{l:List α}(h:∀a∈l,0<=c a):0<sm c l↔∃a∈l,0<c a:=by
 refine⟨fun hp=>Classical.byContradiction fun hn=> ?_,fun⟨a,ha,hp⟩=>TU h ha hp⟩;have:sm c l=0:=jy fun a ha=>by
  have h1:=h a ha;have h2:¬0<c a:=fun k=>hn ⟨a,ha,k⟩;omega
 omega
theorem TW(c:α->Int)(l:List α):sm (fun a=> - c a) l= - sm c l:=by
 induction l with
 | nil => rfl
 | cons a l ih => rw[aN,aN,ih];omega
end
def one(y x:Nat×ah):Int:=if x=y then 1 else 0
theorem one_nonneg(y x:Nat×ah):0<=one y x:=by unfold one;split<;>omega
def ct(l:List (Nat×ah))(y:Nat×ah)(u:ah):Int:=sm (one y) (DN l u)
theorem yJ(l:List (Nat×ah))(y:Nat×ah)(u:ah):0<=ct l y u:=ny fun _ _=>one_nonneg _ _
theorem VS{l:List (Nat×ah)}{t u:ah}:0<ct l (p,t) u↔∃b,(p,b)∈l/\bz b u=some t:=by
 unfold ct;rw[uK fun _ _=>one_nonneg _ _,<-zQ];constructor
 ·rintro⟨a,ha,hp⟩;unfold one at hp;split at hp
  ·rename_i e;rw[<-e];exact ha
  ·omega
 ·intro h;exact⟨_,h,by unfold one;rw[if_pos rfl];omega⟩
def OP(N:Nat)(L:Nat->List (Nat×ah))(F:Nat->List ah)(y:Nat×ah):Int:=sm (fun q=>sm (ct (L q) y) (F q)) (List.range N)
theorem VW(N:Nat)(L:Nat->List (Nat×ah))(F:Nat->List ah)(y:Nat×ah):OP N L F y=sm (one y) (arr N L F):=by
 unfold OP arr;rw[oG];refine eF fun q _=> ?_;unfold ar1;rw[oG];rfl
theorem wF(N:Nat)(L:Nat->List (Nat×ah))(F:Nat->List ah)(y:Nat×ah):0<=OP N L F y:=ny fun _ _=>ny fun _ _=>yJ _ _ _
theorem Rf{L:Nat->List (Nat×ah)}{F:Nat->List ah}{t:ah}:0<OP N L F (p,t)↔∃q u b,q<N/\u∈F q/\(p,b)∈L q/\bz b u=some t:=by
 rw[<-Ib,VW,uK fun _ _=>one_nonneg _ _];constructor
 ·rintro⟨a,ha,hp⟩;unfold one at hp;split at hp
  ·rename_i e;rw[<-e];exact ha
  ·omega
 ·intro h;exact⟨_,h,by unfold one;rw[if_pos rfl];omega⟩
def rhs(N:Nat)(L:Nat->List (Nat×ah))(O F:Nat->List ah)(p:Nat)(t:ah):Int:=(if t∈O p then 1 else 0)+OP N L F (p,t)
theorem uQ(N:Nat)(L:Nat->List (Nat×ah))(O F:Nat->List ah)(p:Nat)(t:ah):0<=rhs N L O F p t:=by
 unfold rhs;have:=wF N L F (p,t);split<;>omega
theorem pV{L:Nat->List (Nat×ah)}{O F:Nat->List ah}{t:ah}:0<rhs N L O F p t↔t∈O p\/∃q u b,q<N/\u∈F q/\(p,b)∈L q/\bz b u=some t:=by
 rw[<-Rf];unfold rhs;have:=wF N L F (p,t);by_cases h:t∈O p
 ·rw[if_pos h];exact⟨fun _=> .inl h,fun _=>by omega⟩
 ·rw[if_neg h];exact⟨fun k=> .inr (by omega),fun k=>k.elim (fun k=>absurd k h) (fun k=>by omega)⟩
structure Dt(N:Nat)(L:Nat->List (Nat×ah))(O:Nat->List ah)(C:Nat->ah->Int)(F:Nat->List ah):Prop where
 eq:∀p t,p<N->C p t=rhs N L O F p t
 fr:∀p,p<N->yS (C p) (F p)
def oh(W:List (Nat×ah×Int))(y:Nat×ah):Int:=sm (fun e=>if (e.1,e.2.1)=y then e.2.2 else 0) W
structure OH(N:Nat)(L:Nat->List (Nat×ah))(O:Nat->List ah)(C:Nat->ah->Int)(F:Nat->List ah)(W:List (Nat×ah×Int)):Prop where
 eq:∀p t,p<N->C p t+oh W (p,t)=rhs N L O F p t
 fr:∀p,p<N->yS (C p) (F p)
section
variable {N:Nat} {L:Nat->List (Nat×ah)} {ps:Nat×ah->Nat} {O F Fn:Nat->List ah} {C Cn:Nat->ah->Int} {W:List (Nat×ah×Int)}
theorem VD(hO:qB N L ps){t:ah}(hp:p<N)(h:yS (C p) (F p))(k:yS (Cn p) (Fn p))(e:∀v,ps (p,v)<=ps (p,t)->C p v=Cn p v):t∈F p↔t∈Fn p:=by
 have hv:∀v,PX.aT v t->C p v=Cn p v:=fun v hv=>e v (by
  by_cases q:v=t
  ·rw[q];exact nR _
  ·exact Nat.le_of_lt (hO.up p v t hp hv q))
 rw[h.mem,k.mem,e t (nR _)];constructor
 ·rintro⟨h1,h2⟩;exact⟨h1,fun u hu ha=>h2 u (by rw[hv u ha];exact hu) ha⟩
 ·rintro⟨h1,h2⟩;exact⟨h1,fun u hu ha=>h2 u (by rw[<-hv u ha];exact hu) ha⟩
theorem LG(hO:qB N L ps)(h:∀p,p<N->yS (C p) (F p))(k:∀p,p<N->yS (Cn p) (Fn p)){t:ah}(e:∀q v,q<N->ps (q,v)<ps (p,t)->C q v=Cn q v):rhs N L O F p t=rhs N L O Fn p t:=by
 unfold rhs OP;rw[eF (d:=fun q=>sm (ct (L q) (p,t)) (Fn q)) fun q hq=> ?_];have hq:=List.mem_range.1 hq;refine zu (h q hq).nodup (k q hq).nodup fun u hu=> ?_;have hp:0<ct (L q) (p,t) u:=by have:=yJ (L q) (p,t) u;omega
 obtain⟨b,hb,hv⟩:=VS.1 hp;have hs:=(hO.step q p u t b hq hb hv).2;exact VD hO hq (h q hq) (k q hq) fun v hv=>e q v hq (by omega)
theorem OH.settled(hO:qB N L ps)(h:OH N L O C F W)(s:Dt N L O Cn Fn)(hW:∀e∈W,x<=ps (e.1,e.2.1)):∀(k p:Nat) (t:ah),ps (p,t)=k->p<N->k<x->C p t=Cn p t:=by
 intro k
 induction k using Nat.strongRecOn with
 | _ k ih=>
  intro p t hk hp hx;have e0:oh W (p,t)=0:=jy fun e he=>by
   rw[if_neg];intro e1;have:=hW e he;rw[e1,hk]at this;omega
  have e1:=h.eq p t hp;rw[e0,LG hO h.fr s.fr (Cn:=Cn) (fun q v hq hv=>ih (ps (q,v)) (by omega) q v rfl hq (by omega)),<-s.eq p t hp]at e1;omega
theorem OH.first(hO:qB N L ps)(h:OH N L O C F W)(s:Dt N L O Cn Fn){t:ah}(hp:p<N)(hW:∀e∈W,ps (p,t)<=ps (e.1,e.2.1)):C p t+oh W (p,t)=Cn p t:=by
 rw[h.eq p t hp,LG hO h.fr s.fr (fun q v hq hv=>h.settled hO s hW (ps (q,v)) q v rfl hq hv),<-s.eq p t hp]
theorem OH.fin(hO:qB N L ps)(h:OH N L O C F [])(s:Dt N L O Cn Fn)(hp:p<N):(∀t,C p t=Cn p t)/\F p=Fn p:=by
 have h1:∀t,C p t=Cn p t:=fun t=>h.settled hO s (x:=ps (p,t)+1) (fun e he=>by cases he) (ps (p,t)) p t rfl hp (by omega);refine⟨h1,(h.fr p hp).same ?_⟩;rw[show C p=Cn p from funext h1];exact s.fr p hp
end
structure yT(a b:List ah)(ds:List (ah×Int)):Prop where
 nd:(ds.map Prod.fst).Nodup
 mem:∀t n,(t,n)∈ds↔(t∈a/\t∉b/\n= -1)\/(t∈b/\t∉a/\n=1)
def jA(l:List (Nat×ah))(ds:List (ah×Int)):List (Nat×ah×Int):=ds.flatMap fun d=>(DN l d.1).map fun x=>(x.1,x.2,d.2)
theorem TY(c:Int)(f:α->Int)(l:List α):sm (fun a=>f a*c) l=sm f l*c:=by
 induction l with
 | nil => simp[sm]
 | cons a l ih => rw[aN,aN,ih,Int.add_mul]
theorem og(W V:List (Nat×ah×Int))(y:Nat×ah):oh (W++V) y=oh W y+oh V y:=qN _ _ _
theorem pz{W V:List (Nat×ah×Int)}(h:W.Perm V)(y:Nat×ah):oh W y=oh V y:=GU h
theorem Es(c:β->Int)(f:α->β)(l:List α):sm c (l.map f)=sm (fun a=>c (f a)) l:=by
 induction l with
 | nil => rfl
 | cons a l ih => rw[List.map_cons,aN,aN,ih]
theorem O3(l:List (Nat×ah))(ds:List (ah×Int))(y:Nat×ah):oh (jA l ds) y=sm (fun d=>ct l y d.1*d.2) ds:=by
 unfold oh jA;rw[oG];refine eF fun d _=> ?_;rw[Es];unfold ct;rw[<-TY];refine eF fun x _=> ?_;unfold one;by_cases e:x=y
 ·rw[if_pos e,if_pos e,Int.one_mul]
 ·rw[if_neg e,if_neg e,Int.zero_mul]
theorem KY(f g:α->Int)(l:List α):sm (fun a=>f a+g a) l=sm f l+sm g l:=by
 induction l with
 | nil => rfl
 | cons a l ih => rw[aN,aN,aN,ih];omega
theorem yT.sum{a b:List ah}{ds:List (ah×Int)}(h:yT a b ds)(ha:a.Nodup)(hb:b.Nodup)(c:ah->Int):sm (fun d=>c d.1*d.2) ds=sm c b-sm c a:=by
 have hin:∀t n,(t,n)∈ds->n=(if t∈b then 1 else 0)-(if t∈a then 1 else 0):=fun t n ht=>by
  rcases(h.mem t n).1 ht with⟨h1,h2,rfl⟩|⟨h1,h2,rfl⟩
  ·rw[if_neg h2,if_pos h1];rfl
  ·rw[if_pos h1,if_neg h2];rfl
 have e1:sm (fun d=>c d.1*d.2) ds=sm (fun t=>c t*((if t∈b then 1 else 0)-(if t∈a then 1 else 0))) (ds.map Prod.fst):=by
  rw[Es];exact eF fun d hd=>by rw[hin d.1 d.2 hd]
 rw[e1];have hu:∀(m:List ah),m.Nodup->(∀t∈a,t∈m)->(∀t∈b,t∈m)->(∀t∈ds.map Prod.fst,t∈m)->sm (fun t=>c t*((if t∈b then 1 else 0)-(if t∈a then 1 else 0))) (ds.map Prod.fst)=sm c b-sm c a:=fun m hm k1 k2 k3=>by
  have e2:sm (fun t=>c t*((if t∈b then 1 else 0)-(if t∈a then 1 else 0))) (ds.map Prod.fst)=sm (fun t=>c t*((if t∈b then 1 else 0)-(if t∈a then 1 else 0))) m:=by
   refine zu h.nd hm fun t ht=>⟨k3 t,fun _=> ?_⟩;by_cases h1:t∈a
   ·by_cases h2:t∈b
    ·simp[h1,h2]at ht
    ·exact mM.2 ⟨(t,-1),(h.mem t _).2 (.inl ⟨h1,h2,rfl⟩),rfl⟩
   ·by_cases h2:t∈b
    ·exact mM.2 ⟨(t,1),(h.mem t _).2 (.inr ⟨h2,h1,rfl⟩),rfl⟩
    ·simp[h1,h2]at ht
  have e3:∀l:List ah,l.Nodup->(∀t∈l,t∈m)->sm c l=sm (fun t=>c t*(if t∈l then 1 else 0)) m:=fun l hl hs=>by
   rw[<-eF (c:=fun t=>c t*(if t∈l then 1 else 0)) (d:=c) (l:=l) fun t ht=>by rw[if_pos ht,Int.mul_one]];refine zu hl hm fun t ht=>⟨hs t,fun _=>Classical.byContradiction fun e=>ht (by simp[e])⟩
  rw[e2,e3 a ha k1,e3 b hb k2];have e4:=KY (fun t=>c t*(if t∈b then 1 else 0)) (fun t=> - (c t*(if t∈a then 1 else 0))) m;rw[TW]at e4;rw[Int.sub_eq_add_neg,<-e4];refine eF fun t _=> ?_;rw[Int.mul_sub];omega
 exact hu (a++b.filter fun t=>decide (t∉a)) (List.nodup_append.2 ⟨ha,hb.filter _,fun x hx y hy=>by
  rintro rfl;simp only[mF,decide_eq_true_eq]at hy;exact hy.2 hx⟩) (fun t ht=>List.mem_append_left _ ht) (fun t ht=>by
   by_cases e:t∈a
   ·exact List.mem_append_left _ e
   ·exact List.mem_append_right _ (mF.2 ⟨ht,by simpa using e⟩)) (fun t ht=>by
   obtain⟨d,hd,rfl⟩:=mM.1 ht;rcases(h.mem d.1 d.2).1 hd with k|k
   ·exact List.mem_append_left _ k.1
   ·exact List.mem_append_right _ (mF.2 ⟨k.1,by simpa using k.2.1⟩))
def bG{β:Type}(f:Nat->β)(p:Nat)(x:β):Nat->β:=fun q=>if q=p then x else f q
theorem bJ(f:Nat->β)(p:Nat)(x:β):bG f p x p=x:=if_pos rfl
theorem bH(f:Nat->β){q:Nat}(x:β)(h:q≠p):bG f p x q=f q:=if_neg h
theorem Re{L:Nat->List (Nat×ah)}{F:Nat->List ah}(hp:p<N)(l:List ah)(y:Nat×ah):OP N L (bG F p l) y=OP N L F y+(sm (ct (L p) y) l-sm (ct (L p) y) (F p)):=by
 unfold OP;have key:∀m:List Nat,m.Nodup->p∈m->sm (fun q=>sm (ct (L q) y) (bG F p l q)) m=sm (fun q=>sm (ct (L q) y) (F q)) m+(sm (ct (L p) y) l-sm (ct (L p) y) (F p)):=fun m=>by
  induction m with
  | nil => intro _ h;cases h
  | cons a m ih=>
   intro hn hm;have hn':=List.nodup_cons.1 hn;rw[aN,aN];by_cases e:a=p
   ·subst e;rw[bJ,eF (d:=fun q=>sm (ct (L q) y) (F q)) (l:=m) fun q hq=>by rw[bH F l (show q≠a from fun e=>hn'.1 (e ▸ hq))]];omega
   ·rw[bH F l e,ih hn'.2 ((fF.1 hm).resolve_left fun h=>e h.symm)];omega
 exact key _ List.nodup_range (List.mem_range.2 hp)
section
variable {N:Nat} {L:Nat->List (Nat×ah)} {ps:Nat×ah->Nat} {O F Fn:Nat->List ah} {C Cn:Nat->ah->Int} {W:List (Nat×ah×Int)}
theorem OH.pop(h:OH N L O C F W)(hp:p<N){t:ah}{f':ah->Int}{l':List ah}{ds:List (ah×Int)}{W1:List (Nat×ah×Int)}(hf:∀u,f' u=if u=t then C p t+oh W (p,t)else C p u)(hl:yS f' l')(hd:yT (F p) l' ds)(hW1:∀y,oh W1 y=if y=(p,t)then 0 else oh W y):
    OH N L O (bG C p f') (bG F p l') (W1++jA (L p) ds):=by
 refine⟨fun q u hq=> ?_,fun q hq=> ?_⟩
 ·rw[og,O3,hd.sum (h.fr p hp).nodup hl.nodup];have e:=h.eq q u hq;unfold rhs at e⊢;rw[Re hp,hW1];by_cases e1:q=p
  ·subst e1;rw[bJ,hf];by_cases e2:u=t
   ·subst e2;rw[if_pos rfl,if_pos rfl];omega
   ·rw[if_neg e2,if_neg fun k=>e2 (Prod.mk.inj k).2];omega
  ·rw[bH C f' e1,if_neg fun k=>e1 (Prod.mk.inj k).1];omega
 ·by_cases e:q=p
  ·subst e;rw[bJ,bJ];exact hl
  ·rw[bH C f' e,bH F l' e];exact h.fr q hq
theorem FW{f f':ah->Int}{l l':List ah}{t u:ah}(h:yS f l)(k:yS f' l')(he:∀v,v≠t->f' v=f v)(hu:¬(u∈l↔u∈l')):PX.aT t u:=by
 refine Classical.byContradiction fun hn=>hu ?_;have hne:∀v,PX.aT v u->v≠t:=fun v hv e=>hn (e ▸ hv);rw[h.mem,k.mem,he u (hne u (bD.refl u))];constructor
 ·rintro⟨h1,h2⟩;exact⟨h1,fun v hv ha=>h2 v (by rw[<-he v (hne v ha)];exact hv) ha⟩
 ·rintro⟨h1,h2⟩;exact⟨h1,fun v hv ha=>h2 v (by rw[he v (hne v ha)];exact hv) ha⟩
theorem yT.turned{a b:List ah}{ds:List (ah×Int)}(h:yT a b ds){u:ah}(hu:u∈ds.map Prod.fst):¬(u∈a↔u∈b):=by
 obtain⟨d,hd,rfl⟩:=mM.1 hu;rcases(h.mem d.1 d.2).1 hd with⟨h1,h2,_⟩|⟨h1,h2,_⟩
 ·exact fun e=>h2 (e.1 h1)
 ·exact fun e=>h2 (e.2 h1)
theorem Jf(hO:qB N L ps)(hp:p<N){t:ah}{ds:List (ah×Int)}(hd:∀u∈ds.map Prod.fst,PX.aT t u):∀e∈jA (L p) ds,e.1<N/\ps (p,t)<ps (e.1,e.2.1):=by
 intro e he;unfold jA at he;obtain⟨d,hd1,he⟩:=List.mem_flatMap.1 he;obtain⟨x,hx,rfl⟩:=mM.1 he;obtain⟨b,hb,hv⟩:=zQ.1 (show(x.1,x.2)∈DN (L p) d.1 from hx);obtain⟨h1,h2⟩:=hO.step p x.1 d.1 x.2 b hp hb hv;refine⟨h1,Nat.lt_of_le_of_lt ?_ h2⟩;have h3:=hd d.1 (mM.2 ⟨d,hd1,rfl⟩);by_cases e:t=d.1
 ·rw[e];exact nR _
 ·exact Nat.le_of_lt (hO.up p t d.1 hp h3 e)
end
def mix(ps:Nat×ah->Nat)(Co Cn:Nat->ah->Int)(x q:Nat)(v:ah):Int:=if ps (q,v)<x then Cn q v else Co q v
def Gs(f:ah->Int)(u:ah):Prop:=0<f u/\∀v,0<f v->PX.aT v u->v=u
noncomputable def rem (ps:Nat×ah->Nat) (Co Cn:Nat->ah->Int) (x q:Nat) (u:ah):Nat:=
 @ite _ (ps (q,u)<x) (Classical.propDecidable _) 0 (@ite _ (∃v,v≠u/\PX.aT v u/\ps (q,v)<x/\0<Cn q v) (Classical.propDecidable _) 1 (@ite _ (∃v,v≠u/\PX.aT v u/\x<=ps (q,v)/\0<Co q v) (Classical.propDecidable _) 3 2))
section
variable {ps:Nat×ah->Nat} {Co Cn:Nat->ah->Int} {x x' q:Nat} {u:ah}
theorem G7:rem ps Co Cn x q u<=3:=by
 unfold rem;split
 ·omega
 ·split
  ·omega
  ·split<;>omega
theorem uR(hup:∀v,PX.aT v u->v≠u->ps (q,v)<ps (q,u))(hx:x<=x'):rem ps Co Cn x' q u<=rem ps Co Cn x q u/\(¬(Gs (mix ps Co Cn x q) u↔Gs (mix ps Co Cn x' q) u)->rem ps Co Cn x' q u+1<=rem ps Co Cn x q u):=by
 by_cases h0:ps (q,u)<x
 ·have e:∀v,PX.aT v u->mix ps Co Cn x q v=mix ps Co Cn x' q v:=fun v hv=>by
    have:ps (q,v)<x:=by
     by_cases k:v=u
     ·rw[k];exact h0
     ·exact Nat.lt_trans (hup v hv k) h0
    unfold mix;rw[if_pos this,if_pos (nL this hx)]
  have hi:Gs (mix ps Co Cn x q) u↔Gs (mix ps Co Cn x' q) u:=by
   unfold Gs;rw[e u (bD.refl u)];exact⟨fun⟨h1,h2⟩=>⟨h1,fun v hv ha=>h2 v (by rw[e v ha];exact hv) ha⟩,fun⟨h1,h2⟩=>⟨h1,fun v hv ha=>h2 v (by rw[<-e v ha];exact hv) ha⟩⟩
  have r1:rem ps Co Cn x' q u=0:=by unfold rem;rw[if_pos (nL h0 hx)]
  exact⟨by omega,fun hn=>absurd hi hn⟩
 ·have hmu:mix ps Co Cn x q u=Co q u:=by unfold mix;rw[if_neg h0]
  by_cases h1:∃v,v≠u/\PX.aT v u/\ps (q,v)<x/\0<Cn q v
  ·have r0:rem ps Co Cn x q u=1:=(by unfold rem;rw[if_neg h0,if_pos h1]);obtain⟨v,v1,v2,v3,v4⟩:=h1;have n0:∀y,x<=y->¬Gs (mix ps Co Cn y q) u:=fun y hy hi=>v1 (hi.2 v (by unfold mix;rw[if_pos (nL v3 hy)];exact v4) v2);refine⟨?_,fun hn=>absurd (iff_of_false (n0 x (nR _)) (n0 x' hx)) hn⟩;rw[r0];unfold rem;by_cases h2:ps (q,u)<x'
   ·rw[if_pos h2];omega
   ·rw[if_neg h2,if_pos ⟨v,v1,v2,nL v3 hx,v4⟩];exact nR _
  ·by_cases h3:∃v,v≠u/\PX.aT v u/\x<=ps (q,v)/\0<Co q v
   ·have r0:rem ps Co Cn x q u=3:=(by unfold rem;rw[if_neg h0,if_neg h1,if_pos h3]);have n0:¬Gs (mix ps Co Cn x q) u:=fun hi=>by
     obtain⟨v,v1,v2,v3,v4⟩:=h3;exact v1 (hi.2 v (by unfold mix;rw[if_neg (by omega)];exact v4) v2)
    refine⟨by rw[r0];exact G7,fun hn=> ?_⟩;rw[r0];unfold rem;by_cases h2:ps (q,u)<x'
    ·rw[if_pos h2];omega
    ·rw[if_neg h2];split
     ·omega
     ·split
      ·rename_i h5;obtain⟨v,v1,v2,v3,v4⟩:=h5;exact absurd (iff_of_false n0 fun hi=>v1 (hi.2 v (by unfold mix;rw[if_neg (by omega)];exact v4) v2)) hn
      ·omega
   ·have r0:rem ps Co Cn x q u=2:=(by unfold rem;rw[if_neg h0,if_neg h1,if_neg h3]);have hun:∀v,PX.aT v u->v≠u->¬0<mix ps Co Cn x q v:=fun v hv k hp=>by
     unfold mix at hp;split at hp
     ·rename_i h5;exact h1 ⟨v,k,hv,h5,hp⟩
     ·rename_i h5;exact h3 ⟨v,k,hv,by omega,hp⟩
    have r2:rem ps Co Cn x' q u<=2/\(¬(Gs (mix ps Co Cn x q) u↔Gs (mix ps Co Cn x' q) u)->rem ps Co Cn x' q u+1<=2):=by
     unfold rem;by_cases h2:ps (q,u)<x'
     ·rw[if_pos h2];exact⟨by omega,fun _=>by omega⟩
     ·rw[if_neg h2];split
      ·exact⟨by omega,fun _=>by omega⟩
      ·rename_i h6;have h7:¬∃v,v≠u/\PX.aT v u/\x'<=ps (q,v)/\0<Co q v:=fun⟨v,v1,v2,v3,v4⟩=>h3 ⟨v,v1,v2,by omega,v4⟩;rw[if_neg h7];refine⟨nR _,fun hn=>absurd ?_ hn⟩;have aax:mix ps Co Cn x' q u=Co q u:=(by unfold mix;rw[if_neg h2]);have hun':∀v,PX.aT v u->v≠u->¬0<mix ps Co Cn x' q v:=fun v hv k hp=>by
        unfold mix at hp;split at hp
        ·rename_i h5;exact h6 ⟨v,k,hv,h5,hp⟩
        ·rename_i h5;exact h7 ⟨v,k,hv,by omega,hp⟩
       unfold Gs;rw[hmu,aax];exact⟨fun⟨k1,_⟩=>⟨k1,fun v hv ha=>Classical.byContradiction fun k=>hun' v ha k hv⟩,fun⟨k1,_⟩=>⟨k1,fun v hv ha=>Classical.byContradiction fun k=>hun v ha k hv⟩⟩
    rw[r0];exact r2
end
def sN{α:Type}(f:α->Nat)(l:List α):Nat:=(l.map f).sum
section
variable {α:Type}
theorem bO(f:α->Nat)(a:α)(l:List α):sN f (a::l)=f a+sN f l:=by simp[sN]
theorem jV{f g:α->Nat}{l:List α}(h:∀a∈l,f a<=g a):sN f l<=sN g l:=by
 induction l with
 | nil => exact nR _
 | cons a l ih=>
  rw[bO,bO];exact Nat.add_le_add (h a List.mem_cons_self) (ih fun b hb=>h b (List.mem_cons_of_mem _ hb))
theorem Pw(f g:α->Nat)(D:α->Prop)(l:List α)(h:∀a∈l,f a<=g a)(hd:∀a∈l,D a->f a+1<=g a):∃m:List α,(∀a,a∈m↔a∈l/\D a)/\m.length+sN f l<=sN g l/\(l.Nodup->m.Nodup):=by
 classical
 induction l with
 | nil => exact⟨[],by simp,nR _,fun _=> .nil⟩
 | cons a l ih=>
  obtain⟨m,h1,h2,h3⟩:=ih (fun b hb=>h b (List.mem_cons_of_mem _ hb)) (fun b hb=>hd b (List.mem_cons_of_mem _ hb));rw[bO,bO];by_cases e:D a
  ·refine⟨a::m,fun b=> ?_, ?_,fun hn=> ?_⟩
   ·rw[fF,fF,h1];constructor
    ·rintro(rfl|⟨k1,k2⟩)
     ·exact⟨.inl rfl,e⟩
     ·exact⟨.inr k1,k2⟩
    ·rintro⟨rfl|k1,k2⟩
     ·exact .inl rfl
     ·exact .inr ⟨k1,k2⟩
   ·have:=hd a List.mem_cons_self e;rw[lC];omega
   ·have hn':=List.nodup_cons.1 hn;exact List.nodup_cons.2 ⟨fun k=>hn'.1 ((h1 a).1 k).1,h3 hn'.2⟩
  ·refine⟨m,fun b=> ?_, ?_,fun hn=>h3 (List.nodup_cons.1 hn).2⟩
   ·rw[h1,fF];constructor
    ·rintro⟨k1,k2⟩;exact⟨.inr k1,k2⟩
    ·rintro⟨rfl|k1,k2⟩
     ·exact absurd k2 e
     ·exact⟨k1,k2⟩
   ·have:=h a List.mem_cons_self;omega
theorem RY{f g:α->Nat}{l:List α}{a:α}{c:Nat}(ha:a∈l)(h:∀b∈l,f b<=g b)(hc:c+f a<=g a):c+sN f l<=sN g l:=by
 induction l with
 | nil => cases ha
 | cons b l ih=>
  rw[bO,bO];rcases fF.1 ha with rfl|ha
  ·have:=jV fun x hx=>h x (List.mem_cons_of_mem a hx);omega
  ·have:=ih ha fun x hx=>h x (List.mem_cons_of_mem _ hx);have:=h b List.mem_cons_self;omega
end
noncomputable def pot (N:Nat) (L:Nat->List (Nat×ah)) (ps:Nat×ah->Nat) (S:Nat->List ah) (Co Cn:Nat->ah->Int) (x:Nat):Nat:=sN (fun q=>(L q).length*sN (rem ps Co Cn x q) (S q)) (List.range N)
theorem Ur{L:Nat->List (Nat×ah)}{ps:Nat×ah->Nat}{S:Nat->List ah}{Co Cn:Nat->ah->Int}:pot N L ps S Co Cn x<=sN (fun q=>(L q).length*(3*(S q).length)) (List.range N):=by
 refine jV fun q _=>Nat.mul_le_mul_left _ ?_;have:∀l:List ah,sN (rem ps Co Cn x q) l<=3*l.length:=fun l=>by
  induction l with
  | nil => exact nR _
  | cons a l ih=>
   have:=G7 (ps:=ps) (Co:=Co) (Cn:=Cn) (x:=x) (q:=q) (u:=a);rw[bO,lC];omega
 exact this _
theorem Qt(l:List (Nat×ah))(u:ah):(DN l u).length<=l.length:=List.length_filterMap_le _ _
theorem PN(l:List (Nat×ah))(ds:List (ah×Int)):(jA l ds).length<=l.length*ds.length:=by
 unfold jA
 induction ds with
 | nil => simp
 | cons d ds ih=>
  rw[List.flatMap_cons,dH,fG,lC,Nat.mul_succ];have:=Qt l d.1;omega
structure JZ(N:Nat)(L:Nat->List (Nat×ah))(ps:Nat×ah->Nat)(O:Nat->List ah)(Co Cn:Nat->ah->Int)(S:Nat->List ah)(B x:Nat)(C:Nat->ah->Int)(F:Nat->List ah)(W:List (Nat×ah×Int)):Prop where
 Ki:OH N L O C F W
 mx:∀p t,p<N->C p t=mix ps Co Cn x p t
 lo:∀e∈W,e.1<N/\x<=ps (e.1,e.2.1)
 bd:W.length+pot N L ps S Co Cn x<=B
theorem yS.inF{f:ah->Int}{l:List ah}(h:yS f l)(u:ah):u∈l↔Gs f u:=h.mem u
section
variable {N:Nat} {L:Nat->List (Nat×ah)} {ps:Nat×ah->Nat} {O F Fn S:Nat->List ah} {C Co Cn:Nat->ah->Int} {W:List (Nat×ah×Int)} {B x:Nat}
theorem JZ.pop(hO:qB N L ps)(s:Dt N L O Cn Fn)(hS:∀q u,q<N->0<Co q u\/0<Cn q u->u∈S q)(h:JZ N L ps O Co Cn S B x C F W)(hp:p<N){t:ah}(hmin:∀e∈W,ps (p,t)<=ps (e.1,e.2.1))(hx:x<=ps (p,t))
    {f':ah->Int} {l':List ah} {ds:List (ah×Int)} {W1 W2:List (Nat×ah×Int)} (hf:∀u,f' u=if u=t then C p t+oh W (p,t)else C p u) (hl:yS f' l') (hd:yT (F p) l' ds) (hW1:∀y,oh W1 y=if y=(p,t)then 0 else oh W y) (hW2:∀e∈W1,e∈W/\(e.1,e.2.1)≠(p,t)) (hW3:W1.length<=W.length) (Jw:W2.Perm (W1++jA (L p) ds)) :
    JZ N L ps O Co Cn S B (ps (p,t)+1) (bG C p f') (bG F p l') W2/\(jA (L p) ds).length+pot N L ps S Co Cn (ps (p,t)+1)<=pot N L ps S Co Cn x:=by
 have hset:=h.Ki.settled hO s hmin;have aaH:=h.Ki.first hO s hp hmin;have hmx:∀q u,q<N->bG C p f' q u=mix ps Co Cn (ps (p,t)+1) q u:=fun q u hq=>by
  by_cases e:q=p/\u=t
  ·obtain⟨rfl,rfl⟩:=e;rw[bJ,hf,if_pos rfl,aaH];unfold mix;rw[if_pos (Nat.lt_succ_self _)]
  ·have hne:ps (q,u)≠ps (p,t):=fun k=>e (hO.inj q p u t hq hp k);have e1:bG C p f' q u=C q u:=by
    by_cases e2:q=p
    ·subst e2;rw[bJ,hf,if_neg fun k=>e ⟨rfl,k⟩]
    ·rw[bH C f' e2]
   rw[e1];unfold mix;by_cases k:ps (q,u)<ps (p,t)+1
   ·rw[if_pos k];exact hset (ps (q,u)) q u rfl hq (by omega)
   ·rw[if_neg k,h.mx q u hq];unfold mix;rw[if_neg (by omega)]
 have YS:=h.Ki.pop hp hf hl hd hW1;have aaN:∀u∈ds.map Prod.fst,PX.aT t u:=fun u hu=>FW (h.Ki.fr p hp) hl (fun v hv=>by rw[hf,if_neg hv]) (hd.turned hu);have Su:=Jf hO hp aaN;have Yn:(L p).length*ds.length+pot N L ps S Co Cn (ps (p,t)+1)<=pot N L ps S Co Cn x:=by
  have hup:∀q u,q<N->∀v,PX.aT v u->v≠u->ps (q,v)<ps (q,u):=fun q u hq v hv k=>hO.up q v u hq hv k;have hx':x<=ps (p,t)+1:=by omega
  obtain⟨m,m1,m2,_⟩:=Pw (rem ps Co Cn (ps (p,t)+1) p) (rem ps Co Cn x p) (fun u=>¬(Gs (mix ps Co Cn x p) u↔Gs (mix ps Co Cn (ps (p,t)+1) p) u)) (S p) (fun u _=>(uR (hup p u hp) hx').1) (fun u _ hn=>(uR (hup p u hp) hx').2 hn);have hdl:ds.length<=m.length:=by
   have:=iL hd.nd (m:=m) fun u hu=>by
    have ht:=hd.turned hu;have f1:u∈F p↔Gs (mix ps Co Cn x p) u:=by
     rw[(h.Ki.fr p hp).inF,show C p=mix ps Co Cn x p from funext fun v=>h.mx p v hp]
    have f2:u∈l'↔Gs (mix ps Co Cn (ps (p,t)+1) p) u:=by
     rw[hl.inF,show f'=mix ps Co Cn (ps (p,t)+1) p from funext fun v=>by rw[<-hmx p v hp,bJ]]
    refine(m1 u).2 ⟨?_,fun k=>ht (f1.trans (k.trans f2.symm))⟩;have hpos:∀y,0<mix ps Co Cn y p u->u∈S p:=fun y hy=>hS p u hp (by
     unfold mix at hy;split at hy
     ·exact .inr hy
     ·exact .inl hy)
    by_cases k:u∈F p
    ·exact hpos x (f1.1 k).1
    ·have:u∈l':=Classical.byContradiction fun k2=>ht (iff_of_false k k2);exact hpos _ (f2.1 this).1
   rwa [fG]at this
  refine RY (a:=p) (List.mem_range.2 hp) (fun q hq=>Nat.mul_le_mul_left _ (jV fun u _=>(uR (hup q u (List.mem_range.1 hq)) hx').1)) ?_;rw[<-Nat.mul_add];exact Nat.mul_le_mul_left _ (by omega)
 have h2:=PN (L p) ds;refine⟨⟨⟨fun q u hq=>by rw[pz Jw];exact YS.eq q u hq,YS.fr⟩,hmx,fun e he=> ?_, ?_⟩,by omega⟩
 ·rcases jQ.1 (Jw.mem_iff.1 he)with k|k
  ·obtain⟨k1,k2⟩:=hW2 e k;refine⟨(h.lo e k1).1, ?_⟩;have h1:=hmin e k1;have h2:ps (e.1,e.2.1)≠ps (p,t):=fun e1=>by
    obtain⟨e2,e3⟩:=hO.inj _ _ _ _ (h.lo e k1).1 hp e1;exact k2 (by rw[e2,e3])
   omega
  ·exact⟨(Su e k).1,(Su e k).2⟩
 ·have h1:=h.bd;rw[Jw.length_eq,dH];omega
end
theorem UG(a:ah)(m:List ah)(hm:m.Pairwise PX.lq)(ha:a∉m):∃m':List ah,m'.Pairwise PX.lq/\∀b,b∈m'↔b=a\/b∈m:=by
 induction m with
 | nil => exact⟨[a],List.pairwise_singleton _ _,fun b=>by simp⟩
 | cons c m ih=>
  have hc:=List.pairwise_cons.1 hm;rcases bD.tot a c with k|k|k
  ·refine⟨a::c::m,List.pairwise_cons.2 ⟨fun b hb=> ?_,hm⟩,fun b=>by simp⟩;rcases fF.1 hb with rfl|hb
   ·exact k
   ·exact bD.tt k (hc.1 b hb)
  ·exact absurd (by rw[k];simp) ha
  ·obtain⟨m',h1,h2⟩:=ih hc.2 fun h=>ha (List.mem_cons_of_mem _ h);refine⟨c::m',List.pairwise_cons.2 ⟨fun b hb=> ?_,h1⟩,fun b=> ?_⟩
   ·rcases(h2 b).1 hb with rfl|hb
    ·exact k
    ·exact hc.1 b hb
   ·rw[fF,h2,fF];constructor
    ·rintro(h|h|h)
     ·exact .inr (.inl h)
     ·exact .inl h
     ·exact .inr (.inr h)
    ·rintro(h|h|h)
     ·exact .inr (.inl h)
     ·exact .inl h
     ·exact .inr (.inr h)
theorem Pp(l:List ah):∃m:List ah,m.Pairwise PX.lq/\∀b,b∈m↔b∈l:=by
 induction l with
 | nil => exact⟨[], .nil,fun b=>Iff.rfl⟩
 | cons a l ih=>
  obtain⟨m,h1,h2⟩:=ih;by_cases e:a∈m
  ·refine⟨m,h1,fun b=> ?_⟩;rw[h2,fF];exact⟨.inr,fun h=>h.elim (fun h=>by rw[h];exact(h2 a).1 e) id⟩
  ·obtain⟨m',h3,h4⟩:=UG a m h1 e;exact⟨m',h3,fun b=>by rw[h4,h2,fF]⟩
theorem Nr(all:List ah):∃f,AZ PX all f:=by
 classical
 obtain⟨m,h1,h2⟩:=Pp (all.filter fun a=>decide (∀b∈all,PX.aT b a->b=a));exact⟨m,h1,fun a=>by rw[h2,mF,decide_eq_true_eq]⟩
def kR(N:Nat)(R:Nat->Nat->List ah)(O:Nat->List ah)(p:Nat):List ah:=(List.range N).flatMap fun q=>(O q).flatMap fun u=>(R q p).filterMap fun a=>bz a u
theorem jZ{R:Nat->Nat->List ah}{O:Nat->List ah}{x:ah}:x∈kR N R O p↔∃q u a,q<N/\u∈O q/\a∈R q p/\bz a u=some x:=by
 unfold kR;simp only[List.mem_flatMap,List.mem_range,List.mem_filterMap];constructor
 ·rintro⟨q,hq,u,hu,a,ha,hx⟩;exact⟨q,u,a,hq,hu,ha,hx⟩
 ·rintro⟨q,u,a,hq,hu,ha,hx⟩;exact⟨q,hq,u,hu,a,ha,hx⟩
structure A8(N:Nat)(L:Nat->List (Nat×ah))(St:Nat->Nat->ah->Prop)(R:Nat->Nat->List ah):Prop where
 st:∀p q b,St p q b↔p<N/\(q,b)∈L p
 tz:∀p q b,St p q b->q<N
 way:∀p q a,p<N->a∈R p q->Wy PX St p q a
 Zl:∀p q a,p<N->Wy PX St p q a->nN PX (R p q) a
 few:∀p q,p<N->(R p q).length<=64
section
variable {N:Nat} {L:Nat->List (Nat×ah)} {St:Nat->Nat->ah->Prop} {R:Nat->Nat->List ah} {O F:Nat->List ah}
theorem A8.rch(h:A8 N L St R){r:Nat}{v a:ah}(hr:r<N)(hv:v∈O r)(ha:SY St r v p a):nN PX (kR N R O p) a:=by
 obtain⟨s,hs,h1⟩:=ha;obtain⟨s',h2,h3⟩:=h.Zl r p s hr hs;obtain⟨e,h4,h5⟩:=bD.mono h3 h1;exact⟨e,jZ.2 ⟨r,v,s',hr,hv,h2,h4⟩,h5⟩
theorem A8.is(h:A8 N L St R){x:ah}(hx:x∈kR N R O p):∃r v,r<N/\v∈O r/\SY St r v p x:=by
 obtain⟨q,u,a,hq,hu,ha,hx⟩:=jZ.1 hx;exact⟨q,u,hq,hu,a,h.way q p a hq ha,hx⟩
theorem A8.xe(h:A8 N L St R)(hF:∀p,p<N->AZ PX (kR N R O p) (F p)):Dt N L O (rhs N L O F) F:=by
 refine⟨fun _ _ _=>rfl,fun p hp=>⟨(hF p hp).so,fun t=> ?_⟩⟩;have pc:∀a,0<rhs N L O F p a->nN PX (kR N R O p) a:=fun a ha=>by
  rcases pV.1 ha with k|⟨q,u,b,hq,hu,hb,hv⟩
  ·exact h.rch hp k (SY.self St p a)
  ·obtain⟨r,v,hr,hv',hch⟩:=h.is ((hF q hq).mem u|>.1 hu).1;exact h.rch hr hv' (hch.step ((h.st q p b).2 ⟨hq,hb⟩) hv)
 have cp:∀a,a∈kR N R O p->∃x,0<rhs N L O F p x/\PX.aT x a:=fun a ha=>by
  obtain⟨r,v,hr,hv,s,hs,h1⟩:=h.is ha;cases hs with
  | nil=>
   rw[ze]at h1;exact⟨v,pV.2 (.inl hv),by rw[Option.some.inj h1];exact bD.refl _⟩
  | @step q1 _ s1 b _ hw hst hc=>
   have e1:=bu hc;have e2:=bu h1;have d1:=GH h1;have tb:=bV b;obtain⟨a1,ha1⟩:=jr (a:=s1) (b:=v) (by omega);have e3:=bu ha1;obtain⟨a2,ha2⟩:=jr (a:=b) (b:=a1) (by omega);have e4:=bu ha2;have ea:a2=a:=bU (by omega) (by omega) (by omega);obtain⟨hq1,hL⟩:=(h.st q1 p b).1 hst;obtain⟨w,hw1,hw2⟩:=((hF q1 hq1).open bD a1).2 (h.rch hr hv ⟨s1,hw,ha1⟩);obtain⟨v',h5,h6⟩:=xK hw2 ha2;exact⟨v',pV.2 (.inr ⟨q1,w,b,hq1,hw1,hL,h5⟩),by rw[<-ea];exact h6⟩
 rw[(hF p hp).mem];constructor
 ·rintro⟨h1,h2⟩;obtain⟨x,x1,x2⟩:=cp t h1;obtain⟨y,y1,y2⟩:=pc x x1;have e:=h2 y y1 (bD.trans y2 x2);have ex:x=t:=qC x t x2 (e ▸ y2);refine⟨ex ▸ x1,fun u hu hut=> ?_⟩;obtain⟨y',y1',y2'⟩:=pc u hu;have e':=h2 y' y1' (bD.trans y2' hut);exact qC u t hut (e' ▸ y2')
 ·rintro⟨h1,h2⟩;obtain⟨y,y1,y2⟩:=pc t h1;obtain⟨x,x1,x2⟩:=cp y y1;have e:=h2 x x1 (bD.trans x2 y2);have ey:y=t:=qC y t y2 (e ▸ x2);refine⟨ey ▸ y1,fun b hb hbt=> ?_⟩;obtain⟨x',x1',x2'⟩:=cp b hb;have e':=h2 x' x1' (bD.trans x2' hbt);exact qC b t hbt (e' ▸ x2')
theorem A8.ex(h:A8 N L St R)(O:Nat->List ah):∃C F,Dt N L O C F/\∀p,p<N->AZ PX (kR N R O p) (F p):=by
 obtain⟨F,hF⟩:∃F:Nat->List ah,∀p,AZ PX (kR N R O p) (F p):=⟨fun p=>(Nr (kR N R O p)).choose,fun p=>(Nr (kR N R O p)).choose_spec⟩;exact⟨_,F,h.xe fun p _=>hF p,fun p _=>hF p⟩
theorem jF(f:α->List β)(l:List α)(k:Nat)(h:∀a∈l,(f a).length<=k):(l.flatMap f).length<=l.length*k:=by
 induction l with
 | nil => simp
 | cons a l ih=>
  rw[List.flatMap_cons,dH,lC,Nat.succ_mul];have:=h a List.mem_cons_self;have:=ih fun b hb=>h b (List.mem_cons_of_mem _ hb);omega
theorem kU(f:α->List β)(g:α->Nat)(l:List α)(h:∀a∈l,(f a).length<=g a):(l.flatMap f).length<=sN g l:=by
 induction l with
 | nil => simp
 | cons a l ih=>
  rw[List.flatMap_cons,dH,bO];have:=h a List.mem_cons_self;have:=ih fun b hb=>h b (List.mem_cons_of_mem _ hb);omega
theorem A8.len(h:A8 N L St R)(p:Nat):(kR N R O p).length<=sN (fun q=>(O q).length*64) (List.range N):=
 kU _ _ _ fun q hq=>jF _ _ _ fun _ _=>nT (List.length_filterMap_le _ _) (h.few q p (List.mem_range.1 hq))
theorem AZ.len{all f:List ah}(h:AZ PX all f):f.length<=all.length:=
 iL (h.so.imp fun {a b} k (e:a=b)=>bD.oN b (by rw[e]at k;exact k)) fun a ha=>((h.mem a).1 ha).1
end
theorem zw(P:α->Prop)[DecidablePred P](l:List α)(hn:l.Nodup)(h:∀a b,P a->P b->a=b):sm (fun a=>if P a then 1 else 0) l<=1:=by
 induction l with
 | nil => show(0:Int)<=1;omega
 | cons a l ih=>
  have hn':=List.nodup_cons.1 hn;rw[aN];by_cases e:P a
  ·rw[if_pos e,jy fun b hb=>by rw[if_neg fun k=>hn'.1 (h a b e k ▸ hb)]];omega
  ·rw[if_neg e];have:=ih hn'.2;omega
theorem Q3(s:Nat×ah)(l:List (Nat×ah))(y:Nat×ah)(u:ah):ct (s::l) y u=(if (bz s.2 u).map (fun v=>(s.1,v))=some y then 1 else 0)+ct l y u:=by
 unfold ct DN;rw[List.filterMap_cons];cases h:(bz s.2 u).map fun v=>(s.1,v)with
 | none => simp
 | some x=>
  simp only[aN,oI];rfl
theorem Zk(l:List (Nat×ah))(y:Nat×ah)(us:List ah)(hn:us.Nodup):sm (ct l y) us<=l.length:=by
 induction l with
 | nil=>
  have h0:sm (ct [] y) us=0:=jy fun _ _=>rfl;rw[h0];simp
 | cons s l ih=>
  rw[eF (fun u _=>Q3 s l y u),KY];have h1:=zw (fun u=>(bz s.2 u).map (fun v=>(s.1,v))=some y) us hn fun a b ha hb=>by
   simp only[Option.map_eq_some_iff]at ha hb;obtain⟨v,h1,h2⟩:=ha;obtain⟨v',h3,h4⟩:=hb;have e:v=v':=(by rw[<-h2]at h4;exact(Prod.mk.inj h4).2.symm);subst e;have e1:=bu h1;have e2:=bu h3;exact bU (by omega) (by omega) (by omega)
  rw[lC];omega
theorem Uo{L:Nat->List (Nat×ah)}{O F:Nat->List ah}(hF:∀q,q<N->(F q).Nodup)(p:Nat)(t:ah):rhs N L O F p t<=1+(sN (fun q=>(L q).length) (List.range N):Nat):=by
 have key:∀m:List Nat,(∀q∈m,q<N)->sm (fun q=>sm (ct (L q) (p,t)) (F q)) m<=(sN (fun q=>(L q).length) m:Nat):=fun m=>by
  induction m with
  | nil => intro _;exact Int.le_refl _
  | cons a m ih=>
   intro h;rw[aN,bO];have h1:=Zk (L a) (p,t) (F a) (hF a (h a List.mem_cons_self));have h2:=ih fun q hq=>h q (List.mem_cons_of_mem _ hq);omega
 have:=key _ fun q hq=>List.mem_range.1 hq;unfold rhs OP;split<;>omega
def sup(N:Nat)(L:Nat->List (Nat×ah))(O F:Nat->List ah)(p:Nat):List ah:=O p++(arr N L F).filterMap fun y=>if y.1=p then some y.2 else none
theorem Hy{L:Nat->List (Nat×ah)}{O F:Nat->List ah}{t:ah}(h:0<rhs N L O F p t):t∈sup N L O F p:=by
 unfold sup;rcases pV.1 h with k|k
 ·exact List.mem_append_left _ k
 ·exact List.mem_append_right _ (List.mem_filterMap.2 ⟨(p,t),Ib.2 k,by simp⟩)
end Pt
end Go.Proofs.YteekbpokkjjipaaGreat
