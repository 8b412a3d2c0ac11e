import Derived.Test.YteekbpokkjjipaaGreatJ4
import Derived.Test.YteekbpokkjjipaaGreatJ9
variable{q N p M:Nat}{α:Type}{rk:Nat->Nat}{ps:List Nat}{f:Nat->Int}
namespace Go.Proofs.YteekbpokkjjipaaGreat
section
open Go.RowKit Go.Sort
theorem xh{P:Program}(w:World)(sT ty elem:TypeId)(z:Value)(g o n c:Nat)(cur:Array Value)(t:TypeId)
    (hu:P.underlying sT=some (.slice elem)) (hz:(zeroValue elem).run P w= .ok z w) (hn:0<n)
    (hg:w.heap[g]? =some (.cells cur t (0,0))) (hfit:o+(Builtin.zeroCells z.cells n).size<=cur.size) (h1:∀v∈(Builtin.zeroCells z.cells n).toList,v.oneCell'=true) :
    (Builtin.clear_ #[sT] ty #[.slice (some ⟨g,o,none⟩) n c]).run P w =
     .ok (.tuple #[]) (w.setRow g (cur.toList.take o++(Builtin.zeroCells z.cells n).toList++cur.toList.drop (o+(Builtin.zeroCells z.cells n).size)).toArray):=by
 have hst:=run_storeCells_at P g o t (Builtin.zeroCells z.cells n).toList 0 cur w hg (by simpa using hfit) h1;obtain⟨m,rfl⟩:∃m,n=m+1:=⟨n-1,by omega⟩;simp[Builtin.clear_,run_underlying hu,hz,Result.andThen];simp at hst;rw[hst]
theorem oJ{P:Program}{E:El α}{w:World}{base:Nat}{e sT:TypeId}{z:Value}{g cap i:Nat}{M:List α}(ty:TypeId)(c:Nat)(hu:P.underlying sT=some (.slice e))(hz:∀u:World,(zeroValue e).run P u= .ok z u)(hzs:z.cells.size=E.k)
    (hz1:∀j,j<E.k->(z.cells[j]!).oneCell'=true) (hk:0<E.k) (h:w.ownsRow base e E.k (.slice (some ⟨g,0,none⟩) N cap) N (fl E M)) (hM:M.length=N) (hi:i<N) :
    ∃w',(Builtin.clear_ #[sT] ty #[.slice (some ⟨g,i*E.k,none⟩) (N-i) c]).run P w= .ok (.tuple #[]) w'/\w'.ownsRow base e E.k (.slice (some ⟨g,0,none⟩) i cap) i (fl E (M.take i))/\Kp (fun k=>k=g) w w':=by
 obtain⟨hlen,⟨h0,_⟩|⟨g',cap',cur,hv,hbs,hgg,hn,hm,hcs,htk⟩⟩:=id h
 ·cases h0
 cases hv;have hsz:(Builtin.zeroCells z.cells (N-i)).size=(N-i)*E.k:=by simp[Builtin.zeroCells,hzs]
 have hNk:i*E.k+(N-i)*E.k=N*E.k:=by rw[<-Nat.add_mul];congr 1;omega
 have hNc:N*E.k<=cap*E.k:=Nat.mul_le_mul_right _ hn;have hfit:i*E.k+(Builtin.zeroCells z.cells (N-i)).size<=cur.size:=by rw[hsz,hNk,hcs];exact hNc
 have h1:∀v∈(Builtin.zeroCells z.cells (N-i)).toList,v.oneCell'=true:=by
  intro v hv;simp[Builtin.zeroCells]at hv;obtain⟨j,_,rfl⟩:=hv;have:=hz1 (j%z.cells.size) (by rw[hzs];exact Nat.mod_lt _ hk);simpa using this
 have hrun:=xh w sT ty e z g (i*E.k) (N-i) c cur e hu (hz w) (by omega) hgg hfit h1;have hle:i*E.k<=cur.size:=by omega
 refine⟨_,hrun,⟨by rw[gu,lK];congr 1;omega,Or.inr ⟨g,cap,_,rfl,hbs,setRow_heap w g _ _ _ _ hgg,by omega,hm, ?_, ?_⟩⟩,⟨rfl,rfl,rfl,by simp[World.setRow],fun j _ hne=>setRow_other w g j _ hne⟩⟩
 ·simp only[List.size_toArray,dH,lK,List.length_drop,Array.length_toList,hsz];omega
 ·rw[List.toList_toArray,aA,List.take_append_of_le_length (by simp[hle]),List.take_take,Nat.min_self,<-Al,<-htk,List.take_take,Nat.min_eq_left (Nat.mul_le_mul_right _ (by omega))]
end
namespace Pt
def gN(t:ah):Nat:=(t.1.1*340282366920938463463374607431768211456+t.1.2.1*18446744073709551616+t.1.2.2).toNat
theorem sV(a b:ah):gN a<gN b↔PX.lq a b:=by
 have h1:=bV a;have h2:=bV b;show _↔(a.1.1<b.1.1\/(a.1.1=b.1.1/\(a.1.2.1<b.1.2.1\/(a.1.2.1=b.1.2.1/\a.1.2.2<b.1.2.2))));unfold gN;omega
theorem Bl{a b:ah}(h:gN a=gN b):a=b:=by
 rcases bD.tot a b with k|k|k
 ·have:=(sV a b).2 k;omega
 ·exact k
 ·have:=(sV b a).2 k;omega
theorem lex{x y r s:Nat}(hr:r<M)(hs:s<M):x*M+r<y*M+s↔x<y\/(x=y/\r<s):=by
 rcases Nat.lt_trichotomy x y with h|h|h
 ·have h1:(x+1)*M<=y*M:=Nat.mul_le_mul_right M h;rw[Nat.succ_mul]at h1;exact⟨fun _=> .inl h,fun _=>by omega⟩
 ·subst h;exact⟨fun k=> .inr ⟨rfl,by omega⟩,fun k=>by omega⟩
 ·have h1:(y+1)*M<=x*M:=Nat.mul_le_mul_right M h;rw[Nat.succ_mul]at h1;exact⟨fun k=>by omega,fun k=>by omega⟩
def lX(N:Nat)(rk:Nat->Nat)(x:Nat×ah):Nat:=(gN x.2*(N+1)+rk x.1)*(N+1)+x.1
theorem uN{t u:ah}(hp:p<=N)(hq:q<=N)(rp:rk p<=N)(rq:rk q<=N):lX N rk (p,t)<lX N rk (q,u)↔PX.lq t u\/(t=u/\(rk p<rk q\/(rk p=rk q/\p<q))):=by
 unfold lX;simp only;rw[lex (by omega) (by omega),lex (by omega) (by omega),sV];constructor
 ·rintro((h|⟨h1,h2⟩)|⟨h1,h2⟩)
  ·exact .inl h
  ·exact .inr ⟨Bl h1, .inl h2⟩
  ·have h3:gN t=gN u/\rk p=rk q:=by
     have k1:=(lex (x:=gN t) (y:=gN u) (r:=rk p) (s:=rk q) (M:=N+1) (by omega) (by omega));have k2:=(lex (x:=gN u) (y:=gN t) (r:=rk q) (s:=rk p) (M:=N+1) (by omega) (by omega));have k3:¬(gN t<gN u\/gN t=gN u/\rk p<rk q):=fun e=>(by have:=k1.2 e;omega);have k4:¬(gN u<gN t\/gN u=gN t/\rk q<rk p):=fun e=>(by have:=k2.2 e;omega);omega
   exact .inr ⟨Bl h3.1, .inr ⟨h3.2,h2⟩⟩
 ·rintro(h|⟨rfl,h|⟨h1,h2⟩⟩)
  ·exact .inl (.inl h)
  ·exact .inl (.inr ⟨rfl,h⟩)
  ·exact .inr ⟨by rw[h1],h2⟩
theorem GX{t u:ah}(hp:p<=N)(hq:q<=N)(rp:rk p<=N)(rq:rk q<=N)(h:lX N rk (p,t)=lX N rk (q,u)):p=q/\t=u:=by
 have k1:¬(PX.lq t u\/(t=u/\(rk p<rk q\/(rk p=rk q/\p<q)))):=fun e=>by have:=(uN (t:=t) (u:=u) hp hq rp rq).2 e;omega
 have k2:¬(PX.lq u t\/(u=t/\(rk q<rk p\/(rk q=rk p/\q<p)))):=fun e=>by have:=(uN (t:=u) (u:=t) hq hp rq rp).2 e;omega
 rcases bD.tot t u with k|k|k
 ·exact absurd (.inl k) k1
 ·subst k;refine⟨?_,rfl⟩;have e1:¬(rk p<rk q\/(rk p=rk q/\p<q)):=fun e=>k1 (.inr ⟨rfl,e⟩);have e2:¬(rk q<rk p\/(rk q=rk p/\q<p)):=fun e=>k2 (.inr ⟨rfl,e⟩);omega
 ·exact absurd (.inl k) k2
theorem aak{L:Nat->List (Nat×ah)}(DR:∀p,p<N->rk p<=N)(hto:∀p q b,p<N->(q,b)∈L p->q<N)(hz:∀p q,p<N->(q,PX.z)∈L p->rk p<rk q):qB N L (lX N rk) where
 inj p q t u hp hq h:=GX (by omega) (by omega) (DR p hp) (DR q hq) h
 up p t u hp h hne:=(uN (by omega) (by omega) (DR p hp) (DR p hp)).2 (.inl ((bD.told h).resolve_left hne))
 step p q t u b hp hb hv:=by
  have hq:=hto p q b hp hb;refine⟨hq,(uN (by omega) (by omega) (DR p hp) (DR q hq)).2 ?_⟩;obtain⟨e1,e2,e3⟩:=bu hv;have hb':=bV b;by_cases e:b=PX.z
  ·subst e;have z1:PX.z.1.1=0:=rfl;have z2:PX.z.1.2.1=0:=rfl;have z3:PX.z.1.2.2=0:=rfl;exact .inr ⟨bU (by omega) (by omega) (by omega), .inl (hz p q hp hb)⟩
  ·have h1:PX.aT t u:=⟨by omega,by omega,by omega⟩;have hne:t≠u:=fun h=>e (bU (show b.1.1=0 by rw[h]at e1;omega) (show b.1.2.1=0 by rw[h]at e2;omega) (show b.1.2.2=0 by rw[h]at e3;omega));exact .inl ((bD.told h1).resolve_left hne)
theorem VV(E:Nat->Nat->Bool)(hq:q<N)(h1:∀r,E r p=true->E r q=true)(h2:E q p=false)(h3:E q q=true):((List.range N).filter fun r=>E r p).length<((List.range N).filter fun r=>E r q).length:=by
 have h4:(q::(List.range N).filter fun r=>E r p).length<=((List.range N).filter fun r=>E r q).length:=by
  refine iL (List.nodup_cons.2 ⟨fun h=> ?_,List.nodup_range.filter _⟩) fun r hr=> ?_
  ·rw[mF,h2]at h;exact absurd h.2 (by simp)
  ·rcases fF.1 hr with rfl|hr
   ·exact mF.2 ⟨List.mem_range.2 hq,h3⟩
   ·rw[mF]at hr⊢;exact⟨hr.1,h1 r hr.2⟩
 rw[lC]at h4;omega
def nk(D:Nat->List (ah×Int))(ps:List Nat):List (Nat×ah×Int):=ps.flatMap fun p=>(D p).map fun d=>(p,d.1,d.2)
theorem oC(D:Nat->List (ah×Int))(l m:List Nat):nk D (l++m)=nk D l++nk D m:=List.flatMap_append
theorem O8(D:Nat->List (ah×Int))(p:Nat):nk D [p]=(D p).map fun d=>(p,d.1,d.2):=by simp[nk]
theorem Hw{D:Nat->List (ah×Int)}{e:Nat×ah×Int}:e∈nk D ps↔e.1∈ps/\(e.2.1,e.2.2)∈D e.1:=by
 unfold nk;rw[List.mem_flatMap];constructor
 ·rintro⟨p,hp,h⟩;obtain⟨d,hd,rfl⟩:=mM.1 h;exact⟨hp,hd⟩
 ·rintro⟨hp,hd⟩;exact⟨e.1,hp,mM.2 ⟨(e.2.1,e.2.2),hd,rfl⟩⟩
theorem O1{D:Nat->List (ah×Int)}(hn:ps.Nodup)(hp:p∈ps)(t:ah):oh (nk D ps) (p,t)=sm (fun d=>(if d.1=t then 1 else 0)*d.2) (D p):=by
 induction ps with
 | nil => cases hp
 | cons a ps ih=>
  have hn':=List.nodup_cons.1 hn;have e0:nk D (a::ps)=(D a).map (fun d=>(a,d.1,d.2))++nk D ps:=by simp[nk]
  have e1:oh ((D a).map fun d=>(a,d.1,d.2)) (p,t)=if a=p then sm (fun d=>(if d.1=t then 1 else 0)*d.2) (D a)else 0:=by
   unfold oh;rw[Es];by_cases e:a=p
   ·subst e;rw[if_pos rfl];refine eF fun d _=> ?_;by_cases k:d.1=t
    ·rw[if_pos (by rw[k]),if_pos k,Int.one_mul]
    ·rw[if_neg fun h=>k (Prod.mk.inj h).2,if_neg k,Int.zero_mul]
   ·rw[if_neg e];exact jy fun d _=>if_neg fun h=>e (Prod.mk.inj h).1
  rw[e0,og,e1];rcases fF.1 hp with rfl|hp
  ·rw[if_pos rfl];have:oh (nk D ps) (p,t)=0:=jy fun e he=>if_neg fun h=>hn'.1 (by
    have:=(Hw.1 he).1;rw[(Prod.mk.inj h).1]at this;exact this)
   omega
  ·have hap:a≠p:=fun e=>hn'.1 (by rw[e];exact hp);rw[if_neg hap,ih hn'.2 hp];omega
theorem KW(l:List ah)(hn:l.Nodup)(t:ah):sm (fun u=>if u=t then 1 else 0) l=if t∈l then 1 else 0:=by
 induction l with
 | nil => rfl
 | cons a l ih=>
  have hn':=List.nodup_cons.1 hn;rw[aN,ih hn'.2];by_cases e:a=t
  ·subst e;rw[if_pos rfl,if_neg hn'.1,if_pos List.mem_cons_self];rfl
  ·rw[if_neg e];by_cases k:t∈l
   ·rw[if_pos k,if_pos (List.mem_cons_of_mem _ k)];rfl
   ·rw[if_neg k,if_neg fun h=>(fF.1 h).elim (fun h=>e h.symm) k];rfl
theorem yT.len{a b:List ah}{ds:List (ah×Int)}(h:yT a b ds):ds.length<=a.length+b.length:=by
 have:=iL h.nd (m:=a++b) fun t ht=>by
  obtain⟨d,hd,rfl⟩:=mM.1 ht;rcases(h.mem d.1 d.2).1 hd with k|k
  ·exact List.mem_append_left _ k.1
  ·exact List.mem_append_right _ k.1
 rw[fG,dH]at this;exact this
theorem yT.sign{a b:List ah}{ds:List (ah×Int)}(h:yT a b ds){d:ah×Int}(hd:d∈ds):d.2= -1\/d.2=1:=by
 rcases(h.mem d.1 d.2).1 hd with k|k
 ·exact .inl k.2.2
 ·exact .inr k.2.2
theorem GD{D:Nat->List (ah×Int)}{Oo On:Nat->List ah}(ps:List Nat)(hD:∀p∈ps,yT (Oo p) (On p) (D p)):(nk D ps).length<=sN (fun p=>(Oo p).length+(On p).length) ps:=by
 unfold nk;exact kU _ _ _ fun p hp=>by rw[fG];exact(hD p hp).len
section
variable {N:Nat} {L:Nat->List (Nat×ah)} {ps:Nat×ah->Nat} {Oo On Fo Fn:Nat->List ah} {Co Cn:Nat->ah->Int} {W:List (Nat×ah×Int)} {D:Nat->List (ah×Int)}
theorem Dt.turn(h:Dt N L Oo Co Fo)(hO:∀p,p<N->(Oo p).Nodup)(hN:∀p,p<N->(On p).Nodup)(hD:∀p,p<N->yT (Oo p) (On p) (D p))(hW:W.Perm (nk D (List.range N))):OH N L On Co Fo W:=by
 refine⟨fun p t hp=> ?_,h.fr⟩;have hd:=(hD p hp).sum (hO p hp) (hN p hp) fun u=>if u=t then 1 else 0
 rw[KW _ (hO p hp),KW _ (hN p hp)]at hd;rw[h.eq p t hp,pz hW,O1 List.nodup_range (List.mem_range.2 hp),hd];unfold rhs;omega
theorem Dt.wR(h:Dt N L Oo Co Fo)(hO:∀p,p<N->(Oo p).Nodup)(hN:∀p,p<N->(On p).Nodup)(hD:∀p,p<N->yT (Oo p) (On p) (D p))(hW:W.Perm (nk D (List.range N))){S:Nat->List ah}{B:Nat}(hB:W.length+pot N L ps S Co Cn 0<=B):JZ N L ps On Co Cn S B 0 Co Fo W:=
 ⟨h.turn hO hN hD hW,fun p t _=>by unfold mix;rw[if_neg (Nat.not_lt_zero _)],fun e he=>⟨List.mem_range.1 (Hw.1 (hW.mem_iff.1 he)).1,Nat.zero_le _⟩,hB⟩
def KT(N:Nat)(L:Nat->List (Nat×ah))(Oo Fo On Fn:Nat->List ah)(q:Nat):List ah:=sup N L Oo Fo q++sup N L On Fn q
theorem Qe(h:Dt N L Oo Co Fo)(k:Dt N L On Cn Fn){u:ah}(hq:q<N)(hu:0<Co q u\/0<Cn q u):u∈KT N L Oo Fo On Fn q:=by
 rcases hu with e|e
 ·rw[h.eq q u hq]at e;exact List.mem_append_left _ (Hy e)
 ·rw[k.eq q u hq]at e;exact List.mem_append_right _ (Hy e)
end
def mH(N:Nat)(L:Nat->List (Nat×ah))(q:Nat):Nat:=sN (fun p=>((L p).filter fun s=>decide (s.1=q)).length) (List.range N)
theorem UM(l:List (Nat×ah))(u:ah)(q:Nat):((DN l u).filterMap fun y=>if y.1=q then some y.2 else none).length<=(l.filter fun s=>decide (s.1=q)).length:=by
 induction l with
 | nil => exact nR _
 | cons s l ih=>
  unfold DN at ih⊢;rw[List.filterMap_cons,List.filter_cons];cases hv:bz s.2 u with
  | none=>
   simp only[Option.map_none];split
   ·rw[lC];omega
   ·exact ih
  | some v=>
   simp only[Option.map_some,List.filterMap_cons];by_cases e:s.1=q
   ·rw[if_pos e,if_pos (by simpa using e)];simp only[lC];omega
   ·rw[if_neg e,if_neg (by simpa using e)];exact ih
theorem lV(f:α->Nat)(l:List α)(k:Nat):sN (fun a=>k*f a) l=k*sN f l:=by
 induction l with
 | nil => rfl
 | cons a l ih => rw[bO,bO,ih,Nat.mul_add]
theorem lW(f g:α->Nat)(l:List α):sN (fun a=>f a+g a) l=sN f l+sN g l:=by
 induction l with
 | nil => rfl
 | cons a l ih => rw[bO,bO,bO,ih];omega
theorem KO{L:Nat->List (Nat×ah)}{O F:Nat->List ah}(hF:∀p,p<N->(F p).length<=M)(q:Nat):(sup N L O F q).length<=(O q).length+M*mH N L q:=by
 have key:((arr N L F).filterMap fun y=>if y.1=q then some y.2 else none).length<=M*mH N L q:=by
  unfold arr mH;rw[<-lV];rw[List.filterMap_flatMap];refine kU _ _ _ fun p hp=> ?_;unfold ar1;rw[List.filterMap_flatMap];refine nT (jF _ _ _ fun u _=>UM (L p) u q) (Nat.mul_le_mul_right _ (hF p (List.mem_range.1 hp)))
 unfold sup;rw[dH];exact Nat.add_le_add_left key _
section
variable {N:Nat} {L:Nat->List (Nat×ah)} {ps:Nat×ah->Nat} {Oo On Fo Fn:Nat->List ah} {Co Cn:Nat->ah->Int} {M T:Nat}
theorem GN(YZ:∀p,p<N->(Fo p).length<=M)(hFn:∀p,p<N->(Fn p).length<=M)(hO:∀p,p<N->(Oo p).length<=T)(hN:∀p,p<N->(On p).length<=T)(hq:q<N):(KT N L Oo Fo On Fn q).length<=2*(T+M*mH N L q):=by
 unfold KT;rw[dH];have h1:=KO (L:=L) (O:=Oo) YZ q;have h2:=KO (L:=L) (O:=On) hFn q;have h3:=hO q hq;have h4:=hN q hq;omega
theorem PR(YZ:∀p,p<N->(Fo p).length<=M)(hFn:∀p,p<N->(Fn p).length<=M)(hO:∀p,p<N->(Oo p).length<=T)(hN:∀p,p<N->(On p).length<=T)(x:Nat):pot N L ps (KT N L Oo Fo On Fn) Co Cn x<=6*(T*sN (fun q=>(L q).length) (List.range N)+M*sN (fun q=>(L q).length*mH N L q) (List.range N)):=by
 refine nT Ur ?_;rw[<-lV,<-lV,<-lW,<-lV];refine jV fun q hq=> ?_;have h:=GN (L:=L) YZ hFn hO hN (List.mem_range.1 hq);have h2:(L q).length*(3*(KT N L Oo Fo On Fn q).length)<=(L q).length*(3*(2*(T+M*mH N L q))):=Nat.mul_le_mul_left _ (Nat.mul_le_mul_left _ h);refine nT h2 (Nat.le_of_eq ?_);have e1:3*(2*(T+M*mH N L q))=6*(T+M*mH N L q):=by omega
 rw[e1,Nat.mul_left_comm,Nat.mul_add,Nat.mul_comm _ T,Nat.mul_left_comm _ M]
theorem A8.short{St:Nat->Nat->ah->Prop}{R:Nat->Nat->List ah}{O F:Nat->List ah}(h:A8 N L St R)(hF:AZ PX (kR N R O p) (F p)):(F p).length<=64*sN (fun q=>(O q).length) (List.range N):=by
 have h1:=AZ.len hF;have h2:=h.len (O:=O) p;rw[<-lV];refine nT h1 (nT h2 (Nat.le_of_eq ?_))
 congr 1
 funext q
 exact Nat.mul_comm _ _
end
theorem jU{f:α->Nat}{l:List α}{a:α}(ha:a∈l):f a<=sN f l:=by
 have:=RY (f:=fun _=>0) (g:=f) (c:=f a) ha (fun _ _=>Nat.zero_le _) (nR _);omega
def R4(N:Nat)(E:Nat->Nat->Bool)(p:Nat):Nat:=((List.range N).filter fun r=>E r p).length
theorem LF(N:Nat)(E:Nat->Nat->Bool)(p:Nat):R4 N E p<=N:=by
 have:=List.length_filter_le (fun r=>E r p) (List.range N);rw[List.length_range]at this;exact this
theorem IE{St:Nat->Nat->ah->Prop}:XA St p PX.z q PX.z↔Wy PX St p q PX.z:=by
 constructor
 ·rintro⟨a,c,ha,hc,k1,k2,k3⟩;obtain⟨c1,c2,c3⟩:=bu hc;have ba:=bV a;have z1:PX.z.1.1=0:=rfl;have z2:PX.z.1.2.1=0:=rfl;have z3:PX.z.1.2.2=0:=rfl;have ea:a=PX.z:=bU (by omega) (by omega) (by omega);exact ea ▸ ha
 ·exact fun h=>⟨PX.z,PX.z,h,ze PX.z,bD.refl _⟩
theorem Ku{St:Nat->Nat->ah->Prop}(hs:∀q q',St q q' PX.z->f q+1<=f q'){c:ah}(h:Wy PX St p q c):c=PX.z->p=q\/f p+1<=f q:=by
 induction h with
 | nil => exact fun _=>Or.inl rfl
 | @step q q' a b c h1 h2 h3 ih=>
  intro hc;subst hc;obtain⟨s1,s2,s3⟩:=bu h3;have ba:=bV a;have bb:=bV b;have z1:PX.z.1.1=0:=rfl;have z2:PX.z.1.2.1=0:=rfl;have z3:PX.z.1.2.2=0:=rfl;have ea:a=PX.z:=bU (by omega) (by omega) (by omega);have eb:b=PX.z:=bU (by omega) (by omega) (by omega);rw[eb]at h2;have h4:=hs _ _ h2;rcases ih ea with h5|h5
  ·subst h5;exact Or.inr h4
  ·exact Or.inr (by omega)
theorem Ul{L:Nat->List (Nat×ah)}{St:Nat->Nat->ah->Prop}{E:Nat->Nat->Bool}(hst:∀p q b,St p q b↔p<N/\(q,b)∈L p)(hto:∀p q b,St p q b->q<N)
    (hs:∀q q',St q q' PX.z->f q+1<=f q') (hE:∀r p,r<N->p<N->(E r p=true↔XA St r PX.z p PX.z)):qB N L (lX N (R4 N E)):=by
 refine aak (fun p _=>LF N E p) (fun p q b hp hb=>hto p q b ((hst p q b).2 ⟨hp,hb⟩)) fun p q hp hb=> ?_;have hpq:St p q PX.z:=(hst p q PX.z).2 ⟨hp,hb⟩;have hq:q<N:=hto p q _ hpq;have e1:∀x,x<N->((List.range N).filter fun r=>E r x)=(List.range N).filter fun r=>(fun r x=>decide (r<N)&&E r x) r x:=fun x _=>List.filter_congr fun r hr=>by
  have h:decide (r<N)=true:=by simpa using List.mem_range.1 hr
  show E r x=(decide (r<N)&&E r x);rw[h,Bool.true_and]
 unfold R4;rw[e1 p hp,e1 q hq];refine VV (fun r x=>decide (r<N)&&E r x) hq (fun r hr=> ?_) ?_ ?_
 ·simp only[Bool.and_eq_true,decide_eq_true_eq]at hr⊢;refine⟨hr.1,(hE r q hr.1 hq).2 (IE.2 (.step (IE.1 ((hE r p hr.1 hp).1 hr.2)) hpq (ze PX.z)))⟩
 ·simp only[Bool.and_eq_false_iff];refine Or.inr (Bool.eq_false_iff.2 fun h=> ?_);have hw:=IE.1 ((hE q p hq hp).1 h);have h1:=hs p q hpq;rcases Ku hs hw rfl with e|e
  ·subst e;omega
  ·omega
 ·simp only[Bool.and_eq_true,decide_eq_true_eq];exact⟨hq,(hE q q hq hq).2 (IE.2 .nil)⟩
section
variable {N:Nat} {R:Nat->Nat->List ah} {O P:Nat->List ah} {c:Nat->ah->Int} {p:Nat}
theorem Nq(hO:∀q,q<N->yS (c q) (O q)){f:List ah}(h:AZ PX (kR N R O p) f){t s u:ah}(hq:q<N)(ht:0<c q t)(hs:s∈R q p)(hu:bz s t=some u):nN PX f u:=by
 rw[h.open bD];have:nN PX (O q) t:=by
  refine Classical.byContradiction fun hn=> ?_;have key:∀n (v:ah),gN v=n->0<c q v->PX.aT v t->False:=fun n=>by
   induction n using Nat.strongRecOn with
   | _ n ih=>
    intro v hv h1 h2;by_cases hm:v∈O q
    ·exact hn ⟨v,hm,h2⟩
    ·have:¬∀w,0<c q w->PX.aT w v->w=v:=fun k=>hm (((hO q hq).mem v).2 ⟨h1,k⟩);have:∃w,0<c q w/\PX.aT w v/\w≠v:=Classical.byContradiction fun k=>this fun w hw hwv=>Classical.byContradiction fun e=>k ⟨w,hw,hwv,e⟩;obtain⟨w,w1,w2,w3⟩:=this;have hlt:gN w<gN v:=(sV w v).2 ((bD.told w2).resolve_left w3);exact ih (gN w) (by omega) w rfl w1 (bD.trans w2 h2)
  exact key _ t rfl ht (bD.refl t)
 obtain⟨u',h1,h2⟩:=this;obtain⟨a',h3,h4⟩:=xK h2 hu;exact⟨a',jZ.2 ⟨q,u',s,hq,h1,hs,h3⟩,h4⟩
theorem QL(hO:∀q,q<N->yS (c q) (O q)){f:List ah}(h:AZ PX (kR N R O p) f){x:ah}(hx:x∈f):∃q t s,q<N/\0<c q t/\s∈R q p/\bz s t=some x:=by
 obtain⟨q,u,s,hq,hu,hs,ha⟩:=jZ.1 ((h.mem x).1 hx).1;exact⟨q,u,s,hq,(((hO q hq).mem u).1 hu).1,hs,ha⟩
end
theorem JC{all f:List ah}(h:AZ PX all f){a b:ah}(ha:a∈f)(hb:b∈f)(hab:PX.aT a b):a=b:=((h.mem b).1 hb).2 a ((h.mem a).1 ha).1 hab
end Pt
end Go.Proofs.YteekbpokkjjipaaGreat
