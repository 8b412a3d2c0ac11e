import Derived.Test.YtiiefcalkjeieaaGreatJ5
variable{N p q x r M:Nat}{α β:Type}{rk:Nat->Nat}{ps:List Nat}
namespace Go.Proofs.YtiiefcalkjeieaaGreat
section
open Go.RowKit Go.Sort
theorem yQ{P:Program}(w:World)(sT ty elem:TypeId)(z:Value)(g o n c:Nat)(cur:Array Value)(t:TypeId)
    (hu:P.underlying sT=some (.slice elem)) (hz:(zeroValue elem).run P w= .ok z w) (hn:0<n)
    (hg:w.heap[g]? =some (.cells cur t (0,0))) (hfit:o+(Builtin.zeroCells z.cells n).size<=cur.size) (h1:∀v∈(Builtin.zeroCells z.cells n).toList,v.oneCell'=true) :
    (Builtin.clear_ #[sT] ty #[.slice (some ⟨g,o,none⟩) n c]).run P w =
     .ok (.tuple #[]) (w.setRow g (cur.toList.take o++(Builtin.zeroCells z.cells n).toList++cur.toList.drop (o+(Builtin.zeroCells z.cells n).size)).toArray):=by
 have hst:=run_storeCells_at P g o t (Builtin.zeroCells z.cells n).toList 0 cur w hg (by simpa using hfit) h1;obtain⟨m,rfl⟩:∃m,n=m+1:=⟨n-1,by omega⟩;simp[Builtin.clear_,run_underlying hu,hz,Result.andThen];simp at hst;rw[hst]
theorem qj{P:Program}{E:El α}{w:World}{base:Nat}{e sT:TypeId}{z:Value}{g cap i:Nat}{M:List α}(ty:TypeId)(c:Nat)(hu:P.underlying sT=some (.slice e))(hz:∀u:World,(zeroValue e).run P u= .ok z u)(hzs:z.cells.size=E.k)
    (hz1:∀j,j<E.k->(z.cells[j]!).oneCell'=true) (hk:0<E.k) (h:w.ownsRow base e E.k (sO g N cap) N (fl E M)) (hM:M.length=N) (hi:i<N) :
    ∃w',(Builtin.clear_ #[sT] ty #[.slice (some ⟨g,i*E.k,none⟩) (N-i) c]).run P w= .ok (.tuple #[]) w'/\w'.ownsRow base e E.k (sO g i cap) i (fl E (M.take i))/\Kp (fun k=>k=g) w w':=by
 obtain⟨hlen,⟨h0,_⟩|⟨g',cap',cur,hv,hbs,hgg,hn,hm,hcs,htk⟩⟩:=id h
 ·cases h0
 cases hv;have hsz:(Builtin.zeroCells z.cells (N-i)).size=(N-i)*E.k:=by simp[Builtin.zeroCells,hzs]
 have Aj:i*E.k+(N-i)*E.k=N*E.k:=by rw[<-Nat.add_mul];congr 1;omega
 have hNc:N*E.k<=cap*E.k:=nM _ hn;have hfit:i*E.k+(Builtin.zeroCells z.cells (N-i)).size<=cur.size:=by rw[hsz,Aj,hcs];exact hNc
 have h1:∀v∈(Builtin.zeroCells z.cells (N-i)).toList,v.oneCell'=true:=by
  intro v hv;simp[Builtin.zeroCells]at hv;obtain⟨j,_,rfl⟩:=hv;have:=hz1 (j%z.cells.size) (by rw[hzs];exact Nat.mod_lt _ hk);simpa using this
 have hrun:=yQ w sT ty e z g (i*E.k) (N-i) c cur e hu (hz w) (by omega) hgg hfit h1;have hle:i*E.k<=cur.size:=by omega
 refine⟨_,hrun,⟨by rw[fP,lK];congr 1;omega,Or.inr ⟨g,cap,_,rfl,hbs,setRow_heap w g _ _ _ _ hgg,by omega,hm, ?_, ?_⟩⟩,⟨rfl,rfl,rfl,by simp[World.setRow],fun j _ hne=>setRow_other w g j _ hne⟩⟩
 ·simp only[List.size_toArray,dQ,lK,List.length_drop,Array.length_toList,hsz];omega
 ·rw[List.toList_toArray,aA,List.take_append_of_le_length (by simp[hle]),List.take_take,Nat.min_self,<-Cr,<-htk,List.take_take,Nat.min_eq_left (nM _ (by omega))]
end
namespace Pt
def mix(ps:Nat×ai->Nat)(Co Cn:Nat->ai->Int)(x q:Nat)(v:ai):Int:=if ps (q,v)<x then Cn q v else Co q v
def IX(f:ai->Int)(u:ai):Prop:=0<f u/\∀v,0<f v->PX.aX v u->v=u
noncomputable def rem (ps:Nat×ai->Nat) (Co Cn:Nat->ai->Int) (x q:Nat) (u:ai):Nat:=
 @ite _ (ps (q,u)<x) (Classical.propDecidable _) 0 (@ite _ (∃v,v≠u/\PX.aX v u/\ps (q,v)<x/\0<Cn q v) (Classical.propDecidable _) 1 (@ite _ (∃v,v≠u/\PX.aX v u/\x<=ps (q,v)/\0<Co q v) (Classical.propDecidable _) 3 2))
section
variable {ps:Nat×ai->Nat} {Co Cn:Nat->ai->Int} {x x' q:Nat} {u:ai}
theorem Jl:rem ps Co Cn x q u<=3:=by
 unfold rem;split
 ·omega
 ·split
  ·omega
  ·split<;>omega
theorem wV(hup:∀v,PX.aX v u->v≠u->ps (q,v)<ps (q,u))(hx:x<=x'):rem ps Co Cn x' q u<=rem ps Co Cn x q u/\(¬(IX (mix ps Co Cn x q) u↔IX (mix ps Co Cn x' q) u)->rem ps Co Cn x' q u+1<=rem ps Co Cn x q u):=by
 by_cases h0:ps (q,u)<x
 ·have e:∀v,PX.aX v u->mix ps Co Cn x q v=mix ps Co Cn x' q v:=fun v hv=>by
    have:ps (q,v)<x:=by
     by_cases k:v=u
     ·rw[k];exact h0
     ·exact nU (hup v hv k) h0
    unfold mix;rw[if_pos this,if_pos (nL this hx)]
  have hi:IX (mix ps Co Cn x q) u↔IX (mix ps Co Cn x' q) u:=by
   unfold IX;rw[e u (bL.refl u)];exact⟨fun⟨h1,h2⟩=>⟨h1,fun v hv ha=>h2 v (by rw[e v ha];exact hv) ha⟩,fun⟨h1,h2⟩=>⟨h1,fun v hv ha=>h2 v (by rw[<-e v ha];exact hv) ha⟩⟩
  have r1:rem ps Co Cn x' q u=0:=by unfold rem;rw[if_pos (nL h0 hx)]
  exact⟨by omega,fun hn=>absurd hi hn⟩
 ·have hmu:mix ps Co Cn x q u=Co q u:=by unfold mix;rw[if_neg h0]
  by_cases h1:∃v,v≠u/\PX.aX v u/\ps (q,v)<x/\0<Cn q v
  ·have r0:rem ps Co Cn x q u=1:=(by unfold rem;rw[if_neg h0,if_pos h1]);obtain⟨v,v1,v2,v3,v4⟩:=h1;have n0:∀y,x<=y->¬IX (mix ps Co Cn y q) u:=fun y hy hi=>v1 (hi.2 v (by unfold mix;rw[if_pos (nL v3 hy)];exact v4) v2);refine⟨?_,fun hn=>absurd (iff_of_false (n0 x (nR _)) (n0 x' hx)) hn⟩;rw[r0];unfold rem;by_cases h2:ps (q,u)<x'
   ·rw[if_pos h2];omega
   ·rw[if_neg h2,if_pos ⟨v,v1,v2,nL v3 hx,v4⟩];exact nR _
  ·by_cases h3:∃v,v≠u/\PX.aX v u/\x<=ps (q,v)/\0<Co q v
   ·have r0:rem ps Co Cn x q u=3:=(by unfold rem;rw[if_neg h0,if_neg h1,if_pos h3]);have n0:¬IX (mix ps Co Cn x q) u:=fun hi=>by
     obtain⟨v,v1,v2,v3,v4⟩:=h3;exact v1 (hi.2 v (by unfold mix;rw[if_neg (by omega)];exact v4) v2)
    refine⟨by rw[r0];exact Jl,fun hn=> ?_⟩;rw[r0];unfold rem;by_cases h2:ps (q,u)<x'
    ·rw[if_pos h2];omega
    ·rw[if_neg h2];split
     ·omega
     ·split
      ·rename_i h5;obtain⟨v,v1,v2,v3,v4⟩:=h5;exact absurd (iff_of_false n0 fun hi=>v1 (hi.2 v (by unfold mix;rw[if_neg (by omega)];exact v4) v2)) hn
      ·omega
   ·have r0:rem ps Co Cn x q u=2:=(by unfold rem;rw[if_neg h0,if_neg h1,if_neg h3]);have hun:∀v,PX.aX v u->v≠u->¬0<mix ps Co Cn x q v:=fun v hv k hp=>by
     unfold mix at hp;split at hp
     ·rename_i h5;exact h1 ⟨v,k,hv,h5,hp⟩
     ·rename_i h5;exact h3 ⟨v,k,hv,by omega,hp⟩
    have r2:rem ps Co Cn x' q u<=2/\(¬(IX (mix ps Co Cn x q) u↔IX (mix ps Co Cn x' q) u)->rem ps Co Cn x' q u+1<=2):=by
     unfold rem;by_cases h2:ps (q,u)<x'
     ·rw[if_pos h2];exact⟨by omega,fun _=>by omega⟩
     ·rw[if_neg h2];split
      ·exact⟨by omega,fun _=>by omega⟩
      ·rename_i h6;have h7:¬∃v,v≠u/\PX.aX v u/\x'<=ps (q,v)/\0<Co q v:=fun⟨v,v1,v2,v3,v4⟩=>h3 ⟨v,v1,v2,by omega,v4⟩;rw[if_neg h7];refine⟨nR _,fun hn=>absurd ?_ hn⟩;have abF:mix ps Co Cn x' q u=Co q u:=(by unfold mix;rw[if_neg h2]);have hun':∀v,PX.aX v u->v≠u->¬0<mix ps Co Cn x' q v:=fun v hv k hp=>by
        unfold mix at hp;split at hp
        ·rename_i h5;exact h6 ⟨v,k,hv,h5,hp⟩
        ·rename_i h5;exact h7 ⟨v,k,hv,by omega,hp⟩
       unfold IX;rw[hmu,abF];exact⟨fun⟨k1,_⟩=>⟨k1,fun v hv ha=>Classical.byContradiction fun k=>hun' v ha k hv⟩,fun⟨k1,_⟩=>⟨k1,fun v hv ha=>Classical.byContradiction fun k=>hun v ha k hv⟩⟩
    rw[r0];exact r2
end
def sN{α:Type}(f:α->Nat)(l:List α):Nat:=(l.map f).sum
section
variable {α:Type}
theorem bU(f:α->Nat)(a:α)(l:List α):sN f (a::l)=f a+sN f l:=by simp[sN]
theorem kG{f g:α->Nat}{l:List α}(h:∀a∈l,f a<=g a):sN f l<=sN g l:=by
 induction l with
 | nil => exact nR _
 | cons a l ih=>
  rw[bU,bU];exact Nat.add_le_add (h a mX) (ih fun b hb=>h b (mO _ hb))
theorem RY(f g:α->Nat)(D:α->Prop)(l:List α)(h:∀a∈l,f a<=g a)(hd:∀a∈l,D a->f a+1<=g a):∃m:List α,(∀a,a∈m↔a∈l/\D a)/\m.length+sN f l<=sN g l/\(l.Nodup->m.Nodup):=by
 classical
 induction l with
 | nil => exact⟨[],by simp,nR _,fun _=> .nil⟩
 | cons a l ih=>
  obtain⟨m,h1,h2,h3⟩:=ih (fun b hb=>h b (mO _ hb)) (fun b hb=>hd b (mO _ hb));rw[bU,bU];by_cases e:D a
  ·refine⟨a::m,fun b=> ?_, ?_,fun hn=> ?_⟩
   ·rw[gq,gq,h1];constructor
    ·rintro(rfl|⟨k1,k2⟩)
     ·exact⟨.inl rfl,e⟩
     ·exact⟨.inr k1,k2⟩
    ·rintro⟨rfl|k1,k2⟩
     ·exact .inl rfl
     ·exact .inr ⟨k1,k2⟩
   ·have:=hd a mX e;rw[lC];omega
   ·have hn':=List.nodup_cons.1 hn;exact List.nodup_cons.2 ⟨fun k=>hn'.1 ((h1 a).1 k).1,h3 hn'.2⟩
  ·refine⟨m,fun b=> ?_, ?_,fun hn=>h3 (List.nodup_cons.1 hn).2⟩
   ·rw[h1,gq];constructor
    ·rintro⟨k1,k2⟩;exact⟨.inr k1,k2⟩
    ·rintro⟨rfl|k1,k2⟩
     ·exact absurd k2 e
     ·exact⟨k1,k2⟩
   ·have:=h a mX;omega
theorem UQ{f g:α->Nat}{l:List α}{a:α}{c:Nat}(ha:a∈l)(h:∀b∈l,f b<=g b)(hc:c+f a<=g a):c+sN f l<=sN g l:=by
 induction l with
 | nil => cases ha
 | cons b l ih=>
  rw[bU,bU];rcases gq.1 ha with rfl|ha
  ·have:=kG fun x hx=>h x (mO a hx);omega
  ·have:=ih ha fun x hx=>h x (mO _ hx);have:=h b mX;omega
end
noncomputable def pot (N:Nat) (L:Nat->List (Nat×ai)) (ps:Nat×ai->Nat) (S:Nat->List ai) (Co Cn:Nat->ai->Int) (x:Nat):Nat:=sN (fun q=>(L q).length*sN (rem ps Co Cn x q) (S q)) (List.range N)
theorem Wq{L:Nat->List (Nat×ai)}{ps:Nat×ai->Nat}{S:Nat->List ai}{Co Cn:Nat->ai->Int}:pot N L ps S Co Cn x<=sN (fun q=>(L q).length*(3*(S q).length)) (List.range N):=by
 refine kG fun q _=>Nat.mul_le_mul_left _ ?_;have:∀l:List ai,sN (rem ps Co Cn x q) l<=3*l.length:=fun l=>by
  induction l with
  | nil => exact nR _
  | cons a l ih=>
   have:=Jl (ps:=ps) (Co:=Co) (Cn:=Cn) (x:=x) (q:=q) (u:=a);rw[bU,lC];omega
 exact this _
theorem Tn(l:List (Nat×ai))(u:ai):(FJ l u).length<=l.length:=List.length_filterMap_le _ _
theorem Sk(l:List (Nat×ai))(ds:List (ai×Int)):(jR l ds).length<=l.length*ds.length:=by
 unfold jR
 induction ds with
 | nil => simp
 | cons d ds ih=>
  rw[Ri,dQ,gQ,lC,Nat.mul_succ];have:=Tn l d.1;omega
structure LW(N:Nat)(L:Nat->List (Nat×ai))(ps:Nat×ai->Nat)(O:Nat->List ai)(Co Cn:Nat->ai->Int)(S:Nat->List ai)(B x:Nat)(C:Nat->ai->Int)(F:Nat->List ai)(W:List (Nat×ai×Int)):Prop where
 Mo:QO N L O C F W
 mx:∀p t,p<N->C p t=mix ps Co Cn x p t
 lo:∀e∈W,e.1<N/\x<=ps (e.1,e.2.1)
 bd:W.length+pot N L ps S Co Cn x<=B
theorem Dc.inF{f:ai->Int}{l:List ai}(h:Dc f l)(u:ai):u∈l↔IX f u:=h.mem u
section
variable {N:Nat} {L:Nat->List (Nat×ai)} {ps:Nat×ai->Nat} {O F Fn S:Nat->List ai} {C Co Cn:Nat->ai->Int} {W:List (Nat×ai×Int)} {B x:Nat}
theorem LW.pop(hO:rV N L ps)(s:Fv N L O Cn Fn)(hS:∀q u,q<N->0<Co q u\/0<Cn q u->u∈S q)(h:LW N L ps O Co Cn S B x C F W)(hp:p<N){t:ai}(hmin:∀e∈W,ps (p,t)<=ps (e.1,e.2.1))(hx:x<=ps (p,t))
    {f':ai->Int} {l':List ai} {ds:List (ai×Int)} {W1 W2:List (Nat×ai×Int)} (hf:∀u,f' u=if u=t then C p t+qa W (p,t)else C p u) (hl:Dc f' l') (hd:Az (F p) l' ds) (hW1:∀y,qa W1 y=if y=(p,t)then 0 else qa W y) (hW2:∀e∈W1,e∈W/\(e.1,e.2.1)≠(p,t)) (hW3:W1.length<=W.length) (KR:W2.Perm (W1++jR (L p) ds)) :
    LW N L ps O Co Cn S B (ps (p,t)+1) (bI C p f') (bI F p l') W2/\(jR (L p) ds).length+pot N L ps S Co Cn (ps (p,t)+1)<=pot N L ps S Co Cn x:=by
 have hset:=h.Mo.settled hO s hmin;have abO:=h.Mo.first hO s hp hmin;have hmx:∀q u,q<N->bI C p f' q u=mix ps Co Cn (ps (p,t)+1) q u:=fun q u hq=>by
  by_cases e:q=p/\u=t
  ·obtain⟨rfl,rfl⟩:=e;rw[bM,hf,if_pos rfl,abO];unfold mix;rw[if_pos (Nat.lt_succ_self _)]
  ·have hne:ps (q,u)≠ps (p,t):=fun k=>e (hO.inj q p u t hq hp k);have e1:bI C p f' q u=C q u:=by
    by_cases e2:q=p
    ·subst e2;rw[bM,hf,if_neg fun k=>e ⟨rfl,k⟩]
    ·rw[bK C f' e2]
   rw[e1];unfold mix;by_cases k:ps (q,u)<ps (p,t)+1
   ·rw[if_pos k];exact hset (ps (q,u)) q u rfl hq (by omega)
   ·rw[if_neg k,h.mx q u hq];unfold mix;rw[if_neg (by omega)]
 have aaG:=h.Mo.pop hp hf hl hd hW1;have abU:∀u∈ds.map Prod.fst,PX.aX t u:=fun u hu=>Iy (h.Mo.fr p hp) hl (fun v hv=>by rw[hf,if_neg hv]) (hd.turned hu);have U6:=Kz hO hp abU;have aaj:(L p).length*ds.length+pot N L ps S Co Cn (ps (p,t)+1)<=pot N L ps S Co Cn x:=by
  have hup:∀q u,q<N->∀v,PX.aX v u->v≠u->ps (q,v)<ps (q,u):=fun q u hq v hv k=>hO.up q v u hq hv k;have hx':x<=ps (p,t)+1:=by omega
  obtain⟨m,m1,m2,_⟩:=RY (rem ps Co Cn (ps (p,t)+1) p) (rem ps Co Cn x p) (fun u=>¬(IX (mix ps Co Cn x p) u↔IX (mix ps Co Cn (ps (p,t)+1) p) u)) (S p) (fun u _=>(wV (hup p u hp) hx').1) (fun u _ hn=>(wV (hup p u hp) hx').2 hn);have hdl:ds.length<=m.length:=by
   have:=jb hd.nd (m:=m) fun u hu=>by
    have ht:=hd.turned hu;have f1:u∈F p↔IX (mix ps Co Cn x p) u:=by
     rw[(h.Mo.fr p hp).inF,show C p=mix ps Co Cn x p from funext fun v=>h.mx p v hp]
    have f2:u∈l'↔IX (mix ps Co Cn (ps (p,t)+1) p) u:=by
     rw[hl.inF,show f'=mix ps Co Cn (ps (p,t)+1) p from funext fun v=>by rw[<-hmx p v hp,bM]]
    refine(m1 u).2 ⟨?_,fun k=>ht (f1.trans (k.trans f2.symm))⟩;have hpos:∀y,0<mix ps Co Cn y p u->u∈S p:=fun y hy=>hS p u hp (by
     unfold mix at hy;split at hy
     ·exact .inr hy
     ·exact .inl hy)
    by_cases k:u∈F p
    ·exact hpos x (f1.1 k).1
    ·have:u∈l':=Classical.byContradiction fun k2=>ht (iff_of_false k k2);exact hpos _ (f2.1 this).1
   rwa [gQ]at this
  refine UQ (a:=p) (mR.2 hp) (fun q hq=>Nat.mul_le_mul_left _ (kG fun u _=>(wV (hup q u (mR.1 hq)) hx').1)) ?_;rw[<-Nat.mul_add];exact Nat.mul_le_mul_left _ (by omega)
 have h2:=Sk (L p) ds;refine⟨⟨⟨fun q u hq=>by rw[qJ KR];exact aaG.eq q u hq,aaG.fr⟩,hmx,fun e he=> ?_, ?_⟩,by omega⟩
 ·rcases kr.1 (KR.mem_iff.1 he)with k|k
  ·obtain⟨k1,k2⟩:=hW2 e k;refine⟨(h.lo e k1).1, ?_⟩;have h1:=hmin e k1;have h2:ps (e.1,e.2.1)≠ps (p,t):=fun e1=>by
    obtain⟨e2,e3⟩:=hO.inj _ _ _ _ (h.lo e k1).1 hp e1;exact k2 (by rw[e2,e3])
   omega
  ·exact⟨(U6 e k).1,(U6 e k).2⟩
 ·have h1:=h.bd;rw[KR.length_eq,dQ];omega
end
theorem WL(a:ai)(m:List ai)(hm:m.Pairwise PX.mh)(ha:a∉m):∃m':List ai,m'.Pairwise PX.mh/\∀b,b∈m'↔b=a\/b∈m:=by
 induction m with
 | nil => exact⟨[a],List.pairwise_singleton _ _,fun b=>by simp⟩
 | cons c m ih=>
  have hc:=qD.1 hm;rcases bL.tot a c with k|k|k
  ·refine⟨a::c::m,qD.2 ⟨fun b hb=> ?_,hm⟩,fun b=>by simp⟩;rcases gq.1 hb with rfl|hb
   ·exact k
   ·exact bL.tt k (hc.1 b hb)
  ·exact absurd (by rw[k];simp) ha
  ·obtain⟨m',h1,h2⟩:=ih hc.2 fun h=>ha (mO _ h);refine⟨c::m',qD.2 ⟨fun b hb=> ?_,h1⟩,fun b=> ?_⟩
   ·rcases(h2 b).1 hb with rfl|hb
    ·exact k
    ·exact hc.1 b hb
   ·rw[gq,h2,gq];constructor
    ·rintro(h|h|h)
     ·exact .inr (.inl h)
     ·exact .inl h
     ·exact .inr (.inr h)
    ·rintro(h|h|h)
     ·exact .inr (.inl h)
     ·exact .inl h
     ·exact .inr (.inr h)
theorem RQ(l:List ai):∃m:List ai,m.Pairwise PX.mh/\∀b,b∈m↔b∈l:=by
 induction l with
 | nil => exact⟨[], .nil,fun b=>Iff.rfl⟩
 | cons a l ih=>
  obtain⟨m,h1,h2⟩:=ih;by_cases e:a∈m
  ·refine⟨m,h1,fun b=> ?_⟩;rw[h2,gq];exact⟨.inr,fun h=>h.elim (fun h=>by rw[h];exact(h2 a).1 e) id⟩
  ·obtain⟨m',h3,h4⟩:=WL a m h1 e;exact⟨m',h3,fun b=>by rw[h4,h2,gq]⟩
theorem PK(all:List ai):∃f,FY PX all f:=by
 classical
 obtain⟨m,h1,h2⟩:=RQ (all.filter fun a=>decide (∀b∈all,PX.aX b a->b=a));exact⟨m,h1,fun a=>by rw[h2,mF,dE]⟩
def kH(N:Nat)(R:Nat->Nat->List ai)(O:Nat->List ai)(p:Nat):List ai:=(List.range N).flatMap fun q=>(O q).flatMap fun u=>(R q p).filterMap fun a=>bJ a u
theorem rf{R:Nat->Nat->List ai}{O:Nat->List ai}{x:ai}:x∈kH N R O p↔∃q u a,q<N/\u∈O q/\a∈R q p/\bJ a u=some x:=by
 unfold kH;simp only[List.mem_flatMap,mR,List.mem_filterMap];constructor
 ·rintro⟨q,hq,u,hu,a,ha,hx⟩;exact⟨q,u,a,hq,hu,ha,hx⟩
 ·rintro⟨q,u,a,hq,hu,ha,hx⟩;exact⟨q,hq,u,hu,a,ha,hx⟩
structure C8(N:Nat)(L:Nat->List (Nat×ai))(St:Nat->Nat->ai->Prop)(R:Nat->Nat->List ai):Prop where
 st:∀p q b,St p q b↔p<N/\(q,b)∈L p
 tz:∀p q b,St p q b->q<N
 way:∀p q a,p<N->a∈R p q->Wy PX St p q a
 cov:∀p q a,p<N->Wy PX St p q a->pY PX (R p q) a
 few:∀p q,p<N->(R p q).length<=64
section
variable {N:Nat} {L:Nat->List (Nat×ai)} {St:Nat->Nat->ai->Prop} {R:Nat->Nat->List ai} {O F:Nat->List ai}
theorem C8.rch(h:C8 N L St R){v a:ai}(hr:r<N)(hv:v∈O r)(ha:Vr St r v p a):pY PX (kH N R O p) a:=by
 obtain⟨s,hs,h1⟩:=ha;obtain⟨s',h2,h3⟩:=h.cov r p s hr hs;obtain⟨e,h4,h5⟩:=bL.mono h3 h1;exact⟨e,rf.2 ⟨r,v,s',hr,hv,h2,h4⟩,h5⟩
theorem C8.is(h:C8 N L St R){x:ai}(hx:x∈kH N R O p):∃r v,r<N/\v∈O r/\Vr St r v p x:=by
 obtain⟨q,u,a,hq,hu,ha,hx⟩:=rf.1 hx;exact⟨q,u,hq,hu,a,h.way q p a hq ha,hx⟩
theorem C8.yO(h:C8 N L St R)(hF:∀p,p<N->FY PX (kH N R O p) (F p)):Fv N L O (rhs N L O F) F:=by
 refine⟨fun _ _ _=>rfl,fun p hp=>⟨(hF p hp).so,fun t=> ?_⟩⟩;have pc:∀a,0<rhs N L O F p a->pY PX (kH N R O p) a:=fun a ha=>by
  rcases qV.1 ha with k|⟨q,u,b,hq,hu,hb,hv⟩
  ·exact h.rch hp k (Vr.self St p a)
  ·obtain⟨r,v,hr,hv',hch⟩:=h.is ((hF q hq).mem u|>.1 hu).1;exact h.rch hr hv' (hch.step ((h.st q p b).2 ⟨hq,hb⟩) hv)
 have cp:∀a,a∈kH N R O p->∃x,0<rhs N L O F p x/\PX.aX x a:=fun a ha=>by
  obtain⟨r,v,hr,hv,s,hs,h1⟩:=h.is ha;cases hs with
  | nil=>
   rw[AZ]at h1;exact⟨v,qV.2 (.inl hv),by rw[oJ h1];exact bL.refl _⟩
  | @step q1 _ s1 b _ hw hst hc=>
   have e1:=bE hc;have e2:=bE h1;have d1:=I8 h1;have tb:=bY b;obtain⟨a1,ha1⟩:=jN (a:=s1) (b:=v) (by omega);have e3:=bE ha1;obtain⟨a2,ha2⟩:=jN (a:=b) (b:=a1) (by omega);have e4:=bE ha2;have ea:a2=a:=dw (by omega) (by omega) (by omega);obtain⟨hq1,hL⟩:=(h.st q1 p b).1 hst;obtain⟨w,hw1,hw2⟩:=((hF q1 hq1).open bL a1).2 (h.rch hr hv ⟨s1,hw,ha1⟩);obtain⟨v',h5,h6⟩:=Kj hw2 ha2;exact⟨v',qV.2 (.inr ⟨q1,w,b,hq1,hw1,hL,h5⟩),by rw[<-ea];exact h6⟩
 rw[(hF p hp).mem];constructor
 ·rintro⟨h1,h2⟩;obtain⟨x,x1,x2⟩:=cp t h1;obtain⟨y,y1,y2⟩:=pc x x1;have e:=h2 y y1 (bL.trans y2 x2);have ex:x=t:=rW x t x2 (e ▸ y2);refine⟨ex ▸ x1,fun u hu hut=> ?_⟩;obtain⟨y',y1',y2'⟩:=pc u hu;have e':=h2 y' y1' (bL.trans y2' hut);exact rW u t hut (e' ▸ y2')
 ·rintro⟨h1,h2⟩;obtain⟨y,y1,y2⟩:=pc t h1;obtain⟨x,x1,x2⟩:=cp y y1;have e:=h2 x x1 (bL.trans x2 y2);have ey:y=t:=rW y t y2 (e ▸ x2);refine⟨ey ▸ y1,fun b hb hbt=> ?_⟩;obtain⟨x',x1',x2'⟩:=cp b hb;have e':=h2 x' x1' (bL.trans x2' hbt);exact rW b t hbt (e' ▸ x2')
theorem C8.ex(h:C8 N L St R)(O:Nat->List ai):∃C F,Fv N L O C F/\∀p,p<N->FY PX (kH N R O p) (F p):=by
 obtain⟨F,hF⟩:∃F:Nat->List ai,∀p,FY PX (kH N R O p) (F p):=⟨fun p=>(PK (kH N R O p)).choose,fun p=>(PK (kH N R O p)).choose_spec⟩;exact⟨_,F,h.yO fun p _=>hF p,fun p _=>hF p⟩
theorem nJ(f:α->List β)(l:List α)(k:Nat)(h:∀a∈l,(f a).length<=k):(l.flatMap f).length<=l.length*k:=by
 induction l with
 | nil => simp
 | cons a l ih=>
  rw[Ri,dQ,lC,Nat.succ_mul];have:=h a mX;have:=ih fun b hb=>h b (mO _ hb);omega
theorem jf(f:α->List β)(g:α->Nat)(l:List α)(h:∀a∈l,(f a).length<=g a):(l.flatMap f).length<=sN g l:=by
 induction l with
 | nil => simp
 | cons a l ih=>
  rw[Ri,dQ,bU];have:=h a mX;have:=ih fun b hb=>h b (mO _ hb);omega
theorem C8.len(h:C8 N L St R)(p:Nat):(kH N R O p).length<=sN (fun q=>(O q).length*64) (List.range N):=
 jf _ _ _ fun q hq=>nJ _ _ _ fun _ _=>nT (List.length_filterMap_le _ _) (h.few q p (mR.1 hq))
theorem FY.len{all f:List ai}(h:FY PX all f):f.length<=all.length:=
 jb (h.so.imp fun {a b} k (e:a=b)=>bL.qy b (by rw[e]at k;exact k)) fun a ha=>((h.mem a).1 ha).1
end
theorem Bi(P:α->Prop)[DecidablePred P](l:List α)(hn:l.Nodup)(h:∀a b,P a->P b->a=b):sm (fun a=>if P a then 1 else 0) l<=1:=by
 induction l with
 | nil => show(0:Int)<=1;omega
 | cons a l ih=>
  have hn':=List.nodup_cons.1 hn;rw[aS];by_cases e:P a
  ·rw[if_pos e,jQ fun b hb=>by rw[if_neg fun k=>hn'.1 (h a b e k ▸ hb)]];omega
  ·rw[if_neg e];have:=ih hn'.2;omega
theorem Uc(s:Nat×ai)(l:List (Nat×ai))(y:Nat×ai)(u:ai):ct (s::l) y u=(if (bJ s.2 u).map (fun v=>(s.1,v))=some y then 1 else 0)+ct l y u:=by
 unfold ct FJ;rw[List.filterMap_cons];cases h:(bJ s.2 u).map fun v=>(s.1,v)with
 | none => simp
 | some x=>
  simp only[aS,oI];rfl
theorem aaR(l:List (Nat×ai))(y:Nat×ai)(us:List ai)(hn:us.Nodup):sm (ct l y) us<=l.length:=by
 induction l with
 | nil=>
  have h0:sm (ct [] y) us=0:=jQ fun _ _=>rfl;rw[h0];simp
 | cons s l ih=>
  rw[eZ (fun u _=>Uc s l y u),Nc];have h1:=Bi (fun u=>(bJ s.2 u).map (fun v=>(s.1,v))=some y) us hn fun a b ha hb=>by
   simp only[Option.map_eq_some_iff]at ha hb;obtain⟨v,h1,h2⟩:=ha;obtain⟨v',h3,h4⟩:=hb;have e:v=v':=(by rw[<-h2]at h4;exact(Prod.mk.inj h4).2.symm);subst e;have e1:=bE h1;have e2:=bE h3;exact dw (by omega) (by omega) (by omega)
  rw[lC];omega
theorem Wn{L:Nat->List (Nat×ai)}{O F:Nat->List ai}(hF:∀q,q<N->(F q).Nodup)(p:Nat)(t:ai):rhs N L O F p t<=1+(sN (fun q=>(L q).length) (List.range N):Nat):=by
 have key:∀m:List Nat,(∀q∈m,q<N)->sm (fun q=>sm (ct (L q) (p,t)) (F q)) m<=(sN (fun q=>(L q).length) m:Nat):=fun m=>by
  induction m with
  | nil => intro _;exact Int.le_refl _
  | cons a m ih=>
   intro h;rw[aS,bU];have h1:=aaR (L a) (p,t) (F a) (hF a (h a mX));have h2:=ih fun q hq=>h q (mO _ hq);omega
 have:=key _ fun q hq=>mR.1 hq;unfold rhs QX;split<;>omega
def sup(N:Nat)(L:Nat->List (Nat×ai))(O F:Nat->List ai)(p:Nat):List ai:=O p++(arr N L F).filterMap fun y=>if y.1=p then some y.2 else none
theorem Jw{L:Nat->List (Nat×ai)}{O F:Nat->List ai}{t:ai}(h:0<rhs N L O F p t):t∈sup N L O F p:=by
 unfold sup;rcases qV.1 h with k|k
 ·exact List.mem_append_left _ k
 ·exact List.mem_append_right _ (List.mem_filterMap.2 ⟨(p,t),Jz.2 k,by simp⟩)
def ja(t:ai):Nat:=(t.1.1*340282366920938463463374607431768211456+t.1.2.1*18446744073709551616+t.1.2.2).toNat
theorem AV(a b:ai):ja a<ja b↔PX.mh a b:=by
 have h1:=bY a;have h2:=bY b;show _↔(a.1.1<b.1.1\/(a.1.1=b.1.1/\(a.1.2.1<b.1.2.1\/(a.1.2.1=b.1.2.1/\a.1.2.2<b.1.2.2))));unfold ja;omega
theorem Dp{a b:ai}(h:ja a=ja b):a=b:=by
 rcases bL.tot a b with k|k|k
 ·have:=(AV a b).2 k;omega
 ·exact k
 ·have:=(AV b a).2 k;omega
theorem lex{y s:Nat}(hr:r<M)(hs:s<M):x*M+r<y*M+s↔x<y\/(x=y/\r<s):=by
 rcases Nat.lt_trichotomy x y with h|h|h
 ·have h1:(x+1)*M<=y*M:=nM M h;rw[Nat.succ_mul]at h1;exact⟨fun _=> .inl h,fun _=>by omega⟩
 ·subst h;exact⟨fun k=> .inr ⟨rfl,by omega⟩,fun k=>by omega⟩
 ·have h1:(y+1)*M<=x*M:=nM M h;rw[Nat.succ_mul]at h1;exact⟨fun k=>by omega,fun k=>by omega⟩
def nk(N:Nat)(rk:Nat->Nat)(x:Nat×ai):Nat:=(ja x.2*(N+1)+rk x.1)*(N+1)+x.1
theorem wS{t u:ai}(hp:p<=N)(hq:q<=N)(rp:rk p<=N)(rq:rk q<=N):nk N rk (p,t)<nk N rk (q,u)↔PX.mh t u\/(t=u/\(rk p<rk q\/(rk p=rk q/\p<q))):=by
 unfold nk;simp only;rw[lex (by omega) (by omega),lex (by omega) (by omega),AV];constructor
 ·rintro((h|⟨h1,h2⟩)|⟨h1,h2⟩)
  ·exact .inl h
  ·exact .inr ⟨Dp h1, .inl h2⟩
  ·have h3:ja t=ja u/\rk p=rk q:=by
     have k1:=(lex (x:=ja t) (y:=ja u) (r:=rk p) (s:=rk q) (M:=N+1) (by omega) (by omega));have k2:=(lex (x:=ja u) (y:=ja t) (r:=rk q) (s:=rk p) (M:=N+1) (by omega) (by omega));have k3:¬(ja t<ja u\/ja t=ja u/\rk p<rk q):=fun e=>(by have:=k1.2 e;omega);have k4:¬(ja u<ja t\/ja u=ja t/\rk q<rk p):=fun e=>(by have:=k2.2 e;omega);omega
   exact .inr ⟨Dp h3.1, .inr ⟨h3.2,h2⟩⟩
 ·rintro(h|⟨rfl,h|⟨h1,h2⟩⟩)
  ·exact .inl (.inl h)
  ·exact .inl (.inr ⟨rfl,h⟩)
  ·exact .inr ⟨by rw[h1],h2⟩
theorem Ji{t u:ai}(hp:p<=N)(hq:q<=N)(rp:rk p<=N)(rq:rk q<=N)(h:nk N rk (p,t)=nk N rk (q,u)):p=q/\t=u:=by
 have k1:¬(PX.mh t u\/(t=u/\(rk p<rk q\/(rk p=rk q/\p<q)))):=fun e=>by have:=(wS (t:=t) (u:=u) hp hq rp rq).2 e;omega
 have k2:¬(PX.mh u t\/(u=t/\(rk q<rk p\/(rk q=rk p/\q<p)))):=fun e=>by have:=(wS (t:=u) (u:=t) hq hp rq rp).2 e;omega
 rcases bL.tot t u with k|k|k
 ·exact absurd (.inl k) k1
 ·subst k;refine⟨?_,rfl⟩;have e1:¬(rk p<rk q\/(rk p=rk q/\p<q)):=fun e=>k1 (.inr ⟨rfl,e⟩);have e2:¬(rk q<rk p\/(rk q=rk p/\q<p)):=fun e=>k2 (.inr ⟨rfl,e⟩);omega
 ·exact absurd (.inl k) k2
theorem abr{L:Nat->List (Nat×ai)}(FK:∀p,p<N->rk p<=N)(hto:∀p q b,p<N->(q,b)∈L p->q<N)(hz:∀p q,p<N->(q,PX.z)∈L p->rk p<rk q):rV N L (nk N rk) where
 inj p q t u hp hq h:=Ji (by omega) (by omega) (FK p hp) (FK q hq) h
 up p t u hp h hne:=(wS (by omega) (by omega) (FK p hp) (FK p hp)).2 (.inl ((bL.told h).resolve_left hne))
 step p q t u b hp hb hv:=by
  have hq:=hto p q b hp hb;refine⟨hq,(wS (by omega) (by omega) (FK p hp) (FK q hq)).2 ?_⟩;obtain⟨e1,e2,e3⟩:=bE hv;have hb':=bY b;by_cases e:b=PX.z
  ·subst e;have z1:PX.z.1.1=0:=rfl;have z2:PX.z.1.2.1=0:=rfl;have z3:PX.z.1.2.2=0:=rfl;exact .inr ⟨dw (by omega) (by omega) (by omega), .inl (hz p q hp hb)⟩
  ·have h1:PX.aX t u:=⟨by omega,by omega,by omega⟩;have hne:t≠u:=fun h=>e (dw (show b.1.1=0 by rw[h]at e1;omega) (show b.1.2.1=0 by rw[h]at e2;omega) (show b.1.2.2=0 by rw[h]at e3;omega));exact .inl ((bL.told h1).resolve_left hne)
theorem Yb(E:Nat->Nat->Bool)(hq:q<N)(h1:∀r,E r p=true->E r q=true)(h2:E q p=false)(h3:E q q=true):((List.range N).filter fun r=>E r p).length<((List.range N).filter fun r=>E r q).length:=by
 have h4:(q::(List.range N).filter fun r=>E r p).length<=((List.range N).filter fun r=>E r q).length:=by
  refine jb (List.nodup_cons.2 ⟨fun h=> ?_,List.nodup_range.filter _⟩) fun r hr=> ?_
  ·rw[mF,h2]at h;exact absurd h.2 (by simp)
  ·rcases gq.1 hr with rfl|hr
   ·exact mF.2 ⟨mR.2 hq,h3⟩
   ·rw[mF]at hr⊢;exact⟨hr.1,h1 r hr.2⟩
 rw[lC]at h4;omega
def oF(D:Nat->List (ai×Int))(ps:List Nat):List (Nat×ai×Int):=ps.flatMap fun p=>(D p).map fun d=>(p,d.1,d.2)
theorem qd(D:Nat->List (ai×Int))(l m:List Nat):oF D (l++m)=oF D l++oF D m:=List.flatMap_append
theorem Rt(D:Nat->List (ai×Int))(p:Nat):oF D [p]=(D p).map fun d=>(p,d.1,d.2):=by simp[oF]
theorem Jv{D:Nat->List (ai×Int)}{e:Nat×ai×Int}:e∈oF D ps↔e.1∈ps/\(e.2.1,e.2.2)∈D e.1:=by
 unfold oF;rw[List.mem_flatMap];constructor
 ·rintro⟨p,hp,h⟩;obtain⟨d,hd,rfl⟩:=mM.1 h;exact⟨hp,hd⟩
 ·rintro⟨hp,hd⟩;exact⟨e.1,hp,mM.2 ⟨(e.2.1,e.2.2),hd,rfl⟩⟩
theorem Rj{D:Nat->List (ai×Int)}(hn:ps.Nodup)(hp:p∈ps)(t:ai):qa (oF D ps) (p,t)=sm (fun d=>(if d.1=t then 1 else 0)*d.2) (D p):=by
 induction ps with
 | nil => cases hp
 | cons a ps ih=>
  have hn':=List.nodup_cons.1 hn;have e0:oF D (a::ps)=(D a).map (fun d=>(a,d.1,d.2))++oF D ps:=by simp[oF]
  have e1:qa ((D a).map fun d=>(a,d.1,d.2)) (p,t)=if a=p then sm (fun d=>(if d.1=t then 1 else 0)*d.2) (D a)else 0:=by
   unfold qa;rw[Gt];by_cases e:a=p
   ·subst e;rw[if_pos rfl];refine eZ fun d _=> ?_;by_cases k:d.1=t
    ·rw[if_pos (by rw[k]),if_pos k,Int.one_mul]
    ·rw[if_neg fun h=>k (Prod.mk.inj h).2,if_neg k,Int.zero_mul]
   ·rw[if_neg e];exact jQ fun d _=>if_neg fun h=>e (Prod.mk.inj h).1
  rw[e0,p9,e1];rcases gq.1 hp with rfl|hp
  ·rw[if_pos rfl];have:qa (oF D ps) (p,t)=0:=jQ fun e he=>if_neg fun h=>hn'.1 (by
    have:=(Jv.1 he).1;rw[(Prod.mk.inj h).1]at this;exact this)
   omega
  ·have hap:a≠p:=fun e=>hn'.1 (by rw[e];exact hp);rw[if_neg hap,ih hn'.2 hp];omega
theorem Na(l:List ai)(hn:l.Nodup)(t:ai):sm (fun u=>if u=t then 1 else 0) l=if t∈l then 1 else 0:=by
 induction l with
 | nil => rfl
 | cons a l ih=>
  have hn':=List.nodup_cons.1 hn;rw[aS,ih hn'.2];by_cases e:a=t
  ·subst e;rw[if_pos rfl,if_neg hn'.1,if_pos mX];rfl
  ·rw[if_neg e];by_cases k:t∈l
   ·rw[if_pos k,if_pos (mO _ k)];rfl
   ·rw[if_neg k,if_neg fun h=>(gq.1 h).elim (fun h=>e h.symm) k];rfl
theorem Az.len{a b:List ai}{ds:List (ai×Int)}(h:Az a b ds):ds.length<=a.length+b.length:=by
 have:=jb h.nd (m:=a++b) fun t ht=>by
  obtain⟨d,hd,rfl⟩:=mM.1 ht;rcases(h.mem d.1 d.2).1 hd with k|k
  ·exact List.mem_append_left _ k.1
  ·exact List.mem_append_right _ k.1
 rw[gQ,dQ]at this;exact this
theorem Az.sign{a b:List ai}{ds:List (ai×Int)}(h:Az a b ds){d:ai×Int}(hd:d∈ds):d.2= -1\/d.2=1:=by
 rcases(h.mem d.1 d.2).1 hd with k|k
 ·exact .inl k.2.2
 ·exact .inr k.2.2
theorem I7{D:Nat->List (ai×Int)}{Oo On:Nat->List ai}(ps:List Nat)(hD:∀p∈ps,Az (Oo p) (On p) (D p)):(oF D ps).length<=sN (fun p=>(Oo p).length+(On p).length) ps:=by
 unfold oF;exact jf _ _ _ fun p hp=>by rw[gQ];exact(hD p hp).len
section
variable {N:Nat} {L:Nat->List (Nat×ai)} {ps:Nat×ai->Nat} {Oo On Fo Fn:Nat->List ai} {Co Cn:Nat->ai->Int} {W:List (Nat×ai×Int)} {D:Nat->List (ai×Int)}
theorem Fv.turn(h:Fv N L Oo Co Fo)(hO:∀p,p<N->(Oo p).Nodup)(hN:∀p,p<N->(On p).Nodup)(hD:∀p,p<N->Az (Oo p) (On p) (D p))(hW:W.Perm (oF D (List.range N))):QO N L On Co Fo W:=by
 refine⟨fun p t hp=> ?_,h.fr⟩;have hd:=(hD p hp).sum (hO p hp) (hN p hp) fun u=>if u=t then 1 else 0
 rw[Na _ (hO p hp),Na _ (hN p hp)]at hd;rw[h.eq p t hp,qJ hW,Rj List.nodup_range (mR.2 hp),hd];unfold rhs;omega
theorem Fv.yE(h:Fv N L Oo Co Fo)(hO:∀p,p<N->(Oo p).Nodup)(hN:∀p,p<N->(On p).Nodup)(hD:∀p,p<N->Az (Oo p) (On p) (D p))(hW:W.Perm (oF D (List.range N))){S:Nat->List ai}{B:Nat}(hB:W.length+pot N L ps S Co Cn 0<=B):LW N L ps On Co Cn S B 0 Co Fo W:=
 ⟨h.turn hO hN hD hW,fun p t _=>by unfold mix;rw[if_neg (nW _)],fun e he=>⟨mR.1 (Jv.1 (hW.mem_iff.1 he)).1,zL _⟩,hB⟩
def M7(N:Nat)(L:Nat->List (Nat×ai))(Oo Fo On Fn:Nat->List ai)(q:Nat):List ai:=sup N L Oo Fo q++sup N L On Fn q
theorem SH(h:Fv N L Oo Co Fo)(k:Fv N L On Cn Fn){u:ai}(hq:q<N)(hu:0<Co q u\/0<Cn q u):u∈M7 N L Oo Fo On Fn q:=by
 rcases hu with e|e
 ·rw[h.eq q u hq]at e;exact List.mem_append_left _ (Jw e)
 ·rw[k.eq q u hq]at e;exact List.mem_append_right _ (Jw e)
end
def nK(N:Nat)(L:Nat->List (Nat×ai))(q:Nat):Nat:=sN (fun p=>((L p).filter fun s=>decide (s.1=q)).length) (List.range N)
theorem WR(l:List (Nat×ai))(u:ai)(q:Nat):((FJ l u).filterMap fun y=>if y.1=q then some y.2 else none).length<=(l.filter fun s=>decide (s.1=q)).length:=by
 induction l with
 | nil => exact nR _
 | cons s l ih=>
  unfold FJ at ih⊢;rw[List.filterMap_cons,List.filter_cons];cases hv:bJ s.2 u with
  | none=>
   simp only[Option.map_none];split
   ·rw[lC];omega
   ·exact ih
  | some v=>
   simp only[Option.map_some,List.filterMap_cons];by_cases e:s.1=q
   ·rw[if_pos e,if_pos (by simpa using e)];simp only[lC];omega
   ·rw[if_neg e,if_neg (by simpa using e)];exact ih
theorem mY(f:α->Nat)(l:List α)(k:Nat):sN (fun a=>k*f a) l=k*sN f l:=by
 induction l with
 | nil => rfl
 | cons a l ih => rw[bU,bU,ih,Nat.mul_add]
theorem mZ(f g:α->Nat)(l:List α):sN (fun a=>f a+g a) l=sN f l+sN g l:=by
 induction l with
 | nil => rfl
 | cons a l ih => rw[bU,bU,bU,ih];omega
theorem MZ{L:Nat->List (Nat×ai)}{O F:Nat->List ai}(hF:∀p,p<N->(F p).length<=M)(q:Nat):(sup N L O F q).length<=(O q).length+M*nK N L q:=by
 have key:((arr N L F).filterMap fun y=>if y.1=q then some y.2 else none).length<=M*nK N L q:=by
  unfold arr nK;rw[<-mY];rw[List.filterMap_flatMap];refine jf _ _ _ fun p hp=> ?_;unfold ar1;rw[List.filterMap_flatMap];refine nT (nJ _ _ _ fun u _=>WR (L p) u q) (nM _ (hF p (mR.1 hp)))
 unfold sup;rw[dQ];exact Nat.add_le_add_left key _
section
variable {N:Nat} {L:Nat->List (Nat×ai)} {ps:Nat×ai->Nat} {Oo On Fo Fn:Nat->List ai} {Co Cn:Nat->ai->Int} {M T:Nat}
theorem Je(hFo:∀p,p<N->(Fo p).length<=M)(hFn:∀p,p<N->(Fn p).length<=M)(hO:∀p,p<N->(Oo p).length<=T)(hN:∀p,p<N->(On p).length<=T)(hq:q<N):(M7 N L Oo Fo On Fn q).length<=2*(T+M*nK N L q):=by
 unfold M7;rw[dQ];have h1:=MZ (L:=L) (O:=Oo) hFo q;have h2:=MZ (L:=L) (O:=On) hFn q;have h3:=hO q hq;have h4:=hN q hq;omega
theorem Sn(hFo:∀p,p<N->(Fo p).length<=M)(hFn:∀p,p<N->(Fn p).length<=M)(hO:∀p,p<N->(Oo p).length<=T)(hN:∀p,p<N->(On p).length<=T)(x:Nat):pot N L ps (M7 N L Oo Fo On Fn) Co Cn x<=6*(T*sN (fun q=>(L q).length) (List.range N)+M*sN (fun q=>(L q).length*nK N L q) (List.range N)):=by
 refine nT Wq ?_;rw[<-mY,<-mY,<-mZ,<-mY];refine kG fun q hq=> ?_;have h:=Je (L:=L) hFo hFn hO hN (mR.1 hq);have h2:(L q).length*(3*(M7 N L Oo Fo On Fn q).length)<=(L q).length*(3*(2*(T+M*nK N L q))):=Nat.mul_le_mul_left _ (Nat.mul_le_mul_left _ h);refine nT h2 (Nat.le_of_eq ?_);have e1:3*(2*(T+M*nK N L q))=6*(T+M*nK N L q):=by omega
 rw[e1,Nat.mul_left_comm,Nat.mul_add,Nat.mul_comm _ T,Nat.mul_left_comm _ M]
theorem C8.short{St:Nat->Nat->ai->Prop}{R:Nat->Nat->List ai}{O F:Nat->List ai}(h:C8 N L St R)(hF:FY PX (kH N R O p) (F p)):(F p).length<=64*sN (fun q=>(O q).length) (List.range N):=by
 have h1:=FY.len hF;have h2:=h.len (O:=O) p;rw[<-mY];refine nT h1 (nT h2 (Nat.le_of_eq ?_))
 congr 1
 funext q
 exact Nat.mul_comm _ _
end
theorem kF{f:α->Nat}{l:List α}{a:α}(ha:a∈l):f a<=sN f l:=by
 have:=UQ (f:=fun _=>0) (g:=f) (c:=f a) ha (fun _ _=>zL _) (nR _);omega
end Pt
end Go.Proofs.YtiiefcalkjeieaaGreat
