import Derived.Test.YtiiefcalkjeieaaGreatJ33
variable{n i cap g j s q k cb len S m rb base:Nat}{w W W' wr w':Go.World}{v va vb:Go.Value}{α:Type}{xs:List Go.Value}{e:Go.TypeId}{p:Option Go.Addr}{tag:Nat->Nat}
set_option maxHeartbeats 8000000
set_option maxRecDepth 100000
namespace Go.Proofs.YtiiefcalkjeieaaGreat
section
open Go.RowKit Go.Sort
section
variable {α:Type} {E:El α} {e:TypeId}
theorem xe(h:w.ownsRow 0 e s v n xs)(hn:0<n):∃g cap,v=sO g n cap/\n<=cap/\cap<=maxLen:=by
 obtain⟨_,⟨_,h1⟩|⟨g',cap',cur,hv,_,_,hn,hm,_⟩⟩:=h
 ·omega
 ·exact⟨g',cap',hv,hn,hm⟩
theorem dH{n':Nat}(h:w.ownsRow 0 e s (sO g n' cap) n xs)(q:Nat):w.frozen? ⟨g,q,none⟩=false:=by
 obtain⟨_,⟨h0,_⟩|⟨g',cap',cur,hv,_,hgg,_⟩⟩:=h
 ·cases h0
 ·cases hv;simp[World.frozen?,hgg]
theorem GD(u:Value)(h:w.ownsRow 0 e s (sO g n cap) n xs):
    (w.setCell ⟨g,q,none⟩ u).ownsRow 0 e s (sO g n cap) n (xs.set q u)/\Kp (fun k=>k=g) w (w.setCell ⟨g,q,none⟩ u):=by
 obtain⟨h1,⟨h0,_⟩|⟨g',cap',cur,hv,hg,hh,h2,h3,h4,h5⟩⟩:=h
 ·cases h0
 ·cases hv;have e1:=setCell_eq_setRow w g q _ _ _ u hh;have hk1:Kp (fun k=>k=g) w (w.setCell ⟨g,q,none⟩ u):=by
   rw[e1];exact⟨rfl,rfl,rfl,by simp[World.setRow],fun q _ hne=>setRow_other _ g q _ (by omega)⟩
  refine⟨⟨by simpa using h1,Or.inr ⟨g,cap,_,rfl,hg,by rw[e1];exact setRow_heap _ g _ _ _ _ hh,h2,h3, ?_, ?_⟩⟩,hk1⟩
  ·simp[h4]
  ·rw[Array.toList_setIfInBounds,List.take_set,h5]
variable (E e)in
structure kv(W:World)(n:Nat)(V:Nat->Value)(C:Nat->List α):Prop where
 own:∀i,i<n->W.ownsRow 0 e E.k (V i) (C i).length (fl E (C i))
 far:∀i j,i<n->j<n->i≠j->∀g,(V i).ownBlock=some g->(V j).ownBlock≠some g
theorem kv.kp{S:Nat->Prop}{V:Nat->Value}{C:Nat->List α}(h:kv E e W n V C)(hk:Kp S W W')(hS:∀i,i<n->∀g,(V i).ownBlock=some g->¬S g):kv E e W' n V C:=
 ⟨fun i hi=>ax hk (h.own i hi) (hS i hi),h.far⟩
theorem kv.below{V:Nat->Value}{C:Nat->List α}(h:kv E e W n V C)(hb:Bw W W'):kv E e W' n V C:=h.kp (S:=fun _=>False) (Kp.of_below hb) (fun _ _ _ _ h=>h)
theorem kv.lt{V:Nat->Value}{C:Nat->List α}(h:kv E e W n V C)(hi:i<n):∀g,(V i).ownBlock=some g->g<W.heap.size:=fun g hg=>((h.own i hi).lt g hg).2
variable (mk:Nat->Nat->α)
def mI(k n:Nat):List α:=(List.range n).map (mk k)
theorem gz(k n:Nat):(mI mk k n).length=n:=by simp[mI]
theorem DZ(k n:Nat):mI mk k (n+1)=mI mk k n++[mk k n]:=by simp[mI,List.range_succ]
theorem vG(h:j<n):(mI mk k n)[j]? =some (mk k j):=by simp[mI,h]
def stage(C:Nat->List α)(k i j:Nat):List α:=if j<k then mI mk j (C j).length else if j=k then mI mk k i++(C k).drop i else C j
theorem oH(C:Nat->List α)(k i j:Nat)(hi:i<=(C k).length):(stage mk C k i j).length=(C j).length:=by
 unfold stage;split
 ·rw[gz]
 ·split
  ·rename_i h;subst h;simp[gz];omega
  ·rfl
theorem wC(C:Nat->List α):stage mk C 0 0=C:=by
 funext j
 unfold stage;rw[if_neg (nW _)];split
 ·rename_i h;subst h;simp[mI]
 ·rfl
theorem wE(C:Nat->List α)(k:Nat):stage mk C k (C k).length=stage mk C (k+1) 0:=by
 funext j
 unfold stage;by_cases h1:j<k
 ·rw[if_pos h1,if_pos (by omega)]
 ·rw[if_neg h1];by_cases h2:j=k
  ·subst h2;rw[if_pos rfl,if_pos (by omega)];simp
  ·rw[if_neg h2,if_neg (by omega)];split
   ·rename_i h;subst h;simp[mI]
   ·rfl
theorem wD(C:Nat->List α)(k i:Nat)(hi:i<(C k).length)(j:Nat):stage mk C k (i+1) j=if j=k then(stage mk C k i k).set i (mk k i)else stage mk C k i j:=by
 unfold stage;by_cases h1:j<k
 ·rw[if_pos h1,if_neg (by omega),if_pos h1]
 ·rw[if_neg h1];by_cases h2:j=k
  ·rw[if_pos h2,if_pos h2,if_neg (Nat.lt_irrefl _),if_pos rfl];have hd:(C k).drop i=(C k)[i]::(C k).drop (i+1):=List.drop_eq_getElem_cons hi;rw[hd,List.set_append_right _ _ (by rw[gz];omega),gz,Nat.sub_self,List.set_cons_zero,DZ,aA];rfl
  ·rw[if_neg h2,if_neg h2,if_neg h1,if_neg h2]
theorem wF(C:Nat->List α)(n:Nat)(j:Nat)(h:j<n):stage mk C n 0 j=mI mk j (C j).length:=by
 unfold stage;rw[if_pos h]
theorem kv.set{V:Nat->Value}{D D':Nat->List α}(h:kv E e W n V D)(hk:k<n)(hV:V k=sO g len cap)(x:α)(hD:∀j,D' j=if j=k then(D k).set i x else D j)
    (h1:W'.ownsRow 0 e E.k (sO g len cap) (D k).length (fl E ((D k).set i x))) (h2:Kp (fun q=>q=g) W W'):kv E e W' n V D'/\Kp (fun q=>(V k).ownBlock=some q) W W':=by
 have hkk:Kp (fun q=>(V k).ownBlock=some q) W W':=⟨h2.os,h2.tape,h2.output,h2.size,fun q hq hn=>h2.block q hq (fun e=>hn (by rw[hV,e];rfl))⟩;refine⟨⟨fun j hj=> ?_,h.far⟩,hkk⟩;rw[hD j];by_cases hjk:j=k
 ·subst hjk;rw[if_pos rfl,hV,lZ];exact h1
 ·rw[if_neg hjk];exact ax hkk (h.own j hj) (fun q hq e=>h.far j k hj hk hjk q hq e)
end
section
variable {α:Type} (E:El α) (e eS:TypeId) (mk:Nat->Nat->α) (d:Nat)
structure UI(w2:World)(N:Nat)(V:Nat->Value)(n:Nat->Nat)(W:World)(k:Nat)(X:Nat->Value)(s:Value):Prop where
 big:∀i,i<k->Ls E W (X i) (mI mk i (n i+d))
 old:∀i,i<k->Ls E W (V i) (mI mk i (n i))
 rest:∀i,k<=i->i<N->W.ownsRow 0 e E.k (V i) (n i) (fl E (mI mk i (n i)))
 lie:∀i,i<k->∀g,(X i).ownBlock=some g->(V i).ownBlock=some g\/w2.heap.size<=g
 more:W.ownsRow w2.heap.size eS 1 s k ((List.range k).map X)
 ZW:∀g,s.ownBlock=some g->∀i,i<k->(X i).ownBlock≠some g
 kp:Kp (fun q=>∃i,i<N/\(V i).ownBlock=some q) w2 W
variable {E e eS mk d}
theorem UI.step{w2:World}{N:Nat}{V:Nat->Value}{n:Nat->Nat}{W W1 W3:World}{k:Nat}{X:Nat->Value}{s s' x:Value}(h:UI E e eS mk d w2 N V n W k X s)(hk:k<N)
    (Xq:∀i j,i<N->j<N->i≠j->∀g,(V i).ownBlock=some g->(V j).ownBlock≠some g) (hlow:∀i,i<N->∀g,(V i).ownBlock=some g->g<w2.heap.size)
    (hx:Ls E W1 x (mI mk k (n k+d))) (hxl:∀g,x.ownBlock=some g->(V k).ownBlock=some g\/W.heap.size<=g) (hV:Ls E W1 (V k) (mI mk k (n k))) (h1:Kp (fun q=>(V k).ownBlock=some q) W W1)
    (hm:W3.ownsRow w2.heap.size eS 1 s' (k+1) ((List.range k).map X++[x])) (h3:Kp (fun q=>s.ownBlock=some q) W1 W3) (hs:∀g,s'.ownBlock=some g->s.ownBlock=some g\/W1.heap.size<=g) :
    UI E e eS mk d w2 N V n W3 (k+1) (fun i=>if i=k then x else X i) s':=by
 have hsl:∀g,s.ownBlock=some g->w2.heap.size<=g/\g<W.heap.size:=fun g hg=>h.more.lt g hg;have hVs:∀i,i<N->∀q,(V i).ownBlock=some q->¬s.ownBlock=some q:=fun i hi q hq e=>by have:=(hsl q e).1;have:=hlow i hi q hq;omega
 have hXk:∀i,i<k->∀q,(X i).ownBlock=some q->¬(V k).ownBlock=some q:=fun i hi q hq e=>by
  rcases h.lie i hi q hq with h'|h'
  ·exact Xq i k (by omega) hk (by omega) q h' e
  ·have:=hlow k hk q e;omega
 have hxs:∀q,x.ownBlock=some q->¬s.ownBlock=some q:=fun q hq e=>by
  rcases hxl q hq with h'|h'
  ·exact hVs k hk q h' e
  ·have:=(hsl q e).2;omega
 refine⟨fun i hi=> ?_,fun i hi=> ?_,fun i hi hiN=> ?_,fun i hi g hg=> ?_, ?_,fun g hg i hi=> ?_, ?_⟩
 ·by_cases e:i=k
  ·subst e;rw[if_pos rfl];exact h3.ls hx hxs
  ·rw[if_neg e];exact h3.ls (h1.ls (h.big i (by omega)) (hXk i (by omega))) (fun q hq e'=>h.ZW q e' i (by omega) hq)
 ·by_cases e:i=k
  ·subst e;exact h3.ls hV (hVs i hk)
  ·exact h3.ls (h1.ls (h.old i (by omega)) (fun q hq e'=>Xq i k (by omega) hk e q hq e')) (hVs i (by omega))
 ·exact ax h3 (ax h1 (h.rest i (by omega) hiN) (fun q hq e'=>Xq i k hiN hk (by omega) q hq e')) (hVs i hiN)
 ·by_cases e:i=k
  ·subst e;rw[if_pos rfl]at hg;rcases hxl g hg with h'|h'
   ·exact Or.inl h'
   ·exact Or.inr (nT h.kp.size h')
  ·rw[if_neg e]at hg;exact h.lie i (by omega) g hg
 ·have e:(List.range (k+1)).map (fun i=>if i=k then x else X i)=(List.range k).map X++[x]:=by
    rw[YW,De]
    congr 1
    ·refine List.map_congr_left fun i hi=> ?_;rw[if_neg (by have:=mR.1 hi;omega)]
    ·simp
  rw[e];exact hm
 ·intro e;by_cases ei:i=k
  ·subst ei;rw[if_pos rfl]at e;rcases hs g hg with h'|h'
   ·exact hxs g e h'
   ·have:=hx.blk g e;omega
  ·rw[if_neg ei]at e;rcases hs g hg with h'|h'
   ·exact h.ZW g h' i (by omega) e
   ·have:=(h.big i (by omega)).blk g e;have:=h1.size;omega
 ·refine(h.kp.trans h1 (fun q _ e=>⟨k,hk,e⟩)).trans h3 (fun q hq e=> ?_);have:=(hsl q e).1;omega
end
theorem Qq{P:Program}(w:World)(t ty e:TypeId)(i:TypeInfo)(z:Value)(size bytes:Nat)(ht:P.underlying t=some (.slice e))(hi:P.info? e=some i)(hz:i.zero=some z)
    (hsize:i.size=size) (hby:i.bytes=bytes) (hzs:z.cells.size=size) (hsz:0<size)
    (v:Value) (n:Nat) (xs:List Value) (hown:w.ownsRow 0 e size v n xs)
    (ad:Addr) (m c:Nat) (news:List Value) (hl:news.length=m*size) (hnews:∀j u,news[j]? =some u->w.cell? (ad.add j)=some u) (h1:∀u∈news,u.oneCell'=true)
    (hm:0<m) (h63:n+m<=maxLen) (hbytes:(n+m)*bytes<=140737488355328) :
    ∃g cap w',(Builtin.append_ #[t,t] ty #[v, .slice (some ad) m c]).run P w= .ok (sO g (n+m) cap) w'/\w'.ownsRow 0 e size (sO g (n+m) cap) (n+m) (xs++news)/\w.grownBy w' v.ownBlock/\
     (v.ownBlock=some g\/g=w.heap.size)/\∀q,v.ownBlock=some q->∀j u,xs[j]? =some u->w'.cell? ⟨q,j,none⟩=some u:=by
 obtain⟨g,cap,w',hr,h2,h3,h4,_⟩:=run_append_lies (P:=P) w t ty 0 e i z size bytes ht hi hz hsize hby hzs hsz v n xs hown ad m c news hl hnews h1 hm h63 hbytes (zL _) _ rfl;refine⟨g,cap,w',hr,h2,h3,h4, ?_⟩;subst hsize;subst hby;obtain⟨hlx,⟨rfl,_⟩|⟨g0,cap0,cur,rfl,_,hg0,hnc,hcm,hcs,htk⟩⟩:=id hown
 ·intro q hq;simp[Value.ownBlock]at hq
 ·intro q hq j u hu;have hq':q=g0:=by simpa[Value.ownBlock]using hq.symm
  subst hq';by_cases hroom:n+m<=cap0
  ·have hfit:n*i.size+news.length<=cur.size:=(by rw[hl,hcs,<-Nat.add_mul];exact nM _ hroom);have hr2:=run_append_room (P:=P) w t ty e i ht hi q n cap0 cur hg0 ad m c news hl hnews h1 hroom hfit;rw[hr]at hr2;simp only[Result.ok.injEq,vS,oI,aI,and_true]at hr2;obtain⟨⟨rfl,_⟩,_⟩:=hr2;have:=h2.cells (g:=g) rfl j u (by rw[gL (lG.1 hu).1];exact hu);rw[ze,nZ]at this;exact this
  ·have holds:∀j u,xs[j]? =some u->w.cell? ((⟨q,0,none⟩:Addr).add j)=some u:=hown.cells (g:=q) rfl;have hr2:=run_append_grow (P:=P) w t ty e i z ht hi hz ⟨q,0,none⟩ n cap0 xs hown.1 holds ad m c news hl hnews (by omega) (by unfold maxLen at h63;omega) (growslice_fits (by omega) hbytes);rw[hr]at hr2;simp only[Result.ok.injEq]at hr2;obtain⟨_,rfl⟩:=hr2;have Y5:q<w.heap.size:=(aG.1 hg0).1;have hb:=((Gr.refl w).drew.alloc (.cells (xs.toArray++news.toArray++Builtin.zeroCells z.cells (grownCap w (n+m) cap0 e-(n+m))) e)).cell (b:=q) (o:=j) Y5;rw[hb];have:=holds j u hu;rw[ze,nZ]at this;exact this
theorem vU{P:Program}(E:El α){sT:TypeId}{z:Value}{bt:Nat}(hu:P.underlying sT=some (.slice e))(hI:(P.info? e).map (fun i=>(i.zero,i.size,i.bytes))=some (some z,E.k,bt))(hz:z.cells.size=E.k)(hk0:0<E.k)
    {w:World} {ops:Array Oper} {rest:List Oper} {o:Oper} {a:Act} {Q:Exit->Act->World->Prop} (hgd:o.guard=none) (s y:Operand)
    (ho:o.op= .call { callee:= .builtin .append,args:=#[s,y],argTypes:=#[sT,sT] })
    (v:Value) (n:Nat) (l:List α) (hs:a.eval s=v) (hown:w.ownsRow 0 e E.k v n (fl E l))
    (x:α) (hx:a.eval y=sO w.heap.size 1 1) (hbig:(n+1)*bt<=140737488355328) (hmx:n+1<=maxLen)
    (cs:Array Value) (hcs:cs.toList=E.enc x) (te:TypeId)
    (h:∀g cap w',w'.ownsRow 0 e E.k (sO g (n+1) cap) (n+1) (fl E l++E.enc x)->Kp (fun q=>v.ownBlock=some q) w w'->(v.ownBlock=some g\/w.heap.size<=g)->(∀q,v.ownBlock=some q->∀j u,(fl E l)[j]? =some u->w'.cell? ⟨q,j,none⟩=some u)->wpList P ops Q rest (a.put o.dst (sO g (n+1) cap)) w') :
    wpList P ops Q (o::rest) a (w.alloc (.cells cs te)):=by
 obtain⟨i0,hi,hz0,hz1,hz2⟩:=info_parts hI;have hown':=hown.alloc (.cells cs te);obtain⟨g,cap,w',hr,h2,h3,h4,h5⟩:=Qq (P:=P) (w.alloc (.cells cs te)) sT o.type e i0 _ E.k bt hu hi hz0 hz1 hz2 hz hk0 v n (fl E l) hown' ⟨w.heap.size,0,none⟩ 1 1 (E.enc x) (by rw[E.len,Nat.one_mul]) (by have:=World.news_of_block (ah w (.cells cs te));rw[hcs]at this;exact this) (E.one x) (by decide) hmx hbig;refine wpList_plain hgd fun K hK=> ?_;unfold Oper.wp execOp;simp only[ho,resolve,invoke,builtin,Sem.run_bind,Sem.run_pure,Result.andThen_ok,List.map_toArray,List.map_cons,List.map_nil,hs,hx,hr];have hk:Kp (fun q=>v.ownBlock=some q) w w':=(Kp.of_below ((Gr.refl w).alloc _).below).tr (Kp.grownBy (S:=fun q=>v.ownBlock=some q) h3 (fun _ h=>h));refine hK _ _ (h g cap w' h2 hk (h4.imp id (fun e=>by rw[e];simp)) h5)
end
namespace Rc
open Go.RowKit Go.Sort Go.Maps Pt Hc
open Df (aW)
attribute[local go_sem ↓]wp_at_zero wp_at_succ
theorem VG{ops:Array Oper}{rest:List Oper}{o:Oper}{a:Act}{Q:Exit->Act->World->Prop}(hgd:o.guard=none)(s x:Operand)
    (ho:o.op= .call { callee:= .builtin .append,args:=#[s,x],argTypes:=#[26,26] })
    (base:Nat) (v:Value) (n:Nat) (xs:List Value) (hs:a.eval s=v) (hown:w.ownsRow base 49 5 v n xs) (hbase:base<=w.heap.size)
    (y:Th) (cs:Array Value) (hcs:cs.toList=EC.enc y) (hx:a.eval x=sO w.heap.size 1 1) (hbig:(n+1)*40<=140737488355328)
    (h:∀g cap w',Hid (w'.ownsRow base 49 5 (sO g (n+1) cap) (n+1) (xs++EC.enc y))->Hid (Kp (fun q=>v.ownBlock=some q) w w')->Hid (v.ownBlock=some g\/w.heap.size<=g)->wpList Tryz.prog ops Q rest (a.put o.dst (sO g (n+1) cap)) w') :
    wpList Tryz.prog ops Q (o::rest) a (w.alloc (.cells cs 49)):=by
 obtain⟨i0,hi,hz0,hz1,hz2⟩:=info_parts Rs.pX;refine wpList_append_lies _ hgd s x _ ho base 49 i0 _ 5 40 Tryz.underlying26 hi hz0 hz1 hz2 rfl (by decide) v n xs hs (hown.alloc _) ⟨w.heap.size,0,none⟩ 1 1 (EC.enc y) hx rfl (by have:=World.news_of_block (ah w (.cells cs 49));rw[hcs]at this;exact this) (EC.one y) (by decide) (by unfold maxLen;omega) hbig (by simp;omega) _ rfl ?_;intro g cap w' h1 h2 h3 _;refine h g cap w' h1 ⟨h2.os,h2.tape,h2.output,nT (by simp) h2.size,fun k hk hne=>(h2.block k (by simp;omega) (fun e=>hne e.symm)).trans ((World.grownBy_alloc w _ none).block k hk (by simp))⟩ ?_;rcases h3 with h3|h3
 ·exact Or.inl h3
 ·right;rw[h3];simp
def only(i:Nat)(tag:Nat->Nat)(k:Nat):Nat:=if tag k=0\/(i*8589934592<tag k/\tag k<i*8589934592+8589934592)then tag k else 5
theorem Ow(hi:1<=i)(tag:Nat->Nat)(k:Nat):loc i (only i tag) k=loc i tag k:=by
 by_cases h:tag k=0\/(i*8589934592<tag k/\tag k<i*8589934592+8589934592)
 ·have e:only i tag k=tag k:=if_pos h;unfold loc;rw[e]
 ·have e:only i tag k=5:=if_neg h;rw[BM (by rw[e];decide) (fun z=>by have:=z.1;rw[e]at this;omega),BM (fun z=>h (.inl z)) (fun z=>h (.inr z))]
theorem NQ(hj:1<=j)(hij:i≠j)(tag:Nat->Nat)(k:Nat):¬uy j (only i tag) k:=by
 intro z;obtain⟨z1,z2⟩:=z;unfold only at z1 z2;split at z1
 ·rename_i h;rw[if_pos h]at z2;rcases h with h|h<;>omega
 ·omega
section
variable {i:Nat} {w:World} {tag:Nat->Nat} {rb:Nat} {g:Df.bG} {R:Nat->Nat->List ai} {c:Nat->ai->Int} {K O:Nat->List ai} {C:Nat->ai->Int} {F:Nat->List ai} {U:List Th}
theorem RG.only(h:RG i w tag rb g R c K O C F U)(hi:1<=i):RG i w (only i tag) rb g R c K O C F U:=
 ⟨h.q.retag fun k e=>by rw[Ow hi],h.ev,h.kt,h.ul⟩
end
def CO(g:Df.bG)(x:Th):Prop:=gu (aW g.nodes) g.arity [x]=0/\-999<=x.2.2/\x.2.2<=999
def C9(w wr:World)(cb:Nat)(g:Df.bG)(R:Nat->Nat->List ai)(S:Nat)(p:Option Addr)(n q:Nat)(out:List Th)(m:Nat):Prop:=
 Bw w wr/\out.length=n/\n<=m/\m<=40/\(∀x∈out,CO g x)/\wr.ownsRow w.heap.size 49 5 (.slice p n q) n (fl EC out)/\
  ∃tag c K O C F U,RG 9 wr tag cb g R c K O C F U/\sN (fun p=>(K p).length) (List.range (aW g.nodes))<=S+m/\(∀k,k<wr.heap.size->uy 9 tag k->w.heap.size<=k)/\(∀k,(Value.slice p n q).ownBlock=some k->tag k=5)
theorem C9.below{g:Df.bG}{R:Nat->Nat->List ai}{out:List Th}(h:C9 w wr cb g R S p n q out m)(hk:Gk g R)(hb:Bw wr w'):C9 w w' cb g R S p n q out m:=by
 obtain⟨h1,h2,h3,h4,h5,h6,tag,c,K,O,C,F,U,h7,h8,h9,h10⟩:=h;refine⟨h1.trans (hb.mono h1.size),h2,h3,h4,h5,ag h6 hb,tg tag wr 5,c,K,O,C,F,U,h7.below hk hb (fun k hk=>au hk),h8,fun k hk e=> ?_,fun k e=> ?_⟩
 ·by_cases z:k<wr.heap.size
  ·unfold uy at e;rw[au z]at e;exact h9 k z e
  ·have:=h1.size;omega
 ·rw[au (h6.lt k e).2];exact h10 k e
theorem RB(z:Int): -999<=Int.tmod z 1000/\Int.tmod z 1000<=999:=by
 have h1:=Int.tmod_lt_of_pos z (show(0:Int)<1000 by decide);have h2:=Int.lt_tmod_of_pos z (show(0:Int)<1000 by decide);omega
theorem LG{N:Nat}{ar:Int}{c:Nat->ai->Int}{l:List Th}(h:iO N ar c l=0):gu N ar l=0:=by
 unfold iO at h;by_cases e:gu N ar l=0
 ·exact e
 ·rw[if_pos e]at h;exact h
theorem C9.ask{g:Df.bG}{R:Nat->Nat->List ai}{out:List Th}(h:C9 w wr cb g R S p n q out m)(hk:Gk g R)(hS:S<=6960)(hm:m<40)(y:Th)(hy: -999<=y.2.2/\y.2.2<=999)(W7:World)(hb:Bw wr W7)(b8:Nat)(dP:wr.heap.size<=b8)(hc:W7.heap[b8]? =some (.cells (cc y) 49 (0,0)))(v:Value)(hv:Ls EC W7 v [y]):
    CL 10 #[aB cb,v] W7 fun e w'=>∃z,e= .returned (iV z)/\Hid (C9 w w' cb g R S p n q out (m+1)/\(z=0->CO g y)/\w'.heap[b8]? =some (.cells (cc y) 49 (0,0))):=by
 obtain⟨h1,h2,h3,h4,h5,h6,tag,c,K,O,C,F,U,h7,h8,h9,h10⟩:=h;have hbs:=hb.size;have hws:=h1.size;have hl8:b8<W7.heap.size:=ae hc;obtain⟨t7,QR⟩:=aF (tg tag wr 6);have o7:∀k,k<wr.heap.size->t7 k=tag k:=fun k hk=>by rw[QR];exact au hk
 have n7:∀k,wr.heap.size<=k->t7 k=6:=fun k hk=>by rw[QR];exact aU hk
 have e7:∀k,uy 9 t7 k->w.heap.size<=k:=fun k e=>by
  by_cases z:k<wr.heap.size
  ·have e2:uy 9 tag k:=(by unfold uy at e⊢;rw[o7 k z]at e;exact e);exact h9 k z e2
  ·omega
 have s7:∀k,(Value.slice p n q).ownBlock=some k->t7 k=5:=fun k e=>by rw[o7 k (h6.lt k e).2];exact h10 k e
 have hR:=h7.below hk hb o7;refine(hR.change hk [y] v hv (by simp only[vR];omega)).mono ?_;rintro e w' ⟨rfl,hc0⟩;obtain⟨t',f1,f2,f3⟩:=hc0.o;refine⟨_,rfl,⟨(h1.trans (hb.mono h1.size)).trans (f2.below (nT hws hbs) e7),h2,by omega,by omega,h5,ax f2 (ag h6 hb) fun k e z=> ?_, ?_⟩,fun z=>⟨LG z,hy⟩,(f2.block b8 hl8 fun z=> ?_).trans hc⟩
 ·have:=z.1;rw[s7 k e]at this;omega
 ·have g1:∀k,k<w'.heap.size->uy 9 t' k->w.heap.size<=k:=fun k _ e=>by
    by_cases z:k<W7.heap.size
    ·have e2:uy 9 t7 k:=(by unfold uy at e⊢;rw[f1 k z]at e;exact e);exact e7 k e2
    ·omega
  have g2:∀k,(Value.slice p n q).ownBlock=some k->t' k=5:=fun k e=>by
   rw[f1 k (by have:=(h6.lt k e).2;omega)];exact s7 k e
  rcases f3 with⟨_,_,f4⟩|⟨_,On,Cn,Fn,f4⟩
  ·exact⟨t',c,K,O,C,F,U,f4,by omega,g1,g2⟩
  ·refine⟨t',_,_,On,Cn,Fn,_,f4, ?_,g1,g2⟩;have:=BO (N:=aW g.nodes) (K:=K) (l:=[y]);simp only[vR]at this;omega
 ·have:=z.1;rw[n7 b8 dP]at this;omega
theorem C9.push{w9:World}{g:Df.bG}{R:Nat->Nat->List ai}{out:List Th}(h:C9 w wr cb g R S p n q out (m+1))(hn:n<=m)(hk:Gk g R){y:Th}(hy:CO g y){g8:Nat}(h8:w9.ownsRow w.heap.size 49 5 (sO g8 (n+1) cap) (n+1) (fl EC out++EC.enc y))(k8:Kp (fun k=>(Value.slice p n q).ownBlock=some k) wr w9)(n8:(Value.slice p n q).ownBlock=some g8\/wr.heap.size<=g8):C9 w w9 cb g R S (some ⟨g8,0,none⟩) (n+1) cap (out++[y]) (m+1):=by
 obtain⟨h1,h2,h3,h4,h5,h6,tag,c,K,O,C,F,U,h7,h8',h9,h10⟩:=h;have hws:=h1.size;refine⟨h1.trans (k8.below h1.size fun k e=>(h6.lt k e).1),by rw[dQ,h2];rfl,by omega,h4,fun x hx=> ?_,aV h8 rfl (by rw[aT,dM]),tg tag wr 5,c,K,O,C,F,U,h7.keep hk k8 (fun k _ e=> ?_) (fun k hk=>au hk),h8',fun k _ e=> ?_,fun k e=> ?_⟩
 ·rcases kr.1 hx with hx|hx
  ·exact h5 x hx
  ·rw[yM]at hx;rw[hx];exact hy
 ·have e2:=h10 k e;refine⟨by omega,fun z=> ?_⟩;have:=z.1;omega
 ·by_cases z:k<wr.heap.size
  ·have e2:uy 9 tag k:=(by unfold uy at e⊢;rw[au z]at e;exact e);exact h9 k z e2
  ·omega
 ·have e2:k=g8:=by simpa[Value.ownBlock]using e.symm
  subst e2;rcases n8 with n8|n8
  ·rw[au (h6.lt k n8).2];exact h10 k n8
  ·exact aU n8
theorem C9.start{w1:World}{g:Df.bG}{R:Nat->Nat->List ai}{c:Nat->ai->Int}{K O:Nat->List ai}{C:Nat->ai->Int}{F:Nat->List ai}{U:List Th}(hi9:i≠9)(hc:CpG i 9 w (only i tag) rb cb g R c K O C F U w1):C9 w w1 cb g R (sN (fun p=>(K p).length) (List.range (aW g.nodes))) none 0 0 [] 0:=by
 obtain⟨t',h1,h2,_,_,h5⟩:=hc;refine⟨h2,rfl,nR _,by omega,(fun x hx=>by cases hx),oN _ _ _ _,t',c,K,O,C,F,U,h5,nR _,fun k _ e=> ?_,(fun k e=>by cases e)⟩;by_cases z:k<w.heap.size
 ·have e2:uy 9 (only i tag) k:=by unfold uy at e⊢;rw[h1 k z]at e;exact e
  exact absurd e2 (NQ (by decide) hi9 tag k)
 ·omega
def Lw(w:World)(v:Value)(l:List Th):Prop:=Ls EC w v l\/(l=[]/\∃p c,v= .slice p 0 c)
theorem Lw.form{l:List Th}(h:Lw w v l):∃p c,v= .slice p l.length c:=by
 rcases h with h|⟨rfl,p,c,rfl⟩
 ·exact h.form
 ·exact⟨p,c,rfl⟩
theorem Lw.below{l:List Th}(h:Lw w v l)(hb:Bw w w'):Lw w' v l:=h.imp (fun h=>h.below hb) fun h=>h
theorem Lw.ls{l:List Th}(h:Lw w v l){x:Th}(hj:l[j]? =some x):Ls EC w v l:=by
 rcases h with h|⟨rfl,_⟩
 ·exact h
 ·cases hj
def TaR(w:World)(g:Df.bG)(p:Option Addr)(n q:Nat)(w':World):Prop:=Bw w w'/\∃out,out.length=n/\n<=40/\(∀x∈out,CO g x)/\w'.ownsRow w.heap.size 49 5 (.slice p n q) n (fl EC out)
theorem Dq(w:World){g:Df.bG}{R:Nat->Nat->List ai}{c:Nat->ai->Int}{K O:Nat->List ai}{C:Nat->ai->Int}{F:Nat->List ai}{U:List Th}(h:RG i w tag rb g R c K O C F U)(hi:1<=i)(hi9:i≠9)(hk:Gk g R)(hS:sN (fun p=>(K p).length) (List.range (aW g.nodes))<=6960){l:List Th}(hv:Lw w v l)(hl:l.length*40<=140737488355328):
    CL 9 #[aB rb,v] w fun e w'=>∃p n q,e= .returned (.slice p n q)/\Hid (TaR w g p n q w'):=by
 have HCP:=hid ((h.only hi).copy hk 9);have HK:=hid hk;have vO:=hid hl;obtain⟨pl,cl,rfl⟩:=hv.form;have HL:Hid (∀W,Bw w W->Lw W (.slice pl l.length cl) l):=fun W hb=>hv.below hb;obtain⟨S,hSe⟩:=aF (sN (fun p=>(K p).length) (List.range (aW g.nodes)));rw[<-hSe]at hS;have HS:=hid hS;have HST:Hid (∀w1 cb,CpG i 9 w (Rc.only i tag) rb cb g R c K O C F U w1->C9 w w1 cb g R S none 0 0 [] 0):=fun w1 cb hc=>by
  rw[hSe];exact C9.start hi9 hc
 clear h hi hi9 hk hS hv hl hSe;go_enter Tryz.func9,Tryz.ntmps9;go_wp2_with fail;refine HCP.o.mono ?_;clear HCP;rintro e w1 ⟨cb,rfl,hc⟩;have H1:=hid (HST.o w1 cb hc.o);clear hc HST;obtain⟨nl,hnl⟩:=aF (l.length);rw[<-hnl]at HL vO;have HN:=hid hnl;clear hnl;rw[<-HN.o];go_wp2_with fail;go_loopw [5,13] (fun s5 s13 wr=>∃(k:Nat) (p:Option Addr) (n q:Nat) (out:List Th),k<=nl/\s5= .slice p n q/\s13=iV (k:Nat)/\Hid (C9 w wr cb g R S p n q out (min k 40))) (fun _ s13 _=>nl-(intOf s13).toNat);case atStart=>exact⟨0,none,0,0,[],zL _,rfl,rfl,H1.o⟩
 case round=>
  obtain⟨k,p,n,q,out,hk,rfl,rfl,HI⟩:=hrel;have hk0:(0:Int)<=(k:Int):=by omega
  have hnb:nl<=3518437208884:=by have:=vO.o;omega
  by_cases hlt:k<nl
  ·have hltz:(k:Int)<(nl:Int):=(by omega);obtain⟨x,hx⟩:∃x,l[k]? =some x:=⟨l[k]'(by have:=HN.o;omega),by simp⟩;obtain⟨b1,o1,q1,gU,z1,x0,x1,x2,x3,x4⟩:=D6 (show Ls EC wr (.slice pl nl cl) l from(HL.o wr HI.o.1).ls hx) hx;simp only[vS]at gU;obtain⟨rfl,-,-⟩:=gU;clear hx;obtain⟨y,hy⟩:∃y:Th,y=(x.1,x.2.1,Int.tmod x.2.2 1000):=⟨_,rfl⟩;obtain⟨b8,dP⟩:=aF (wr.heap.size);obtain⟨W5,bW⟩:=aF (wr.alloc (.cells (cc x) 49));have P5:Hid (Bw wr W5/\W5.heap[b8]? =some (.cells (cc x) 49 (0,0))/\wr.heap.size<=b8):=by
    rw[bW,dP];exact⟨((Gr.refl wr).alloc _).below,ah _ _,nR _⟩
   have ig:Hid (wr.alloc (.cells #[iV x.1,uV x.2.1.1.1,uV x.2.1.1.2.1,uV x.2.1.1.2.2,iV x.2.2] 49)=W5/\wr.heap.size=b8):=⟨bW.symm,dP.symm⟩;clear bW dP;go_upto_region 6 with fail;rw[ig.o.1,ig.o.2];clear ig x0 x1 x2 x3 x4 z1;have c5:=(aa P5.o.2.1).1;have f5:=(aa P5.o.2.1).2;have l5:=ae P5.o.2.1;obtain⟨W6,Pw⟩:=aF (W5.setCell ⟨b8,4,none⟩ (iV (Int.tmod x.2.2 1000)));have P6:Hid (Bw wr W6/\W6.heap[b8]? =some (.cells (cc y) 49 (0,0))/\wr.heap.size<=b8):=by
    obtain⟨q1,k1⟩:=Df.aP P5.o.2.1 4 (iV (Int.tmod x.2.2 1000));rw[<-Pw]at q1 k1;refine⟨P5.o.1.trans (k1.below P5.o.1.size fun k hk=>by rw[hk];exact P5.o.2.2), ?_,P5.o.2.2⟩;rw[q1,hy];rfl
   have HY:Hid (-999<=y.2.2/\y.2.2<=999):=by
    rw[hy];exact RB x.2.2
   clear hy;go_upto_region 7 with fail;rw[<-Pw];clear Pw P5 c5 f5 l5;have c6:=(aa P6.o.2.1).1;have l6:=ae P6.o.2.1;by_cases h40:k<40
   ·have abY:(k:Int)<40:=(by omega);have hmn:min k 40=k:=(by omega);rw[hmn]at HI;obtain⟨W7,hW7⟩:=aF (W6.alloc (.cells (cc y) 49));obtain⟨b7,Y8⟩:=aF (W6.heap.size);have HAK:Hid (CL 10 #[aB cb,sO b7 1 1] W7 fun e w'=>∃z,e= .returned (iV z)/\Hid (C9 w w' cb g R S p n q out (k+1)/\(z=0->CO g y)/\w'.heap[b8]? =some (.cells (cc y) 49 (0,0)))):=by
     have g7:=((Gr.refl W6).alloc (.cells (cc y) 49)).below;have hl:=BJ W6 y;rw[<-hW7]at g7 hl;rw[<-Y8]at hl;exact HI.o.ask HK.o HS.o h40 y HY.o W7 (P6.o.1.trans (g7.mono P6.o.1.size)) b8 P6.o.2.2 ((g7.block b8 l6).trans P6.o.2.1) _ hl
    have HW7:Hid (W6.alloc (.cells #[iV y.1,uV y.2.1.1.1,uV y.2.1.1.2.1,uV y.2.1.1.2.2,iV y.2.2] 49)=W7/\W6.heap.size=b7):=⟨hW7.symm,Y8.symm⟩;have Zw:Hid (n<=k):=HI.o.2.2.1;clear hW7 Y8 HI;go_wp2_with fail;rw[HW7.o.1,HW7.o.2];refine HAK.o.mono ?_;clear HAK HW7 c6 l6 P6;rintro e w8 ⟨z,rfl,h8⟩;have H8:=hid h8.o;clear h8;have c8:=(aa H8.o.2.2).1;have l8:=ae H8.o.2.2;by_cases hz:z=0
    ·subst hz;have HT:=hid (H8.o.2.1 rfl);go_wp2_with (at_builtin;refine VG rfl _ _ rfl w.heap.size (.slice p n q) n (fl EC out) rfl H8.o.1.2.2.2.2.2.1 H8.o.1.1.size y (cc y) rfl rfl (by have:=Zw.o;omega) ?_);intro g9 aaT w9 h9 k9 n9;have FIN:Hid (C9 w w9 cb g R S (some ⟨g9,0,none⟩) (n+1) aaT (out++[y]) (min (k+1) 40)):=by
      rw[show min (k+1) 40=k+1 by omega];exact H8.o.1.push Zw.o HK.o HT.o h9.o k9.o n9.o
     clear h9 k9 n9 H8 HT c8 l8;generalize hnn:n+1=nn at FIN⊢;go_wp2_with fail;go_roundw;case rel=>exact⟨k+1,some ⟨g9,0,none⟩,nn,aaT,_,by omega,rfl,by go_num,FIN.o⟩
     case measure=>simp[intOf];omega
    ·have FIN:Hid (C9 w w8 cb g R S p n q out (min (k+1) 40)):=by
       rw[show min (k+1) 40=k+1 by omega];exact H8.o.1
     go_wp2_with fail;go_roundw;case rel=>exact⟨k+1,p,n,q,out,by omega,rfl,by go_num,FIN.o⟩
     case measure=>simp[intOf];omega
   ·have abY:¬(k:Int)<40:=(by omega);have FIN:Hid (C9 w W6 cb g R S p n q out (min (k+1) 40)):=by
     have h:=HI.o.below HK.o P6.o.1;rw[show min (k+1) 40=min k 40 by omega];exact h
    go_wp2_with fail;go_roundw;case rel=>exact⟨k+1,p,n,q,out,by omega,rfl,by go_num,FIN.o⟩
    case measure=>simp[intOf];omega
  ·have hltz:¬(k:Int)<(nl:Int):=(by omega);have FIN:Hid (TaR w g p n q wr):=by
    obtain⟨a1,a2,a3,a4,a5,a6,_⟩:=HI.o;exact⟨a1,out,a2,by omega,a5,a6⟩
   clear HI;go_wp2_with fail;go_ret;exact⟨p,n,q,rfl,FIN⟩
end Rc
namespace Rc
open Go.RowKit Go.Sort Go.Maps Pt Hc
attribute[local go_sem ↓]wp_at_zero wp_at_succ
theorem PZ(x:Th)(W:World):Sem.run Tryz.prog (Op.equalIn 10000 49 (.agg #[iV x.1,uV x.2.1.1.1,uV x.2.1.1.2.1,uV x.2.1.1.2.2,iV x.2.2]) (.agg #[iV x.1,uV x.2.1.1.1,uV x.2.1.1.2.1,uV x.2.1.1.2.2,iV x.2.2])) W= .ok true W:=by
 have u4:=Tryz.underlying2;have a4:=Tryz.isAgg2;have z4:=Tryz.sizeOf2;have a5:=Tryz.isAgg47;have z5:=Tryz.sizeOf47;have hP:=Rs.wR 9996;have hS:Tryz.prog.underlying 49=some (.struct (Tryz.prog.fieldsOf 49)):=by kernel_rfl
 have hp:Tryz.prog.stoodInHeld 49=false:=by kernel_rfl
 have ht:qE x.2.1.1.1 x.2.1.1.2.1 x.2.1.1.2.2 x.2.1.1.1 x.2.1.1.2.1 x.2.1.1.2.2=true:=(qM _ _ _ _ _ _).2 ⟨rfl,rfl,rfl⟩;rw[show(10000:Nat)=9999+1 from rfl,run_equalIn_agg W 9999 49 _ _ hS hp];simp only[Program.fieldsOf,Tryz.underlying49];go_simp
theorem Bo(w:World){l:List ai}(hA:Ls ET w va l)(hB:Ls ET w vb l)(hl:l.length<=1000000000):CL 24 #[va,vb] w fun e w'=>e= .returned (.bool true)/\Bw w w':=by
 have hmx:Tryz.prog.follows .mixedOrders=true:=by kernel_rfl
 obtain⟨pa,ca,rfl⟩:=hA.form;obtain⟨pb,cb,rfl⟩:=hB.form;have HA:=hid hA;have HB:=hid hB;obtain⟨n,hn⟩:=aF (l.length);have HN:=hid hn;rw[<-hn]at hl HA HB⊢;clear hA hB hn;go_enter Tryz.func24,Tryz.ntmps24;go_wp2_with fail;go_loopw [13] (fun s13 wv=>∃i:Nat,i<=n/\s13=iV (i:Nat)/\Hid (Bw w wv)) (fun s13 _=>n-(intOf s13).toNat);case atStart=>exact⟨0,zL _,rfl,Below.refl _ _⟩
 case round=>
  obtain⟨i,hi,rfl,HI⟩:=hrel;rename World=>wv;have hi0:(0:Int)<=(i:Int):=by omega
  by_cases hil:i<n
  ·have hiz:(i:Int)<(n:Int):=(by omega);obtain⟨x,hx⟩:∃x,l[i]? =some x:=⟨l[i]'(by have:=HN.o;omega),by simp⟩;have HX:=hid hx;obtain⟨b1,o1,q1,gU,-⟩:=Ls.at3 (HA.o.below HI.o) hx;simp only[vS]at gU;obtain⟨rfl,-,-⟩:=gU;obtain⟨b2,o2,q2,JV,-⟩:=Ls.at3 (HB.o.below HI.o) hx;simp only[vS]at JV;obtain⟨rfl,-,-⟩:=JV;clear hx;have HS:Hid (∀W,Bw wv W->(b1<W.heap.size/\aj W b1 (o1+i*3) (uV x.1.1)/\aj W b1 (o1+i*3+1) (uV x.1.2.1)/\aj W b1 (o1+i*3+2) (uV x.1.2.2))/\(b2<W.heap.size/\aj W b2 (o2+i*3) (uV x.1.1)/\aj W b2 (o2+i*3+1) (uV x.1.2.1)/\aj W b2 (o2+i*3+2) (uV x.1.2.2))):=fun W hW=>by
    have hb:=HI.o.trans (hW.mono HI.o.size);obtain⟨b1',o1',q1',gU,y⟩:=Ls.at3 (HA.o.below hb) HX.o;simp only[vS,oI,aI,and_true]at gU;obtain⟨⟨rfl,rfl⟩,-,-⟩:=gU;obtain⟨b2',o2',q2',JV,z⟩:=Ls.at3 (HB.o.below hb) HX.o;simp only[vS,oI,aI,and_true]at JV;obtain⟨⟨rfl,rfl⟩,-,-⟩:=JV;exact⟨y,z⟩
   have heq:∀W,Sem.run Tryz.prog (Op.equalIn 10000 45 (.agg #[uV x.1.1,uV x.1.2.1,uV x.1.2.2]) (.agg #[uV x.1.1,uV x.1.2.1,uV x.1.2.2])) W= .ok true W:=fun W=>by
    have h:=Rs.DI 9998 x.1.1 x.1.2.1 x.1.2.2 x.1.1 x.1.2.1 x.1.2.2 W;rw[(qM _ _ _ _ _ _).2 ⟨rfl,rfl,rfl⟩]at h;exact h
   go_upto_region 6 with fail;have hS0:Bw wv wv.drew:=(Gr.refl wv).drew.below;refine ay (S:=fun W:World=>Bw wv W) (D:=[]) hmx ?_;refine' ak 0 hS0 ?_;refine' ak 1 hS0 ?_;refine' bD 2 hS0 ?h ?_;case h=>(intro W hSw;obtain⟨⟨d0,d1,d2,d3⟩,⟨f0,f1,f2,f3⟩⟩:=HS.o W hSw;go_simp;try(with_reducible rfl))
   refine' bD 3 hS0 ?h ?_;case h=>(intro W hSw;obtain⟨⟨d0,d1,d2,d3⟩,⟨f0,f1,f2,f3⟩⟩:=HS.o W hSw;go_simp;try(with_reducible rfl))
   refine' ak 4 hS0 ?_;refine' ak 5 hS0 ?_;refine' bD 6 hS0 ?h ?_;case h=>(intro W hSw;obtain⟨⟨d0,d1,d2,d3⟩,⟨f0,f1,f2,f3⟩⟩:=HS.o W hSw;go_simp;try(with_reducible rfl))
   refine' bD 7 hS0 ?h ?_;case h=>(intro W hSw;obtain⟨⟨d0,d1,d2,d3⟩,⟨f0,f1,f2,f3⟩⟩:=HS.o W hSw;go_simp;try(with_reducible rfl))
   refine' bD 8 hS0 ?h ?_;case h=>(intro W hSw;have hq:=heq W;go_simp;try(with_reducible rfl))
   refine av (by kernel_rfl) ?_ _;have FIN:=hid (HI.o.trans (hS0.mono HI.o.size));clear HS heq hS0 HI;go_wp2_with fail;go_roundw;case rel=>exact⟨i+1,by omega,by go_num,FIN.o⟩
   case measure=>simp[intOf];omega
  ·have hiz:¬(i:Int)<(n:Int):=(by omega);go_wp2_with fail;go_ret;exact⟨rfl,HI.o⟩
theorem jy(w:World){l:List Th}(hA:Ls EC w va l)(hB:Ls EC w vb l)(hl:l.length<=1000000000):CL 23 #[va,vb] w fun e w'=>e= .returned (.bool true)/\Bw w w':=by
 have hmx:Tryz.prog.follows .mixedOrders=true:=by kernel_rfl
 obtain⟨pa,ca,rfl⟩:=hA.form;obtain⟨pb,cb,rfl⟩:=hB.form;have HA:=hid hA;have HB:=hid hB;obtain⟨n,hn⟩:=aF (l.length);have HN:=hid hn;rw[<-hn]at hl HA HB⊢;clear hA hB hn;go_enter Tryz.func23,Tryz.ntmps23;go_wp2_with fail;go_loopw [13] (fun s13 wv=>∃i:Nat,i<=n/\s13=iV (i:Nat)/\Hid (Bw w wv)) (fun s13 _=>n-(intOf s13).toNat);case atStart=>exact⟨0,zL _,rfl,Below.refl _ _⟩
 case round=>
  obtain⟨i,hi,rfl,HI⟩:=hrel;rename World=>wv;have hi0:(0:Int)<=(i:Int):=by omega
  by_cases hil:i<n
  ·have hiz:(i:Int)<(n:Int):=(by omega);obtain⟨x,hx⟩:∃x,l[i]? =some x:=⟨l[i]'(by have:=HN.o;omega),by simp⟩;have HX:=hid hx;obtain⟨b1,o1,q1,gU,-⟩:=D6 (HA.o.below HI.o) hx;simp only[vS]at gU;obtain⟨rfl,-,-⟩:=gU;obtain⟨b2,o2,q2,JV,-⟩:=D6 (HB.o.below HI.o) hx;simp only[vS]at JV;obtain⟨rfl,-,-⟩:=JV;clear hx;have HS:Hid (∀W,Bw wv W->(b1<W.heap.size/\aj W b1 (o1+i*5) (iV x.1)/\aj W b1 (o1+i*5+1) (uV x.2.1.1.1)/\aj W b1 (o1+i*5+2) (uV x.2.1.1.2.1)/\aj W b1 (o1+i*5+3) (uV x.2.1.1.2.2)/\aj W b1 (o1+i*5+4) (iV x.2.2))/\(b2<W.heap.size/\aj W b2 (o2+i*5) (iV x.1)/\aj W b2 (o2+i*5+1) (uV x.2.1.1.1)/\aj W b2 (o2+i*5+2) (uV x.2.1.1.2.1)/\aj W b2 (o2+i*5+3) (uV x.2.1.1.2.2)/\aj W b2 (o2+i*5+4) (iV x.2.2))):=fun W hW=>by
    have hb:=HI.o.trans (hW.mono HI.o.size);obtain⟨b1',o1',q1',gU,y⟩:=D6 (HA.o.below hb) HX.o;simp only[vS,oI,aI,and_true]at gU;obtain⟨⟨rfl,rfl⟩,-,-⟩:=gU;obtain⟨b2',o2',q2',JV,z⟩:=D6 (HB.o.below hb) HX.o;simp only[vS,oI,aI,and_true]at JV;obtain⟨⟨rfl,rfl⟩,-,-⟩:=JV;exact⟨y,z⟩
   have heq:∀W,Sem.run Tryz.prog (Op.equalIn 10000 49 (.agg #[iV x.1,uV x.2.1.1.1,uV x.2.1.1.2.1,uV x.2.1.1.2.2,iV x.2.2]) (.agg #[iV x.1,uV x.2.1.1.1,uV x.2.1.1.2.1,uV x.2.1.1.2.2,iV x.2.2])) W= .ok true W:=fun W=>by
    exact PZ x W
   go_upto_region 6 with fail;have hS0:Bw wv wv.drew:=(Gr.refl wv).drew.below;refine ay (S:=fun W:World=>Bw wv W) (D:=[]) hmx ?_;refine' ak 0 hS0 ?_;refine' ak 1 hS0 ?_;refine' bD 2 hS0 ?h ?_;case h=>(intro W hSw;obtain⟨⟨d0,d1,d2,d3,d4,d5⟩,⟨f0,f1,f2,f3,f4,f5⟩⟩:=HS.o W hSw;go_simp;try(with_reducible rfl))
   refine' bD 3 hS0 ?h ?_;case h=>(intro W hSw;obtain⟨⟨d0,d1,d2,d3,d4,d5⟩,⟨f0,f1,f2,f3,f4,f5⟩⟩:=HS.o W hSw;go_simp;try(with_reducible rfl))
   refine' ak 4 hS0 ?_;refine' ak 5 hS0 ?_;refine' bD 6 hS0 ?h ?_;case h=>(intro W hSw;obtain⟨⟨d0,d1,d2,d3,d4,d5⟩,⟨f0,f1,f2,f3,f4,f5⟩⟩:=HS.o W hSw;go_simp;try(with_reducible rfl))
   refine' bD 7 hS0 ?h ?_;case h=>(intro W hSw;obtain⟨⟨d0,d1,d2,d3,d4,d5⟩,⟨f0,f1,f2,f3,f4,f5⟩⟩:=HS.o W hSw;go_simp;try(with_reducible rfl))
   refine' bD 8 hS0 ?h ?_;case h=>(intro W hSw;have hq:=heq W;go_simp;try(with_reducible rfl))
   refine av (by kernel_rfl) ?_ _;have FIN:=hid (HI.o.trans (hS0.mono HI.o.size));clear HS heq hS0 HI;go_wp2_with fail;go_roundw;case rel=>exact⟨i+1,by omega,by go_num,FIN.o⟩
   case measure=>simp[intOf];omega
  ·have hiz:¬(i:Int)<(n:Int):=(by omega);go_wp2_with fail;go_ret;exact⟨rfl,HI.o⟩
def KT:El (Int×Int×Int) where
 k:=3
 enc p:=[uV p.1,uV p.2.1,uV p.2.2]
 len _:=rfl
 one x u hu:=by
  simp at hu;rcases hu with rfl|rfl|rfl<;>rfl
theorem aaL(l:List ai):fl ET l=fl KT (l.map (·.1)):=by
 induction l with
 | nil => rfl
 | cons s l ih => rw[List.map_cons,aR,aR,ih];rfl
def mz(i j:Nat):Int:=1099511627776+(10000*(i:Int)+(j:Int))
def mK(i j:Nat):Th:=(0,⟨(0,0,0),by decide⟩,mz i j)
def mJ(i j:Nat):Int×Int×Int:=(mz i j,0,0)
theorem SN(hi:i<1000)(hj:j<2000000000):IntKind.i64.wrap (10000*(i:Int))=10000*(i:Int)/\IntKind.i64.wrap (10000*(i:Int)+(j:Int))=10000*(i:Int)+(j:Int)/\IntKind.i64.wrap (1099511627776+(10000*(i:Int)+(j:Int)))=1099511627776+(10000*(i:Int)+(j:Int)):=by
 rw[IntKind.wrap_i64,IntKind.wrap_i64,IntKind.wrap_i64];omega
theorem SF(hi:i<1000)(hj:j<2000000000):IntKind.u64.wrap (mz i j)=mz i j:=by
 unfold mz;rw[IntKind.wrap_u64];omega
theorem Ol(i j:Nat)(hi:i<1000)(hj:j<2000000000)(w:World):CL 55 #[iV (i:Int),iV (j:Int)] w fun e w'=>e= .returned (iV (mz i j))/\w'=w:=by
 obtain⟨h1,h2,h3⟩:=SN hi hj;unfold mz;go_enter Tryz.func55,Tryz.ntmps55;go_wp2;go_ret;exact⟨rfl,rfl⟩
theorem rJ(h:w.ownsRow base e s v n xs):∃p c,v= .slice p n c:=by
 obtain⟨_,⟨h0,h1⟩|⟨g,cap,cur,hv,_⟩⟩:=id h
 ·exact⟨none,0,by rw[h0,h1]⟩
 ·exact⟨_,_,hv⟩
theorem fE{E:El α}{T:TypeId}{L:List α}{cs ds:List Value}(q:Nat)(u:Value)(h:w.ownsRow 0 T E.k (sO g n cap) n (fl E (L.take i)++cs++fl E (L.drop (i+1))))(hi:i<L.length)(hc:cs.length=E.k)(hq:q<E.k)(hd:cs.set q u=ds):
    (w.setCell ⟨g,i*E.k+q,none⟩ u).ownsRow 0 T E.k (sO g n cap) n (fl E (L.take i)++ds++fl E (L.drop (i+1)))/\Kp (fun k=>k=g) w (w.setCell ⟨g,i*E.k+q,none⟩ u):=by
 obtain⟨p,k⟩:=GD (q:=i*E.k+q) u h;have e:(fl E (L.take i)).length=i*E.k:=by rw[fP,lK,Nat.min_eq_left (by omega)]
 rw[aA,List.set_append_right _ _ (by omega),e,Nat.add_sub_cancel_left,List.set_append_left _ _ (by omega),hd,<-aA]at p;exact⟨p,k⟩
theorem sI{E:El α}(L:List α)(i:Nat)(x:α)(hi:i<L.length):fl E (L.set i x)=fl E (L.take i)++E.enc x++fl E (L.drop (i+1)):=by
 rw[List.set_eq_take_append_cons_drop,if_pos hi,aT,aR,aA]
theorem wP{E:El α}(L:List α)(i:Nat)(x:α)(hx:L[i]? =some x):fl E L=fl E (L.take i)++E.enc x++fl E (L.drop (i+1)):=by
 obtain⟨hi,rfl⟩:=lG.1 hx;rw[<-sI L i _ hi,List.set_getElem_self]
abbrev jq(W:World)(g i:Nat)(h:Int×Int×Int):World:=((W.setCell ⟨g,i*3,none⟩ (.int .u64 h.1)).setCell ⟨g,i*3+1,none⟩ (.int .u64 h.2.1)).setCell ⟨g,i*3+2,none⟩ (.int .u64 h.2.2)
abbrev stC(W:World)(g i:Nat)(h:Th):World:=((((W.setCell ⟨g,i*5,none⟩ (.int .i64 h.1)).setCell ⟨g,i*5+1,none⟩ (.int .u64 h.2.1.1.1)).setCell ⟨g,i*5+2,none⟩ (.int .u64 h.2.1.1.2.1)).setCell ⟨g,i*5+3,none⟩ (.int .u64 h.2.1.1.2.2)).setCell ⟨g,i*5+4,none⟩ (.int .i64 h.2.2)
theorem Lb{V:Nat->Value}{C:Nat->List (Int×Int×Int)}(h:kv KT 45 W n V (stage mJ C k i))(hk:k<n)(hV:V k=sO g len cap)(hl:(C k).length=len)(hi:i<(C k).length):
    kv KT 45 (jq W g i (mJ k i)) n V (stage mJ C k (i+1))/\Kp (fun q=>(V k).ownBlock=some q) W (jq W g i (mJ k i)):=by
 have hlen:=oH mJ C k i k (by omega);have ho:=h.own k hk;rw[hV,hlen,hl]at ho;have hi2:i<(stage mJ C k i k).length:=by omega
 rw[wP _ i _ (p8 hi2)]at ho;obtain⟨p0,k0⟩:=fE 0 (uV (mJ k i).1) ho hi2 (KT.len _) (by decide) rfl;obtain⟨p1,k1⟩:=fE 1 (uV (mJ k i).2.1) p0 hi2 (KT.len _) (by decide) rfl;obtain⟨p2,k2⟩:=fE (ds:=KT.enc (mJ k i)) 2 (uV (mJ k i).2.2) p1 hi2 (KT.len _) (by decide) rfl;rw[<-sI _ _ _ hi2]at p2;exact h.set hk hV (mJ k i) (wD mJ C k i hi) (by rw[hlen,hl];exact p2) ((k0.tr k1).tr k2)
theorem Lc{V:Nat->Value}{C:Nat->List Th}(h:kv EC 49 W n V (stage mK C k i))(hk:k<n)(hV:V k=sO g len cap)(hl:(C k).length=len)(hi:i<(C k).length):
    kv EC 49 (stC W g i (mK k i)) n V (stage mK C k (i+1))/\Kp (fun q=>(V k).ownBlock=some q) W (stC W g i (mK k i)):=by
 have hlen:=oH mK C k i k (by omega);have ho:=h.own k hk;rw[hV,hlen,hl]at ho;have hi2:i<(stage mK C k i k).length:=by omega
 rw[wP _ i _ (p8 hi2)]at ho;obtain⟨p0,k0⟩:=fE 0 (iV (mK k i).1) ho hi2 (EC.len _) (by decide) rfl;obtain⟨p1,k1⟩:=fE 1 (uV (mK k i).2.1.1.1) p0 hi2 (EC.len _) (by decide) rfl;obtain⟨p2,k2⟩:=fE 2 (uV (mK k i).2.1.1.2.1) p1 hi2 (EC.len _) (by decide) rfl;obtain⟨p3,k3⟩:=fE 3 (uV (mK k i).2.1.1.2.2) p2 hi2 (EC.len _) (by decide) rfl;obtain⟨p4,k4⟩:=fE (ds:=EC.enc (mK k i)) 4 (iV (mK k i).2.2) p3 hi2 (EC.len _) (by decide) rfl;rw[<-sI _ _ _ hi2]at p4;exact h.set hk hV (mK k i) (wD mK C k i hi) (by rw[hlen,hl];exact p4) ((((k0.tr k1).tr k2).tr k3).tr k4)
theorem OP:(Tryz.prog.info? 26).map (fun i=>(i.zero,i.size,i.bytes))=some (some (.slice none 0 0),1,24):=by kernel_rfl
theorem OO:(Tryz.prog.info? 39).map (fun i=>(i.zero,i.size,i.bytes))=some (some (.slice none 0 0),1,24):=by kernel_rfl
def Ms(n:Nat)(V:Nat->Value)(q:Nat):Prop:=∃i,i<n/\(V i).ownBlock=some q
def CP(n:Nat)(V U:Nat->Value)(q:Nat):Prop:=Ms 6 V q\/Ms n U q
theorem NS{E:El α}{W0:World}{l:List α}(ho:W0.ownsRow 0 e E.k v n (fl E l))(hn:l.length=n)(hs:W0.heap.size<=W.heap.size)(hold:∀q,v.ownBlock=some q->∀j u,(fl E l)[j]? =some u->W.cell? ⟨q,j,none⟩=some u):Ls E W v l:=by
 subst hn;obtain⟨_,⟨h0,h1⟩|⟨g,cap,cur,hv,_,hgg,_⟩⟩:=id ho
 ·exact Or.inl ⟨List.eq_nil_of_length_eq_zero h1,h0⟩
 ·refine Or.inr ⟨g,0,cap,hv,nL (aG.1 hgg).1 hs,fun j u hj=> ?_⟩;rw[nZ];exact hold g (by rw[hv];rfl) j u hj
theorem Oe(E:El α)(mk:Nat->Nat->α)(k n:Nat):fl E (mI mk k n)++E.enc (mk k n)=fl E (mI mk k (n+1)):=by rw[DZ,aT,dM]
theorem JA(n i:Nat)(h:i<n):n-(intOf (iV ((i:Int)+1))).toNat<n-(intOf (iV (i:Int))).toNat:=by simp[intOf];omega
theorem iJ(h:w.ownsRow 0 e s (sO g n cap) n xs){u:Value}(hq:xs[q]? =some u):w.cell? ⟨g,q,none⟩=some u:=by
 have:=h.cells (g:=g) rfl q u hq;rw[ze,nZ]at this;exact this
theorem LJ(h:n<=1000000000):(n+1)*40<=140737488355328/\(n+1)*24<=140737488355328/\n+1<=maxLen/\n<2000000000/\n+1<2000000000:=by unfold maxLen;omega
theorem Uo(h:k<n)(hn:n<=36):k+1<=maxLen/\(k+1)*24<=140737488355328/\k<1000:=by unfold maxLen;omega
theorem aaW{l:List Th}(h:Ls EC w v l){p:Th}(hj:l[j]? =some p):∃b off c,v= .slice (some ⟨b,off,none⟩) l.length c/\b<w.heap.size/\aj w b (off+j*5+4) (iV p.2.2):=by
 obtain⟨b,off,c,hv,hb,hc⟩:=h.get hj;exact⟨b,off,c,hv,hb,hc 4 _ (by decide) rfl⟩
theorem aaV{l:List (Int×Int×Int)}(h:Ls KT w v l){p:Int×Int×Int}(hj:l[j]? =some p):∃b off c,v= .slice (some ⟨b,off,none⟩) l.length c/\b<w.heap.size/\aj w b (off+j*3) (uV p.1):=by
 obtain⟨b,off,c,hv,hb,hc⟩:=h.get hj;exact⟨b,off,c,hv,hb,hc 0 _ (by decide) rfl⟩
theorem wT{c:Nat}{X:Nat->Value}(h:w.ownsRow base e 1 (.slice p n c) n ((List.range n).map X))(hn:0<n):∃g,p=some ⟨g,0,none⟩/\g<w.heap.size/\∀i,i<n->aj w g i (X i):=by
 obtain⟨_,⟨_,h1⟩|⟨ga,cap,cur,h0,hbg,hgg,_⟩⟩:=id h
 ·omega
 ·simp only[vS]at h0;refine⟨ga,h0.1,(aG.1 hgg).1,fun i hi=> ?_⟩;have:=h.cells (g:=ga) (by rw[h0.1];rfl) i (X i) (by simp[hi]);rw[ze,nZ]at this;exact this
end Rc
end Go.Proofs.YtiiefcalkjeieaaGreat
