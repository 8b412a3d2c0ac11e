import Derived.Test.YtiiefcalkjeieaaGreatJ33
variable{n g cap i s k j len q base:Nat}{w W W':Go.World}{α:Type}{v va vb:Go.Value}{xs:List Go.Value}{e:Go.TypeId}
set_option maxHeartbeats 4000000
set_option maxRecDepth 100000
namespace Go.Proofs.YtiiefcalkjeieaaGreat
section
open Go.RowKit Go.Sort
section
variable {α:Type} {E:El α} {e:TypeId}
theorem wT(h:w.ownsRow 0 e s v n xs)(hn:0<n):∃g cap,v= .slice (some ⟨g,0,none⟩) n cap/\n<=cap/\cap<=maxLen:=by
 obtain⟨_,⟨_,h1⟩|⟨g',cap',cur,hv,_,_,hn,hm,_⟩⟩:=h
 ·omega
 ·exact⟨g',cap',hv,hn,hm⟩
theorem dD{n':Nat}(h:w.ownsRow 0 e s (.slice (some ⟨g,0,none⟩) n' cap) n xs)(q:Nat):w.frozen? ⟨g,q,none⟩=false:=by
 obtain⟨_,⟨h0,_⟩|⟨g',cap',cur,hv,_,hgg,_⟩⟩:=h
 ·cases h0
 ·cases hv;simp[World.frozen?,hgg]
theorem Gv(u:Value)(h:w.ownsRow 0 e s (.slice (some ⟨g,0,none⟩) n cap) n xs):
    (w.setCell ⟨g,q,none⟩ u).ownsRow 0 e s (.slice (some ⟨g,0,none⟩) n cap) n (xs.set q u)/\Kp (fun k=>k=g) w (w.setCell ⟨g,q,none⟩ u):=by
 obtain⟨h1,⟨h0,_⟩|⟨g',cap',cur,hv,hg,hh,h2,h3,h4,h5⟩⟩:=h
 ·cases h0
 ·cases hv;have e1:=setCell_eq_setRow w g q _ _ _ u hh;have hk1:Kp (fun k=>k=g) w (w.setCell ⟨g,q,none⟩ u):=by
   rw[e1];exact⟨rfl,rfl,rfl,by simp[World.setRow],fun q _ hne=>setRow_other _ g q _ (by omega)⟩
  refine⟨⟨by simpa using h1,Or.inr ⟨g,cap,_,rfl,hg,by rw[e1];exact setRow_heap _ g _ _ _ _ hh,h2,h3, ?_, ?_⟩⟩,hk1⟩
  ·simp[h4]
  ·rw[Array.toList_setIfInBounds,List.take_set,h5]
variable (E e)in
structure j6(W:World)(n:Nat)(V:Nat->Value)(C:Nat->List α):Prop where
 own:∀i,i<n->W.ownsRow 0 e E.k (V i) (C i).length (fl E (C i))
 far:∀i j,i<n->j<n->i≠j->∀g,(V i).ownBlock=some g->(V j).ownBlock≠some g
theorem j6.kp{S:Nat->Prop}{V:Nat->Value}{C:Nat->List α}(h:j6 E e W n V C)(hk:Kp S W W')(hS:∀i,i<n->∀g,(V i).ownBlock=some g->¬S g):j6 E e W' n V C:=
 ⟨fun i hi=>av hk (h.own i hi) (hS i hi),h.far⟩
theorem j6.below{V:Nat->Value}{C:Nat->List α}(h:j6 E e W n V C)(hb:Below W.heap.size W W'):j6 E e W' n V C:=h.kp (S:=fun _=>False) (Kp.of_below hb) (fun _ _ _ _ h=>h)
theorem j6.lt{V:Nat->Value}{C:Nat->List α}(h:j6 E e W n V C)(hi:i<n):∀g,(V i).ownBlock=some g->g<W.heap.size:=fun g hg=>((h.own i hi).lt g hg).2
variable (mk:Nat->Nat->α)
def mE(k n:Nat):List α:=(List.range n).map (mk k)
theorem gq(k n:Nat):(mE mk k n).length=n:=by simp[mE]
theorem DL(k n:Nat):mE mk k (n+1)=mE mk k n++[mk k n]:=by simp[mE,List.range_succ]
theorem vv(h:j<n):(mE mk k n)[j]? =some (mk k j):=by simp[mE,h]
def stage(C:Nat->List α)(k i j:Nat):List α:=if j<k then mE mk j (C j).length else if j=k then mE mk k i++(C k).drop i else C j
theorem oD(C:Nat->List α)(k i j:Nat)(hi:i<=(C k).length):(stage mk C k i j).length=(C j).length:=by
 unfold stage;split
 ·rw[gq]
 ·split
  ·rename_i h;subst h;simp[gq];omega
  ·rfl
theorem wh(C:Nat->List α):stage mk C 0 0=C:=by
 funext j
 unfold stage;rw[if_neg (nW _)];split
 ·rename_i h;subst h;simp[mE]
 ·rfl
theorem wo(C:Nat->List α)(k:Nat):stage mk C k (C k).length=stage mk C (k+1) 0:=by
 funext j
 unfold stage;by_cases h1:j<k
 ·rw[if_pos h1,if_pos (by omega)]
 ·rw[if_neg h1];by_cases h2:j=k
  ·subst h2;rw[if_pos rfl,if_pos (by omega)];simp
  ·rw[if_neg h2,if_neg (by omega)];split
   ·rename_i h;subst h;simp[mE]
   ·rfl
theorem wm(C:Nat->List α)(k i:Nat)(hi:i<(C k).length)(j:Nat):stage mk C k (i+1) j=if j=k then(stage mk C k i k).set i (mk k i)else stage mk C k i j:=by
 unfold stage;by_cases h1:j<k
 ·rw[if_pos h1,if_neg (by omega),if_pos h1]
 ·rw[if_neg h1];by_cases h2:j=k
  ·rw[if_pos h2,if_pos h2,if_neg (Nat.lt_irrefl _),if_pos rfl];have hd:(C k).drop i=(C k)[i]::(C k).drop (i+1):=List.drop_eq_getElem_cons hi;rw[hd,List.set_append_right _ _ (by rw[gq];omega),gq,Nat.sub_self,List.set_cons_zero,DL,aA];rfl
  ·rw[if_neg h2,if_neg h2,if_neg h1,if_neg h2]
theorem wu(C:Nat->List α)(n:Nat)(j:Nat)(h:j<n):stage mk C n 0 j=mE mk j (C j).length:=by
 unfold stage;rw[if_pos h]
theorem j6.set{V:Nat->Value}{D D':Nat->List α}(h:j6 E e W n V D)(hk:k<n)(hV:V k= .slice (some ⟨g,0,none⟩) len cap)(x:α)(hD:∀j,D' j=if j=k then(D k).set i x else D j)
    (h1:W'.ownsRow 0 e E.k (.slice (some ⟨g,0,none⟩) len cap) (D k).length (fl E ((D k).set i x))) (h2:Kp (fun q=>q=g) W W'):j6 E e W' n V D'/\Kp (fun q=>(V k).ownBlock=some q) W W':=by
 have hkk:Kp (fun q=>(V k).ownBlock=some q) W W':=⟨h2.os,h2.tape,h2.output,h2.size,fun q hq hn=>h2.block q hq (fun e=>hn (by rw[hV,e];rfl))⟩;refine⟨⟨fun j hj=> ?_,h.far⟩,hkk⟩;rw[hD j];by_cases hjk:j=k
 ·subst hjk;rw[if_pos rfl,hV,lZ];exact h1
 ·rw[if_neg hjk];exact av hkk (h.own j hj) (fun q hq e=>h.far j k hj hk hjk q hq e)
end
section
variable {α:Type} (E:El α) (e eS:TypeId) (mk:Nat->Nat->α) (d:Nat)
structure Uz(w2:World)(N:Nat)(V:Nat->Value)(n:Nat->Nat)(W:World)(k:Nat)(X:Nat->Value)(s:Value):Prop where
 big:∀i,i<k->Ls E W (X i) (mE mk i (n i+d))
 old:∀i,i<k->Ls E W (V i) (mE mk i (n i))
 rest:∀i,k<=i->i<N->W.ownsRow 0 e E.k (V i) (n i) (fl E (mE mk i (n i)))
 lie:∀i,i<k->∀g,(X i).ownBlock=some g->(V i).ownBlock=some g\/w2.heap.size<=g
 more:W.ownsRow w2.heap.size eS 1 s k ((List.range k).map X)
 ZL:∀g,s.ownBlock=some g->∀i,i<k->(X i).ownBlock≠some g
 kp:Kp (fun q=>∃i,i<N/\(V i).ownBlock=some q) w2 W
variable {E e eS mk d}
theorem Uz.step{w2:World}{N:Nat}{V:Nat->Value}{n:Nat->Nat}{W W1 W3:World}{k:Nat}{X:Nat->Value}{s s' x:Value}(h:Uz E e eS mk d w2 N V n W k X s)(hk:k<N)
    (Xi:∀i j,i<N->j<N->i≠j->∀g,(V i).ownBlock=some g->(V j).ownBlock≠some g) (hlow:∀i,i<N->∀g,(V i).ownBlock=some g->g<w2.heap.size)
    (hx:Ls E W1 x (mE mk k (n k+d))) (hxl:∀g,x.ownBlock=some g->(V k).ownBlock=some g\/W.heap.size<=g) (hV:Ls E W1 (V k) (mE mk k (n k))) (h1:Kp (fun q=>(V k).ownBlock=some q) W W1)
    (hm:W3.ownsRow w2.heap.size eS 1 s' (k+1) ((List.range k).map X++[x])) (h3:Kp (fun q=>s.ownBlock=some q) W1 W3) (hs:∀g,s'.ownBlock=some g->s.ownBlock=some g\/W1.heap.size<=g) :
    Uz E e eS mk d w2 N V n W3 (k+1) (fun i=>if i=k then x else X i) s':=by
 have hsl:∀g,s.ownBlock=some g->w2.heap.size<=g/\g<W.heap.size:=fun g hg=>h.more.lt g hg;have hVs:∀i,i<N->∀q,(V i).ownBlock=some q->¬s.ownBlock=some q:=fun i hi q hq e=>by have:=(hsl q e).1;have:=hlow i hi q hq;omega
 have hXk:∀i,i<k->∀q,(X i).ownBlock=some q->¬(V k).ownBlock=some q:=fun i hi q hq e=>by
  rcases h.lie i hi q hq with h'|h'
  ·exact Xi i k (by omega) hk (by omega) q h' e
  ·have:=hlow k hk q e;omega
 have hxs:∀q,x.ownBlock=some q->¬s.ownBlock=some q:=fun q hq e=>by
  rcases hxl q hq with h'|h'
  ·exact hVs k hk q h' e
  ·have:=(hsl q e).2;omega
 refine⟨fun i hi=> ?_,fun i hi=> ?_,fun i hi hiN=> ?_,fun i hi g hg=> ?_, ?_,fun g hg i hi=> ?_, ?_⟩
 ·by_cases e:i=k
  ·subst e;rw[if_pos rfl];exact h3.ls hx hxs
  ·rw[if_neg e];exact h3.ls (h1.ls (h.big i (by omega)) (hXk i (by omega))) (fun q hq e'=>h.ZL q e' i (by omega) hq)
 ·by_cases e:i=k
  ·subst e;exact h3.ls hV (hVs i hk)
  ·exact h3.ls (h1.ls (h.old i (by omega)) (fun q hq e'=>Xi i k (by omega) hk e q hq e')) (hVs i (by omega))
 ·exact av h3 (av h1 (h.rest i (by omega) hiN) (fun q hq e'=>Xi i k hiN hk (by omega) q hq e')) (hVs i hiN)
 ·by_cases e:i=k
  ·subst e;rw[if_pos rfl]at hg;rcases hxl g hg with h'|h'
   ·exact Or.inl h'
   ·exact Or.inr (nT h.kp.size h')
  ·rw[if_neg e]at hg;exact h.lie i (by omega) g hg
 ·have e:(List.range (k+1)).map (fun i=>if i=k then x else X i)=(List.range k).map X++[x]:=by
    rw[YO,CW]
    congr 1
    ·refine List.map_congr_left fun i hi=> ?_;rw[if_neg (by have:=mR.1 hi;omega)]
    ·simp
  rw[e];exact hm
 ·intro e;by_cases ei:i=k
  ·subst ei;rw[if_pos rfl]at e;rcases hs g hg with h'|h'
   ·exact hxs g e h'
   ·have:=hx.blk g e;omega
  ·rw[if_neg ei]at e;rcases hs g hg with h'|h'
   ·exact h.ZL g h' i (by omega) e
   ·have:=(h.big i (by omega)).blk g e;have:=h1.size;omega
 ·refine(h.kp.trans h1 (fun q _ e=>⟨k,hk,e⟩)).trans h3 (fun q hq e=> ?_);have:=(hsl q e).1;omega
end
theorem Qh{P:Program}(w:World)(t ty e:TypeId)(i:TypeInfo)(z:Value)(size bytes:Nat)(ht:P.underlying t=some (.slice e))(hi:P.info? e=some i)(hz:i.zero=some z)
    (hsize:i.size=size) (hby:i.bytes=bytes) (hzs:z.cells.size=size) (hsz:0<size)
    (v:Value) (n:Nat) (xs:List Value) (hown:w.ownsRow 0 e size v n xs)
    (ad:Addr) (m c:Nat) (news:List Value) (hl:news.length=m*size) (hnews:∀j u,news[j]? =some u->w.cell? (ad.add j)=some u) (h1:∀u∈news,u.oneCell'=true)
    (hm:0<m) (h63:n+m<=maxLen) (hbytes:(n+m)*bytes<=140737488355328) :
    ∃g cap w',(Builtin.append_ #[t,t] ty #[v, .slice (some ad) m c]).run P w= .ok (.slice (some ⟨g,0,none⟩) (n+m) cap) w'/\w'.ownsRow 0 e size (.slice (some ⟨g,0,none⟩) (n+m) cap) (n+m) (xs++news)/\w.grownBy w' v.ownBlock/\
     (v.ownBlock=some g\/g=w.heap.size)/\∀q,v.ownBlock=some q->∀j u,xs[j]? =some u->w'.cell? ⟨q,j,none⟩=some u:=by
 obtain⟨g,cap,w',hr,h2,h3,h4,_⟩:=run_append_lies (P:=P) w t ty 0 e i z size bytes ht hi hz hsize hby hzs hsz v n xs hown ad m c news hl hnews h1 hm h63 hbytes (zL _) _ rfl;refine⟨g,cap,w',hr,h2,h3,h4, ?_⟩;subst hsize;subst hby;obtain⟨hlx,⟨rfl,_⟩|⟨g0,cap0,cur,rfl,_,hg0,hnc,hcm,hcs,htk⟩⟩:=id hown
 ·intro q hq;simp[Value.ownBlock]at hq
 ·intro q hq j u hu;have hq':q=g0:=by simpa[Value.ownBlock]using hq.symm
  subst hq';by_cases hroom:n+m<=cap0
  ·have hfit:n*i.size+news.length<=cur.size:=(by rw[hl,hcs,<-Nat.add_mul];exact nM _ hroom);have hr2:=run_append_room (P:=P) w t ty e i ht hi q n cap0 cur hg0 ad m c news hl hnews h1 hroom hfit;rw[hr]at hr2;simp only[Result.ok.injEq,vS,oI,aI,and_true]at hr2;obtain⟨⟨rfl,_⟩,_⟩:=hr2;have:=h2.cells (g:=g) rfl j u (by rw[gL (lG.1 hu).1];exact hu);rw[yV,nZ]at this;exact this
  ·have holds:∀j u,xs[j]? =some u->w.cell? ((⟨q,0,none⟩:Addr).add j)=some u:=hown.cells (g:=q) rfl;have hr2:=run_append_grow (P:=P) w t ty e i z ht hi hz ⟨q,0,none⟩ n cap0 xs hown.1 holds ad m c news hl hnews (by omega) (by unfold maxLen at h63;omega) (growslice_fits (by omega) hbytes);rw[hr]at hr2;simp only[Result.ok.injEq]at hr2;obtain⟨_,rfl⟩:=hr2;have YU:q<w.heap.size:=(aG.1 hg0).1;have hb:=((Gr.refl w).drew.alloc (.cells (xs.toArray++news.toArray++Builtin.zeroCells z.cells (grownCap w (n+m) cap0 e-(n+m))) e)).cell (b:=q) (o:=j) YU;rw[hb];have:=holds j u hu;rw[yV,nZ]at this;exact this
theorem vN{P:Program}(E:El α){sT:TypeId}{z:Value}{bt:Nat}(hu:P.underlying sT=some (.slice e))(hI:(P.info? e).map (fun i=>(i.zero,i.size,i.bytes))=some (some z,E.k,bt))(hz:z.cells.size=E.k)(hk0:0<E.k)
    {w:World} {ops:Array Oper} {rest:List Oper} {o:Oper} {a:Act} {Q:Exit->Act->World->Prop} (hgd:o.guard=none) (s y:Operand)
    (ho:o.op= .call { callee:= .builtin .append,args:=#[s,y],argTypes:=#[sT,sT] })
    (v:Value) (n:Nat) (l:List α) (hs:a.eval s=v) (hown:w.ownsRow 0 e E.k v n (fl E l))
    (x:α) (hx:a.eval y= .slice (some ⟨w.heap.size,0,none⟩) 1 1) (hbig:(n+1)*bt<=140737488355328) (hmx:n+1<=maxLen)
    (cs:Array Value) (hcs:cs.toList=E.enc x) (te:TypeId)
    (h:∀g cap w',w'.ownsRow 0 e E.k (.slice (some ⟨g,0,none⟩) (n+1) cap) (n+1) (fl E l++E.enc x)->Kp (fun q=>v.ownBlock=some q) w w'->(v.ownBlock=some g\/w.heap.size<=g)->(∀q,v.ownBlock=some q->∀j u,(fl E l)[j]? =some u->w'.cell? ⟨q,j,none⟩=some u)->wpList P ops Q rest (a.put o.dst (.slice (some ⟨g,0,none⟩) (n+1) cap)) w') :
    wpList P ops Q (o::rest) a (w.alloc (.cells cs te)):=by
 obtain⟨i0,hi,hz0,hz1,hz2⟩:=info_parts hI;have hown':=hown.alloc (.cells cs te);obtain⟨g,cap,w',hr,h2,h3,h4,h5⟩:=Qh (P:=P) (w.alloc (.cells cs te)) sT o.type e i0 _ E.k bt hu hi hz0 hz1 hz2 hz hk0 v n (fl E l) hown' ⟨w.heap.size,0,none⟩ 1 1 (E.enc x) (by rw[E.len,Nat.one_mul]) (by have:=World.news_of_block (ah w (.cells cs te));rw[hcs]at this;exact this) (E.one x) (by decide) hmx hbig;refine wpList_plain hgd fun K hK=> ?_;unfold Oper.wp execOp;simp only[ho,resolve,invoke,builtin,Sem.run_bind,Sem.run_pure,Result.andThen_ok,List.map_toArray,List.map_cons,List.map_nil,hs,hx,hr];have hk:Kp (fun q=>v.ownBlock=some q) w w':=(Kp.of_below ((Gr.refl w).alloc _).below).trans (Kp.grownBy (S:=fun q=>v.ownBlock=some q) h3 (fun _ h=>h)) (fun _ _ h=>h);refine hK _ _ (h g cap w' h2 hk (h4.imp id (fun e=>by rw[e];simp)) h5)
end
namespace Rc
open Go.RowKit Go.Sort Go.Maps Pt Hc
attribute[local go_sem ↓]wp_at_zero wp_at_succ
theorem PR(x:Th)(W:World):Sem.run Tryz.prog (Op.equalIn 10000 49 (.agg #[.int .i64 x.1, .int .u64 x.2.1.1.1, .int .u64 x.2.1.1.2.1, .int .u64 x.2.1.1.2.2, .int .i64 x.2.2]) (.agg #[.int .i64 x.1, .int .u64 x.2.1.1.1, .int .u64 x.2.1.1.2.1, .int .u64 x.2.1.1.2.2, .int .i64 x.2.2])) W= .ok true W:=by
 have u4:=Tryz.underlying2;have a4:=Tryz.isAgg2;have z4:=Tryz.sizeOf2;have a5:=Tryz.isAgg47;have z5:=Tryz.sizeOf47;have hP:=Rs.wJ 9996;have hS:Tryz.prog.underlying 49=some (.struct (Tryz.prog.fieldsOf 49)):=by kernel_rfl
 have hp:Tryz.prog.stoodInHeld 49=false:=by kernel_rfl
 have ht:qB x.2.1.1.1 x.2.1.1.2.1 x.2.1.1.2.2 x.2.1.1.1 x.2.1.1.2.1 x.2.1.1.2.2=true:=(qH _ _ _ _ _ _).2 ⟨rfl,rfl,rfl⟩;rw[show(10000:Nat)=9999+1 from rfl,run_equalIn_agg W 9999 49 _ _ hS hp];simp only[Program.fieldsOf,Tryz.underlying49];go_simp
theorem Be(w:World){l:List ai}(hA:Ls ET w va l)(hB:Ls ET w vb l)(hl:l.length<=1000000000):Calls Tryz.prog 24 #[va,vb] w fun e w'=>e= .returned (.bool true)/\Below w.heap.size w w':=by
 have hmx:Tryz.prog.follows .mixedOrders=true:=by kernel_rfl
 obtain⟨pa,ca,rfl⟩:=hA.form;obtain⟨pb,cb,rfl⟩:=hB.form;have HA:=hid hA;have HB:=hid hB;obtain⟨n,hn⟩:=aC (l.length);have HN:=hid hn;rw[<-hn]at hl HA HB⊢;clear hA hB hn;go_enter Tryz.func24,Tryz.ntmps24;go_wp2_with fail;go_loopw [13] (fun s13 wv=>∃i:Nat,i<=n/\s13= .int .i64 (i:Nat)/\Hid (Below w.heap.size w wv)) (fun s13 _=>n-(intOf s13).toNat);case atStart=>exact⟨0,zL _,rfl,Below.refl _ _⟩
 case round=>
  obtain⟨i,hi,rfl,HI⟩:=hrel;rename World=>wv;have hi0:(0:Int)<=(i:Int):=by omega
  by_cases hil:i<n
  ·have hiz:(i:Int)<(n:Int):=(by omega);obtain⟨x,hx⟩:∃x,l[i]? =some x:=⟨l[i]'(by have:=HN.o;omega),by simp⟩;have HX:=hid hx;obtain⟨b1,o1,q1,gN,-⟩:=Ls.at3 (HA.o.below HI.o) hx;simp only[vS]at gN;obtain⟨rfl,-,-⟩:=gN;obtain⟨b2,o2,q2,JO,-⟩:=Ls.at3 (HB.o.below HI.o) hx;simp only[vS]at JO;obtain⟨rfl,-,-⟩:=JO;clear hx;have HS:Hid (∀W,Below wv.heap.size wv W->(b1<W.heap.size/\W.cell? ⟨b1,o1+i*3,none⟩=some (.int .u64 x.1.1)/\W.cell? ⟨b1,o1+i*3+1,none⟩=some (.int .u64 x.1.2.1)/\W.cell? ⟨b1,o1+i*3+2,none⟩=some (.int .u64 x.1.2.2))/\(b2<W.heap.size/\W.cell? ⟨b2,o2+i*3,none⟩=some (.int .u64 x.1.1)/\W.cell? ⟨b2,o2+i*3+1,none⟩=some (.int .u64 x.1.2.1)/\W.cell? ⟨b2,o2+i*3+2,none⟩=some (.int .u64 x.1.2.2))):=fun W hW=>by
    have hb:=HI.o.trans (hW.mono HI.o.size);obtain⟨b1',o1',q1',gN,y⟩:=Ls.at3 (HA.o.below hb) HX.o;simp only[vS,oI,aI,and_true]at gN;obtain⟨⟨rfl,rfl⟩,-,-⟩:=gN;obtain⟨b2',o2',q2',JO,z⟩:=Ls.at3 (HB.o.below hb) HX.o;simp only[vS,oI,aI,and_true]at JO;obtain⟨⟨rfl,rfl⟩,-,-⟩:=JO;exact⟨y,z⟩
   have heq:∀W,Sem.run Tryz.prog (Op.equalIn 10000 45 (.agg #[.int .u64 x.1.1, .int .u64 x.1.2.1, .int .u64 x.1.2.2]) (.agg #[.int .u64 x.1.1, .int .u64 x.1.2.1, .int .u64 x.1.2.2])) W= .ok true W:=fun W=>by
    have h:=Rs.Du 9998 x.1.1 x.1.2.1 x.1.2.2 x.1.1 x.1.2.1 x.1.2.2 W;rw[(qH _ _ _ _ _ _).2 ⟨rfl,rfl,rfl⟩]at h;exact h
   go_upto_region 6 with fail;have hS0:Below wv.heap.size wv wv.drew:=(Gr.refl wv).drew.below;refine ax (S:=fun W:World=>Below wv.heap.size wv W) (D:=[]) hmx ?_;refine' aj 0 hS0 ?_;refine' aj 1 hS0 ?_;refine' bu 2 hS0 ?h ?_;case h=>(intro W hSw;obtain⟨⟨d0,d1,d2,d3⟩,⟨f0,f1,f2,f3⟩⟩:=HS.o W hSw;go_simp;try(with_reducible rfl))
   refine' bu 3 hS0 ?h ?_;case h=>(intro W hSw;obtain⟨⟨d0,d1,d2,d3⟩,⟨f0,f1,f2,f3⟩⟩:=HS.o W hSw;go_simp;try(with_reducible rfl))
   refine' aj 4 hS0 ?_;refine' aj 5 hS0 ?_;refine' bu 6 hS0 ?h ?_;case h=>(intro W hSw;obtain⟨⟨d0,d1,d2,d3⟩,⟨f0,f1,f2,f3⟩⟩:=HS.o W hSw;go_simp;try(with_reducible rfl))
   refine' bu 7 hS0 ?h ?_;case h=>(intro W hSw;obtain⟨⟨d0,d1,d2,d3⟩,⟨f0,f1,f2,f3⟩⟩:=HS.o W hSw;go_simp;try(with_reducible rfl))
   refine' bu 8 hS0 ?h ?_;case h=>(intro W hSw;have hq:=heq W;go_simp;try(with_reducible rfl))
   refine au (by kernel_rfl) ?_ _;have FIN:=hid (HI.o.trans (hS0.mono HI.o.size));clear HS heq hS0 HI;go_wp2_with fail;go_roundw;case rel=>exact⟨i+1,by omega,by go_num,FIN.o⟩
   case measure=>simp[intOf];omega
  ·have hiz:¬(i:Int)<(n:Int):=(by omega);go_wp2_with fail;go_ret;exact⟨rfl,HI.o⟩
theorem jq(w:World){l:List Th}(hA:Ls EC w va l)(hB:Ls EC w vb l)(hl:l.length<=1000000000):Calls Tryz.prog 23 #[va,vb] w fun e w'=>e= .returned (.bool true)/\Below w.heap.size w w':=by
 have hmx:Tryz.prog.follows .mixedOrders=true:=by kernel_rfl
 obtain⟨pa,ca,rfl⟩:=hA.form;obtain⟨pb,cb,rfl⟩:=hB.form;have HA:=hid hA;have HB:=hid hB;obtain⟨n,hn⟩:=aC (l.length);have HN:=hid hn;rw[<-hn]at hl HA HB⊢;clear hA hB hn;go_enter Tryz.func23,Tryz.ntmps23;go_wp2_with fail;go_loopw [13] (fun s13 wv=>∃i:Nat,i<=n/\s13= .int .i64 (i:Nat)/\Hid (Below w.heap.size w wv)) (fun s13 _=>n-(intOf s13).toNat);case atStart=>exact⟨0,zL _,rfl,Below.refl _ _⟩
 case round=>
  obtain⟨i,hi,rfl,HI⟩:=hrel;rename World=>wv;have hi0:(0:Int)<=(i:Int):=by omega
  by_cases hil:i<n
  ·have hiz:(i:Int)<(n:Int):=(by omega);obtain⟨x,hx⟩:∃x,l[i]? =some x:=⟨l[i]'(by have:=HN.o;omega),by simp⟩;have HX:=hid hx;obtain⟨b1,o1,q1,gN,-⟩:=DR (HA.o.below HI.o) hx;simp only[vS]at gN;obtain⟨rfl,-,-⟩:=gN;obtain⟨b2,o2,q2,JO,-⟩:=DR (HB.o.below HI.o) hx;simp only[vS]at JO;obtain⟨rfl,-,-⟩:=JO;clear hx;have HS:Hid (∀W,Below wv.heap.size wv W->(b1<W.heap.size/\W.cell? ⟨b1,o1+i*5,none⟩=some (.int .i64 x.1)/\W.cell? ⟨b1,o1+i*5+1,none⟩=some (.int .u64 x.2.1.1.1)/\W.cell? ⟨b1,o1+i*5+2,none⟩=some (.int .u64 x.2.1.1.2.1)/\W.cell? ⟨b1,o1+i*5+3,none⟩=some (.int .u64 x.2.1.1.2.2)/\W.cell? ⟨b1,o1+i*5+4,none⟩=some (.int .i64 x.2.2))/\(b2<W.heap.size/\W.cell? ⟨b2,o2+i*5,none⟩=some (.int .i64 x.1)/\W.cell? ⟨b2,o2+i*5+1,none⟩=some (.int .u64 x.2.1.1.1)/\W.cell? ⟨b2,o2+i*5+2,none⟩=some (.int .u64 x.2.1.1.2.1)/\W.cell? ⟨b2,o2+i*5+3,none⟩=some (.int .u64 x.2.1.1.2.2)/\W.cell? ⟨b2,o2+i*5+4,none⟩=some (.int .i64 x.2.2))):=fun W hW=>by
    have hb:=HI.o.trans (hW.mono HI.o.size);obtain⟨b1',o1',q1',gN,y⟩:=DR (HA.o.below hb) HX.o;simp only[vS,oI,aI,and_true]at gN;obtain⟨⟨rfl,rfl⟩,-,-⟩:=gN;obtain⟨b2',o2',q2',JO,z⟩:=DR (HB.o.below hb) HX.o;simp only[vS,oI,aI,and_true]at JO;obtain⟨⟨rfl,rfl⟩,-,-⟩:=JO;exact⟨y,z⟩
   have heq:∀W,Sem.run Tryz.prog (Op.equalIn 10000 49 (.agg #[.int .i64 x.1, .int .u64 x.2.1.1.1, .int .u64 x.2.1.1.2.1, .int .u64 x.2.1.1.2.2, .int .i64 x.2.2]) (.agg #[.int .i64 x.1, .int .u64 x.2.1.1.1, .int .u64 x.2.1.1.2.1, .int .u64 x.2.1.1.2.2, .int .i64 x.2.2])) W= .ok true W:=fun W=>by
    exact PR x W
   go_upto_region 6 with fail;have hS0:Below wv.heap.size wv wv.drew:=(Gr.refl wv).drew.below;refine ax (S:=fun W:World=>Below wv.heap.size wv W) (D:=[]) hmx ?_;refine' aj 0 hS0 ?_;refine' aj 1 hS0 ?_;refine' bu 2 hS0 ?h ?_;case h=>(intro W hSw;obtain⟨⟨d0,d1,d2,d3,d4,d5⟩,⟨f0,f1,f2,f3,f4,f5⟩⟩:=HS.o W hSw;go_simp;try(with_reducible rfl))
   refine' bu 3 hS0 ?h ?_;case h=>(intro W hSw;obtain⟨⟨d0,d1,d2,d3,d4,d5⟩,⟨f0,f1,f2,f3,f4,f5⟩⟩:=HS.o W hSw;go_simp;try(with_reducible rfl))
   refine' aj 4 hS0 ?_;refine' aj 5 hS0 ?_;refine' bu 6 hS0 ?h ?_;case h=>(intro W hSw;obtain⟨⟨d0,d1,d2,d3,d4,d5⟩,⟨f0,f1,f2,f3,f4,f5⟩⟩:=HS.o W hSw;go_simp;try(with_reducible rfl))
   refine' bu 7 hS0 ?h ?_;case h=>(intro W hSw;obtain⟨⟨d0,d1,d2,d3,d4,d5⟩,⟨f0,f1,f2,f3,f4,f5⟩⟩:=HS.o W hSw;go_simp;try(with_reducible rfl))
   refine' bu 8 hS0 ?h ?_;case h=>(intro W hSw;have hq:=heq W;go_simp;try(with_reducible rfl))
   refine au (by kernel_rfl) ?_ _;have FIN:=hid (HI.o.trans (hS0.mono HI.o.size));clear HS heq hS0 HI;go_wp2_with fail;go_roundw;case rel=>exact⟨i+1,by omega,by go_num,FIN.o⟩
   case measure=>simp[intOf];omega
  ·have hiz:¬(i:Int)<(n:Int):=(by omega);go_wp2_with fail;go_ret;exact⟨rfl,HI.o⟩
def KT:El (Int×Int×Int) where
 k:=3
 enc p:=[.int .u64 p.1, .int .u64 p.2.1, .int .u64 p.2.2]
 len _:=rfl
 one x u hu:=by
  simp at hu;rcases hu with rfl|rfl|rfl<;>rfl
theorem aaH(l:List ai):fl ET l=fl KT (l.map (·.1)):=by
 induction l with
 | nil => rfl
 | cons s l ih => rw[List.map_cons,aO,aO,ih];rfl
def mz(i j:Nat):Int:=1099511627776+(10000*(i:Int)+(j:Int))
def mH(i j:Nat):Th:=(0,⟨(0,0,0),by decide⟩,mz i j)
def mG(i j:Nat):Int×Int×Int:=(mz i j,0,0)
theorem SB(hi:i<1000)(hj:j<2000000000):IntKind.i64.wrap (10000*(i:Int))=10000*(i:Int)/\IntKind.i64.wrap (10000*(i:Int)+(j:Int))=10000*(i:Int)+(j:Int)/\IntKind.i64.wrap (1099511627776+(10000*(i:Int)+(j:Int)))=1099511627776+(10000*(i:Int)+(j:Int)):=by
 rw[IntKind.wrap_i64,IntKind.wrap_i64,IntKind.wrap_i64];omega
theorem Sr(hi:i<1000)(hj:j<2000000000):IntKind.u64.wrap (mz i j)=mz i j:=by
 unfold mz;rw[IntKind.wrap_u64];omega
theorem Oa(i j:Nat)(hi:i<1000)(hj:j<2000000000)(w:World):Calls Tryz.prog 55 #[.int .i64 (i:Int), .int .i64 (j:Int)] w fun e w'=>e= .returned (.int .i64 (mz i j))/\w'=w:=by
 obtain⟨h1,h2,h3⟩:=SB hi hj;unfold mz;go_enter Tryz.func55,Tryz.ntmps55;go_wp2;go_ret;exact⟨rfl,rfl⟩
theorem rE(h:w.ownsRow base e s v n xs):∃p c,v= .slice p n c:=by
 obtain⟨_,⟨h0,h1⟩|⟨g,cap,cur,hv,_⟩⟩:=id h
 ·exact⟨none,0,by rw[h0,h1]⟩
 ·exact⟨_,_,hv⟩
theorem fB{E:El α}{T:TypeId}{L:List α}{cs ds:List Value}(q:Nat)(u:Value)(h:w.ownsRow 0 T E.k (.slice (some ⟨g,0,none⟩) n cap) n (fl E (L.take i)++cs++fl E (L.drop (i+1))))(hi:i<L.length)(hc:cs.length=E.k)(hq:q<E.k)(hd:cs.set q u=ds):
    (w.setCell ⟨g,i*E.k+q,none⟩ u).ownsRow 0 T E.k (.slice (some ⟨g,0,none⟩) n cap) n (fl E (L.take i)++ds++fl E (L.drop (i+1)))/\Kp (fun k=>k=g) w (w.setCell ⟨g,i*E.k+q,none⟩ u):=by
 obtain⟨p,k⟩:=Gv (q:=i*E.k+q) u h;have e:(fl E (L.take i)).length=i*E.k:=by rw[fM,lK,Nat.min_eq_left (by omega)]
 rw[aA,List.set_append_right _ _ (by omega),e,Nat.add_sub_cancel_left,List.set_append_left _ _ (by omega),hd,<-aA]at p;exact⟨p,k⟩
theorem sD{E:El α}(L:List α)(i:Nat)(x:α)(hi:i<L.length):fl E (L.set i x)=fl E (L.take i)++E.enc x++fl E (L.drop (i+1)):=by
 rw[List.set_eq_take_append_cons_drop,if_pos hi,aQ,aO,aA]
theorem wH{E:El α}(L:List α)(i:Nat)(x:α)(hx:L[i]? =some x):fl E L=fl E (L.take i)++E.enc x++fl E (L.drop (i+1)):=by
 obtain⟨hi,rfl⟩:=lG.1 hx;rw[<-sD L i _ hi,List.set_getElem_self]
abbrev jk(W:World)(g i:Nat)(h:Int×Int×Int):World:=((W.setCell ⟨g,i*3,none⟩ (.int .u64 h.1)).setCell ⟨g,i*3+1,none⟩ (.int .u64 h.2.1)).setCell ⟨g,i*3+2,none⟩ (.int .u64 h.2.2)
abbrev stC(W:World)(g i:Nat)(h:Th):World:=((((W.setCell ⟨g,i*5,none⟩ (.int .i64 h.1)).setCell ⟨g,i*5+1,none⟩ (.int .u64 h.2.1.1.1)).setCell ⟨g,i*5+2,none⟩ (.int .u64 h.2.1.1.2.1)).setCell ⟨g,i*5+3,none⟩ (.int .u64 h.2.1.1.2.2)).setCell ⟨g,i*5+4,none⟩ (.int .i64 h.2.2)
theorem KV{V:Nat->Value}{C:Nat->List (Int×Int×Int)}(h:j6 KT 45 W n V (stage mG C k i))(hk:k<n)(hV:V k= .slice (some ⟨g,0,none⟩) len cap)(hl:(C k).length=len)(hi:i<(C k).length):
    j6 KT 45 (jk W g i (mG k i)) n V (stage mG C k (i+1))/\Kp (fun q=>(V k).ownBlock=some q) W (jk W g i (mG k i)):=by
 have hlen:=oD mG C k i k (by omega);have ho:=h.own k hk;rw[hV,hlen,hl]at ho;have hi2:i<(stage mG C k i k).length:=by omega
 rw[wH _ i _ (pW hi2)]at ho;obtain⟨p0,k0⟩:=fB 0 (.int .u64 (mG k i).1) ho hi2 (KT.len _) (by decide) rfl;obtain⟨p1,k1⟩:=fB 1 (.int .u64 (mG k i).2.1) p0 hi2 (KT.len _) (by decide) rfl;obtain⟨p2,k2⟩:=fB (ds:=KT.enc (mG k i)) 2 (.int .u64 (mG k i).2.2) p1 hi2 (KT.len _) (by decide) rfl;rw[<-sD _ _ _ hi2]at p2;exact h.set hk hV (mG k i) (wm mG C k i hi) (by rw[hlen,hl];exact p2) ((k0.trans k1 (fun _ _ h=>h)).trans k2 (fun _ _ h=>h))
theorem KX{V:Nat->Value}{C:Nat->List Th}(h:j6 EC 49 W n V (stage mH C k i))(hk:k<n)(hV:V k= .slice (some ⟨g,0,none⟩) len cap)(hl:(C k).length=len)(hi:i<(C k).length):
    j6 EC 49 (stC W g i (mH k i)) n V (stage mH C k (i+1))/\Kp (fun q=>(V k).ownBlock=some q) W (stC W g i (mH k i)):=by
 have hlen:=oD mH C k i k (by omega);have ho:=h.own k hk;rw[hV,hlen,hl]at ho;have hi2:i<(stage mH C k i k).length:=by omega
 rw[wH _ i _ (pW hi2)]at ho;obtain⟨p0,k0⟩:=fB 0 (.int .i64 (mH k i).1) ho hi2 (EC.len _) (by decide) rfl;obtain⟨p1,k1⟩:=fB 1 (.int .u64 (mH k i).2.1.1.1) p0 hi2 (EC.len _) (by decide) rfl;obtain⟨p2,k2⟩:=fB 2 (.int .u64 (mH k i).2.1.1.2.1) p1 hi2 (EC.len _) (by decide) rfl;obtain⟨p3,k3⟩:=fB 3 (.int .u64 (mH k i).2.1.1.2.2) p2 hi2 (EC.len _) (by decide) rfl;obtain⟨p4,k4⟩:=fB (ds:=EC.enc (mH k i)) 4 (.int .i64 (mH k i).2.2) p3 hi2 (EC.len _) (by decide) rfl;rw[<-sD _ _ _ hi2]at p4;exact h.set hk hV (mH k i) (wm mH C k i hi) (by rw[hlen,hl];exact p4) ((((k0.trans k1 (fun _ _ h=>h)).trans k2 (fun _ _ h=>h)).trans k3 (fun _ _ h=>h)).trans k4 (fun _ _ h=>h))
theorem OG:(Tryz.prog.info? 26).map (fun i=>(i.zero,i.size,i.bytes))=some (some (.slice none 0 0),1,24):=by kernel_rfl
theorem OE:(Tryz.prog.info? 39).map (fun i=>(i.zero,i.size,i.bytes))=some (some (.slice none 0 0),1,24):=by kernel_rfl
def Mh(n:Nat)(V:Nat->Value)(q:Nat):Prop:=∃i,i<n/\(V i).ownBlock=some q
def Cx(n:Nat)(V U:Nat->Value)(q:Nat):Prop:=Mh 6 V q\/Mh n U q
theorem NJ{E:El α}{W0:World}{l:List α}(ho:W0.ownsRow 0 e E.k v n (fl E l))(hn:l.length=n)(hs:W0.heap.size<=W.heap.size)(hold:∀q,v.ownBlock=some q->∀j u,(fl E l)[j]? =some u->W.cell? ⟨q,j,none⟩=some u):Ls E W v l:=by
 subst hn;obtain⟨_,⟨h0,h1⟩|⟨g,cap,cur,hv,_,hgg,_⟩⟩:=id ho
 ·exact Or.inl ⟨List.eq_nil_of_length_eq_zero h1,h0⟩
 ·refine Or.inr ⟨g,0,cap,hv,nL (aG.1 hgg).1 hs,fun j u hj=> ?_⟩;rw[nZ];exact hold g (by rw[hv];rfl) j u hj
theorem NU(E:El α)(mk:Nat->Nat->α)(k n:Nat):fl E (mE mk k n)++E.enc (mk k n)=fl E (mE mk k (n+1)):=by rw[DL,aQ,dK]
theorem Jt(n i:Nat)(h:i<n):n-(intOf (.int .i64 ((i:Int)+1))).toNat<n-(intOf (.int .i64 (i:Int))).toNat:=by simp[intOf];omega
theorem iF(h:w.ownsRow 0 e s (.slice (some ⟨g,0,none⟩) n cap) n xs){u:Value}(hq:xs[q]? =some u):w.cell? ⟨g,q,none⟩=some u:=by
 have:=h.cells (g:=g) rfl q u hq;rw[yV,nZ]at this;exact this
theorem Lu(h:n<=1000000000):(n+1)*40<=140737488355328/\(n+1)*24<=140737488355328/\n+1<=maxLen/\n<2000000000/\n+1<2000000000:=by unfold maxLen;omega
theorem Ug(h:k<n)(hn:n<=36):k+1<=maxLen/\(k+1)*24<=140737488355328/\k<1000:=by unfold maxLen;omega
theorem aaS{l:List Th}(h:Ls EC w v l){p:Th}(hj:l[j]? =some p):∃b off c,v= .slice (some ⟨b,off,none⟩) l.length c/\b<w.heap.size/\w.cell? ⟨b,off+j*5+4,none⟩=some (.int .i64 p.2.2):=by
 obtain⟨b,off,c,hv,hb,hc⟩:=h.get hj;exact⟨b,off,c,hv,hb,hc 4 _ (by decide) rfl⟩
theorem aaR{l:List (Int×Int×Int)}(h:Ls KT w v l){p:Int×Int×Int}(hj:l[j]? =some p):∃b off c,v= .slice (some ⟨b,off,none⟩) l.length c/\b<w.heap.size/\w.cell? ⟨b,off+j*3,none⟩=some (.int .u64 p.1):=by
 obtain⟨b,off,c,hv,hb,hc⟩:=h.get hj;exact⟨b,off,c,hv,hb,hc 0 _ (by decide) rfl⟩
theorem wM{p:Option Addr}{c:Nat}{X:Nat->Value}(h:w.ownsRow base e 1 (.slice p n c) n ((List.range n).map X))(hn:0<n):∃g,p=some ⟨g,0,none⟩/\g<w.heap.size/\∀i,i<n->w.cell? ⟨g,i,none⟩=some (X i):=by
 obtain⟨_,⟨_,h1⟩|⟨ga,cap,cur,h0,hbg,hgg,_⟩⟩:=id h
 ·omega
 ·simp only[vS]at h0;refine⟨ga,h0.1,(aG.1 hgg).1,fun i hi=> ?_⟩;have:=h.cells (g:=ga) (by rw[h0.1];rfl) i (X i) (by simp[hi]);rw[yV,nZ]at this;exact this
end Rc
end Go.Proofs.YtiiefcalkjeieaaGreat
