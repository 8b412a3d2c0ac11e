import Derived.Test.YtiiefcalkjeieaaGreatJ31
variable{w w':Go.World}{B M i N k p tb B0:Nat}{tag t:Nat->Nat}{v:Go.Value}{S:Nat->Prop}{α:Type}
set_option maxHeartbeats 8000000
set_option maxRecDepth 100000
namespace Go.Proofs.YtiiefcalkjeieaaGreat
namespace Rc
open Go.RowKit Go.Sort Go.Maps Pt Hc
open Lf (FN uX uM)
open Df (bG ic aW iq eX)
def loc(i:Nat)(tag:Nat->Nat)(k:Nat):Nat:=if tag k=0 then 0 else if i*8589934592<tag k/\tag k<i*8589934592+8589934592 then tag k-i*8589934592 else 4294967299
def Zb(w:World)(tag:Nat->Nat)(i N:Nat)(t:Nat->Nat)(k:Nat):Nat:=if k<w.heap.size then tag k else if 2<=t k/\t k<3+2*N then i*8589934592+t k else 0
def uy(i:Nat)(tag:Nat->Nat)(k:Nat):Prop:=i*8589934592<tag k/\tag k<i*8589934592+8589934592
theorem Ox:loc i tag k=0↔tag k=0:=by
 unfold loc;by_cases h:tag k=0
 ·rw[if_pos h];exact⟨fun _=>h,fun _=>rfl⟩
 ·rw[if_neg h];split
  ·rename_i h2;exact⟨fun e=>absurd e (by omega),fun e=>absurd e h⟩
  ·exact⟨fun e=>absurd e (by decide),fun e=>absurd e h⟩
theorem SY(h:loc i tag k≠0)(h2:loc i tag k≠4294967299):uy i tag k:=by
 unfold loc at h h2;unfold uy;by_cases e:tag k=0
 ·rw[if_pos e]at h;exact absurd rfl h
 ·rw[if_neg e]at h h2;split at h2
  ·assumption
  ·exact absurd rfl h2
theorem BM(h:tag k≠0)(h2:¬uy i tag k):loc i tag k=4294967299:=by
 have h3:¬(i*8589934592<tag k/\tag k<i*8589934592+8589934592):=h2;unfold loc;rw[if_neg h,if_neg h3]
theorem rG(h:k<w.heap.size):Zb w tag i N t k=tag k:=if_pos h
theorem BL(hN:N<=192)(ho:∀k,k<w.heap.size->(t k=0\/(2<=t k/\t k<3+2*N))->loc i tag k=t k)(k:Nat)(h:t k=0\/(2<=t k/\t k<3+2*N)):loc i (Zb w tag i N t) k=t k:=by
 by_cases hk:k<w.heap.size
 ·rw[<-ho k hk h];unfold loc;rw[rG hk]
 ·have e:Zb w tag i N t k=if 2<=t k/\t k<3+2*N then i*8589934592+t k else 0:=if_neg hk
  rcases h with h|h
  ·rw[if_neg (by omega)]at e;rw[Ox.2 e,h]
  ·rw[if_pos h]at e;unfold loc;rw[e,if_neg (by omega),if_pos (by omega)];omega
structure Gk(g:bG)(R:Nat->Nat->List ai):Prop where
 ok:ic g
 gp:uM g
 no:eX (iq g).length (iq g) (iq g).length≠none
 res:∀p,p<aW g.nodes->r9 PX (uX g) p (some (R p))
theorem Gk.of{g:bG}{R:Nat->Nat->List ai}(h:FN g (some (some R)))(ok:ic g)(gp:uM g):Gk g R:=by
 cases h with
 | tab _ h1 h2 => exact⟨ok,gp,h1,h2⟩
section
variable {g:bG} {R:Nat->Nat->List ai}
theorem Gk.n(h:Gk g R):aW g.nodes<=192:=Df.nu h.ok
theorem Gk.tbl(h:Gk g R):C8 (aW g.nodes) (sV g) (uX g) R:=MU h.ok h.res
theorem Gk.ord(h:Gk g R):rV (aW g.nodes) (sV g) (nk (aW g.nodes) (mi (sJ (aW g.nodes) R))):=R7 h.ok h.gp h.no h.res
theorem Gk.rm(h:Gk g R):Rm (aW g.nodes) (sV g) 7000 432 186624 549755813888:=⟨h.n,JC h.ok,SS h.ok,by decide,nR _,nR _,by decide⟩
end
structure RG(i:Nat)(w:World)(tag:Nat->Nat)(rb:Nat)(g:bG)(R:Nat->Nat->List ai)(c:Nat->ai->Int)(K O:Nat->List ai)(C:Nat->ai->Int)(F:Nat->List ai)(U:List Th):Prop where
 q:Rq w (loc i tag) rb g.arity (aW g.nodes) (sV g) (sJ (aW g.nodes) R) c K O C F U
 ev:Ev (aW g.nodes) (sV g) R c K O C F
 kt:sN (fun p=>(K p).length) (List.range (aW g.nodes))<=7000
 ul:U.length<=1000000000
section
variable {i:Nat} {w w':World} {tag tag':Nat->Nat} {rb:Nat} {g:bG} {R:Nat->Nat->List ai} {c:Nat->ai->Int} {K O:Nat->List ai} {C:Nat->ai->Int} {F:Nat->List ai} {U:List Th} {S:Nat->Prop}
theorem RG.keep(h:RG i w tag rb g R c K O C F U)(hk:Gk g R)(hK:Kp S w w')(hS:∀k,k<w.heap.size->S k->tag k≠0/\¬uy i tag k)(hT:∀k,k<w.heap.size->tag' k=tag k):RG i w' tag' rb g R c K O C F U:=by
 have hn:=hk.n;refine⟨h.q.keep hK (fun k hk e=> ?_) (fun k hk=>by unfold loc;rw[hT k hk]),h.ev,h.kt,h.ul⟩;obtain⟨e1,e2⟩:=hS k hk e;rw[BM e1 e2];exact⟨by decide,by omega⟩
theorem RG.below(h:RG i w tag rb g R c K O C F U)(hk:Gk g R)(hb:Bw w w')(hT:∀k,k<w.heap.size->tag' k=tag k):RG i w' tag' rb g R c K O C F U:=h.keep hk (Kp.of_below (S:=fun _=>False) hb) (fun _ _ e=>e.elim) hT
theorem RG.oK(h:RG i w tag rb g R c K O C F U)(hp:p<aW g.nodes):(O p).length<=7000/\(K p).length<=7000:=by
 have h1:=h.ev.inK hp;have h2:=kF (f:=fun q=>(K q).length) (mR.2 hp);have h3:=h.kt;omega
theorem RG.fK(h:RG i w tag rb g R c K O C F U)(hk:Gk g R)(hp:p<aW g.nodes):(F p).length<=448000:=by
 have h1:=hk.tbl.short (O:=O) (h.ev.JQ p hp);have h2:=h.ev.RJ h.kt;omega
theorem RA{F Fn:Nat->List ai}(hN:N<=192)(h1:∀p,p<N->(F p).Nodup/\(Fn p).Nodup)(h2:∀p,p<N->(F p).length<=448000/\(Fn p).length<=448000):(MK N F Fn).length<=1000000000:=by
 have key:∀l:List Nat,(∀p∈l,p<N)->(l.flatMap fun p=>(oW (F p) (Fn p)).map fun d=>((p:Int),d.1,d.2)).length<=l.length*896000:=fun l hl=>by
  refine nJ _ _ _ fun p hp=> ?_;have hp:=hl p hp;rw[gQ];have:=(rP (h1 p hp).1 (h1 p hp).2).len;have:=h2 p hp;omega
 have h3:=key (List.range N) fun p hp=>mR.1 hp;rw[List.length_range]at h3;have:N*896000<=192*896000:=nM _ hN;unfold MK;omega
def ChG(i:Nat)(w:World)(tag:Nat->Nat)(rb:Nat)(g:bG)(R:Nat->Nat->List ai)(c:Nat->ai->Int)(K O:Nat->List ai)(C:Nat->ai->Int)(F:Nat->List ai)(U:List Th)(l:List Th)(w':World):Prop:=
 ∃tag',(∀k,k<w.heap.size->tag' k=tag k)/\Kp (uy i tag) w w'/\((iO (aW g.nodes) g.arity c l≠0/\Bw w w'/\RG i w' tag' rb g R c K O C F U)\/(iO (aW g.nodes) g.arity c l=0/\∃On Cn Fn,RG i w' tag' rb g R (lW c l) (BP K l) On Cn Fn (MK (aW g.nodes) F Fn)))
theorem BO{K:Nat->List ai}{l:List Th}:sN (fun p=>(BP K l p).length) (List.range N)<=sN (fun p=>(K p).length) (List.range N)+l.length:=by
 have e1:(fun p=>(BP K l p).length)=fun p=>(K p).length+(prt l p).length:=by
  funext p
  unfold BP;rw[dQ,gQ]
 rw[e1,mZ];have e2:=ji l (fun x=>x.1.toNat) N;have e3:sN (fun p=>(prt l p).length) (List.range N)<=sN (fun q=>(l.filter fun s=>decide (s.1.toNat=q)).length) (List.range N):=kG fun p _=>by
  unfold prt;rw[gQ,<-List.countP_eq_length_filter,<-List.countP_eq_length_filter];refine List.countP_mono_left fun x _ hx=> ?_;have:x.1=(p:Int):=by simpa using hx
  simp[this]
 omega
theorem RG.change(h:RG i w tag rb g R c K O C F U)(hk:Gk g R)(l:List Th)(v:Value)(hv:Ls EC w v l)(hT:sN (fun p=>(K p).length) (List.range (aW g.nodes))+l.length<=7000):
    CL 10 #[aB rb,v] w fun e w'=>e= .returned (iV (iO (aW g.nodes) g.arity c l))/\Hid (ChG i w tag rb g R c K O C F U l w'):=by
 refine(IG l v w h.q h.ev hk.tbl hk.ord Wm hv hk.rm hT).mono ?_;rintro e w' hc0;obtain⟨he,hc⟩:=hc0.o;subst he;refine⟨rfl, ?_⟩;rcases hc with⟨hz,hb⟩|⟨hz,hch⟩
 ·exact⟨tg tag w 0,fun k hk=>au hk,Kp.of_below hb, .inl ⟨hz,hb,h.below hk hb (fun k hk=>au hk)⟩⟩
 ·obtain⟨On,Cn,Fn,t',hev,hq,hKp,hold⟩:=hch;have hkt:sN (fun p=>(BP K l p).length) (List.range (aW g.nodes))<=7000:=nT BO hT;have hfl:∀p,p<aW g.nodes->(Fn p).length<=448000:=fun p hp=>by
   have h1:=hk.tbl.short (O:=On) (hev.JQ p hp);have h2:=hev.RJ hkt;omega
  refine⟨Zb w tag i (aW g.nodes) t',fun k hk=>rG hk,hKp.mono fun k e=> ?_, .inr ⟨hz,On,Cn,Fn,hq.retag fun k e=>(BL hk.n (fun k hk _=>(hold k hk).symm) k e),hev,hkt,RA hk.n (fun p hp=>⟨(h.ev.yO.fr p hp).nodup,(hev.yO.fr p hp).nodup⟩) (fun p hp=>⟨h.fK hk hp,hfl p hp⟩)⟩⟩;have hn:=hk.n;exact SY (by omega) (by omega)
def CpG(i j:Nat)(w:World)(tag:Nat->Nat)(rb iQ:Nat)(g:bG)(R:Nat->Nat->List ai)(c:Nat->ai->Int)(K O:Nat->List ai)(C:Nat->ai->Int)(F:Nat->List ai)(U:List Th)(w':World):Prop:=
 ∃tag',(∀k,k<w.heap.size->tag' k=tag k)/\Bw w w'/\w.heap.size<=iQ/\RG i w' tag' rb g R c K O C F U/\RG j w' tag' iQ g R c K O C F U
theorem RG.copy(h:RG i w tag rb g R c K O C F U)(hk:Gk g R)(j:Nat):
    CL 22 #[aB rb] w fun e w'=>∃iQ,e= .returned (aB iQ)/\Hid (CpG i j w tag rb iQ g R c K O C F U w'):=by
 refine(yg w h.q hk.n (fun p hp=>by have:=(h.oK hp).1;omega) (fun p hp=>by have:=h.fK hk hp;omega) h.ul).mono ?_;rintro e w' ⟨iQ,rfl,hc⟩;obtain⟨t',h1,h2,h3,h4,h5⟩:=hc.o;have hn:=hk.n;refine⟨iQ,rfl,Zb w tag j (aW g.nodes) t',fun k hk=>rG hk,h5,h1,h.below hk h5 (fun k hk=>rG hk),⟨h4.retag fun k e=>BL hk.n (fun k hk e=> ?_) k e,h.ev,h.kt,h.ul⟩⟩;have e2:=h2 k hk;by_cases z:loc i tag k=0
 ·rw[if_pos z]at e2;rw[e2];exact Ox.2 (Ox.1 z)
 ·rw[if_neg z]at e2;omega
theorem NwR.rg{e:Ending}(h:NwR w g e w')(ok:ic g)(gp:uM g)(i:Nat)(tag:Nat->Nat):Bw w w'/\∃a,FN g a/\((a=none/\e= .returned (.tuple #[.pointer none,iV 27]))\/(a=some none/\e= .returned (.tuple #[.pointer none,iV 28]))\/∃R rb tag',a=some (some R)/\Gk g R/\e= .returned (.tuple #[aB rb,iV 0])/\w.heap.size<=rb/\(∀k,k<w.heap.size->tag' k=tag k)/\RG i w' tag' rb g R (fun _ _=>0) (fun _=>[]) (fun _=>[]) (fun _ _=>0) (fun _=>[]) []):=by
 obtain⟨h1,a,ha,hr⟩:=h;refine⟨h1,a,ha, ?_⟩;rcases hr with hr|hr|⟨R,rb,t,rfl,rfl,h2,h3,h4,h5⟩
 ·exact .inl hr
 ·exact .inr (.inl hr)
 ·have hk:=Gk.of ha ok gp;have hn:=hk.n;refine .inr (.inr ⟨R,rb,Zb w tag i (aW g.nodes) t,rfl,hk,rfl,h2,fun k hk=>rG hk,h5.retag fun k e=>BL hk.n (fun k hk e=> ?_) k e,Ev.init _ _ _, ?_,by simp⟩)
  ·rw[h3 k hk]at e;omega
  ·have:∀l:List Nat,sN (fun _=>([]:List ai).length) l=0:=fun l=>by
     rw[wQ];simp
   rw[this];exact zL _
def PL(N:Nat)(F:Nat->List ai)(p:Int):List ai:=if 0<=p/\p<(N:Int)then F p.toNat else[]
theorem Io(hp:p<N)(F:Nat->List ai):PL N F (p:Int)=F p:=by
 unfold PL;rw[if_pos (by omega),tN]
theorem RG.front(h:RG i w tag rb g R c K O C F U)(hk:Gk g R)(p:Int):
    CL 12 #[aB rb,iV p] w fun e w'=>∃v,e= .returned v/\w'.ownsRow w.heap.size 45 3 v (PL (aW g.nodes) F p).length (eQ (PL (aW g.nodes) F p))/\Bw w w':=by
 obtain⟨sv,rv,ov,cv,uv,os,ms,h1,h2,h3⟩:=h.q;have hn:=hk.n;obtain⟨nm,hnm⟩:∃nm:Nat->Nat,∀p mb,ms[p]? =some mb->Ml w (loc i tag) (3+p) mb (nm p) (C p) (F p):=by
  have hx:∀p,∃n,∀mb,ms[p]? =some mb->Ml w (loc i tag) (3+p) mb n (C p) (F p):=fun p=>by
   cases e:ms[p]? with
   | none => exact⟨0,fun mb hm=>by cases hm⟩
   | some m=>
    obtain⟨n,hn⟩:=h3 p m e;exact⟨n,fun mb hm=>by cases hm;exact hn⟩
  exact Classical.axiomOfChoice hx
 have key:=tH (nc:=nm) (tag:=fun k=>if loc i tag k=2 then 0 else loc i tag k) p w (h1.rd (fun k e=>by rw[if_neg (by omega),e]) (fun k e=>by rw[if_pos e])) h1.ow.1 (by rw[h1.ol,h1.ml]) (fun q mb hq=>(hnm q mb hq).retag fun k e=>by rw[if_neg (by omega),e]) (fun q hq=>by have:=h.fK hk (p:=q) (by rw[<-h1.ml];exact hq);omega);have e:KY ms F p=PL (aW g.nodes) F p:=by unfold KY PL;rw[h1.ml]
 rw[e]at key;exact key
theorem RG.open(h:RG i w tag rb g R c K O C F U)(hk:Gk g R)(p:Int)(u:ai):
    CL 16 #[aB rb,iV p, .agg #[uV u.1.1,uV u.1.2.1,uV u.1.2.2]] w fun e w'=>e= .returned (.bool (bH aC (PL (aW g.nodes) F p) u))/\Bw w w':=by
 obtain⟨sv,rv,ov,cv,uv,os,ms,h1,h2,h3⟩:=h.q;have key:=xn p u w h1 h3 (fun q hq=>by have:=h.fK hk hq;omega);have e:KY ms F p=PL (aW g.nodes) F p:=by unfold KY PL;rw[h1.ml]
 rw[e]at key;exact key
theorem RG.counts(h:RG i w tag rb g R c K O C F U)(hk:Gk g R):
    CL 13 #[aB rb] w fun e w'=>∃p n q X,e= .returned (.slice p n q)/\Hid ((∀p,p<aW g.nodes->Nz c p (X p))/\w'.ownsRow w.heap.size 49 5 (.slice p n q) (lN c X (aW g.nodes)).length (fl EC (lN c X (aW g.nodes)))/\Bw w w'):=by
 obtain⟨sv,rv,ov,cv,uv,os,ms,h1,h2,h3⟩:=h.q;exact Iz w h1 h2 hk.n (fun p u hp=>h.ev.kp p u hp) (fun p hp=>by have:=(h.oK hp).2;omega)
theorem RG.turns(h:RG i w tag rb g R c K O C F U):CL 19 #[aB rb] w fun e w'=>∃p n q,e= .returned (.slice p n q)/\Hid (w'.ownsRow w.heap.size 49 5 (.slice p n q) U.length (fl EC U)/\Bw w w'):=by
 obtain⟨sv,rv,ov,cv,uv,os,ms,h1,h2,h3⟩:=h.q;exact zo w h1 h.ul
theorem RG.count(h:RG i w tag rb g R c K O C F U)(p:Int)(u:ai):CL 36 #[aB rb, .agg #[iV p,uV u.1.1,uV u.1.2.1,uV u.1.2.2]] w fun e w'=>e= .returned (iV (if 0<=p/\p<(aW g.nodes:Int)then c p.toNat u else 0))/\Gr w w':=by
 obtain⟨sv,rv,ov,cv,uv,os,ms,h1,h2,h3⟩:=h.q;have key:=dV p u w h1.blk h1.ow.1 (fun q m hq=>by
  obtain⟨tb,b,cb,v,k1,_⟩:=h2 q m hq;exact⟨tb,b,cb,_,v,_,k1⟩) (C:=c)
 unfold CZ at key;rw[h1.ol]at key;exact key
end
end Rc
namespace Lf.Rb
open Go.RowKit Go.Sort Pt
open Df (hid dN bG ou ib aW rZ iq ic LV EL aD bz aH aJ aa ae aP eX Gm jv)
attribute[local go_sem ↓]wp_at_zero wp_at_succ
def Yx{α:Type}(E:El α)(B M:Nat)(w:World)(v:Value)(l:List α):Prop:=Ls E w v l/\∀k,v.ownBlock=some k->B<=k/\k<M
theorem Yx.kp{E:El α}{l:List α}(h:Yx E B M w v l)(hk:Kp S w w')(hS:∀k,B<=k->k<M->¬S k):Yx E B M w' v l:=⟨hk.ls h.1 fun k e=>hS k (h.2 k e).1 (h.2 k e).2,h.2⟩
theorem BK{E:El α}{T:TypeId}{l:List α}(hB:B0<=B)(h:w.ownsRow B T E.k v l.length (fl E l)):Yx E B0 w.heap.size w v l:=⟨aK h,fun k hk=>⟨nT hB (h.lt k hk).1,(h.lt k hk).2⟩⟩
def Vm(B M:Nat)(w:World)(v:Value)(n:Nat)(R:Nat->Nat->List ai):Prop:=∃us:List LV,Yx EL B M w v us/\us.length=n/\∀(p:Nat) (u:LV),us[p]? =some u->∃vs:List LV,Yx EL B M w u.v vs/\vs.length=n/\∀(q:Nat) (x:LV),vs[q]? =some x->Yx ET B M w x.v (R p q)
theorem Vm.kp{n:Nat}{R:Nat->Nat->List ai}(h:Vm B M w v n R)(hk:Kp S w w')(hS:∀k,B<=k->k<M->¬S k):Vm B M w' v n R:=by
 obtain⟨us,h1,h2,h3⟩:=h;refine⟨us,h1.kp hk hS,h2,fun p u hu=> ?_⟩;obtain⟨vs,a1,a2,a3⟩:=h3 p u hu;exact⟨vs,a1.kp hk hS,a2,fun q x hx=>(a3 q x hx).kp hk hS⟩
theorem Vm.tq{n:Nat}{R:Nat->Nat->List ai}(h:Vm B M w v n R):Tq M w v n R:=by
 obtain⟨us,h1,h2,h3⟩:=h;refine⟨us,⟨h1.1,fun k e=>(h1.2 k e).2⟩,h2,fun p u hu=> ?_⟩;obtain⟨vs,a1,a2,a3⟩:=h3 p u hu;exact⟨vs,⟨a1.1,fun k e=>(a1.2 k e).2⟩,a2,fun q x hx=>⟨(a3 q x hx).1,fun k e=>((a3 q x hx).2 k e).2⟩⟩
theorem VM{n:Nat}{us:List LV}{R:Nat->Nat->List ai}(hB:B0<=B)(h:T3 B w v us n R)(hn:us.length=n):Vm B0 w.heap.size w v n R:=by
 refine⟨us,BK (E:=EL) hB h.row,hn,fun p u hu=> ?_⟩;obtain⟨vs,a1,a2,a3⟩:=h.each p u hu;exact⟨vs,BK (E:=EL) hB (by rw[a2];exact a1),a2,fun q x hx=>BK (E:=ET) hB (a3 q x hx)⟩
def LU(B M:Nat)(w:World)(tb n:Nat)(R:Nat->Nat->List ai):Prop:=∃v,w.heap[tb]? =some (.cells #[v] 105 (0,0))/\B<=tb/\tb<M/\Vm B M w v n R
theorem LU.kp{n:Nat}{R:Nat->Nat->List ai}(h:LU B M w tb n R)(hk:Kp S w w')(hS:∀k,B<=k->k<M->¬S k):LU B M w' tb n R:=by
 obtain⟨v,h1,h2,h3,h4⟩:=h;exact⟨v,(hk.block _ (ae h1) (hS tb h2 h3)).trans h1,h2,h3,h4.kp hk hS⟩
theorem LU.tv{n:Nat}{R:Nat->Nat->List ai}(h:LU B M w tb n R):Tv M w (aB tb) n R:=by
 obtain⟨v,h1,_,h3,h4⟩:=h;exact Or.inr ⟨tb,rfl,v,h1,h3,h4.tq⟩
def Uw(w:World)(g:bG)(e:Ending)(w':World):Prop:=Bw w w'/\∃a,FN g a/\((a=none/\e= .returned (.tuple #[.pointer none,iV 27]))\/(a=some none/\e= .returned (.tuple #[.pointer none,iV 28]))\/∃R tb,a=some (some R)/\e= .returned (.tuple #[aB tb,iV 0])/\LU w.heap.size w'.heap.size w' tb (aW g.nodes) R)
theorem dI{gb:Nat}{g:bG}(w:World)(h:Gm B w gb g)(ku:ic g)(hP:uM g):CL 33 #[aB gb] w (Uw w g):=by
 have xK:=jv w h ku;have HM:Hid (∀W,Bw w W->Gm B W gb g):=fun W hb=>h.below hb;have iP:=hid ku;have YE:=hid hP;have hpl:=Df.nu ku;clear h ku hP;go_enter Tryz.func33,Tryz.ntmps33;go_wp2_with fail;refine xK.mono ?_;clear xK;rintro r w1 ⟨hb1,hr⟩;rcases hr with⟨hno,rfl⟩|⟨o,f,d,hso,rfl,_⟩
 ·have FIN:Hid (Uw w g (.returned (.tuple #[.pointer none,iV 27])) w1):=⟨hb1,none, .cyc hno,Or.inl ⟨rfl,rfl⟩⟩;go_wp2;refine bR (v:= .tuple #[.pointer none,iV 27]) (by simp[results,Tryz.results33,go_sem]) rfl ?_;exact FIN.o
 ·have UB:Hid (eX (iq g).length (iq g) (iq g).length≠none):=fun e=>by rw[hso]at e;cases e
  clear hso;have hst:=dD w1 (HM.o w1 hb1) iP.o YE.o;have HB1:=hid hb1;clear hb1;go_wp2_with fail;refine hst.mono ?_;clear hst;rintro r w2 ⟨gs,vs,rfl,hb2,hvl,hfw⟩;obtain⟨n,hn⟩:=aF (aW g.nodes);rw[<-hn]at hfw hvl hpl⊢;have HN:=hid hn;have J8:Hid (Sp w2 (sO gs n n) (Gl n (vz g))):=by
   have h1:=hfw.sp;rw[hvl]at h1;exact h1
  have HB2:=hid (HB1.o.trans (hb2.mono HB1.o.size));clear hb2 hfw hvl hn HB1;obtain⟨tb,htb⟩:=aF (w2.heap.size);obtain⟨W3,hW3⟩:=aF (w2.alloc (.cells #[.slice none 0 0] 105));have P3:Hid (Bw w2 W3/\W3.heap[tb]? =some (.cells #[.slice none 0 0] 105 (0,0))/\w2.heap.size<=tb):=by
   rw[hW3,htb];exact⟨((Gr.refl w2).alloc _).below,ah _ _,nR _⟩
  have HW3:Hid (w2.alloc (.cells #[.slice none 0 0] 105)=W3/\w2.heap.size=tb):=⟨hW3.symm,htb.symm⟩;clear hW3 htb;go_upto_region 6 with fail;rw[HW3.o.1,HW3.o.2];clear HW3;go_wp2_with fail;go_loopw [8,9,10,25] (fun _ _ _ V8 wr=>∃(i:Nat) (v:Value) (us:List LV) (R:Nat->Nat->List ai),i<=n/\V8=iV i/\Hid (us.length=i/\Bw w2 wr/\wr.heap[tb]? =some (.cells #[v] 105 (0,0))/\T3 w2.heap.size wr v us n R/\∀p,p<i->r9 PX (uX g) p (some (R p)))) (fun _ _ _ V8 _=>n-(intOf V8).toNat);case atStart=>exact⟨0,_,[],fun _ _=>[],zL _,rfl,rfl,P3.o.1,P3.o.2.1,T3.nil _ _ _ _,fun p hp=>absurd hp (nW _)⟩
  case round=>
   obtain⟨i,v,us,R,hi,rfl,HI⟩:=hrel;by_cases hlt:i<n
   ·have hltz:(i:Int)<(n:Int):=(by omega);have hi0:(0:Int)<=(i:Int):=(by omega);have hlf:=pW i n 432 (sO gs n n) (Gl n (vz g)) wr (J8.o.below HI.o.2.1) (jO _ _) hlt (by
     have h:=M5 iP.o (l:=vz g) (fun c hc=>kZ.1 hc);rw[<-HN.o]at h;rw[jO]at h;exact h) (M6 (Bd iP.o)) (by
     have:64*n*(432+1)<=64*192*(432+1):=Nat.mul_le_mul (Nat.mul_le_mul (nR _) hpl) (nR _);omega)
    go_wp2_with fail;refine hlf.mono ?_;clear hlf;rintro r w5 ⟨hb5,a,hres,hcase⟩;have IY:Hid (r9 PX (uX g) i a):=by
     rw[HN.o,Dw]at hres;exact hres
    clear hres;rcases hcase with⟨rfl,rfl⟩|⟨rows,v5,vs5,rfl,rfl,Ht⟩
    ·have FIN:Hid (Uw w g (.returned (.tuple #[.pointer none,iV 28])) w5):=⟨HB2.o.trans ((HI.o.2.1.trans (hb5.mono HI.o.2.1.size)).mono HB2.o.size),some none, .wide UB.o i (by rw[<-HN.o];exact hlt) IY.o,Or.inr (Or.inl ⟨rfl,rfl⟩)⟩;clear hb5;go_wp2;refine bR (v:= .tuple #[.pointer none,iV 28]) (by simp[results,Tryz.results33,go_sem]) rfl ?_;exact FIN.o
    ·have hrw:CQ wr.heap.size w5 v5 n rows:=by
       rw[jO]at Ht;exact Ht.rw2
     obtain⟨u,hu⟩:∃u:LV,u.v=v5:=by
      obtain⟨vs,h1,_⟩:=hrw;obtain⟨q,m,c,e⟩:=aD h1;exact⟨⟨q,m,c⟩,e.symm⟩
     subst hu;clear Ht;have hbx:=(hb5.block _ (ae HI.o.2.2.1)).trans HI.o.2.2.1;have cx:=(aa hbx).1;have lx:=ae hbx;have HT5:=hid (HI.o.2.2.2.1.below hb5);have tZ:Hid (CQ w2.heap.size w5 u.v n rows/\w5.heap[tb]? =some (.cells #[v] 105 (0,0))/\Bw w2 w5):=⟨hrw.base HI.o.2.1.size,hbx,HI.o.2.1.trans (hb5.mono HI.o.2.1.size)⟩;have HOW:Hid (w5.ownsRow w2.heap.size 143 1 v i (fl EL us)):=aV HT5.o.row HI.o.1 rfl;have U2:w2.heap.size<=w5.heap.size:=tZ.o.2.2.size;obtain⟨uq,um,uc⟩:=u;clear hrw hbx hb5;go_wp2_with (at_builtin;refine gB EL Tryz.underlying103 JH rfl (by decide) rfl _ _ rfl w2.heap.size _ i _ rfl HOW.o ⟨uq,um,uc⟩ rfl (by omega) (by unfold maxLen;omega) U2 _ rfl _ ?_);intro g6 c6 w6 qG nQ En;have XG:Kp (fun k=>v.ownBlock=some k) w5 w6:=Kp.grownBy nQ (fun _ h=>h);have sW:w6.heap[tb]? =some (.cells #[v] 105 (0,0)):=(XG.block _ (ae tZ.o.2.1) (fun e=>aJ HOW.o tZ.o.2.1 (by decide) tb e rfl)).trans tZ.o.2.1;have Q4:Hid (T3 w2.heap.size w6 (sO g6 (i+1) c6) (us++[⟨uq,um,uc⟩]) n (fun p=>if p=i then rows else R p)):=by
      have e:=HI.o.1;have h1:=HT5.o.app (g:=g6) (cap:=c6) (w1:=w6) tZ.o.1 (by rw[e];exact qG) nQ;rw[e]at h1;exact h1
     have FC:Hid (Bw w2 w6):=tZ.o.2.2.trans (XG.below tZ.o.2.2.size (fun k hk=>(HOW.o.lt k hk).1));have cx6:=(aa sW).1;have fx6:=(aa sW).2;have lx6:=ae sW;obtain⟨b7,k7⟩:=aP sW 0 (sO g6 (i+1) c6);have P7:Hid ((w6.setCell ⟨tb,0,none⟩ (sO g6 (i+1) c6)).heap[tb]? =some (.cells #[sO g6 (i+1) c6] 105 (0,0))/\Bw w2 (w6.setCell ⟨tb,0,none⟩ (sO g6 (i+1) c6))/\T3 w2.heap.size (w6.setCell ⟨tb,0,none⟩ (sO g6 (i+1) c6)) (sO g6 (i+1) c6) (us++[⟨uq,um,uc⟩]) n (fun p=>if p=i then rows else R p)):=⟨b7,FC.o.trans (k7.below FC.o.size (fun k hk=>by rw[hk];exact P3.o.2.2)),Q4.o.block sW (by decide) (by decide) (by decide) k7⟩;clear b7 k7 sW qG nQ En XG cx lx;go_wp2_with fail;go_roundw;case rel=>
      refine⟨i+1,_,us++[⟨uq,um,uc⟩],fun p=>if p=i then rows else R p,by omega,by first|rfl|go_num,by rw[dQ,HI.o.1];rfl,P7.o.2.1,P7.o.1,P7.o.2.2,fun p hp=> ?_⟩
      by_cases e:p=i
      ·subst e;simp only[if_true];exact IY.o
      ·simp only[if_neg e];exact HI.o.2.2.2.2 p (by omega)
     case measure=>simp[intOf];omega
   ·have hltz:¬(i:Int)<(n:Int):=(by omega);have hie:i=n:=(by omega);subst hie;have FIN:Hid (Uw w g (.returned (.tuple #[aB tb,iV 0])) wr):=⟨HB2.o.trans (HI.o.2.1.mono HB2.o.size),some (some R), .tab R UB.o (by rw[<-HN.o];exact HI.o.2.2.2.2),Or.inr (Or.inr ⟨R,tb,rfl,rfl,by
     rw[<-HN.o];exact⟨v,HI.o.2.2.1,nT HB2.o.size P3.o.2.2,ae HI.o.2.2.1,VM HB2.o.size HI.o.2.2.2.1 HI.o.1⟩⟩)⟩
    go_wp2;refine bR (v:= .tuple #[aB tb,iV 0]) (by simp[results,Tryz.results33,go_sem]) rfl ?_;exact FIN.o
end Lf.Rb
namespace Rc
open Go.RowKit Go.Sort Go.Maps Pt Hc
open Lf (FN uM)
open Lf.Rb (LU Vm)
open Df (aW GR NV dR jW jg yC)
attribute[local go_sem ↓]wp_at_zero wp_at_succ
theorem MO{n:Nat}{R R':Nat->Nat->List ai}(h:LU B M w tb n R)(hs:∀p,p<n->R p=R' p):LU B M w tb n R':=by
 obtain⟨v,h1,h2,h3,us,h4,h5,h6⟩:=h;refine⟨v,h1,h2,h3,us,h4,h5,fun p u hu=> ?_⟩;obtain⟨vs,a1,a2,a3⟩:=h6 p u hu;have hp:p<n:=by
  have:=(lG.1 hu).1;omega
 exact⟨vs,a1,a2,fun q x hx=>by rw[<-hs p hp];exact a3 q x hx⟩
def FsR(w:World)(tag:Nat->Nat)(i:Nat)(g:Df.bG)(e:Ending)(w':World):Prop:=
 Bw w w'/\(e= .returned (.tuple #[.pointer none, .pointer none, .bool true])\/∃R rb tb tag' B M,Gk g R/\e= .returned (.tuple #[aB rb,aB tb, .bool true])/\(∀k,k<w.heap.size->tag' k=tag k)/\(∀k,B<=k->k<M->tag' k=0)/\w.heap.size<=B/\M<=w'.heap.size/\RG i w' tag' rb g R (fun _ _=>0) (fun _=>[]) (fun _=>[]) (fun _ _=>0) (fun _=>[]) []/\LU B M w' tb (aW g.nodes) R)
theorem KX{M0:Nat}{nv ev:Value}{a:Int}{xs:List NV}{es:List dR}(w:World)(hG:GR M0 w nv ev xs es)(hC:yC ev xs)(hP:uM (jW a xs es))(i:Nat)(tag:Nat->Nat):CL 7 #[.agg (jg a nv ev)] w fun e w'=>Hid (FsR w tag i (jW a xs es) e w'):=by
 obtain⟨xb,hxb⟩:=aF (w.heap.size);obtain⟨W0,hW0⟩:=aF (w.alloc (.cells (jg a nv ev) 25));have P0:Hid (Bw w W0/\W0.heap[xb]? =some (.cells (jg a nv ev) 25 (0,0))):=by
  rw[hW0,hxb];exact⟨((Gr.refl w).alloc _).below,ah _ _⟩
 have hnw:=Df.dI (a:=a) W0 (hG.below P0.o.1) hC;have HW0:Hid (w.alloc (.cells (jg a nv ev) 25)=W0/\w.heap.size=xb):=⟨hW0.symm,hxb.symm⟩;have c0:=(aa P0.o.2).1;have l0:=ae P0.o.2;have HP:=hid hP;clear hG hC hW0 hxb hP;obtain⟨g,hg⟩:=aF (jW a xs es);rw[<-hg]at hnw HP⊢;clear hg;have FNO:Hid (∀W,Bw w W->FsR w tag i g (.returned (.tuple #[.pointer none, .pointer none, .bool true])) W):=fun W h=>⟨h, .inl rfl⟩;go_enter Tryz.func7,Tryz.ntmps7;go_upto_region 1 with fail;rw[HW0.o.1,HW0.o.2];clear HW0;go_wp2_with fail;refine hnw.mono ?_;clear hnw c0 l0;rintro r w1 ⟨hb1,e,t,hfl,hr⟩;have B1:Hid (Bw w w1):=P0.o.1.trans (hb1.mono P0.o.1.size);rcases hr with⟨hne,rfl⟩|⟨rfl,gb,rfl,hgm⟩
 ·clear hfl hb1;go_wp2_with fail;refine bR (v:= .tuple #[.pointer none, .pointer none, .bool true]) (by simp[results,Tryz.results7,go_sem]) rfl ?_;exact FNO.o _ B1.o
 ·have iP:=hid (hfl.ok.1 rfl);have HRN:=hid (dI w1 hgm iP.o HP.o);have HGM:=hid hgm;clear hfl hb1 hgm;go_wp2_with fail;refine HRN.o.mono ?_;clear HRN;rintro r w2 h2;obtain⟨b2,a2,ha2,hr⟩:=h2.o.rg iP.o HP.o i tag;have B2:Hid (Bw w w2):=B1.o.trans (b2.mono B1.o.size);have Zr:=hid (Lf.Rb.dI w2 (HGM.o.below b2) iP.o HP.o);have H2:=hid (show w1.heap.size<=w2.heap.size/\w.heap.size<=w1.heap.size from⟨b2.size,B1.o.size⟩);clear h2 b2 HGM;rcases hr with⟨rfl,rfl⟩|⟨rfl,rfl⟩|⟨R,rb,RH,rfl,hk,rfl,hrb,hold,hrg⟩
  ·go_wp2_with fail;refine Zr.o.mono ?_;clear Zr;rintro r w3 ⟨b3,a3,Ih,hr3⟩;have B3:Hid (Bw w w3):=B2.o.trans (b3.mono B2.o.size);rcases hr3 with⟨rfl,rfl⟩|⟨rfl,rfl⟩|⟨R3,tb,rfl,rfl,htp⟩
   ·clear b3 ha2 Ih;go_wp2_with fail;refine bR (v:= .tuple #[.pointer none, .pointer none, .bool true]) (by simp[results,Tryz.results7,go_sem]) rfl ?_;exact FNO.o _ B3.o
   ·rcases ha2.same Ih with⟨_,k⟩|⟨k,_⟩|⟨_,_,k,_⟩<;>cases k
   ·rcases ha2.same Ih with⟨_,k⟩|⟨k,_⟩|⟨_,_,k,_⟩<;>cases k
  ·go_wp2_with fail;refine Zr.o.mono ?_;clear Zr;rintro r w3 ⟨b3,a3,Ih,hr3⟩;have B3:Hid (Bw w w3):=B2.o.trans (b3.mono B2.o.size);rcases hr3 with⟨rfl,rfl⟩|⟨rfl,rfl⟩|⟨R3,tb,rfl,rfl,htp⟩
   ·rcases ha2.same Ih with⟨k,_⟩|⟨_,k⟩|⟨_,_,k,_⟩<;>cases k
   ·clear b3 ha2 Ih;go_wp2_with fail;refine bR (v:= .tuple #[.pointer none, .pointer none, .bool true]) (by simp[results,Tryz.results7,go_sem]) rfl ?_;exact FNO.o _ B3.o
   ·rcases ha2.same Ih with⟨k,_⟩|⟨_,k⟩|⟨_,_,k,_⟩<;>cases k
  ·have HK:=hid hk;have HRG:=hid hrg;have HOLD:=hid hold;have HA:=hid ha2;clear hk hrg hold ha2 hrb;go_wp2_with fail;refine Zr.o.mono ?_;clear Zr;rintro r w3 ⟨b3,a3,Ih,hr3⟩;have B3:Hid (Bw w w3):=B2.o.trans (b3.mono B2.o.size);rcases hr3 with⟨rfl,rfl⟩|⟨rfl,rfl⟩|⟨R3,tb,rfl,rfl,htp⟩
   ·rcases HA.o.same Ih with⟨k,_⟩|⟨k,_⟩|⟨_,_,k,k2,_⟩
    ·cases k
    ·cases k
    ·cases k2
   ·rcases HA.o.same Ih with⟨k,_⟩|⟨k,_⟩|⟨_,_,k,k2,_⟩
    ·cases k
    ·cases k
    ·cases k2
   ·have hs:∀p,p<aW g.nodes->R3 p=R p:=by
      rcases HA.o.same Ih with⟨k,_⟩|⟨k,_⟩|⟨R1,R2,k,k2,k3⟩
      ·cases k
      ·cases k
      ·cases k;cases k2;exact fun p hp=>(k3 p hp).symm
    have FIN:Hid (FsR w tag i g (.returned (.tuple #[aB rb,aB tb, .bool true])) w3):=by
     refine⟨B3.o, .inr ⟨R,rb,tb,tg RH w2 0,w2.heap.size,w3.heap.size,HK.o,rfl,fun k hk=> ?_,fun k h1 _=>aU (by omega), ?_,nR _,HRG.o.below HK.o b3 (fun k hk=>au hk),MO htp hs⟩⟩
     ·rw[au (by have:=H2.o;omega)];exact HOLD.o k (by have:=H2.o;omega)
     ·have:=H2.o;omega
    clear b3 Ih htp hs;go_wp2_with fail;refine bR (v:= .tuple #[aB rb,aB tb, .bool true]) (by simp[results,Tryz.results7,go_sem]) rfl ?_;exact FIN.o
end Rc
end Go.Proofs.YtiiefcalkjeieaaGreat
