import Derived.Test.YtiiefcalkjeieaaGreatRcAp
variable{v:Go.Value}{α:Type}{k i p n q N B M tb:Nat}{w W W0:Go.World}
namespace Go.Proofs.YtiiefcalkjeieaaGreat
namespace Rc
open Go.RowKit Go.Sort Go.Maps Pt Hc
open Df (aW)
attribute[local go_sem ↓]wp_at_zero wp_at_succ
end Rc
namespace Rc
open Go.RowKit Go.Sort Go.Maps Pt Hc
attribute[local go_sem ↓]wp_at_zero wp_at_succ
end Rc
namespace Rc
open Go.RowKit Go.Sort Go.Maps Pt Hc
open Df (aW)
open Tt (dW dK)
def mP(ds:List Dl)(t:Tm):Int:=(ds.map fun d=>if d.1=t then d.2 else 0).sum
theorem D9(t:Tm):mP [] t=0:=rfl
theorem Ae(d:Dl)(ds:List Dl)(t:Tm):mP (d::ds) t=(if d.1=t then d.2 else 0)+mP ds t:=by simp[mP]
theorem Ea(a b:List Dl)(t:Tm):mP (a++b) t=mP a t+mP b t:=by simp[mP]
def Lo9(ds:List Dl):Prop:=∀d∈ds,-999<=d.2/\d.2<=999
theorem BQ{ds:List Dl}(h:Lo9 ds)(t:Tm): -(999*(ds.length:Int))<=mP ds t/\mP ds t<=999*(ds.length:Int):=by
 induction ds with
 | nil => simp[D9]
 | cons d ds ih=>
  have h1:=ih (fun e he=>h e (mO _ he));have h2:=h d (by simp);rw[Ae,lC];split<;>omega
theorem RS(ds:List Dl)(h:Lo9 ds)(g:Tm->Int)(hg:∀t,-1000000000000+999*(ds.length:Int)<=g t/\g t<=1000000000000-999*(ds.length:Int))(t:Tm):
    ds.foldl (fun g d=>upd g d.1 (wrap64 (g d.1+d.2))) g t=g t+mP ds t:=by
 induction ds generalizing g with
 | nil => simp[D9]
 | cons d ds ih=>
  have h2:=h d (by simp);have h3:wrap64 (g d.1+d.2)=g d.1+d.2:=by
   have:=hg d.1;simp only[lC]at this;unfold wrap64;omega
  rw[List.foldl_cons,ih (fun e he=>h e (mO _ he)),Ae,h3]
  ·unfold upd;by_cases e:t=d.1
   ·rw[if_pos e,if_pos e.symm,e];omega
   ·rw[if_neg e,if_neg (fun e'=>e e'.symm)];omega
  ·intro s;rw[h3];have h4:=hg s;have h5:=hg d.1;simp only[lC]at h4 h5;unfold upd;split<;>omega
theorem zR{f:Tm->Int}{ds:List Dl}(h:Lo9 ds)(hl:ds.length<=1000000)(hf:∀t,-1000000000000<=f t/\f t<=1000000000000):bS f ds=fun t=>mP ds t+f t:=by
 funext t
 have e:YtiiefcalkjeieaaGreat.sm ds t=mP ds t:=by
  unfold YtiiefcalkjeieaaGreat.sm;rw[RS ds h _ (fun s=>by omega)];omega
 unfold bS;rw[e];have h1:=BQ h t;have h2:=hf t;unfold wrap64;omega
theorem LK{f:Tm->Int}{ds:List Dl}(h:Lo9 ds)(hl:ds.length<=1000000)(hf:∀t,-1000000000<=f t/\f t<=1000000000):bad f ds=false:=by
 unfold bad;rw[zR h hl (fun t=>by have:=hf t;omega),Bool.or_eq_false_iff,List.any_eq_false,List.any_eq_false];refine⟨fun d hd=> ?_,fun d hd=> ?_⟩
 ·have:=h d hd;rw[dK.2 (by omega)];simp
 ·have h1:=BQ h d.1;have h2:=hf d.1;have h3:dW (mP ds d.1+f d.1)=false:=dK.2 (by omega);show ¬dW (mP ds d.1+f d.1)=true;rw[h3];simp
def cI(m:List Th)(p:Nat)(t:ai):Int:=mP (prt m p) t
def Yy(m:List Th):Prop:=∀x∈m,-999<=x.2.2/\x.2.2<=999
theorem Gy{m:List Th}(h:Yy m)(p:Nat):Lo9 (prt m p):=fun d hd=>by
 unfold prt at hd;obtain⟨x,hx,rfl⟩:=mM.1 hd;exact h x (mF.1 hx).1
theorem Yk(a b:List Th):cI (a++b)=fun p t=>cI a p t+cI b p t:=by
 funext p t
 unfold cI;rw[Jo,Ea]
theorem Vh{m:List Th}(h:Yy m)(hl:m.length<=200)(p:Nat)(t:ai): -1000000<=cI m p t/\cI m p t<=1000000:=by
 have h1:=BQ (Gy h p) t;have h2:=qX m p;unfold cI;omega
theorem Yc{m l:List Th}(hm:Yy m)(rC:m.length<=200)(hl:Yy l)(hll:l.length<=200):lW (cI m) l=cI (m++l):=by
 funext p
 unfold lW;rw[zR (Gy hl p) (by have:=qX l p;omega) (fun t=>by have:=Vh hm rC p t;omega),Yk]
 funext t
 show mP (prt l p) t+cI m p t=cI m p t+mP (prt l p) t;omega
theorem A8{g:Df.bG}{l:List Th}(h:∀x∈l,CO g x):Yy l:=fun x hx=>(h x hx).2
theorem ab3{g:Df.bG}{m l:List Th}(hm:Yy m)(rC:m.length<=200)(h:∀x∈l,CO g x)(hll:l.length<=200):iO (aW g.nodes) g.arity (cI m) l=0:=by
 have h1:∀x∈l,Vp (aW g.nodes) x/\bN x.2.1.1.1 x.2.1.1.2.1 x.2.1.1.2.2 g.arity=0:=fun x hx=>Ey (h x hx).1 x (by simp);have h2:=Ez h1;have h3:CY (cI m) l=true:=(Jr fun x hx=>(h1 x hx).1).2 fun p _=>LK (Gy (A8 h) p) (by have:=qX l p;omega) fun t=>by have:=Vh hm rC p t;omega
 unfold iO;rw[if_neg (by rw[h2];simp),if_pos h3]
theorem RG.fS{tag:Nat->Nat}{rb:Nat}{g:Df.bG}{R:Nat->Nat->List ai}{c:Nat->ai->Int}{K O:Nat->List ai}{C:Nat->ai->Int}{F:Nat->List ai}{U:List Th}(h:RG i w tag rb g R c K O C F U)(hk:Gk g R){S:Nat}(hS:sN (fun p=>(K p).length) (List.range (aW g.nodes))<=S)(hp:p<aW g.nodes):(F p).length<=64*S:=by
 have h1:=hk.tbl.short (O:=O) (h.ev.JQ p hp);have h2:=h.ev.RJ hS;omega
theorem Qd{c:Nat->ai->Int}{X:Nat->List ai}(e:∀p,p<N->c p=fun _=>0)(hX:∀p,p<N->Nz c p (X p)):lN c X N=[]:=by
 have:∀p,p<N->X p=[]:=fun p hp=>List.eq_nil_iff_forall_not_mem.2 fun t ht=>by
  have:=((hX p hp).mem t).1 ht;rw[e p hp]at this;exact this rfl
 rw[tT (Y:=fun _=>[]) this];unfold lN;simp
end Rc
namespace Rc
open Go.RowKit Go.Sort Go.Maps Pt Hc
open Lf (bt)
open Df (aW)
theorem Gk.same{g:Df.bG}{R R':Nat->Nat->List ai}(h:Gk g R)(k:Gk g R')(hp:p<aW g.nodes):R p=R' p:=oJ (r9.same bL (h.res p hp) (k.res p hp))
section
variable {n:Nat} {R R':Nat->Nat->List ai}
theorem aaU(hs:∀p,p<n->R p=R' p)(p q:Int):bt n R p q=bt n R' p q:=by
 unfold bt;split
 ·rename_i h;rw[hs _ (by omega)]
 ·rfl
theorem Wl(hs:∀p,p<n->R p=R' p):sJ n R=sJ n R':=by
 have e:uu n R=uu n R':=by
  funext r p
  unfold uu Lf.LF;rw[aaU hs]
 unfold sJ;rw[e]
theorem NI(hs:∀p,p<n->R p=R' p)(O:Nat->List ai)(p:Nat):kH n R O p=kH n R' O p:=by
 unfold kH;have key:∀l:List Nat,(∀q∈l,q<n)->(l.flatMap fun q=>(O q).flatMap fun u=>(R q p).filterMap fun a=>bJ a u)=l.flatMap fun q=>(O q).flatMap fun u=>(R' q p).filterMap fun a=>bJ a u:=fun l hl=>by
  induction l with
  | nil => rfl
  | cons q l ih => rw[Ri,Ri,ih fun x hx=>hl x (mO _ hx),hs q (hl q (by simp))]
 exact key _ fun q hq=>mR.1 hq
end
def RI(i:Nat)(w:World)(tag:Nat->Nat)(rb:Nat)(g:Df.bG)(R:Nat->Nat->List ai)(m:List Th)(F:Nat->List ai)(U:List Th):Prop:=∃K O C,RG i w tag rb g R (cI m) K O C F U/\sN (fun p=>(K p).length) (List.range (aW g.nodes))<=m.length
section
variable {i j:Nat} {w w':World} {tag tag':Nat->Nat} {ra rb:Nat} {g:Df.bG} {R R':Nat->Nat->List ai} {m m':List Th} {F F':Nat->List ai} {U U':List Th} {S:Nat->Prop}
theorem RI.new{C:Nat->ai->Int}{O:Nat->List ai}(h:RG i w tag rb g R' (fun _ _=>0) (fun _=>[]) O C F U)(hk:Gk g R)(hk':Gk g R'):RI i w tag rb g R [] F U:=by
 have hs:∀p,p<aW g.nodes->R' p=R p:=fun p hp=>hk'.same hk hp;refine⟨_,_,_,⟨by rw[<-Wl hs];exact h.q,⟨h.ev.yO,fun p hp=>by rw[<-NI hs];exact h.ev.JQ p hp,h.ev.own,h.ev.bd,h.ev.kp⟩,h.kt,h.ul⟩, ?_⟩;have:∀l:List Nat,sN (fun _=>([]:List ai).length) l=0:=fun l=>by
  rw[wQ];simp
 rw[this];exact zL _
theorem RI.below(h:RI i w tag rb g R m F U)(hk:Gk g R)(hb:Bw w w')(hT:∀k,k<w.heap.size->tag' k=tag k):RI i w' tag' rb g R m F U:=by
 obtain⟨K,O,C,h1,h2⟩:=h;exact⟨K,O,C,h1.below hk hb hT,h2⟩
theorem RI.keep(h:RI i w tag rb g R m F U)(hk:Gk g R)(hK:Kp (uy j tag) w w')(hij:i≠j)(hT:∀k,k<w.heap.size->tag' k=tag k):RI i w' tag' rb g R m F U:=by
 obtain⟨K,O,C,h1,h2⟩:=h;refine⟨K,O,C,h1.keep hk hK (fun k hk e=>⟨fun z=> ?_,fun e2=> ?_⟩) hT,h2⟩
 ·have:=e.1;omega
 ·unfold uy at e e2;omega
theorem RI.Z9(h:RI i w tag rb g R m F U)(hk:Gk g R)(hK:Kp S w w')(hS:∀k,k<w.heap.size->S k->tag k≠0/\¬uy i tag k)(hT:∀k,k<w.heap.size->tag' k=tag k):RI i w' tag' rb g R m F U:=by
 obtain⟨K,O,C,h1,h2⟩:=h;exact⟨K,O,C,h1.keep hk hK hS hT,h2⟩
def ChI(i:Nat)(w:World)(tag:Nat->Nat)(rb:Nat)(g:Df.bG)(R:Nat->Nat->List ai)(m:List Th)(F:Nat->List ai)(w':World):Prop:=
 ∃tag' F',(∀k,k<w.heap.size->tag' k=tag k)/\Kp (uy i tag) w w'/\RI i w' tag' rb g R m F' (MK (aW g.nodes) F F')
theorem RI.change(h:RI i w tag rb g R m F U)(hk:Gk g R)(hm:Yy m)(l:List Th)(v:Value)(hv:Ls EC w v l)(hl:∀x∈l,CO g x)(hn:m.length+l.length<=200):
    CL 10 #[aB rb,v] w fun e w'=>e= .returned (iV 0)/\Hid (ChI i w tag rb g R (m++l) F w'):=by
 obtain⟨K,O,C,h1,h2⟩:=h;refine(h1.change hk l v hv (by omega)).mono ?_;rintro e w' ⟨rfl,h3⟩;have hz:=ab3 (g:=g) hm (by omega) hl (by omega);rw[hz];refine⟨rfl, ?_⟩;obtain⟨tag',a1,a2,a3⟩:=h3.o;rcases a3 with⟨a4,_⟩|⟨_,On,Cn,Fn,a4⟩
 ·exact absurd hz a4
 ·rw[Yc hm (by omega) (A8 hl) (by omega)]at a4;refine⟨tag',Fn,a1,a2,_,On,Cn,a4, ?_⟩;have:=BO (N:=aW g.nodes) (K:=K) (l:=l);rw[dQ];omega
theorem RI.len(h:RI i w tag rb g R m F U)(hk:Gk g R)(hp:p<aW g.nodes):(F p).length<=64*m.length:=by
 obtain⟨K,O,C,h1,h2⟩:=h;exact h1.fS hk h2 hp
theorem RI.turns(h:RI i w tag rb g R m F U):CL 19 #[aB rb] w fun e w'=>∃p n q,e= .returned (.slice p n q)/\Hid (n=U.length/\w'.ownsRow w.heap.size 49 5 (.slice p n q) n (fl EC U)/\Bw w w'):=by
 obtain⟨K,O,C,h1,h2⟩:=h;refine h1.turns.mono ?_;rintro e w' ⟨p,n,q,rfl,hh⟩;obtain⟨ho,hb⟩:=hh.o;obtain⟨rfl,-⟩:=Df.bz ho _ _ _ rfl;exact⟨p,_,q,rfl,rfl,ho,hb⟩
theorem RI.none(h:RI i w tag rb g R m F U)(hk:Gk g R)(e:cI m=fun _ _=>0):CL 13 #[aB rb] w fun e w'=>∃p q,e= .returned (.slice p 0 q)/\Bw w w':=by
 obtain⟨K,O,C,h1,h2⟩:=h;refine(h1.counts hk).mono ?_;rintro e' w' ⟨p,n,q,X,rfl,hh⟩;obtain⟨a1,a2,a3⟩:=hh.o;rw[Qd (fun p _=>by rw[e]) a1]at a2;obtain⟨rfl,-⟩:=Df.bz a2 _ _ _ rfl;exact⟨p,q,rfl,a3⟩
end
end Rc
section
open Go.RowKit Go.Sort
open Df (EL LV)
def up{α:Type}(f:Nat->α)(n:Nat)(x:α)(i:Nat):α:=if i=n then x else f i
theorem mg(f:Nat->α)(n:Nat)(x:α):up f n x n=x:=if_pos rfl
theorem kC(f:Nat->α)(x:α)(h:i≠n):up f n x i=f i:=if_neg h
theorem F6(f:Nat->α)(n:Nat)(x:α):(List.range (n+1)).map (up f n x)=(List.range n).map f++[x]:=by
 rw[YW,De]
 congr 1
 ·exact List.map_congr_left fun i hi=>kC f x (by have:=mR.1 hi;omega)
 ·rw[List.map_singleton,mg]
theorem WG{cs:Array Value}{T:TypeId}{l:List LV}(h:fl EL l=cs.toList):Ls EL (w.alloc (.cells cs T)) (sO w.heap.size l.length l.length) l:=by
 refine Or.inr ⟨w.heap.size,0,l.length,rfl,by simp,fun j u hj=> ?_⟩;rw[h]at hj;have hh:=ah w (.cells cs T);rw[nZ];simp only[World.cell?,hh];simpa using hj
section
variable {α:Type} {E:El α} {e:TypeId} {W W':World} {n:Nat} {V:Nat->Value} {C:Nat->List α}
theorem kv.nil:kv E e W 0 V C:=⟨fun i hi=>by omega,fun i j hi=>by omega⟩
theorem kv.push{l:List α}(h:kv E e W n V C)(hb:Bw W W')(hv:W'.ownsRow W.heap.size e E.k v l.length (fl E l)):kv E e W' (n+1) (up V n v) (up C n l):=by
 have h':=h.below hb;have hz:∀i,i<n->∀g,(V i).ownBlock=some g->v.ownBlock≠some g:=fun i hi g hg e2=>by
  have:=h.lt hi g hg;have:=(hv.lt g e2).1;omega
 refine⟨fun i hi=> ?_,fun i j hi hj hij g hg=> ?_⟩
 ·by_cases c:i=n
  ·subst c;rw[mg,mg];exact aN hv (zL _)
  ·rw[kC V v c,kC C l c];exact h'.own i (by omega)
 ·by_cases c:i=n
  ·subst c;rw[mg]at hg;rw[kC V v (Ne.symm hij)];exact fun e2=>hz j (by omega) g e2 hg
  ·rw[kC V v c]at hg;by_cases d:j=n
   ·subst d;rw[mg];exact hz i (by omega) g hg
   ·rw[kC V v d];exact h.far i j (by omega) (by omega) hij g hg
def pV(E:El α)(e:TypeId)(b:Nat)(W:World)(n:Nat)(V:Nat->Value)(C:Nat->List α):Prop:=kv E e W n V C/\∀i,i<n->∀g,(V i).ownBlock=some g->b<=g
theorem pV.push{b:Nat}{l:List α}(h:pV E e b W n V C)(hz:b<=W.heap.size)(hb:Bw W W')(hv:W'.ownsRow W.heap.size e E.k v l.length (fl E l)):pV E e b W' (n+1) (up V n v) (up C n l):=by
 refine⟨h.1.push hb hv,fun i hi g hg=> ?_⟩;by_cases c:i=n
 ·subst c;rw[mg]at hg;exact nT hz (hv.lt g hg).1
 ·rw[kC V v c]at hg;exact h.2 i (by omega) g hg
theorem kv.to{D:Nat->List α}(h:kv E e W n V C)(hc:∀i,i<n->C i=D i):kv E e W n V D:=⟨fun i hi=>by rw[<-hc i hi];exact h.own i hi,h.far⟩
theorem kv.ls(h:kv E e W n V C)(hi:i<n):Ls E W (V i) (C i):=aK (h.own i hi)
end
end
namespace Rc
open Go.RowKit Go.Sort Go.Maps Pt Hc
open Lf.Rb (LU)
open Df (aW)
theorem XQ{V:Nat->Value}{C:Nat->List ai}(h:kv ET 45 W n V C):kv KT 45 W n V fun i=>(C i).map (·.1):=⟨fun i hi=>by rw[gQ,<-aaL];exact h.own i hi,h.far⟩
section
variable {i j:Nat} {w w' W:World} {tag t t':Nat->Nat} {rb:Nat} {g:Df.bG} {R:Nat->Nat->List ai} {m:List Th} {F:Nat->List ai} {U:List Th} {S:Nat->Prop}
theorem RI.ul(h:RI i w tag rb g R m F U):U.length<=1000000000:=by
 obtain⟨K,O,C,h1,-⟩:=h;exact h1.ul
theorem RI.copy(h:RI i w tag rb g R m F U)(hk:Gk g R)(j:Nat):CL 22 #[.pointer (some ⟨rb,0,Option.none⟩)] w fun e w'=>∃rc,e= .returned (.pointer (some ⟨rc,0,Option.none⟩))/\Hid (∃t,(∀k,k<w.heap.size->t k=tag k)/\Bw w w'/\RI i w' t rb g R m F U/\RI j w' t rc g R m F U):=by
 obtain⟨K,O,C,h1,h2⟩:=h;refine(h1.copy hk j).mono ?_;rintro e w' ⟨rc,rfl,hc⟩;obtain⟨t,a1,a2,-,a3,a4⟩:=hc.o;exact⟨rc,rfl,t,a1,a2,⟨K,O,C,a3,h2⟩,K,O,C,a4,h2⟩
theorem RI.refuse(h:RI i w tag rb g R m F U)(hk:Gk g R)(hm:m.length<=200){x:Th}(hx:x.1=(aW g.nodes:Nat))(hv:Ls EC w v [x]):CL 10 #[.pointer (some ⟨rb,0,Option.none⟩),v] w fun e w'=>e= .returned (iV 42)/\Hid (∃t,(∀k,k<w.heap.size->t k=tag k)/\Bw w w'/\RI i w' t rb g R m F U):=by
 obtain⟨K,O,C,h1,h2⟩:=h;have hc:iO (aW g.nodes) g.arity (cI m) [x]=42:=by
  have hf:gu (aW g.nodes) g.arity [x]=42:=if_pos (by omega);unfold iO;rw[hf];rfl
 refine(h1.change hk [x] v hv (by simp only[vR];omega)).mono ?_;rintro e w' ⟨rfl,h3⟩;rw[hc];refine⟨rfl, ?_⟩;obtain⟨t,a1,-,a3⟩:=h3.o;rcases a3 with⟨-,b1,b2⟩|⟨b,-⟩
 ·exact⟨t,a1,b1,K,O,C,b2,h2⟩
 ·rw[hc]at b;cases b
theorem RI.cts(h:RI i w tag rb g R m F U)(hk:Gk g R):CL 13 #[.pointer (some ⟨rb,0,Option.none⟩)] w fun e w'=>∃p n q,e= .returned (.slice p n q)/\Hid (∃X,(∀p,p<aW g.nodes->Nz (cI m) p (X p))/\n=(lN (cI m) X (aW g.nodes)).length/\n<=m.length/\w'.ownsRow w.heap.size 49 5 (.slice p n q) n (fl EC (lN (cI m) X (aW g.nodes)))/\Bw w w'):=by
 obtain⟨K,O,C,h1,h2⟩:=h;refine(h1.counts hk).mono ?_;rintro e' w' ⟨p,n,q,X,rfl,hh⟩;obtain⟨a1,a2,a3⟩:=hh.o;obtain⟨rfl,-⟩:=Df.bz a2 _ _ _ rfl;have hl:(lN (cI m) X (aW g.nodes)).length<=sN (fun p=>(K p).length) (List.range (aW g.nodes)):=jf _ _ _ fun p hp=>by
  have hp:=mR.1 hp;rw[gQ];exact(a1 p hp).len fun u hu=>h1.ev.kp p u hp hu
 exact⟨p,_,q,rfl,X,a1,rfl,nT hl h2,a2,a3⟩
theorem Ub{c:Nat->ai->Int}{X Y:Nat->List ai}(hX:∀p,p<N->Nz c p (X p))(hY:∀p,p<N->Nz c p (Y p)):lN c Y N=lN c X N:=tT fun p hp=>(hY p hp).same (hX p hp)
theorem RI.JQ(h:RI i w tag rb g R m F U)(hk:Gk g R)(hq:q<aW g.nodes):CL 12 #[.pointer (some ⟨rb,0,Option.none⟩),iV (q:Int)] w fun e w'=>∃p n z,e= .returned (.slice p n z)/\Hid (n=(F q).length/\w'.ownsRow w.heap.size 45 3 (.slice p n z) n (fl ET (F q))/\Bw w w'):=by
 obtain⟨K,O,C,h1,h2⟩:=h;have h:=h1.front hk (q:Int);rw[Io hq]at h;refine h.mono ?_;rintro e w' ⟨v,rfl,ho,hb⟩;obtain⟨p,n,z,rfl⟩:=Df.aD ho;obtain⟨rfl,-⟩:=Df.bz ho _ _ _ rfl;exact⟨p,_,z,rfl,rfl,ho,hb⟩
structure SX(W0:World)(B M tb:Nat)(g:Df.bG)(R:Nat->Nat->List ai)(W:World)(t:Nat->Nat):Prop where
 tb:LU B M W tb (aW g.nodes) R
 z:∀k,B<=k->k<M->t k=0
 o:∀k,k<W0.heap.size->t k=3
 b:Bw W0 W
 m:M<=W.heap.size
theorem SX.keep(h:SX W0 B M tb g R W t)(hK:Kp S W w')(hS:∀k,k<W.heap.size->S k->t k≠0/\t k≠3)(hT:∀k,k<W.heap.size->t' k=t k):SX W0 B M tb g R w' t':=by
 have hb:=h.b.size;have hm:=h.m;refine⟨h.tb.kp hK fun k h1 h2 e=>(hS k (by omega) e).1 (h.z k h1 h2),fun k h1 h2=>by rw[hT k (by omega)];exact h.z k h1 h2,fun k hk=>by rw[hT k (by omega)];exact h.o k hk,h.b.trans (hK.below hb fun k e=> ?_),nT hm hK.size⟩;by_cases c:k<W0.heap.size
 ·exact absurd (h.o k c) (hS k (by omega) e).2
 ·omega
theorem SX.below(h:SX W0 B M tb g R W t)(hb:Bw W w')(hT:∀k,k<W.heap.size->t' k=t k):SX W0 B M tb g R w' t':=h.keep (Kp.of_below (S:=fun _=>False) hb) (fun _ _ e=>e.elim) hT
theorem xh(hi:1<=i)(h:uy i t k):t k≠0/\t k≠3/\t k≠4:=by
 unfold uy at h;omega
end
theorem pV.nx{E:El α}{e:TypeId}{b W':World}{V:Nat->Value}{C:Nat->List α}{l:List α}(h:Hid (pV E e b.heap.size W n V C/\Bw b W))(hb:Bw W W')(hv:W'.ownsRow W.heap.size e E.k v l.length (fl E l)):Hid (pV E e b.heap.size W' (n+1) (up V n v) (up C n l)/\Bw b W'):=⟨h.o.1.push h.o.2.size hb hv,h.o.2.trans (hb.mono h.o.2.size)⟩
def Yt(W0 W:World)(F:Nat->List ai)(k n:Nat)(v:Value)(U:Nat->Value):Prop:=n=3*k/\Bw W0 W/\pV ET 45 W0.heap.size W n U (fun i=>F (i/3))/\W.ownsRow W0.heap.size 39 1 v n ((List.range n).map U)/\∀q,v.ownBlock=some q->∀i,i<n->(U i).ownBlock≠some q
theorem Yt.step{W0 W W1 W2 W3 W4:World}{F:Nat->List ai}{k n:Nat}{v v1 v2 v3 v':Value}{U:Nat->Value}(h:Yt W0 W F k n v U)(b1:Bw W W1)(o1:W1.ownsRow W.heap.size 45 3 v1 (F k).length (fl ET (F k)))(b2:Bw W1 W2)(o2:W2.ownsRow W1.heap.size 45 3 v2 (F k).length (fl ET (F k)))(b3:Bw W2 W3)(o3:W3.ownsRow W2.heap.size 45 3 v3 (F k).length (fl ET (F k)))
    (ho:W4.ownsRow W0.heap.size 39 1 v' (n+3) ((List.range n).map U++[v1,v2,v3])) (hK:Kp (fun q=>v.ownBlock=some q) W3 W4) (hg:∀q,v'.ownBlock=some q->v.ownBlock=some q\/W3.heap.size<=q):Yt W0 W4 F (k+1) (n+3) v' (up (up (up U n v1) (n+1) v2) (n+2) v3):=by
 obtain⟨e,h1,h2,h3,h4⟩:=h;have s0:=h1.size;have s1:=b1.size;have s2:=b2.size;have s3:=b3.size;have f:=((h2.push s0 b1 o1).push (nT s0 s1) b2 o2).push (nT s0 (nT s1 s2)) b3 o3;have hn:∀q,v.ownBlock=some q->∀i,i<n+3->(up (up (up U n v1) (n+1) v2) (n+2) v3 i).ownBlock≠some q:=fun q hq i hi c=>by
  have hl:=(h3.lt q hq).2;by_cases c2:i=n+2
  ·subst c2;rw[mg]at c;have:=(o3.lt q c).1;omega
  ·rw[kC _ _ c2]at c;by_cases c1:i=n+1
   ·subst c1;rw[mg]at c;have:=(o2.lt q c).1;omega
   ·rw[kC _ _ c1]at c;by_cases c0:i=n
    ·subst c0;rw[mg]at c;have:=(o1.lt q c).1;omega
    ·rw[kC _ _ c0]at c;exact h4 q hq i (by omega) c
 have hb3:=(h1.trans (b1.mono s0)).trans ((b2.mono (nT s0 s1)).trans (b3.mono (nT s0 (nT s1 s2))));refine⟨by omega,hb3.trans (hK.below hb3.size fun q hq=>(h3.lt q hq).1),⟨(f.1.kp hK fun i hi q hq c=>hn q c i hi hq).to fun i hi=> ?_,f.2⟩, ?_,fun q hq i hi=> ?_⟩
 ·by_cases c2:i=n+2
  ·subst c2;rw[mg]
   congr 1
   omega
  ·rw[kC _ _ c2];by_cases c1:i=n+1
   ·subst c1;rw[mg]
    congr 1
    omega
   ·rw[kC _ _ c1];by_cases c0:i=n
    ·subst c0;rw[mg]
     congr 1
     omega
    ·rw[kC _ _ c0]
 ·have e2:(List.range (n+3)).map (up (up (up U n v1) (n+1) v2) (n+2) v3)=(List.range n).map U++[v1]++[v2]++[v3]:=(F6 _ (n+2) _).trans (congrArg (·++[v3]) ((F6 _ (n+1) _).trans (congrArg (·++[v2]) (F6 U n v1))));rw[e2];simpa using ho
 ·rcases hg q hq with c|c
  ·exact hn q c i hi
  ·intro c2;have:=f.1.lt hi q c2;omega
structure yD(b n:Nat)(V U:Nat->Value)(C:Nat->List Th)(D:Nat->List ai)(bl bk:Nat)(vw vt:Value)(cw ct:List Th)(W:World):Prop where
 fc:kv EC 49 W 6 V C
 ft:kv ET 45 W n U D
 x:∀i j,i<6->j<n->∀g,(V i).ownBlock=some g->(U j).ownBlock≠some g
 rc:(∀k,k<6->aj W bl k (V k))/\bl<W.heap.size
 rt:(∀k,k<n->aj W bk k (U k))/\bk<W.heap.size
 nl:∀q,CP n V U q->q≠bl/\q≠bk
 lw:Ls EC W vw cw
 lt:Ls EC W vt ct
 nw:∀q,CP n V U q->vw.ownBlock≠some q/\vt.ownBlock≠some q
 lo:(∀q,CP n V U q->b<=q)/\b<=bl/\b<=bk/\(∀q,vw.ownBlock=some q->b<=q)/\∀q,vt.ownBlock=some q->b<=q
section
variable {b n:Nat} {V U:Nat->Value} {C:Nat->List Th} {D:Nat->List ai} {bl bk:Nat} {vw vt:Value} {cw ct:List Th} {W W':World} {S:Nat->Prop}
theorem yD.of{F:Nat->List ai}{v6 eF qL AP CX:World}(hb:b<=v6.heap.size)(f:pV EC 49 b v6 6 V C)(h10:Bw v6 eF)(hc:∀k,k<6->aj eF bl k (V k))(zl:bl<eF.heap.size)(zb:v6.heap.size<=bl)(hT:Yt eF qL F k n (sO bk n q) U)(hn:0<n)
    (h12:Bw qL AP) (ow:AP.ownsRow qL.heap.size 49 5 vw cw.length (fl EC cw)) (h13:Bw AP CX) (ot:CX.ownsRow AP.heap.size 49 5 vt ct.length (fl EC ct)):yD b n V U C (fun i=>F (i/3)) bl bk vw vt cw ct CX:=by
 obtain⟨-,h11,f2,row,far⟩:=hT;have s10:=h10.size;have s11:=h11.size;have s12:=h12.size;have s13:=h13.size;have b13:=h12.trans (h13.mono s12);have c13:=h11.trans (b13.mono s11);have lV:∀i,i<6->∀g,(V i).ownBlock=some g->b<=g/\g<v6.heap.size:=fun i hi g hg=>⟨f.2 i hi g hg,f.1.lt hi g hg⟩;have lU:∀i,i<n->∀g,(U i).ownBlock=some g->eF.heap.size<=g/\g<qL.heap.size:=fun i hi g hg=>⟨f2.2 i hi g hg,f2.1.lt hi g hg⟩;have lS:∀q,CP n V U q->b<=q/\q<qL.heap.size:=fun q hq=>by
  rcases hq with⟨i,hi,e⟩|⟨i,hi,e⟩
  ·have:=lV i hi q e;omega
  ·have:=lU i hi q e;omega
 obtain⟨g,hg,zg,cg⟩:=wT row hn;simp only[oI,aI,and_true]at hg;subst hg;have hgb:=(row.lt bk rfl).1;refine⟨f.1.below (h10.trans (c13.mono s10)),f2.1.below b13,fun i j hi hj g e e2=> ?_,⟨fun k hk=>(c13.cell zl).trans (hc k hk),by omega⟩,⟨fun k hk=>(b13.cell zg).trans (cg k hk),by omega⟩,fun q hq=>⟨?_, ?_⟩,(aK (E:=EC) ow).below h13,aK (E:=EC) ot,fun q hq=>⟨fun e=> ?_,fun e=> ?_⟩,fun q hq=>(lS q hq).1,by omega,by omega,fun q e=> ?_,fun q e=> ?_⟩
 ·have:=lV i hi g e;have:=lU j hj g e2;omega
 ·rcases hq with⟨i,hi,e⟩|⟨i,hi,e⟩
  ·have:=lV i hi q e;omega
  ·have:=lU i hi q e;omega
 ·rcases hq with⟨i,hi,e⟩|⟨i,hi,e⟩
  ·have:=lV i hi q e;omega
  ·intro c;subst c;exact far q rfl i hi e
 ·have:=(ow.lt q e).1;have:=lS q hq;omega
 ·have:=(ot.lt q e).1;have:=lS q hq;omega
 ·have:=(ow.lt q e).1;omega
 ·have:=(ot.lt q e).1;omega
theorem yD.kp(h:yD b n V U C D bl bk vw vt cw ct W)(hK:Kp S W W')(hS:∀k,b<=k->k<W.heap.size->¬S k):yD b n V U C D bl bk vw vt cw ct W':=by
 obtain⟨l1,l2,l3,l4,l5⟩:=h.lo;exact⟨h.fc.kp hK fun i hi g hg=>hS g (l1 g (.inl ⟨i,hi,hg⟩)) (h.fc.lt hi g hg),h.ft.kp hK fun i hi g hg=>hS g (l1 g (.inr ⟨i,hi,hg⟩)) (h.ft.lt hi g hg),h.x,⟨fun k hk=>(hK.cell h.rc.2 (hS _ l2 h.rc.2)).trans (h.rc.1 k hk),nL h.rc.2 hK.size⟩,⟨fun k hk=>(hK.cell h.rt.2 (hS _ l3 h.rt.2)).trans (h.rt.1 k hk),nL h.rt.2 hK.size⟩,h.nl,hK.ls h.lw fun k e=>hS k (l4 k e) (h.lw.blk k e),hK.ls h.lt fun k e=>hS k (l5 k e) (h.lt.blk k e),h.nw,h.lo⟩
theorem yD.below(h:yD b n V U C D bl bk vw vt cw ct W)(hb:Bw W W'):yD b n V U C D bl bk vw vt cw ct W':=h.kp (Kp.of_below (S:=fun _=>False) hb) fun _ _ _ e=>e
theorem yD.same(h:yD b n V U C D bl bk vw vt cw ct W)(hk:k<6){l:List Th}(hv:Ls EC W v l)(e:C k=l)(hl:l.length<=1000000000):CL 23 #[V k,v] W fun e w'=>e= .returned (.bool true)/\Bw W w':=by
 subst e;exact jy W (h.fc.ls hk) hv hl
theorem yD.times(h:yD b n V U C D bl bk vw vt cw ct W)(hk:k<n){l:List ai}(hv:Ls ET W v l)(e:D k=l)(hl:l.length<=1000000000):CL 24 #[U k,v] W fun e w'=>e= .returned (.bool true)/\Bw W w':=by
 subst e;exact Bo W (h.ft.ls hk) hv hl
theorem yD.lt4(h:yD b n V U C D bl bk vw vt cw ct W)(hq:CP n V U q):b<=q/\q<W.heap.size:=by
 refine⟨h.lo.1 q hq, ?_⟩;rcases hq with⟨i,hi,e⟩|⟨i,hi,e⟩
 ·exact h.fc.lt hi q e
 ·exact h.ft.lt hi q e
theorem yD.lists(h:yD b n V U C D bl bk vw vt cw ct W)(hK:Kp (CP n V U) W W'):Ls EC W' vw cw/\Ls EC W' vt ct:=⟨hK.ls h.lw fun k e c=>(h.nw k c).1 e,hK.ls h.lt fun k e c=>(h.nw k c).2 e⟩
theorem yD.apart(h:yD b n V U C D bl bk vw vt cw ct W)(hn0:0<n)(hn:n<=36)(hC:∀k,k<6->(C k).length<=1000000000)(hD:∀k,k<n->(D k).length<=1000000000)(cl ck:Nat):CL 25 #[sO bl 6 cl,sO bk n ck] W fun e w'=>e= .returned (.bool true)/\Kp (CP n V U) W w':=
 LM n bl bk cl ck V U C _ W hn0 hn h.rc.1 h.rc.2 h.rt.1 h.rt.2 h.nl h.fc (XQ h.ft) h.x hC fun k hk=>by rw[gQ];exact hD k hk
end
end Rc
end Go.Proofs.YtiiefcalkjeieaaGreat
