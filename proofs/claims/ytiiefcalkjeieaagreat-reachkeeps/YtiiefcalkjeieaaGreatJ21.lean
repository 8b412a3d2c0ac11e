import Derived.Test.YtiiefcalkjeieaaGreatJ20
variable{rs:List Nat}{p q b N b4 j x b3 b5 n:Nat}{w W:Go.World}{ar:Int}{sv rv:Go.Value}{cs:Array Go.Value}{t:Go.TypeId}
set_option maxHeartbeats 8000000
set_option maxRecDepth 100000
namespace Go.Proofs.YtiiefcalkjeieaaGreat
namespace Rc
open Go.RowKit Go.Sort Pt
attribute[local go_sem ↓]wp_at_zero wp_at_succ
theorem hid{p:Prop}(h:p):Hid p:=h
theorem ae{o:Obj}(h:w.heap[b]? =some o):b<w.heap.size:=(aG.1 h).1
theorem aP(h:w.heap[b]? =some (.cells cs t (0,0)))(i:Nat)(x:Value):(w.setCell ⟨b,i,none⟩ x).heap[b]? =some (.cells (cs.setIfInBounds i x) t (0,0))/\Kp (fun k=>k=b) w (w.setCell ⟨b,i,none⟩ x):=by
 have e:=setCell_eq_setRow w b i _ _ _ x h;rw[e];exact⟨by rw[setRow_heap w b _ _ _ _ h],rfl,rfl,rfl,by simp[World.setRow],fun k _ hne=>setRow_other w b k _ (by omega)⟩
theorem aa(h:w.heap[b]? =some (.cells cs t (0,0))):(∀i,w.cell? ⟨b,i,none⟩=cs[i]?)/\∀i,w.frozen? ⟨b,i,none⟩=false:=by
 refine⟨fun i=>by simp[World.cell?,h],fun i=>by simp[World.frozen?,h]⟩
theorem qw(x:Int)(w:World):CL 195 #[iV x] w fun e w'=>e= .returned (.bool false)/\w'=w:=by
 go_enter Tryz.func195,Tryz.ntmps195;go_wp2;go_ret;exact⟨by simp,rfl⟩
theorem rR(x y:Int)(w:World):CL 136 #[iV x,iV y] w fun e w'=>e= .returned (iV (c64 x y))/\w'=w:=by
 have H:=fun v W=>qw v W;go_enter Tryz.func136,Tryz.ntmps136;go_wp2_with (go_at_call 195;refine(H _ _).mono ?_;rintro e w1 ⟨rfl,rfl⟩);all_goals go_ret
 all_goals refine⟨?_,rfl⟩
 all_goals refine Bq ?_
 all_goals unfold c64
 all_goals (repeat split)<;>omega
def ER:El Nat where
 k:=1
 enc n:=[iV (n:Nat)]
 len _:=rfl
 one x u hu:=by
  simp at hu;rw[hu];rfl
theorem Z5{v:Value}{ts:List Nat}(h:Ls ER w v ts)(hj:ts[j]? =some x):∃b off c,v= .slice (some ⟨b,off,none⟩) ts.length c/\b<w.heap.size/\aj w b (off+j*1) (iV (x:Nat)):=by
 obtain⟨b,off,c,hv,hb,hc⟩:=h.get hj;exact⟨b,off,c,hv,hb,hc 0 _ (by decide) rfl⟩
def mi(rs:List Nat)(p:Nat):Nat:=rs.getD p 0
theorem Sr(p q r:Int):Mi p q r<0↔p<0\/(p=0/\(q<0\/(q=0/\r<0))):=by
 unfold Mi
 (repeat split)<;>omega
def Vp(N:Nat)(a:Hc.Th):Prop:=∃p:Nat,a.1=(p:Int)/\p<N
def kU(N:Nat)(rs:List Nat)(a:Hc.Th):Int:=(nk N (mi rs) (a.1.toNat,a.2.1):Nat)
theorem K9(hr:∀x∈rs,x<=N){y:Nat}(hp:p<N)(hq:q<N)(h1:rs[p]? =some x)(h2:rs[q]? =some y)(t u:ai)(n m:Int):
    decide (Mi (mE t.1.1 t.1.2.1 t.1.2.2 u.1.1 u.1.2.1 u.1.2.2) (c64 (x:Nat) (y:Nat)) (c64 (p:Nat) (q:Nat))<0)=Hc.key (kU N rs) ((p:Int),t,n) ((q:Int),u,m):=by
 have e1:mi rs p=x:=by unfold mi;rw[List.getD_eq_getElem?_getD,h1];rfl
 have e2:mi rs q=y:=by unfold mi;rw[List.getD_eq_getElem?_getD,h2];rfl
 have l1:=hr x (lM h1);have l2:=hr y (lM h2);unfold Hc.key kU;simp only[tN];rw[decide_eq_decide,Sr,qN,Kl,iI,gy,iI];have h:=wS (N:=N) (rk:=mi rs) (p:=p) (q:=q) (t:=t) (u:=u) (by omega) (by omega) (by omega) (by omega);rw[e1,e2]at h;have hx:PX.mh t u↔(t.1.1<u.1.1\/(t.1.1=u.1.1/\(t.1.2.1<u.1.2.1\/(t.1.2.1=u.1.2.1/\t.1.2.2<u.1.2.2)))):=Iff.rfl;have hy:t=u↔(t.1.1=u.1.1/\t.1.2.1=u.1.2.1/\t.1.2.2=u.1.2.2):=⟨fun e=>by rw[e];exact⟨rfl,rfl,rfl⟩,fun e=>dw e.1 e.2.1 e.2.2⟩;rw[hx,hy]at h;omega
abbrev wv(ar:Int)(sv rv:Value):Value:= .agg #[.int .i64 ar,sv,rv]
abbrev cc(a:Hc.Th):Array Value:=#[.int .i64 a.1, .int .u64 a.2.1.1.1, .int .u64 a.2.1.1.2.1, .int .u64 a.2.1.1.2.2, .int .i64 a.2.2]
def Fx(W:World)(b3 b4 b5:Nat)(ar:Int)(sv rv:Value)(a b:Hc.Th)(rs:List Nat):Prop:=W.heap[b3]? =some (.cells #[iV ar,sv,rv] 99 (0,0))/\W.heap[b4]? =some (.cells (cc a) 49 (0,0))/\W.heap[b5]? =some (.cells (cc b) 49 (0,0))/\Ls ER W rv rs
theorem Fx.below{W':World}{a b:Hc.Th}(h:Fx W b3 b4 b5 ar sv rv a b rs)(g:Bw W W'):Fx W' b3 b4 b5 ar sv rv a b rs:=
 ⟨(g.block _ (ae h.1)).trans h.1,(g.block _ (ae h.2.1)).trans h.2.1,(g.block _ (ae h.2.2.1)).trans h.2.2.1,h.2.2.2.below g⟩
theorem Fx.c3{a b:Hc.Th}(h:Fx W b3 b4 b5 ar sv rv a b rs):W.cell? ⟨b3,2,none⟩=some rv/\b3<W.heap.size:=⟨((aa h.1).1 2).trans rfl,ae h.1⟩
theorem vN{a:Hc.Th}(h:W.heap[b4]? =some (.cells (cc a) 49 (0,0))):aj W b4 0 (iV a.1)/\aj W b4 1 (uV a.2.1.1.1)/\aj W b4 2 (uV a.2.1.1.2.1)/\aj W b4 3 (uV a.2.1.1.2.2)/\aj W b4 4 (iV a.2.2)/\b4<W.heap.size:=
 ⟨((aa h).1 0).trans rfl,((aa h).1 1).trans rfl,((aa h).1 2).trans rfl,((aa h).1 3).trans rfl,((aa h).1 4).trans rfl,ae h⟩
theorem La(hr:∀x∈rs,x<=N)(hN:rs.length=N)(a b:Hc.Th)(w:World)(ha:Vp N a)(hb:Vp N b)(hk:Ls ER w rv rs):CL 86 #[wv ar sv rv,Hc.tv a,Hc.tv b] w fun e w'=>e= .returned (.bool (Hc.key (kU N rs) a b))/\Gr w w':=by
 have hmx:Tryz.prog.follows .mixedOrders=true:=by kernel_rfl
 obtain⟨p0,t,n⟩:=a;obtain⟨q0,u,m⟩:=b;obtain⟨p,e1,hp⟩:=ha;obtain⟨q,e2,hq⟩:=hb;simp only at e1 e2;subst e1 e2;obtain⟨x,hx⟩:∃x,rs[p]? =some x:=⟨rs[p]'(by omega),by rw[p8]⟩;obtain⟨y,hy⟩:∃y,rs[q]? =some y:=⟨rs[q]'(by omega),by rw[p8]⟩;rw[<-K9 hr hp hq hx hy t u n m];have HX:=hid hx;have HY:=hid hy;have HN:=hid hN;obtain⟨pr,cr,U5⟩:=hk.form;rw[hN]at U5;have HRV:=hid U5;have HC:=hid (fun W=>gP t.1.1 t.1.2.1 t.1.2.2 u.1.1 u.1.2.1 u.1.2.2 W);have H1:=hid (fun W=>rR (x:Nat) (y:Nat) W);have H2:=hid (fun W=>rR (p:Nat) (q:Nat) W);generalize mE t.1.1 t.1.2.1 t.1.2.2 u.1.1 u.1.2.1 u.1.2.2=r1 at HC⊢;generalize c64 (x:Nat) (y:Nat)=r2 at H1⊢;generalize c64 (p:Nat) (q:Nat)=r3 at H2⊢;have hpz:(0:Int)<=(p:Int):=by omega
 have hqz:(0:Int)<=(q:Int):=by omega
 have Tw:(p:Int)<(N:Int):=by omega
 have hqN:(q:Int)<(N:Int):=by omega
 obtain⟨W1,hW1⟩:=aF (((w.alloc (.cells #[iV ar,sv,rv] 99)).alloc (.cells (cc ((p:Int),t,n)) 49)).alloc (.cells (cc ((q:Int),u,m)) 49));obtain⟨b3,hb3⟩:=aF (w.heap.size);obtain⟨b4,hb4⟩:=aF (b3+1);obtain⟨b5,hb5⟩:=aF (b4+1);have G1:Hid (Gr w W1):=by rw[hW1];exact(((Gr.refl _).alloc _).alloc _).alloc _
 have hS0:(fun W:World=>Fx W b3 b4 b5 ar sv rv ((p:Int),t,n) ((q:Int),u,m) rs) W1.drew:=by
  have z1:(w.alloc (.cells #[iV ar,sv,rv] 99)).heap.size=b4:=by rw[hb4,hb3];simp
  have z2:((w.alloc (.cells #[iV ar,sv,rv] 99)).alloc (.cells (cc ((p:Int),t,n)) 49)).heap.size=b5:=by rw[hb5,hb4,hb3];simp
  have q1:=ah w (.cells #[iV ar,sv,rv] 99);have q2:=ah (w.alloc (.cells #[iV ar,sv,rv] 99)) (.cells (cc ((p:Int),t,n)) 49);have q3:=ah ((w.alloc (.cells #[iV ar,sv,rv] 99)).alloc (.cells (cc ((p:Int),t,n)) 49)) (.cells (cc ((q:Int),u,m)) 49);rw[z1]at q2;rw[z2]at q3;rw[<-hb3]at q1;have g2:=((Gr.refl (w.alloc (.cells #[iV ar,sv,rv] 99))).alloc (.cells (cc ((p:Int),t,n)) 49)).below;have g3:=((Gr.refl ((w.alloc (.cells #[iV ar,sv,rv] 99)).alloc (.cells (cc ((p:Int),t,n)) 49))).alloc (.cells (cc ((q:Int),u,m)) 49)).below;refine⟨?_, ?_, ?_,hk.below G1.o.drew.below⟩
  ·show W1.heap[b3]? =_;rw[hW1];exact(g3.block b3 (nL (ae q1) g2.size)).trans ((g2.block b3 (ae q1)).trans q1)
  ·show W1.heap[b4]? =_;rw[hW1];exact(g3.block b4 (ae q2)).trans q2
  ·show W1.heap[b5]? =_;rw[hW1];exact q3
 clear hk hx hy hr hN U5 HRV;simp only[cc]at hW1;simp only[wv,Hc.tv];go_enter Tryz.func86,Tryz.ntmps86;go_upto_region 1 with fail;rw[<-hb3,<-hb4,<-hb5,<-hW1];clear hW1 hb3 hb4 hb5;obtain⟨bi,oi,ci,hei⟩:∃bi oi ci,rv= .slice (some ⟨bi,oi,none⟩) N ci:=by
  obtain⟨bi,oi,ci,ei,zi,xi⟩:=Z5 hS0.2.2.2 HX.o;rw[HN.o]at ei;exact⟨bi,oi,ci,ei⟩
 have HE:=hid hei;have hld:∀(W:World) (j z:Nat),Ls ER W rv rs->rs[j]? =some z->aj W bi (oi+j) (iV (z:Nat))/\bi<W.heap.size:=fun W j z hl hj=>by
  obtain⟨b',o',c',e',z',x'⟩:=Z5 hl hj;rw[HE.o]at e';simp only[vS,oI,aI,and_true]at e';obtain⟨⟨rfl,rfl⟩,-,-⟩:=e';rw[Nat.mul_one]at x';exact⟨x',z'⟩
 have HL:=hid hld;clear hld;subst hei;refine ay (S:=fun W:World=>Fx W b3 b4 b5 ar sv (.slice (some ⟨bi,oi,none⟩) N ci) ((p:Int),t,n) ((q:Int),u,m) rs) (D:=[]) hmx ?_;refine' ak 0 hS0 ?_;refine' ak 1 hS0 ?_;refine' bD 2 hS0 ?h ?_;case h=>(intro W hSw;obtain⟨y0,y1,y2,y3,y4,yz⟩:=vN hSw.2.1;simp only at y0 y1 y2 y3 y4;go_simp;try(with_reducible rfl))
 refine' ak 3 hS0 ?_;refine' ak 4 hS0 ?_;refine' bD 5 hS0 ?h ?_;case h=>(intro W hSw;obtain⟨y0,y1,y2,y3,y4,yz⟩:=vN hSw.2.2.1;simp only at y0 y1 y2 y3 y4;go_simp;try(with_reducible rfl))
 refine' ak 7 hS0 ?_;refine' bD 8 hS0 ?h ?_;case h=>(intro W hSw;obtain⟨y0,yz⟩:=hSw.c3;go_simp;try(with_reducible rfl))
 refine' ak 9 hS0 ?_;refine' ak 10 hS0 ?_;refine' bD 11 hS0 ?h ?_;case h=>(intro W hSw;obtain⟨y0,y1,y2,y3,y4,yz⟩:=vN hSw.2.1;simp only at y0 y1 y2 y3 y4;go_simp;try(with_reducible rfl))
 refine' ak 12 hS0 ?_;refine' bD 13 hS0 ?h ?_;case h=>(intro W hSw;obtain⟨xc,xz⟩:=HL.o W _ _ hSw.2.2.2 HX.o;go_simp;try(with_reducible rfl))
 refine' ak 14 hS0 ?_;refine' bD 15 hS0 ?h ?_;case h=>(intro W hSw;obtain⟨y0,yz⟩:=hSw.c3;go_simp;try(with_reducible rfl))
 refine' ak 16 hS0 ?_;refine' ak 17 hS0 ?_;refine' bD 18 hS0 ?h ?_;case h=>(intro W hSw;obtain⟨y0,y1,y2,y3,y4,yz⟩:=vN hSw.2.2.1;simp only at y0 y1 y2 y3 y4;go_simp;try(with_reducible rfl))
 refine' ak 19 hS0 ?_;refine' bD 20 hS0 ?h ?_;case h=>(intro W hSw;obtain⟨xc,xz⟩:=HL.o W _ _ hSw.2.2.2 HY.o;go_simp;try(with_reducible rfl))
 refine' ak 22 hS0 ?_;refine' ak 23 hS0 ?_;refine' bD 24 hS0 ?h ?_;case h=>(intro W hSw;obtain⟨y0,y1,y2,y3,y4,yz⟩:=vN hSw.2.1;simp only at y0 y1 y2 y3 y4;go_simp;try(with_reducible rfl))
 refine' ak 25 hS0 ?_;refine' ak 26 hS0 ?_;refine' bD 27 hS0 ?h ?_;case h=>(intro W hSw;obtain⟨y0,y1,y2,y3,y4,yz⟩:=vN hSw.2.2.1;simp only at y0 y1 y2 y3 y4;go_simp;try(with_reducible rfl))
 refine wpC 6 (HC.o _) ?_;rintro e w2 ⟨rfl,g2⟩;have hS2:(fun W:World=>Fx W b3 b4 b5 ar sv (.slice (some ⟨bi,oi,none⟩) N ci) ((p:Int),t,n) ((q:Int),u,m) rs) w2:=Fx.below hS0 g2.below;refine⟨_,rfl,hS2, ?_⟩;refine wpC 21 (H1.o _) ?_;rintro e w3 ⟨rfl,rfl⟩;refine⟨_,rfl,hS2, ?_⟩;refine wpC 28 (H2.o _) ?_;rintro e w4 ⟨rfl,rfl⟩;refine⟨_,rfl,hS2, ?_⟩;refine fV 29 fun K hK=> ?_;go_simp;refine hK.o _ _ (fun hD=>(Fx.below hS2 ((Gr.refl _).alloc _).below)) ?_;clear hK K;try simp only[Act.put,qI,q0,qS]
 refine fV 30 fun K hK=> ?_;go_simp;have hor:=zN r1 r2 r3 w4.heap.size (w4.alloc (.cells #[iV r1,iV r2,iV r3] 3)) (by simp) (by simp) (by simp);refine hor.mono ?_;rintro e w6 ⟨rfl,rfl⟩;go_wp2_with fail;refine hK.o _ _ (fun hD=>(Fx.below hS2 ((Gr.refl _).alloc _).below)) ?_;clear hK K;try simp only[Act.put,qI,q0,qS]
 refine' ak 31 (Fx.below hS2 ((Gr.refl _).alloc _).below) ?_;refine' ak 32 (Fx.below hS2 ((Gr.refl _).alloc _).below) ?_;refine av (by kernel_rfl) ?_ _;go_wp2_with fail;go_ret;exact⟨rfl,G1.o.trans ((Gr.refl W1).drew.trans (g2.alloc _))⟩
theorem EM(hr:∀x∈rs,x<=N)(hN:rs.length=N):Hc.dZ (fun W=>Ls ER W rv rs) (Vp N) (wv ar sv rv) (Hc.key (kU N rs)):=
 ⟨enters_of Tryz.func86 (by kernel_rfl) rfl,fun a b W ha hb hk=>La hr hN a b W ha hb hk,fun _ _ h g=>h.below g.below⟩
end Rc
namespace Lf
open Go.RowKit Go.Sort Pt
open Df (hid LV EL EI aa ae)
attribute[local go_sem ↓]wp_at_zero wp_at_succ
def J7(g:Nat)(lb:Array Value)(p:ai->Bool)(w:World):Prop:=∀(W:World) (x:ai),Bw w W->CL g (#[tv x]++lb) W fun e w'=>e= .returned (.bool (p x))/\Bw W w'
theorem xI(v:Value)(l:List ai)(g:Nat)(lb:Array Value)(p:ai->Bool)(w:World)(hv:oz w v l)(hl:l.length<=maxLen)(eg:∀args w,(callFunc g args).run Tryz.prog w= .ok (.enter g args) w)(hp:J7 g lb p w):
    CL 249 #[v, .func (.func g) #[] lb] w fun e w'=>e= .returned (iV (Cz.iy p l))/\Bw w w':=by
 unfold maxLen at hl;obtain⟨pl,cl,rfl⟩:=hv.form;have HL:Hid (oz w (.slice pl l.length cl) l):=hv;have HP:Hid (J7 g lb p w):=hp;clear hv hp;obtain⟨r,hr⟩:=aF (Cz.iy p l);rw[<-hr];have HRR:Hid (r=Cz.iy p l):=hr;clear hr;go_enter Tryz.func249,Tryz.ntmps249;go_wp2_with fail;go_loopw [5,8] (fun s5 s8 wr=>∃k:Nat,k<=l.length/\s8=iV k/\Bw w wr/\Hid (∀j y,j<k->l[j]? =some y->p y=false)) (fun _ s8 _=>l.length-(intOf s8).toNat);case atStart=>exact⟨0,zL _,rfl,Below.refl _ _,fun j _ hj=>absurd hj (nW _)⟩
 case round=>
  obtain⟨k,hk,rfl,hgr,A⟩:=hrel;by_cases hlt:k<l.length
  ·have hltz:(k:Int)<(l.length:Int):=(by omega);obtain⟨x,hx⟩:∃x,l[k]? =some x:=⟨l[k],by simp⟩;obtain⟨b1,o1,c1,e1,z1,x1,x2,x3⟩:=(HL.o.below hgr).at3 hx;simp only[vS]at e1;obtain⟨rfl,-,rfl⟩:=e1;have HX:Hid (l[k]? =some x):=hx;clear hx;have hcall:=HP.o wr x hgr;cases hq:p x with
   | true=>
    rw[hq]at hcall;go_wp2_with (go_at_fn g;refine hcall.mono ?_;rintro e w' ⟨rfl,hb'⟩);go_ret;exact⟨by rw[HRR.o,Cz.Ee HX.o hq A.o];rfl,hgr.trans (hb'.mono hgr.size)⟩
   | false=>
    rw[hq]at hcall;go_wp2_with (go_at_fn g;refine hcall.mono ?_;rintro e w' ⟨rfl,hb'⟩);refine⟨⟨k+1,by omega,by go_num,hgr.trans (hb'.mono hgr.size),fun j y hj hy=> ?_⟩,by simp[intOf];omega⟩;by_cases e:j=k
    ·subst e;have:=HX.o;rw[hy]at this;cases this;exact hq
    ·exact A.o j y (by omega) hy
  ·have hltz:¬(k:Int)<(l.length:Int):=(by omega);have hk':k=l.length:=(by omega);subst hk';go_wp2;go_ret;exact⟨by rw[HRR.o,Cz.Af A.o];rfl,hgr⟩
theorem rQ(v:Value)(l:List ai)(g:Nat)(lb:Array Value)(p:ai->Bool)(w:World)(hv:oz w v l)(hl:l.length<=maxLen)(eg:∀args w,(callFunc g args).run Tryz.prog w= .ok (.enter g args) w)(hp:J7 g lb p w):
    CL 192 #[v, .func (.func g) #[] lb] w fun e w'=>e= .returned (.bool (l.any p))/\Bw w w':=by
 have h:=xI v l g lb p w hv hl eg hp;rw[<-Cz.Ed];generalize Cz.iy p l=r at h⊢;go_enter Tryz.func192,Tryz.ntmps192;go_wp2_with fail;refine h.mono ?_;rintro e w1 ⟨rfl,hg⟩;go_wp2;go_ret;exact⟨by first|rfl|simp,hg⟩
theorem Ww(a b:ai)(w:World):CL 15 #[tv a,tv b] w fun e w'=>e= .returned (.tuple #[tv (ui a b), .bool (bJ a b).isSome])/\Bw w w':=by
 obtain⟨x1,x2,x3,y1,y2,y3,⟨e1,e2,e3⟩,⟨f1,f2,f3⟩,⟨g1,g2,g3⟩,⟨h1,h2,h3⟩,k0,k1,k2,k3⟩:=AY a b;have h:=IV x1 x2 x3 y1 y2 y3 w g1 g2 g3 h1 h2 h3;rw[k1,k2,k3,k0]at h;unfold tv;rw[e1,e2,e3,f1,f2,f3];exact h
def Fg(s u b:ai):Bool:=(bJ b s).isSome&&aC (ui b s) u
theorem IA{s u:Hf.Th}{B1 B2:Nat}(x:ai)(w:World)(h1:w.heap[B1]? =some (.cells #[iV s.1,uV s.2.1.1,uV s.2.1.2.1,uV s.2.1.2.2] 47 (0,0)))(h2:w.heap[B2]? =some (.cells #[iV u.1,uV u.2.1.1,uV u.2.1.2.1,uV u.2.1.2.2] 47 (0,0))):
    CL 229 #[tv x,aB B1,aB B2] w fun e w'=>e= .returned (.bool (Fg s.2 u.2 x))/\Bw w w':=by
 unfold Fg;have hon:=fun W=>Ww x s.2 W;have hah:=fun W=>wZ (ui x s.2).1.1 (ui x s.2).1.2.1 (ui x s.2).1.2.2 u.2.1.1 u.2.1.2.1 u.2.1.2.2 W;rw[show Gh (ui x s.2).1.1 (ui x s.2).1.2.1 (ui x s.2).1.2.2 u.2.1.1 u.2.1.2.1 u.2.1.2.2=aC (ui x s.2) u.2 from rfl]at hah;generalize aC (ui x s.2) u.2=bb at hah⊢;generalize ui x s.2=cv at hon hah;generalize (bJ x s.2).isSome=ok at hon⊢;unfold tv at hon;have HS:Hid (∀W,Bw w W->W.heap[B1]? =some (.cells #[iV s.1,uV s.2.1.1,uV s.2.1.2.1,uV s.2.1.2.2] 47 (0,0))/\W.heap[B2]? =some (.cells #[iV u.1,uV u.2.1.1,uV u.2.1.2.1,uV u.2.1.2.2] 47 (0,0))):=fun W hb=>⟨(hb.block _ (ae h1)).trans h1,(hb.block _ (ae h2)).trans h2⟩;obtain⟨W0,hW0⟩:=aF (w.alloc (.cells #[uV x.1.1,uV x.1.2.1,uV x.1.2.2] 52));obtain⟨xb,hxb⟩:=aF (w.heap.size);have B0:Hid (Bw w W0/\W0.heap[xb]? =some (.cells #[uV x.1.1,uV x.1.2.1,uV x.1.2.2] 52 (0,0))):=by
  rw[hW0,hxb];exact⟨((Gr.refl w).alloc _).below,ah _ _⟩
 have HW0:Hid (w.alloc (.cells #[uV x.1.1,uV x.1.2.1,uV x.1.2.2] 52)=W0/\w.heap.size=xb):=⟨hW0.symm,hxb.symm⟩;clear h1 h2 hW0 hxb;go_enter Tryz.func229,Tryz.ntmps229;go_upto_region 1 with fail;rw[HW0.o.1,HW0.o.2];clear HW0;obtain⟨q1,q2⟩:=HS.o _ B0.o.1;have c1:=(aa q1).1;have l1:=ae q1;have c2:=(aa B0.o.2).1;have l2:=ae B0.o.2;clear q1 q2;go_wp2_with fail;refine(hon _).mono ?_;rintro e w1 ⟨rfl,hb1⟩;clear c1 l1 c2 l2;have HB1:Hid (Bw w w1):=B0.o.1.trans (hb1.mono B0.o.1.size);obtain⟨W2,hW2⟩:=aF (w1.alloc (.cells #[uV cv.1.1,uV cv.1.2.1,uV cv.1.2.2] 45));obtain⟨yb,hyb⟩:=aF (w1.heap.size);have P2:Hid (Bw w W2/\W2.heap[yb]? =some (.cells #[uV cv.1.1,uV cv.1.2.1,uV cv.1.2.2] 45 (0,0))):=by
  rw[hW2,hyb];exact⟨HB1.o.trans (((Gr.refl w1).alloc _).below.mono HB1.o.size),ah _ _⟩
 have HW2:Hid (w1.alloc (.cells #[uV cv.1.1,uV cv.1.2.1,uV cv.1.2.2] 45)=W2/\w1.heap.size=yb):=⟨hW2.symm,hyb.symm⟩;clear hW2 hyb hb1;go_upto_region 2 with fail;rw[HW2.o.1,HW2.o.2];clear HW2;obtain⟨q1,q2⟩:=HS.o _ P2.o.1;have c1:=(aa q2).1;have l1:=ae q2;have c2:=(aa P2.o.2).1;have l2:=ae P2.o.2;clear q1 q2;cases ok with
 | true=>
  go_wp2_with fail;refine(hah _).mono ?_;rintro e w3 ⟨rfl,hg3⟩;clear c1 l1 c2 l2;go_wp2;go_ret;exact⟨by simp,P2.o.1.trans (hg3.below.mono P2.o.1.size)⟩
 | false=>
  go_wp2;go_ret;exact⟨by simp,P2.o.1⟩
theorem Ao{M:Nat}{tv:Value}{R:Nat->Nat->List ai}(s u:Hf.Th)(w:World)(h:Tv M w tv n R)(hM:M<=w.heap.size)(hl:(bt n R s.1 u.1).length<=64):CL 171 #[tv, .agg #[iV s.1,uV s.2.1.1,uV s.2.1.2.1,uV s.2.1.2.2], .agg #[iV u.1,uV u.2.1.1,uV u.2.1.2.1,uV u.2.1.2.2]] w fun e w'=>e= .returned (.bool ((bt n R s.1 u.1).any (Fg s.2 u.2)))/\Bw w w':=by
 obtain⟨W0,hW0⟩:=aF ((w.alloc (.cells #[iV s.1,uV s.2.1.1,uV s.2.1.2.1,uV s.2.1.2.2] 47)).alloc (.cells #[iV u.1,uV u.2.1.1,uV u.2.1.2.1,uV u.2.1.2.2] 47));obtain⟨xb,hxb⟩:=aF (w.heap.size);have B0:Hid (Bw w W0/\W0.heap[xb]? =some (.cells #[iV s.1,uV s.2.1.1,uV s.2.1.2.1,uV s.2.1.2.2] 47 (0,0))/\W0.heap[xb+1]? =some (.cells #[iV u.1,uV u.2.1.1,uV u.2.1.2.1,uV u.2.1.2.2] 47 (0,0))):=by
  rw[hW0,hxb];exact⟨(((Gr.refl w).alloc _).alloc _).below,Df.WA w _ _,Df.Wz w _ _⟩
 have HW0:Hid ((w.alloc (.cells #[iV s.1,uV s.2.1.1,uV s.2.1.2.1,uV s.2.1.2.2] 47)).alloc (.cells #[iV u.1,uV u.2.1.1,uV u.2.1.2.1,uV u.2.1.2.2] 47)=W0/\w.heap.size=xb):=⟨hW0.symm,hxb.symm⟩;have hb:=oh s.1 u.1 W0 (h.keep (B0.o.1.mono hM));clear hW0 hxb h hM;have hpr:J7 229 #[aB xb, .pointer (some ⟨xb+1,0,none⟩)] (Fg s.2 u.2) W0:=fun W x hW=>IA x W ((hW.block _ (ae B0.o.2.1)).trans B0.o.2.1) ((hW.block _ (ae B0.o.2.2)).trans B0.o.2.2);have HPR:=hid hpr;have c1:=(aa B0.o.2.1).1;have l1:=ae B0.o.2.1;have c2:=(aa B0.o.2.2).1;have l2:=ae B0.o.2.2;clear hpr;generalize bt n R s.1 u.1=l at *;go_enter Tryz.func171,Tryz.ntmps171;go_upto_region 1 with fail;rw[HW0.o.1,HW0.o.2];clear HW0;go_wp2_with fail;refine hb.mono ?_;rintro e w1 ⟨pp,c,rfl,hw1,hq⟩;rw[hw1];clear hw1 hb;have hct:=rQ _ l 229 #[aB xb, .pointer (some ⟨xb+1,0,none⟩)] (Fg s.2 u.2) W0 hq.1 (by unfold maxLen;omega) (enters_of Tryz.func229 (by kernel_rfl) rfl) HPR.o;clear hq c1 l1 c2 l2;go_wp2_with fail;refine hct.mono ?_;rintro e w2 ⟨rfl,h2⟩;clear hct;have HB2:Hid (Bw w w2):=B0.o.1.trans (h2.mono B0.o.1.size);clear h2;go_wp2;go_ret;exact⟨rfl,HB2.o⟩
end Lf
namespace Lf
open Go.RowKit Go.Sort Pt
open Df (hid LV EL EI mr aa ae)
attribute[local go_sem ↓]wp_at_zero wp_at_succ
section
variable {w W W':World} {M cb xb:Nat} {all bl:List ai} {s:Hf.Th} {lv:Value}
end
end Lf
namespace Lf
open Go.RowKit Go.Sort Pt
open Df (bG aW)
theorem MF{St:Nat->Nat->ai->Prop}:∀(n:Nat) (a:ai),(a.1.1+a.1.2.1+a.1.2.2).toNat<=n->Wy PX St p q a->∃m,Lea PX St p q m/\PX.aX m a:=by
 classical
 intro n
 induction n with
 | zero=>
  intro a ha hw;refine⟨a,⟨hw,fun b _ hb=> ?_⟩,bL.refl a⟩;have h1:=bY a;have h2:=bY b;obtain⟨k1,k2,k3⟩:=hb;exact dw (by omega) (by omega) (by omega)
 | succ n ih=>
  intro a ha hw;by_cases h:∃b,Wy PX St p q b/\PX.aX b a/\b≠a
  ·obtain⟨b,hb,Ib,hne⟩:=h;have h1:=bY a;have h2:=bY b;have hlt:(b.1.1+b.1.2.1+b.1.2.2).toNat<=n:=by
    obtain⟨k1,k2,k3⟩:=Ib;have:¬(b.1.1=a.1.1/\b.1.2.1=a.1.2.1/\b.1.2.2=a.1.2.2):=fun e=>hne (dw e.1 e.2.1 e.2.2);omega
   obtain⟨m,hm,hmb⟩:=ih b hlt hb;exact⟨m,hm,bL.trans hmb Ib⟩
  ·refine⟨a,⟨hw,fun b hb Ib=> ?_⟩,bL.refl a⟩;by_cases e:b=a
   ·exact e
   ·exact absurd ⟨b,hb,Ib,e⟩ h
theorem Jk{St:Nat->Nat->ai->Prop}{rows:Nat->List ai}(h:r9 PX St p (some rows))(q:Nat)(a:ai)(ha:Wy PX St p q a):pY PX (rows q) a:=by
 obtain⟨m,hm,Y6⟩:=MF _ a (nR _) ha;exact⟨m,((h q).2.1 m).2 hm,Y6⟩
def LF(n:Nat)(R:Nat->Nat->List ai)(s u:Hf.Th):Bool:=(bt n R s.1 u.1).any (Fg s.2 u.2)
theorem Fe{s u b:ai}:Fg s u b=true↔∃c,bJ b s=some c/\PX.aX c u:=by
 unfold Fg;rw[bA];cases h:bJ b s with
 | none => simp
 | some c=>
  rw[wy h,jl];constructor
  ·rintro⟨_,k⟩;exact⟨c,rfl,k⟩
  ·rintro⟨d,e,k⟩;cases e;exact⟨rfl,k⟩
section
variable {St:Nat->Nat->ai->Prop} {n:Nat} {R:Nat->Nat->List ai}
theorem Fh(h:∀p,p<n->r9 PX St p (some (R p))){i:Nat}(hi:i<n)(hj:j<n){t u:ai}:LF n R ((i:Int),t) ((j:Int),u)=true↔ZB St i t j u:=by
 rw[ZB.least (h i hi) (Jk (h i hi))];unfold LF;rw[Vl hi hj,List.any_eq_true];constructor
 ·rintro⟨b,hb,k⟩;exact⟨b,hb,Fe.1 k⟩
 ·rintro⟨b,hb,k⟩;exact⟨b,hb,Fe.2 k⟩
end
end Lf
namespace Lf
open Go.RowKit Go.Sort Pt
open Df (dN bG aW rZ iq ic eX)
theorem Sd{ls:List (List Int)}(h:eX ls.length ls ls.length≠none):∃f:Nat->Int,∀p q,Df.Sp ls p q->f p+1<=f q:=by
 cases e:eX ls.length ls ls.length with
 | none => exact absurd e h
 | some z=>
  obtain⟨o,f⟩:=z;obtain⟨us,_,hO⟩:=Df.NM e;have hr:=Df.Rk.all hO us.length (nR _);exact⟨_,fun p q hs=>(Df.Rk.rank hO hr q).1 p hs⟩
theorem Kn{g:bG}(hP:uM g)(hok:ic g)(h:uX g p q PX.z):Df.Sp (iq g) p q:=by
 obtain⟨_,c,hc,h1,h2,h3⟩:=kY.1 h;have hv:=ve (RO hP hc);rw[h3]at hv;have z1:PX.z.1.1=0:=rfl;have z2:PX.z.1.2.1=0:=rfl;have z3:PX.z.1.2.2=0:=rfl;have hz:c.via=(0,0,0):=Prod.ext (by show c.via.1=0;omega) (Prod.ext (by show c.via.2.1=0;omega) (by show c.via.2.2=0;omega));have hm:c∈Df.emR g:=by
  unfold Df.emR;rw[mF];exact⟨hc,by simp[Df.Ti,hz]⟩
 obtain⟨p',q',e,hs⟩:=Df.TY.1 hm;rw[e]at h1 h2;simp only at h1 h2;have e1:p'=p:=by omega
 have e2:q'=q:=by omega
 rw[e1,e2]at hs;exact(Df.VS hok).2 hs
end Lf
namespace Rc
open Go.RowKit Go.Sort Pt
open Lf (uX vz mW th Kh uM LF Fh kY kZ lu)
open Df (bG dN aW ic iq rZ eX)
def sV(g:bG)(p:Nat):List (Nat×ai):=(mW (vz g) p).map fun x=>(x.1.toNat,x.2)
theorem SI{g:bG}{b:ai}(hok:ic g):(q,b)∈sV g p↔∃c∈rZ g,c.dx=(p:Int)/\c.o=(q:Int)/\Kh c.via=b:=by
 unfold sV;rw[mM];constructor
 ·rintro⟨x,hx,e⟩;obtain⟨c,hc,h1,rfl⟩:=lu.1 hx;have hc':=kZ.1 hc;obtain⟨_,q',hq',h2⟩:=Lf.Bc hok hc';obtain⟨e1,e2⟩:=Prod.mk.inj e;refine⟨c,hc',h1, ?_,e2⟩;have:(th c).1=c.o:=rfl;rw[this]at e1;omega
 ·rintro⟨c,hc,h1,h2,h3⟩;refine⟨th c,lu.2 ⟨c,kZ.2 hc,h1,rfl⟩,Prod.ext ?_ h3⟩;show c.o.toNat=q;omega
theorem MU{g:bG}{R:Nat->Nat->List ai}(hok:ic g)(h:∀p,p<aW g.nodes->r9 PX (uX g) p (some (R p))):C8 (aW g.nodes) (sV g) (uX g) R:=by
 refine⟨fun p q b=> ?_,fun p q b hs=> ?_,fun p q a hp ha=>(((h p hp q).2.1 a).1 ha).1,fun p q a hp ha=>Lf.Jk (h p hp) q a ha,fun p q hp=>(h p hp q).2.2⟩
 ·rw[SI hok];exact kY
 ·obtain⟨_,c,hc,_,h2,_⟩:=kY.1 hs;obtain⟨_,q',hq',h3⟩:=Lf.Bc hok hc;omega
def uu(n:Nat)(R:Nat->Nat->List ai)(r p:Nat):Bool:=LF n R ((r:Int),PX.z) ((p:Int),PX.z)
def sJ(n:Nat)(R:Nat->Nat->List ai):List Nat:=(List.range n).map (UT n (uu n R))
theorem Jj(n:Nat)(R:Nat->Nat->List ai):(sJ n R).length=n:=by simp[sJ]
theorem Wm{R:Nat->Nat->List ai}:∀x∈sJ n R,x<=n:=fun x hx=>by
 obtain⟨p,_,rfl⟩:=mM.1 hx;exact ND n _ p
theorem ZR(n:Nat)(R:Nat->Nat->List ai):mi (sJ n R)=UT n (uu n R):=by
 funext p
 unfold mi sJ;rw[List.getD_eq_getElem?_getD,gM];by_cases hp:p<n
 ·rw[List.getElem?_range hp];rfl
 ·rw[lQ (by simpa using hp)];show 0=UT n (uu n R) p;have e:∀r,uu n R r p=false:=fun r=>by
   unfold uu LF;have:Lf.bt n R ((r:Int),PX.z).1 ((p:Int),PX.z).1=[]:=by
    unfold Lf.bt;exact if_neg fun k=>hp (by have:=k.2.2;simp only at this;omega)
   rw[this];rfl
  unfold UT;rw[List.filter_eq_nil_iff.2 fun r _=>by rw[e r];exact Bool.false_ne_true];rfl
theorem R7{g:bG}{R:Nat->Nat->List ai}(hok:ic g)(hP:uM g)(ho:eX (iq g).length (iq g) (iq g).length≠none)(h:∀p,p<aW g.nodes->r9 PX (uX g) p (some (R p))):rV (aW g.nodes) (sV g) (nk (aW g.nodes) (mi (sJ (aW g.nodes) R))):=by
 obtain⟨f,hf⟩:=Lf.Sd ho;have ht:=MU hok h;rw[ZR];exact Wi ht.st ht.tz (fun q q' hs=>hf q q' (Lf.Kn hP hok hs)) fun r p hr hp=>Fh h hr hp
theorem JC{g:bG}(hok:ic g):sN (fun q=>(sV g q).length) (List.range (aW g.nodes))<=432:=by
 have h1:=ji (vz g) (fun c=>c.dx.toNat) (aW g.nodes);refine nT (nT (kG fun q _=> ?_) h1) (Lf.Bd hok);unfold sV mW;rw[gQ,gQ,<-List.countP_eq_length_filter,<-List.countP_eq_length_filter];refine List.countP_mono_left fun c _ hc=> ?_;have:c.dx=(q:Int):=by simpa using hc
 simp[this]
theorem SS{g:bG}(hok:ic g):sN (fun q=>(sV g q).length*nK (aW g.nodes) (sV g) q) (List.range (aW g.nodes))<=186624:=by
 have h1:=JC hok;refine nT (kG (g:=fun q=>432*(sV g q).length) fun q _=> ?_) ?_
 ·rw[Nat.mul_comm];exact nM _ (nT (JJ _ _ q) h1)
 ·rw[mY];exact nT (Nat.mul_le_mul_left _ h1) (by decide)
end Rc
end Go.Proofs.YtiiefcalkjeieaaGreat
