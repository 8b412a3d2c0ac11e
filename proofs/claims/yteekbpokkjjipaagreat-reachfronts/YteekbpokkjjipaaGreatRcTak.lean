import Derived.Test.YteekbpokkjjipaaGreatJ24
variable{hb np N b:Nat}{ff v:Go.Value}{rs:List Nat}
set_option maxHeartbeats 8000000
set_option maxRecDepth 100000
namespace Go.Proofs.YteekbpokkjjipaaGreat.Rc
open Go.RowKit Go.Sort Pt Hc
attribute [local go_sem ↓] Go.wp_at_zero Go.wp_at_succ
def GL(a b:Th):Prop:=a.1=b.1/\a.2.1=b.2.1
def TQ(a b:Th):Bool:=a.1==b.1&&oV a.2.1.1.1 a.2.1.1.2.1 a.2.1.1.2.2 b.2.1.1.1 b.2.1.1.2.1 b.2.1.1.2.2
theorem Bv(a b:Th):TQ a b=true↔GL a b:=by
 unfold TQ GL;rw[Bool.and_eq_true,beq_iff_eq,sZ];exact⟨fun h=>⟨h.1,bU h.2.1 h.2.2.1 h.2.2.2⟩,fun h=>⟨h.1,by rw[h.2];exact⟨rfl,rfl,rfl⟩⟩⟩
structure Tk(w wr:World)(hb:Nat)(ff v vr:Value)(f:Th->Int)(L0 L M:List It)(np b2 b4 b6:Nat)(c2 c4 c6:Th):Prop where
 hq:Hq wr hb ff vr f L np
 k2:wr.heap[b2]? =some (.cells (cc c2) 49 (0,0))
 k4:wr.heap[b4]? =some (.cells (cc c4) 49 (0,0))
 k6:wr.heap[b6]? =some (.cells (cc c6) 49 (0,0))
 ge:w.heap.size<=b2/\w.heap.size<=b4/\w.heap.size<=b6
 ne:b2≠b4/\b2≠b6/\b4≠b6
 perm:(M++L).Perm L0
 kp:Kp (fun k=>k=hb\/v.ownBlock=some k) w wr
 row:∀g,vr.ownBlock=some g->v.ownBlock=some g\/w.heap.size<=g
theorem kY{w:World}{L:List It}{cs:Array Value}(h:Hb w hb ff v L np)(hc:w.heap[b]? =some (.cells cs 49 (0,0))):¬(b=hb\/v.ownBlock=some b):=by
 rintro(rfl|e)
 ·have:=h.blk;rw[hc]at this;simp at this
 ·obtain⟨_,⟨h0,_⟩|⟨g,cap,cur,hv,_,hh,_⟩⟩:=h.own
  ·rw[h0]at e;simp[Value.ownBlock]at e
  ·rw[hv]at e;have e2:g=b:=(by simpa[Value.ownBlock]using e);rw[e2,hc]at hh;simp at hh
section
variable {w wr w':World} {hb np b2 b4 b6:Nat} {ff v vr v':Value} {f:Th->Int} {L0 L L' M:List It} {c2 c4 c6:Th}
theorem Tk.gr(h:Tk w wr hb ff v vr f L0 L M np b2 b4 b6 c2 c4 c6)(g:Below wr.heap.size wr w'):Tk w w' hb ff v vr f L0 L M np b2 b4 b6 c2 c4 c6:=
 ⟨h.hq.below g,(g.block _ (ae h.k2)).trans h.k2,(g.block _ (ae h.k4)).trans h.k4,(g.block _ (ae h.k6)).trans h.k6,h.ge,h.ne,h.perm,h.kp.trans (Kp.of_below (S:=fun _=>False) g) (fun _ _ h=>h.elim),h.row⟩
theorem Tk.pop(h:Tk w wr hb ff v vr f L0 L M np b2 b4 b6 c2 c4 c6){t:It}(hq:Hq w' hb ff v' f L' np)(hp:(t::L').Perm L)(ht:dO hb vr v' wr w'):Tk w w' hb ff v v' f L0 L' (M++[t]) np b2 b4 b6 c2 c4 c6:=by
 have o2:=kY h.hq.h h.k2;have o4:=kY h.hq.h h.k4;have o6:=kY h.hq.h h.k6;refine⟨hq,(ht.1.block _ (ae h.k2) o2).trans h.k2,(ht.1.block _ (ae h.k4) o4).trans h.k4,(ht.1.block _ (ae h.k6) o6).trans h.k6,h.ge,h.ne, ?_,h.kp.trans ht.1 (fun j hj e=> ?_),fun g hg=> ?_⟩
 ·rw[aA];exact(List.Perm.append_left M hp).trans h.perm
 ·rcases e with e|e
  ·exact .inl e
  ·rcases h.row j e with e2|e2
   ·exact .inr e2
   ·omega
 ·rcases ht.2 g hg with e|e
  ·exact h.row g e
  ·exact .inr (nT h.kp.size e)
theorem V4(c:Th)(n:Int):(cc c).setIfInBounds 4 (.int .i64 n)=cc (c.1,c.2.1,n):=rfl
theorem Tk.aaj(h:Tk w wr hb ff v vr f L0 L M np b2 b4 b6 c2 c4 c6)(n:Int):Tk w (wr.setCell ⟨b4,4,none⟩ (.int .i64 n)) hb ff v vr f L0 L M np b2 b4 b6 c2 (c4.1,c4.2.1,n) c6:=by
 obtain⟨q,k⟩:=bE h.k4 4 (.int .i64 n);rw[V4]at q;have o4:=kY h.hq.h h.k4;exact⟨h.hq.kp k (fun e=>o4 (.inl e.symm)) (fun g hg e=>o4 (.inr (by rw[<-e];exact hg))),(k.block _ (ae h.k2) h.ne.1).trans h.k2,q,(k.block _ (ae h.k6) (fun e=>h.ne.2.2 e.symm)).trans h.k6,h.ge,h.ne,h.perm,h.kp.trans k (fun j hj e=>by have:=h.ge.2.1;omega),h.row⟩
theorem Tk.P9(h:Tk w wr hb ff v vr f L0 L M np b2 b4 b6 c2 c4 c6)(c:Th):Tk w (wr.alloc (.cells (cc c) 49)) hb ff v vr f L0 L M np b2 b4 wr.heap.size c2 c4 c:=by
 have g:=((Gr.refl wr).alloc (.cells (cc c) 49)).below;have h2:=h.gr g;exact⟨h2.hq,h2.k2,h2.k4,ai _ _,⟨h.ge.1,h.ge.2.1,h.kp.size⟩,⟨h.ne.1,fun e=>by have:=ae h.k2;omega,fun e=>by have:=ae h.k4;omega⟩,h2.perm,h2.kp,h2.row⟩
abbrev sG(W:World)(b:Nat)(c:Th):World:=((((W.setCell ⟨b,0,none⟩ (.int .i64 c.1)).setCell ⟨b,1,none⟩ (.int .u64 c.2.1.1.1)).setCell ⟨b,2,none⟩ (.int .u64 c.2.1.1.2.1)).setCell ⟨b,3,none⟩ (.int .u64 c.2.1.1.2.2)).setCell ⟨b,4,none⟩ (.int .i64 c.2.2)
theorem pQ{W:World}{c0:Th}(h:W.heap[b]? =some (.cells (cc c0) 49 (0,0)))(c:Th):(sG W b c).heap[b]? =some (.cells (cc c) 49 (0,0))/\Kp (fun k=>k=b) W (sG W b c):=by
 obtain⟨q0,k0⟩:=bE h 0 (.int .i64 c.1);obtain⟨q1,k1⟩:=bE q0 1 (.int .u64 c.2.1.1.1);obtain⟨q2,k2⟩:=bE q1 2 (.int .u64 c.2.1.1.2.1);obtain⟨q3,k3⟩:=bE q2 3 (.int .u64 c.2.1.1.2.2);obtain⟨q4,k4⟩:=bE q3 4 (.int .i64 c.2.2);exact⟨q4,(((k0.trans k1 (fun _ _ h=>h)).trans k2 (fun _ _ h=>h)).trans k3 (fun _ _ h=>h)).trans k4 (fun _ _ h=>h)⟩
theorem Tk.aai(h:Tk w wr hb ff v vr f L0 L M np b2 b4 b6 c2 c4 c6)(c:Th):Tk w (sG wr b6 c) hb ff v vr f L0 L M np b2 b4 b6 c2 c4 c:=by
 obtain⟨q,k⟩:=pQ h.k6 c;have o6:=kY h.hq.h h.k6;exact⟨h.hq.kp k (fun e=>o6 (.inl e.symm)) (fun g hg e=>o6 (.inr (by rw[<-e];exact hg))),(k.block _ (ae h.k2) h.ne.2.1).trans h.k2,(k.block _ (ae h.k4) h.ne.2.2).trans h.k4,q,h.ge,h.ne,h.perm,h.kp.trans k (fun j hj e=>by have:=h.ge.2.2;omega),h.row⟩
theorem Tk.set2(h:Tk w wr hb ff v vr f L0 L M np b2 b4 b6 c2 c4 c6)(c:Th):Tk w (sG wr b2 c) hb ff v vr f L0 L M np b2 b4 b6 c c4 c6:=by
 obtain⟨q,k⟩:=pQ h.k2 c;have o2:=kY h.hq.h h.k2;exact⟨h.hq.kp k (fun e=>o2 (.inl e.symm)) (fun g hg e=>o2 (.inr (by rw[<-e];exact hg))),q,(k.block _ (ae h.k4) (fun e=>h.ne.1 e.symm)).trans h.k4,(k.block _ (ae h.k6) (fun e=>h.ne.2.1 e.symm)).trans h.k6,h.ge,h.ne,h.perm,h.kp.trans k (fun j hj e=>by have:=h.ge.1;omega),h.row⟩
end
def mD(M:List It):Int:=(M.map fun x=>x.1.2.2).sum
theorem LY(M:List It)(t:It):mD (M++[t])=mD M+t.1.2.2:=by simp[mD]
theorem PY{M:List It}(h:∀x∈M,-1<=x.1.2.2/\x.1.2.2<=1): -(M.length:Int)<=mD M/\mD M<=M.length:=by
 induction M with
 | nil => simp[mD]
 | cons a M ih=>
  have h1:=h a List.mem_cons_self;have h2:=ih fun x hx=>h x (List.mem_cons_of_mem _ hx);have e:mD (a::M)=a.1.2.2+mD M:=by simp[mD]
  rw[e,lC];omega
def Tkn(w:World)(hb:Nat)(ff v:Value)(f:Th->Int)(L0:List It)(np:Nat)(e:Ending)(w':World):Prop:=
 (L0=[]/\e= .returned (ans zt false)/\Hq w' hb ff v f [] np/\Below w.heap.size w w')\/
 ∃c v' L' M,e= .returned (ans c true)/\Hq w' hb ff v' f L' np/\(M++L').Perm L0/\M≠[]/\(∀x∈M,GL x.1 c)/\c.2.2=mD M/\(∀x∈L',¬GL x.1 c/\f c<f x.1)/\dO hb v v' w w'
theorem Ih{a b:Th}(h:GL a b):kC N rs a=kC N rs b:=by
 obtain⟨p,t,n⟩:=a;obtain⟨q,u,m⟩:=b;obtain⟨h1,h2⟩:=h;simp only at h1 h2;subst h1 h2;rfl
theorem Ii(hr:∀x∈rs,x<=N){a b:Th}(ha:Vp N a)(hb:Vp N b)(h:kC N rs a=kC N rs b):GL a b:=by
 obtain⟨p,e1,hp⟩:=ha;obtain⟨q,e2,hq⟩:=hb;have DR:∀j,lu rs j<=N:=fun j=>by
  unfold lu;rw[List.getD_eq_getElem?_getD];cases k:rs[j]? with
  | none => simp
  | some z => exact hr z (lM k)
 unfold kC at h;rw[e1,e2,Int.toNat_natCast,Int.toNat_natCast]at h;obtain⟨h1,h2⟩:=GX (N:=N) (rk:=lu rs) (p:=p) (q:=q) (t:=a.2.1) (u:=b.2.1) (by omega) (by omega) (DR p) (DR q) (by omega);exact⟨by rw[e1,e2,h1],h2⟩
def Tp(L:List It)(c:Th)(mb:Bool):Prop:=(mb=false/\L=[])\/(mb=true/\∃y,L[0]? =some y/\c=y.1)
theorem R7{f:Th->Int}{L:List It}(w:World)(h:Hq w hb ff v f L np):∃c mb,Tp L c mb/\Calls Tryz.prog 138 #[.pointer (some ⟨hb,0,none⟩)] w fun e w'=>e= .returned (ans c mb)/\Gr w w':=by
 cases L with
 | nil => exact⟨zt,false, .inl ⟨rfl,rfl⟩,jX w h.h⟩
 | cons y L => exact⟨y.1,true, .inr ⟨rfl,y,rfl,rfl⟩,pY w h.h rfl⟩
structure Mf(M:List It)(c:Th)(n:Int):Prop where
 ne:M≠[]
 st:∀x∈M,GL x.1 c
 sm:n=mD M
theorem Mf.snoc{M:List It}{c:Th}{n:Int}{t:It}(h:Mf M c n)(ht:GL t.1 c):Mf (M++[t]) c (n+t.1.2.2):=
 ⟨by simp,fun x hx=>by
  rcases jQ.1 hx with k|k
  ·exact h.st x k
  ·rw[wY]at k;rw[k];exact ht,by rw[LY,h.sm]⟩
theorem I5{L0:List It}{K:World->Prop}(w:World)(hH:Hq w hb ff v (kC N rs) L0 np)(hl:L0.length<=1099511627776)(hr:∀x∈rs,x<=N)(hF:Hc.dS K (Vp N) ff (key (kC N rs)))(hK:∀W,Kp (fun k=>k=hb\/v.ownBlock=some k) w W->K W)(hV:∀y∈L0,Vp N y.1)(h1:∀x∈L0,-1<=x.1.2.2/\x.1.2.2<=1):
    Calls Tryz.prog 79 #[.pointer (some ⟨hb,0,none⟩)] w fun e w'=>Hid (Tkn w hb ff v (kC N rs) L0 np e w'):=by
 have YM:=fun(p a b c q x y z:Int) W=>Rs.BF 9997 p a b c q x y z W;obtain⟨W1,hW1⟩:=aB (w.alloc (.cells (cc zt) 49));obtain⟨b2,hb2⟩:=aB (w.heap.size);have G1:Gr w W1:=by rw[hW1];exact(Gr.refl _).alloc _
 have Ws:Hid (W1.heap[b2]? =some (.cells (cc zt) 49 (0,0))):=by rw[hW1,hb2];exact ai _ _
 have DZ:=hid (hH.below G1.below);have HB2:Hid (b2=w.heap.size):=hb2;have Ba:=hid G1;have HK:=hid hK;have HV:=hid hV;have HN:=hid h1;have HF:=hid hF;have HL:=hid hl;have HR:=hid hr;have HH:=hid hH;simp only[cc]at hW1;clear hH hK hV h1 hF hl hr G1;go_enter Tryz.func79,Tryz.ntmps79;go_upto_region 1 with fail;rw[<-hW1,<-hb2];clear hW1 hb2;cases L0 with
 | nil=>
  go_wp2_with fail;refine(uT _ DZ.o.h).mono ?_;rintro e w2 ⟨rfl,g2⟩;have sj:=hid (DZ.o.below g2);simp only[Hc.ans,Hc.tv];go_upto_region 2 with fail;obtain⟨W3,hW3⟩:=aB (w2.alloc (.cells (cc zt) 49));obtain⟨b4,hb4⟩:=aB (w2.heap.size);have G3:Gr w2 W3:=by rw[hW3];exact(Gr.refl _).alloc _
  have Xm:Hid (W3.heap[b4]? =some (.cells (cc zt) 49 (0,0))):=by rw[hW3,hb4];exact ai _ _
  have HY3:Hid (W3.heap[b2]? =some (.cells (cc zt) 49 (0,0))):=(G3.below.block b2 (nL (ae Ws.o) g2.size)).trans ((g2.block b2 (ae Ws.o)).trans Ws.o);have DY:=hid (sj.o.below G3.below);have HB3:Hid (Below w.heap.size w W3/\b4≠b2):=⟨Ba.o.below.trans ((g2.trans (G3.below.mono g2.size)).mono Ba.o.size),fun e=>by have:=ae Ws.o;have:=g2.size;omega⟩;simp only[cc]at hW3;rw[<-hW3,<-hb4];clear hW3 hb4 G3 sj g2;go_wp2_with fail;refine(jX _ DY.o.h).mono ?_;rintro e w4 ⟨rfl,g4⟩;have HX4:=hid ((g4.below.block b4 (ae Xm.o)).trans Xm.o);have HY4:=hid ((g4.below.block b2 (ae HY3.o)).trans HY3.o);have yR:=hid (DY.o.below g4.below);have Dy:=hid (HB3.o.1.trans (g4.below.mono HB3.o.1.size));simp only[Hc.ans,Hc.tv];go_upto_region 3 with fail;obtain⟨W5,bT⟩:=aB (w4.alloc (.cells (cc zt) 49));have G5:Gr w4 W5:=by rw[bT];exact(Gr.refl _).alloc _
  have Xl:=hid ((G5.below.block b4 (ae HX4.o)).trans HX4.o);have HY5:=hid ((G5.below.block b2 (ae HY4.o)).trans HY4.o);have HH5:=hid (yR.o.below G5.below);have Bc:=hid (Dy.o.trans (G5.below.mono Dy.o.size));simp only[cc]at bT;rw[<-bT];clear bT G5 HX4 HY4 yR Dy g4;refine wp_loop_rounds 1 ?_;rw[rounds_succ];obtain⟨x0,x1,x2,x3,x4,xz⟩:=tY Xl.o;obtain⟨y0,y1,y2,y3,y4,yz⟩:=tY HY5.o;have fz:=(aa HY5.o).2;obtain⟨q5,k5⟩:=pQ HY5.o zt;have HQ5:=hid q5;have RL:Hid (Tkn w hb ff v (kC N rs) [] np (.returned (ans zt false)) (sG W5 b2 zt)):= .inl ⟨rfl,rfl,HH5.o.kp k5 (fun e=>by have:=HH.o.h.lt;have:=HB2.o;omega) (fun g hg e=>by have:=(HH.o.h.row g hg);have:=HB2.o;omega),Bc.o.trans (k5.below Bc.o.size fun k hk=>by rw[hk,HB2.o];exact nR _)⟩;simp only[sG,zt]at RL HQ5;clear q5 k5;go_wp2_with fail;refine bodyPost_ret (v:=ans zt false) ?_ rfl RL;have qq:=(aa HQ5.o).1;have q0:=qq 0;have q1:=qq 1;have q2:=qq 2;have q3:=qq 3;have q4:=qq 4;simp[results,Tryz.results79,go_sem,q0,q1,q2,q3,q4]
 | cons t0 L1=>
  have Ou:=hid (pX (t:=t0) W1 DZ.o rfl (nT HL.o (by decide)) HF.o (HK.o W1 (Kp.aU Ba.o)) HV.o);go_wp2_with fail;refine Ou.o.mono ?_;rintro e w2 ⟨v2,L2,rfl,hq2,hp2,ho2,ht2⟩;clear Ou;have o2:=kY DZ.o.h Ws.o;have RF:=hid ((ht2.1.block b2 (ae Ws.o) o2).trans Ws.o);have HT2:=hid ht2;have HQ2:=hid hq2;have Ow:=hid hp2;have Ti:=hid ho2;clear hq2 hp2 ho2 ht2 o2;simp only[Hc.ans,Hc.tv];go_upto_region 2 with fail;obtain⟨W3,hW3⟩:=aB (w2.alloc (.cells (cc t0.1) 49));obtain⟨b4,hb4⟩:=aB (w2.heap.size);have G3:Gr w2 W3:=by rw[hW3];exact(Gr.refl _).alloc _
  have Xm:Hid (W3.heap[b4]? =some (.cells (cc t0.1) 49 (0,0))):=by rw[hW3,hb4];exact ai _ _
  have Dy:=hid hb4;have Kn:=hid G3;simp only[cc]at hW3;rw[<-hW3,<-hb4];clear hW3 hb4 G3;obtain⟨c6,mb,YU,hpk⟩:=R7 W3 (HQ2.o.below Kn.o.below);have HTP:=hid YU;have ZU:=hid hpk;clear YU hpk;go_wp2_with fail;refine ZU.o.mono ?_;rintro e w4 ⟨rfl,g4⟩;clear ZU;have HG4:=hid g4;clear g4;simp only[Hc.ans,Hc.tv];go_upto_region 3 with fail;obtain⟨W5,bT⟩:=aB (w4.alloc (.cells (cc c6) 49));obtain⟨b6,hb6⟩:=aB (w4.heap.size);have qJ:Hid (Tk w W5 hb ff v v2 (kC N rs) (t0::L1) L2 [t0] np b2 b4 b6 zt (t0.1.1,t0.1.2.1,t0.1.2.2) c6):=by
   have g5:Gr w4 W5:=(by rw[bT];exact(Gr.refl _).alloc _);have gg:Below w2.heap.size w2 W5:=(Kn.o.trans (HG4.o.trans g5)).below;have g35:Below W3.heap.size W3 W5:=(HG4.o.trans g5).below;have z1:=Ba.o.size;have z2:=HT2.o.1.size;have z3:=Kn.o.size;have z4:=HG4.o.size;have e2:=HB2.o;have e4:=Dy.o;have l2:=ae RF.o;have l3:=ae Xm.o;refine⟨HQ2.o.below gg,(gg.block _ l2).trans RF.o,(g35.block _ l3).trans Xm.o,by rw[bT,hb6];exact ai _ _,⟨by omega,by omega,by omega⟩,⟨by omega,by omega,by omega⟩,Ow.o, ?_,fun g hg=> ?_⟩
   ·exact((Kp.aU Ba.o).trans HT2.o.1 (fun _ _ h=>h)).trans (Kp.of_below (S:=fun _=>False) gg) (fun _ _ h=>h.elim)
   ·rcases HT2.o.2 g hg with k|k
    ·exact .inl k
    ·exact .inr (by omega)
  simp only[cc]at bT;rw[<-bT,<-hb6];have HMF:Hid (Mf [t0] t0.1 t0.1.2.2/\(∀x∈L2,kC N rs t0.1<=kC N rs x.1)/\L2.length<=(t0::L1).length):=by
   refine⟨⟨by simp,fun x hx=>by rw[wY]at hx;rw[hx];exact⟨rfl,rfl⟩,by simp[mD]⟩,fun x hx=> ?_, ?_⟩
   ·rcases Ti.o x hx with k|k<;>omega
   ·have:=Ow.o.length_eq;simp only[lC]at this⊢;omega
  clear bT hb6 RF Xm Dy Kn HG4 HQ2 Ow Ti HT2;go_loopg [6,7] (t0::L1).length (fun gk s6 s7 wr=>∃(b6:Nat) (vr:Value) (L M:List It) (n:Int) (c6:Th) (mb:Bool),s6= .pointer (some ⟨b6,0,none⟩)/\s7= .bool mb/\Hid (Tk w wr hb ff v vr (kC N rs) (t0::L1) L M np b2 b4 b6 zt (t0.1.1,t0.1.2.1,n) c6)/\Hid (Tp L c6 mb/\Mf M t0.1 n/\(∀x∈L,kC N rs t0.1<=kC N rs x.1)/\L.length<=gk));case atStart=>exact⟨b6,v2,L2,[t0],t0.1.2.2,c6,mb,rfl,rfl,qJ.o,⟨HTP.o,HMF.o.1,HMF.o.2.1,HMF.o.2.2⟩⟩
  case round=>
   clear qJ HTP HMF;obtain⟨b6,vr,L,M,n,c6,mb,rfl,rfl,qJ,Ko⟩:=hrel;obtain⟨x0,x1,x2,x3,x4,xz⟩:=tY qJ.o.k4;obtain⟨y0,y1,y2,y3,y4,yz⟩:=tY qJ.o.k6;simp only at x0 x1 x2 x3 x4;have RO:Hid ((∀x∈L,¬GL x.1 t0.1)->Tkn w hb ff v (kC N rs) (t0::L1) np (.returned (ans (t0.1.1,t0.1.2.1,n) true)) (sG wr b2 (t0.1.1,t0.1.2.1,n))):=fun hns=>by
    have h2:=qJ.o.set2 (t0.1.1,t0.1.2.1,n);have hc:GL (t0.1.1,t0.1.2.1,n) t0.1:=⟨rfl,rfl⟩;refine .inr ⟨(t0.1.1,t0.1.2.1,n),vr,L,M,rfl,h2.hq,h2.perm,Ko.o.2.1.ne,fun x hx=>Ko.o.2.1.st x hx,Ko.o.2.1.sm,fun x hx=>⟨hns x hx, ?_⟩,h2.kp,h2.row⟩;have k1:=Ko.o.2.2.1 x hx;have k2:kC N rs t0.1≠kC N rs x.1:=fun e=>hns x hx (Ii HR.o (HV.o x (qJ.o.perm.mem_iff.1 (List.mem_append_right _ hx))) (HV.o t0 (by simp)) e.symm);rw[Ih hc];omega
   obtain⟨z0,z1,z2,z3,z4,zz⟩:=tY qJ.o.k2;have fz:=(aa qJ.o.k2).2;have HS2:=hid (qJ.o.set2 (t0.1.1,t0.1.2.1,n)).k2;simp only[sG]at RO HS2;cases mb with
   | false=>
    have HE:Hid (L=[]):=by
     rcases Ko.o.1 with k|k
     ·exact k.2
     ·exact absurd k.1 (by simp)
    have RL:=hid (RO.o (by rw[HE.o];intro x hx;cases hx));go_wp2_with fail;refine bodyPost_ret (v:=ans (t0.1.1,t0.1.2.1,n) true) ?_ rfl RL;have qq:=(aa HS2.o).1;have q0:=qq 0;have q1:=qq 1;have q2:=qq 2;have q3:=qq 3;have q4:=qq 4;simp[results,Tryz.results79,go_sem,q0,q1,q2,q3,q4]
   | true=>
    obtain⟨y,hy,hc6⟩:∃y,L[0]? =some y/\c6=y.1:=by
     rcases Ko.o.1 with k|k
     ·exact absurd k.1 (by simp)
     ·exact k.2
    have HY:=hid hy;subst hc6;clear hy;obtain⟨sb,hsb⟩:=aB (TQ y.1 t0.1);have YN:=fun W=>YM y.1.1 y.1.2.1.1.1 y.1.2.1.1.2.1 y.1.2.1.1.2.2 t0.1.1 t0.1.2.1.1.1 t0.1.2.1.1.2.1 t0.1.2.1.1.2.2 W;have e9:(y.1.1==t0.1.1&&oV y.1.2.1.1.1 y.1.2.1.1.2.1 y.1.2.1.1.2.2 t0.1.2.1.1.1 t0.1.2.1.1.2.1 t0.1.2.1.1.2.2)=sb:=(by rw[hsb];rfl);simp only[e9]at YN;have dD:=hid hsb;clear YM e9 hsb;cases sb with
    | false=>
     have RL:=hid (RO.o (fun x hx hs=>by
      have h1:¬GL y.1 t0.1:=fun h=>(by have:=dD.o;rw[(Bv _ _).2 h]at this;cases this);obtain⟨_,k1⟩:=qJ.o.hq.first HY.o;have k2:=Ko.o.2.2.1 y (lM HY.o);have k3:kC N rs t0.1≠kC N rs y.1:=fun e=>h1 (Ii HR.o (HV.o y (qJ.o.perm.mem_iff.1 (List.mem_append_right _ (lM HY.o)))) (HV.o t0 (by simp)) e.symm);have k4:=k1 x hx;have k5:=Ih (N:=N) (rs:=rs) hs;omega))
     go_wp2_with fail;refine bodyPost_ret (v:=ans (t0.1.1,t0.1.2.1,n) true) ?_ rfl RL;have qq:=(aa HS2.o).1;have q0:=qq 0;have q1:=qq 1;have q2:=qq 2;have q3:=qq 3;have q4:=qq 4;simp[results,Tryz.results79,go_sem,q0,q1,q2,q3,q4]
    | true=>
     have HST:Hid (GL y.1 t0.1):=(Bv _ _).1 dD.o.symm;have HVL:Hid (∀z∈L,Vp N z.1/\-1<=z.1.2.2/\z.1.2.2<=1):=fun z hz=>⟨HV.o z (qJ.o.perm.mem_iff.1 (List.mem_append_right _ hz)),HN.o z (qJ.o.perm.mem_iff.1 (List.mem_append_right _ hz))⟩;have SE:M.length+L.length<=1099511627776:=by
      have:=qJ.o.perm.length_eq;rw[dH]at this;have:=HL.o;omega
     have hbd: -1099511627776<=n/\n<=1099511627776:=by
      have:=PY (M:=M) fun x hx=>HN.o x (qJ.o.perm.mem_iff.1 (List.mem_append_left _ hx));rw[<-Ko.o.2.1.sm]at this;omega
     have hyN:=(HVL.o y (lM HY.o)).2;have hlp:0<L.length:=(lG.1 HY.o).1;obtain⟨gk,rfl⟩:∃g',gk=g'+1:=⟨gk-1,by have:=Ko.o.2.2.2;omega⟩;obtain⟨m,hm⟩:=aB (y.1.2.2);rw[<-hm]at hyN y4;have hw:wrap64 (n+m)=n+m:=(by unfold wrap64;omega);have HM:=hid hm;have yQ:=hid (And.intro hbd hyN);have ug:Hid (M.length+L.length<=1099511627776/\0<L.length):=⟨SE,hlp⟩;have f4:=(aa qJ.o.k4).2;obtain⟨W6,DU⟩:=aB (wr.setCell ⟨b4,4,none⟩ (.int .i64 (n+m)));have OV:Hid (Tk w W6 hb ff v vr (kC N rs) (t0::L1) L M np b2 b4 b6 zt (t0.1.1,t0.1.2.1,n+m) y.1):=(by rw[DU];exact qJ.o.aaj (n+m));clear hm hbd hyN SE hlp z0 z1 z2 z3 z4 zz fz HS2 RO;go_upto_region 6 with fail;rw[<-DU];clear DU x0 x1 x2 x3 x4 xz y0 y1 y2 y3 y4 yz f4 hw YN qJ;have Ou:=hid (pX (t:=y) W6 OV.o.hq HY.o (by have:=ug.o;omega) HF.o (HK.o W6 OV.o.kp) (fun z hz=>(HVL.o z hz).1));go_wp2_with fail;refine Ou.o.mono ?_;rintro e w7 ⟨v7,L7,rfl,hq7,hp7,Qw,OJ⟩;have HT7:=hid (OV.o.pop hq7 hp7 OJ);have HP7:Hid ((y::L7).Perm L):=hp7;clear Ou hq7 hp7 Qw OJ OV;simp only[Hc.ans,Hc.tv];obtain⟨y0,y1,y2,y3,y4,yz⟩:=tY HT7.o.k6;go_upto_region 4 with fail;obtain⟨W8,hW8⟩:=aB (w7.alloc (.cells (cc y.1) 49));obtain⟨b8,dN⟩:=aB (w7.heap.size);have HT8:Hid (Tk w W8 hb ff v v7 (kC N rs) (t0::L1) L7 (M++[y]) np b2 b4 b8 zt (t0.1.1,t0.1.2.1,n+m) y.1):=(by rw[hW8,dN];exact HT7.o.P9 y.1);simp only[cc]at hW8;rw[<-hW8,<-dN];clear hW8 dN y0 y1 y2 y3 y4 yz HT7;obtain⟨c9,mb9,YU,hpk⟩:=R7 W8 HT8.o.hq;have HTP:=hid YU;have ZU:=hid hpk;clear YU hpk;go_wp2_with fail;refine ZU.o.mono ?_;rintro e w9 ⟨rfl,g9⟩;have HT9:=hid (HT8.o.gr g9.below);clear ZU g9 HT8;simp only[Hc.ans,Hc.tv];obtain⟨y0,y1,y2,y3,y4,yz⟩:=tY HT9.o.k6;have f9:=(aa HT9.o.k6).2;have ZN:=hid (HT9.o.aai c9);simp only[sG]at ZN;clear HT9;go_wp2_with fail;go_roundg gk;case measure=>omega
     case rel=>
      refine⟨b8,v7,L7,M++[y],n+m,c9,mb9,rfl,rfl,ZN.o,⟨HTP.o, ?_,fun x hx=>Ko.o.2.2.1 x (HP7.o.mem_iff.1 (List.mem_cons_of_mem _ hx)), ?_⟩⟩
      ·rw[HM.o];exact Ko.o.2.1.snoc HST.o
      ·have k1:=HP7.o.length_eq;have k2:=Ko.o.2.2.2;rw[lC]at k1;omega
end Go.Proofs.YteekbpokkjjipaaGreat.Rc
