import Derived.Test.YteekbpokkjjipaaGreatJ38
set_option maxHeartbeats 16000000
set_option maxRecDepth 100000
namespace Go.Proofs.YteekbpokkjjipaaGreat.Rc
open Go.RowKit Go.Sort Go.Maps Pt Hc
open Lf (bt sD Tv qG lT)
open Lf.Rb (Gj)
open Df (bg GR NV dI jG iO wP)
attribute [local go_sem ↓] Go.wp_at_zero Go.wp_at_succ
theorem sH{M0:Nat}{nv ev vA vB:Value}{a:Int}{xs:List NV}{es:List dI}{lA lB:List Th}(w:World)(hG:GR M0 w nv ev xs es)(hC:wP ev xs)(hP:sD (jG a xs es))(hA:Lw w vA lA)(hB:Lw w vB lB)(zA:lA.length*40<=140737488355328)(zB:lB.length*40<=140737488355328) :
    Calls Tryz.prog 3 #[.agg #[.int .i64 a,nv,ev,vA,vB]] w fun e w'=>e= .returned (.bool true)/\Below w.heap.size w w':=by
 have hmx:Tryz.prog.follows .mixedOrders=true:=by kernel_rfl
 obtain⟨pA,cA,rfl⟩:=hA.form;obtain⟨pB,cB,rfl⟩:=hB.form;obtain⟨xb,hxb⟩:=aB (w.heap.size);obtain⟨W0,hW0⟩:=aB (w.alloc (.cells #[.int .i64 a,nv,ev, .slice pA lA.length cA, .slice pB lB.length cB] 28));have P0:Hid (Below w.heap.size w W0/\W0.heap[xb]? =some (.cells #[.int .i64 a,nv,ev, .slice pA lA.length cA, .slice pB lB.length cB] 28 (0,0))/\Lw W0 (.slice pA lA.length cA) lA/\Lw W0 (.slice pB lB.length cB) lB):=by
  rw[hW0,hxb];exact⟨((Gr.refl w).alloc _).below,ai _ _,hA.below ((Gr.refl w).alloc _).below,hB.below ((Gr.refl w).alloc _).below⟩
 have hfr:=JD (a:=a) W0 (hG.below P0.o.1) hC hP 1 (fun _=>3);have HW0:Hid (w.alloc (.cells #[.int .i64 a,nv,ev, .slice pA lA.length cA, .slice pB lB.length cB] 28)=W0/\w.heap.size=xb):=⟨hW0.symm,hxb.symm⟩;have c0:=(aa P0.o.2.1).1;have l0:=ae P0.o.2.1;have HZA:=hid zA;have HZB:=hid zB;clear hG hC hP hA hB zA zB hW0 hxb;obtain⟨g,hg⟩:=aB (jG a xs es);rw[<-hg]at hfr;clear hg;obtain⟨nA,hnA⟩:=aB (lA.length);obtain⟨nB,hnB⟩:=aB (lB.length);rw[<-hnA,<-hnB]at P0 HW0 c0⊢;clear hnA hnB;go_enter Tryz.func3,Tryz.ntmps3;go_upto_region 1 with fail;rw[HW0.o.1,HW0.o.2];clear HW0;go_wp2_with fail;refine hfr.mono ?_;clear hfr c0 l0;rintro r w1 hr;obtain⟨hb1,hr⟩:=hr.o;have HB1:=hid hb1;clear hb1;rcases hr with rfl|⟨R,rb,tb,I6,B,M,hk,rfl,hold,hzero,hBl,hM,hrg,htp⟩
 ·go_wp2_with fail;refine(yn w1).mono ?_;rintro r w2 ⟨rfl,h2⟩;have FIN:Hid (Below w.heap.size w w2):=P0.o.1.trans ((HB1.o.trans (h2.mono HB1.o.size)).mono P0.o.1.size);clear h2 HB1 P0;go_wp2_with fail;go_ret;exact⟨rfl,FIN.o⟩
 ·have HK:=hid hk;obtain⟨tA,htA⟩:=aB (tg I6 w1 4);have TA:Hid ((∀k,k<w1.heap.size->tA k=I6 k)/\∀k,w1.heap.size<=k->tA k=4):=⟨fun k hk=>by rw[htA];exact ak hk,fun k hk=>by rw[htA];exact aO hk⟩;have OW:Hid (∀k,rP 1 tA k->w.heap.size<=k/\¬(B<=k/\k<M)/\k<w1.heap.size):=fun k e=>by
   have hz:=P0.o.1.size;by_cases z:k<w1.heap.size
   ·have e2:=e.1;rw[TA.o.1 k z]at e2;refine⟨?_,fun z2=> ?_,z⟩
    ·by_cases z3:k<W0.heap.size
     ·have e3:I6 k=3:=hold k z3;rw[e3]at e2;omega
     ·omega
    ·rw[hzero k z2.1 z2.2]at e2;omega
   ·have e2:=e.1;rw[TA.o.2 k (by omega)]at e2;omega
  have HW1:Hid (RG 1 w1 I6 rb g R (fun _ _=>0) (fun _=>[]) (fun _=>[]) (fun _ _=>0) (fun _=>[]) []/\Gj B M w1 tb (bg g.nodes) R/\M<=w1.heap.size):=⟨hrg,htp,hM⟩;clear hk hold hzero hBl hM hrg htp htA;go_wp2_with fail;refine(yn w1).mono ?_;rintro r w2 ⟨rfl,h2⟩;have H2:Hid (Below w1.heap.size w1 w2):=h2;clear h2;have wW:Hid (∀W,Below w2.heap.size w2 W->W.cell? ⟨xb,3,none⟩=some (.slice pA nA cA)/\W.cell? ⟨xb,4,none⟩=some (.slice pB nB cB)/\xb<W.heap.size/\Lw W (.slice pA nA cA) lA/\Lw W (.slice pB nB cB) lB/\RG 1 W tA rb g R (fun _ _=>0) (fun _=>[]) (fun _=>[]) (fun _ _=>0) (fun _=>[]) []/\Gj B M W tb (bg g.nodes) R/\Below w.heap.size w W):=fun W hW=>by
   have b1:Below w1.heap.size w1 W:=H2.o.trans (hW.mono H2.o.size);have b0:Below W0.heap.size W0 W:=HB1.o.trans (b1.mono HB1.o.size);have hc:=(b0.block xb (ae P0.o.2.1)).trans P0.o.2.1;exact⟨((aa hc).1 3).trans rfl,((aa hc).1 4).trans rfl,ae hc,P0.o.2.2.1.below b0,P0.o.2.2.2.below b0,HW1.o.1.below HK.o b1 TA.o.1,HW1.o.2.1.kp (Kp.of_below (S:=fun _=>False) b1) (fun _ _ _ h=>h),P0.o.1.trans (b0.mono P0.o.1.size)⟩
  have HTM:Hid (∀W,Below w2.heap.size w2 W->∀v l,Lw W v l->l.length*40<=140737488355328->Calls Tryz.prog 9 #[.pointer (some ⟨rb,0,none⟩),v] W fun e w'=>∃p n q,e= .returned (.slice p n q)/\Hid (TaR W g p n q w')):=fun W hW v l hv hl=>by
   refine KJ W (wW.o W hW).2.2.2.2.2.1 (by decide) (by decide) HK.o ?_ hv hl;have:∀l:List Nat,sN (fun _=>([]:List ah).length) l=0:=fun l=>by
    rw[pR];simp
   rw[this];exact Nat.zero_le _
  clear P0;go_upto_region 6 with fail;have hS0:Below w2.heap.size w2 w2.drew:=(Gr.refl w2).drew.below;refine av (S:=fun W:World=>Below w2.heap.size w2 W) (D:=[]) hmx ?_;refine' au 0 hS0 ?_;refine' au 1 hS0 ?_;refine' aR 2 hS0 ?h ?_;case h=>(intro W hSw;obtain⟨c3,c4,cz,-⟩:=wW.o W hSw;go_simp;try(with_reducible rfl))
  refine' au 4 hS0 ?_;refine' au 5 hS0 ?_;refine' aR 6 hS0 ?h ?_;case h=>(intro W hSw;obtain⟨c3,c4,cz,-⟩:=wW.o W hSw;go_simp;try(with_reducible rfl))
  refine' au 10 hS0 ?_;refine bF 3 fun K hK=> ?_;go_simp;refine(HTM.o _ hS0 _ _ (wW.o _ hS0).2.2.2.1 HZA.o).mono ?_;rintro e w3 ⟨p3,n3,q3,rfl,h3⟩;have Vs:Below w2.heap.size w2 w3:=hS0.trans (h3.o.1.mono hS0.size);go_wp2_with fail;refine hK.o _ _ (fun hD=>Vs) ?_;clear hK K;try simp only[Act.put,qI,q0,qS]
  refine bF 7 fun K hK=> ?_;go_simp;refine(HTM.o _ Vs _ _ (wW.o _ Vs).2.2.2.2.1 HZB.o).mono ?_;rintro e w4 ⟨p4,n4,q4,rfl,h4⟩;have YX:Below w2.heap.size w2 w4:=Vs.trans (h4.o.1.mono Vs.size);go_wp2_with fail;refine hK.o _ _ (fun hD=>YX) ?_;clear hK K;try simp only[Act.put,qI,q0,qS]
  refine bF 8 fun K hK=> ?_;go_simp;obtain⟨bl,hbl⟩:=aB (w4.heap.size);obtain⟨W6,DU⟩:=aB (w4.alloc (.cells #[.slice p3 n3 q3, .slice p4 n4 q4] 26));have kV:Below w2.heap.size w2 W6:=by
   rw[DU];exact YX.trans (((Gr.refl w4).alloc _).below.mono YX.size)
  have h6:Hid (W6.heap[bl]? =some (.cells #[.slice p3 n3 q3, .slice p4 n4 q4] 26 (0,0))/\w4.heap.size<=bl/\Below w4.heap.size w4 W6):=by
   rw[DU,hbl];exact⟨ai _ _,nR _,((Gr.refl w4).alloc _).below⟩
  rw[<-DU,<-hbl];clear DU hbl;refine hK.o _ _ (fun hD=>kV) ?_;clear hK K;try simp only[Act.put,qI,q0,qS]
  refine' au 9 kV ?_;refine aj (by kernel_rfl) ?_ _;obtain⟨Uu,o31,o32,o33,o34⟩:=h3.o.2;obtain⟨Ut,o41,o42,o43,o44⟩:=h4.o.2;have HZ:Hid (∀W,Kp (rP 1 tA) W6 W->Below w.heap.size w W/\Gj B M W tb (bg g.nodes) R/\(W.cell? ⟨bl,0,none⟩=some (.slice p3 n3 q3)/\W.cell? ⟨bl,1,none⟩=some (.slice p4 n4 q4)/\bl<W.heap.size)/\Ls EC W (.slice p3 n3 q3) Uu/\Ls EC W (.slice p4 n4 q4) Ut):=fun W hW=>by
   obtain⟨-,-,-,-,-,-,t1,t2⟩:=wW.o W6 kV;have z2:=H2.o.size;have z3:=Vs.size;have z4:=YX.size;have no:∀k,w1.heap.size<=k->¬rP 1 tA k:=fun k hk e=>absurd (OW.o k e).2.2 (by omega);have hc:=(hW.block bl (ae h6.o.1) (no _ (by have:=h6.o.2.1;omega))).trans h6.o.1;have l3:Ls EC w3 (.slice p3 n3 q3) Uu:=aJ (E:=EC) (by rw[o31];exact o34);have l4:Ls EC w4 (.slice p4 n4 q4) Ut:=aJ (E:=EC) (by rw[o41];exact o44);refine⟨t2.trans (hW.below t2.size fun k e=>(OW.o k e).1),t1.kp hW fun k h1 h2 e=>(OW.o k e).2.1 ⟨h1,h2⟩,⟨((aa hc).1 0).trans rfl,((aa hc).1 1).trans rfl,ae hc⟩,hW.ls ((l3.below h4.o.1).below h6.o.2.2) fun k e=>no k ?_,hW.ls (l4.below h6.o.2.2) fun k e=>no k ?_⟩
   ·have:=(o34.lt k e).1;have:=hS0.size;omega
   ·have:=(o44.lt k e).1;omega
  have Z6:Hid (Uu.length<=40/\Ut.length<=40):=⟨by omega,by omega⟩;have H6:Hid (RG 1 W6 tA rb g R (fun _ _=>0) (fun _=>[]) (fun _=>[]) (fun _ _=>0) (fun _=>[]) []):=(wW.o W6 kV).2.2.2.2.2.1;clear h3 h4 h6 o31 o32 o33 o34 o41 o42 o43 o44 hS0 Vs YX kV wW HTM HZA HZB H2 HB1;go_wp2_with fail;go_loopw [49] (fun s49 we=>∃j:Nat,j<=2/\s49= .int .i64 (j:Nat)/\Hid (Kp (rP 1 tA) W6 we/\∃tr c K O C F U,(∀k,k<W6.heap.size->tr k=tA k)/\RG 1 we tr rb g R c K O C F U/\sN (fun p=>(K p).length) (List.range (bg g.nodes))<=40*j)) (fun s49 _=>2-(RowKit.intOf s49).toNat);case atStart=>
   refine⟨0,by omega,rfl,Kp.aU (Gr.refl W6),tA,_,_,_,_,_,_,fun _ _=>rfl,H6.o, ?_⟩;have:∀l:List Nat,sN (fun _=>([]:List ah).length) l=0:=fun l=>by
    rw[pR];simp
   rw[this];exact Nat.zero_le _
  case round=>
   obtain⟨j,hj,rfl,HJ⟩:=hrel;rename World=>we;have hj0:(0:Int)<=(j:Int):=(by omega);by_cases hjl:j<2
   ·have hjz:(j:Int)<2:=(by omega);obtain⟨p,n,q,out,e1,e2,e3,e4⟩:∃p n q out,we.cell? ⟨bl,j,none⟩=some (.slice p n q)/\Ls EC we (.slice p n q) out/\out.length<=40/\bl<we.heap.size:=by
     obtain⟨-,-,⟨a1,a2,a3⟩,a4,a5⟩:=HZ.o we HJ.o.1;by_cases j0:j=0
     ·rw[j0];exact⟨_,_,_,_,a1,a4,Z6.o.1,a3⟩
     ·obtain rfl:j=1:=(by omega);exact⟨_,_,_,_,a2,a5,Z6.o.2,a3⟩
    have HCH:Hid (Calls Tryz.prog 10 #[.pointer (some ⟨rb,0,none⟩), .slice p n q] we fun e w'=>∃z,e= .returned (.int .i64 z)/\Hid (Kp (rP 1 tA) W6 w'/\∃tr c K O C F U,(∀k,k<W6.heap.size->tr k=tA k)/\RG 1 w' tr rb g R c K O C F U/\sN (fun p=>(K p).length) (List.range (bg g.nodes))<=40*(j+1))):=by
     obtain⟨Jz,tr,c,K,O,C,F,U,f1,f2,f3⟩:=HJ.o;refine(f2.change HK.o out _ e2 (by omega)).mono ?_;rintro e w' ⟨rfl,hc⟩;obtain⟨t',g1,g2,g3⟩:=hc.o;have hkk:Kp (rP 1 tA) W6 w':=Jz.trans g2 fun k hk e=>by
      unfold rP at e⊢;rw[<-f1 k hk];exact e
     have ht:∀k,k<W6.heap.size->t' k=tA k:=fun k hk=>(by rw[g1 k (by have:=Jz.size;omega),f1 k hk]);refine⟨_,rfl,hkk, ?_⟩;rcases g3 with⟨_,_,g4⟩|⟨_,On,Cn,Fn,g4⟩
     ·exact⟨t',c,K,O,C,F,U,ht,g4,by omega⟩
     ·refine⟨t',_,_,On,Cn,Fn,_,ht,g4, ?_⟩;have:=zV (N:=bg g.nodes) (K:=K) (l:=out);omega
    clear e2 e3 HJ;go_wp2_with fail;refine HCH.o.mono ?_;clear HCH e1 e4;rintro e w8 ⟨z,rfl,h8⟩;go_wp2_with fail;go_roundw;case rel=>exact⟨j+1,by omega,by go_num,h8.o⟩
    case measure=>simp[RowKit.intOf];omega
   ·have hjz:¬(j:Int)<2:=(by omega);obtain⟨Jz,tr,c,K,O,C,F,U,f1,f2,f3⟩:=HJ.o;have RH:Hid (∀W,Below we.heap.size we W->RG 1 W tr rb g R c K O C F U/\Gj B M W tb (bg g.nodes) R/\Below w.heap.size w W):=fun W hW=>by
     obtain⟨a1,a2,-⟩:=HZ.o we Jz;exact⟨f2.below HK.o hW (fun _ _=>rfl),a2.kp (Kp.of_below (S:=fun _=>False) hW) (fun _ _ _ h=>h),a1.trans (hW.mono a1.size)⟩
    have HF2:=hid f2;clear HJ HZ H6 Jz f1 f2 f3 Z6 OW TA HW1;have IU:Hid (∀W,Below we.heap.size we W->Calls Tryz.prog 11 #[.pointer (some ⟨tb,0,none⟩)] W fun e w'=>e= .returned (.int .i64 (bg g.nodes:Nat))/\w'=W):=fun W hW=>Lf.eG W (RH.o W hW).2.1.tv;have J8:Hid (∀W (q:Nat),Below we.heap.size we W->q<bg g.nodes->Calls Tryz.prog 12 #[.pointer (some ⟨rb,0,none⟩), .int .i64 (q:Int)] W fun e w'=>∃p n c,e= .returned (.slice p n c)/\Hid (n=(F q).length/\n<=448000/\w'.ownsRow W.heap.size 45 3 (.slice p n c) n (fl ET (F q))/\Below W.heap.size W w')):=fun W q hW hq=>by
     have h:=(RH.o W hW).1.front HK.o (q:Int);rw[Ak hq]at h;refine h.mono ?_;rintro e w' ⟨v,rfl,ho,hb⟩;obtain⟨p,n,c,rfl⟩:=Df.az ho;obtain⟨rfl,-⟩:=Df.bA ho _ _ _ rfl;exact⟨p,_,c,rfl,rfl,HF2.o.fK HK.o hq,ho,hb⟩
    have HCT:Hid (∀W,Below we.heap.size we W->Calls Tryz.prog 13 #[.pointer (some ⟨rb,0,none⟩)] W fun e w'=>∃p n cq CL,e= .returned (.slice p n cq)/\Hid ((∀q,q<bg g.nodes->FrQ (bg g.nodes) R CL q (F q))/\n=CL.length/\n<=1344000/\w'.ownsRow W.heap.size 49 5 (.slice p n cq) n (fl EC CL)/\Below W.heap.size W w')):=fun W hW=>by
     refine((RH.o W hW).1.counts HK.o).mono ?_;rintro e w' ⟨p,n,cq,X,rfl,h⟩;obtain⟨h1,h2,h3⟩:=h.o;obtain⟨rfl,-⟩:=Df.bA h2 _ _ _ rfl;refine⟨p,_,cq,mP c X (bg g.nodes),rfl,fun q hq=>VB HF2.o.ev h1 hq,rfl, ?_,h2,h3⟩;have h4:(mP c X (bg g.nodes)).length<=(List.range (bg g.nodes)).length*7000:=by
      refine jF _ _ _ fun p hp=> ?_;have hp:=List.mem_range.1 hp;rw[fG];have:=(h1 p hp).len (fun t ht=>HF2.o.ev.kp p t hp ht);have:=(HF2.o.oK hp).2;omega
     rw[List.length_range]at h4;have:=HK.o.n;omega
    have rE:Hid (∀W (p:Int) (q:Nat),Below we.heap.size we W->Calls Tryz.prog 14 #[.pointer (some ⟨tb,0,none⟩), .int .i64 p, .int .i64 (q:Int)] W fun e w'=>∃pl n cl,e= .returned (.slice pl n cl)/\Hid (n=(bt (bg g.nodes) R p (q:Int)).length/\n<=64/\w'.ownsRow W.heap.size 52 3 (.slice pl n cl) n (fl ET (bt (bg g.nodes) R p (q:Int)))/\Below W.heap.size W w')):=fun W p q hW=>by
     have hl:=V8 HK.o p (q:Int);refine(Lf.Jr p (q:Int) W (RH.o W hW).2.1.tv hl).mono ?_;rintro e w' ⟨v,rfl,ho,hb⟩;obtain⟨p,n,c,rfl⟩:=Df.az ho;obtain⟨rfl,-⟩:=Df.bA ho _ _ _ rfl;exact⟨p,_,c,rfl,rfl,hl,ho,hb⟩
    have HOP:Hid (∀W (q:Nat) (v:ah),Below we.heap.size we W->q<bg g.nodes->Calls Tryz.prog 16 #[.pointer (some ⟨rb,0,none⟩), .int .i64 (q:Int), .agg #[.int .u64 v.1.1, .int .u64 v.1.2.1, .int .u64 v.1.2.2]] W fun e w'=>e= .returned (.bool (bC ax (F q) v))/\Below W.heap.size W w'):=fun W q v hW hq=>by
     have h:=(RH.o W hW).1.open HK.o (q:Int) v;rw[Ak hq]at h;exact h
    have HWW:Hid (∀W,Below we.heap.size we W->Below w.heap.size w W):=fun W hW=>(RH.o W hW).2.2;have HN:=hid HK.o.n;clear RH HF2 HK;generalize bg g.nodes=N at *;have aa5:N<=192:=HN.o;obtain⟨i0,hi0,hz0,hz1,hz2⟩:=info_parts UL;go_wp2_with fail;go_loopw [8] (fun s8 wo=>∃q:Nat,q<=N/\s8= .int .i64 (q:Nat)/\Hid (Below we.heap.size we wo)) (fun s8 _=>N-(RowKit.intOf s8).toNat);case atStart=>exact⟨0,Nat.zero_le _,rfl,Below.refl _ _⟩
    case round=>
     obtain⟨q,hq,rfl,HQ⟩:=hrel;rename World=>wo;have hq0:(0:Int)<=(q:Int):=(by omega);have hpl:=IU.o wo HQ.o;by_cases Sr:q<N
     ·have hqz:(q:Int)<(N:Int):=(by omega);go_wp2_with fail;refine hpl.mono ?_;clear hpl;rintro e w9 ⟨rfl,qY⟩;have hw8:=qY.symm;subst hw8;clear qY;have hfq:=J8.o wo q HQ.o Sr;go_wp2_with fail;refine hfq.mono ?_;clear hfq;rintro e DJ ⟨pf,nf,cf,rfl,Y9⟩;obtain⟨f,hf⟩:=aB (F q);have hnf:nf<=448000:=Y9.o.2.1;have Xz:Hid (nf=f.length/\DJ.ownsRow wo.heap.size 45 3 (.slice pf nf cf) nf (fl ET f)/\Below we.heap.size we DJ):=by
       rw[hf];exact⟨Y9.o.1,Y9.o.2.2.1,HQ.o.trans (Y9.o.2.2.2.mono HQ.o.size)⟩
      clear Y9;go_upto_region 16 with(at_make;refine wpList_make_full _ rfl _ _ 41 rfl DJ.heap.size 4 i0 (.bool false) 1 Tryz.underlying41 hi0 hz0 hz1 _ _ _ _ nf rfl rfl rfl rfl (by rw[hz2];omega) (by unfold maxLen;omega) (nR _) ?_;intro TH hrow hg1);have xw:Below DJ.heap.size DJ TH:=(Kp.grownBy (S:=fun _=>False) hg1 (fun _ h=>by cases h)).below (nR _) (fun _ h=>h.elim);obtain⟨gg,hgg⟩:=aB (DJ.heap.size);rw[<-hgg]at hrow⊢;have S15:Hid (TH.ownsRow gg 4 1 (.slice (some ⟨gg,0,none⟩) nf nf) nf (fl jK (il f []))/\Below DJ.heap.size DJ TH/\gg=DJ.heap.size):=by
       rw[Mg,<-Xz.o.1,<-Jq];exact⟨hrow,xw,hgg⟩
      have hct:=HCT.o TH (Xz.o.2.2.trans (S15.o.2.1.mono Xz.o.2.2.size));clear hrow hg1 xw hgg;go_wp2_with fail;refine hct.mono ?_;clear hct;rintro e w16 ⟨pc,nc,cc0,CL,rfl,h16⟩;have hnc:nc<=1344000:=h16.o.2.2.1;have Bb:Hid (FrQ N R CL q f/\nf=f.length/\nc=CL.length):=⟨by rw[hf];exact h16.o.1 q Sr,Xz.o.1,h16.o.2.1⟩;have HX:Hid (∀W,Kp (fun k=>k=gg) w16 W->Below we.heap.size we W/\Ls ET W (.slice pf nf cf) f/\Ls EC W (.slice pc nc cc0) CL/\TH.heap.size<=W.heap.size/\gg<TH.heap.size):=fun W hW=>by
       obtain⟨a1,a2,a3⟩:=Xz.o;obtain⟨s1,s2,s3⟩:=S15.o;obtain⟨-,b2,-,b4,b5⟩:=h16.o;have b16:Below DJ.heap.size DJ w16:=s2.trans (b5.mono s2.size);have hgl:gg<TH.heap.size:=(s1.lt gg rfl).2;have lf:Ls ET DJ (.slice pf nf cf) f:=by
        rw[a1]at a2⊢;exact aJ (E:=ET) a2
       have lc:Ls EC w16 (.slice pc nc cc0) CL:=by
        rw[b2]at b4⊢;exact aJ (E:=EC) b4
       refine⟨a3.trans ((b16.trans (hW.below b16.size fun k hk=>by rw[hk,s3];exact nR _)).mono a3.size),hW.ls (lf.below b16) fun k e hk=> ?_,hW.ls lc fun k e hk=> ?_,nT b5.size hW.size,hgl⟩
       ·have:=(a2.lt k e).2;omega
       ·have:=(b4.lt k e).1;omega
      have S16:Hid (w16.ownsRow gg 4 1 (.slice (some ⟨gg,0,none⟩) nf nf) nf (fl jK (il f []))):=ag S15.o.1 h16.o.2.2.2.2;have HFE:Hid (F q=f):=hf.symm;clear h16 S15 Xz hf;go_wp2_with fail;go_loopw [72] (fun s72 wx=>∃(j:Nat) (us:List ah),j<=nc/\s72= .int .i64 (j:Nat)/\Hid (Kp (fun k=>k=gg) w16 wx/\wx.ownsRow gg 4 1 (.slice (some ⟨gg,0,none⟩) nf nf) nf (fl jK (il f us))/\∀i x,i<j->CL[i]? =some x->0<x.2.2->∀a∈bt N R x.1 (q:Int),∀v,bz a x.2.1=some v->v∈us)) (fun s72 _=>nc-(RowKit.intOf s72).toNat);case atStart=>exact⟨0,[],Nat.zero_le _,rfl,Kp.aU (Gr.refl w16),S16.o,fun i x hi=>absurd hi (Nat.not_lt_zero _)⟩
      case round=>
       clear S16;obtain⟨j,us,hj,rfl,HJ⟩:=hrel;rename World=>wx;have hj0:(0:Int)<=(j:Int):=(by omega);by_cases hjl:j<nc
       ·have hjz:(j:Int)<(nc:Int):=(by omega);obtain⟨x,hx⟩:∃x,CL[j]? =some x:=⟨CL[j]'(by have:=Bb.o.2.2;omega),by simp⟩;have ZH:=hid hx;obtain⟨b1,o1,q1,iI,z1,x0,x1,x2,x3,x4⟩:=Mr (HX.o wx HJ.o.1).2.2.1 hx;simp only[vS]at iI;obtain⟨rfl,-,-⟩:=iI;clear hx;obtain⟨b12,vL⟩:=aB (wx.heap.size);obtain⟨Gi,FI⟩:=aB (wx.alloc (.cells (cc x) 49));have tZ:Hid (Kp (fun k=>k=gg) w16 Gi/\Gi.ownsRow gg 4 1 (.slice (some ⟨gg,0,none⟩) nf nf) nf (fl jK (il f us))/\Gi.heap[b12]? =some (.cells (cc x) 49 (0,0))/\b12≠gg):=by
         have g5:=((Gr.refl wx).alloc (.cells (cc x) 49)).below;obtain⟨a1,a2,a3⟩:=HJ.o;have hgl:=(a2.lt gg rfl).2;rw[FI,vL];exact⟨a1.trans (Kp.of_below (S:=fun _=>False) g5) (fun _ _ h=>h.elim),ag a2 g5,ai _ _,by omega⟩
        have Gt:Hid (wx.alloc (.cells #[.int .i64 x.1, .int .u64 x.2.1.1.1, .int .u64 x.2.1.1.2.1, .int .u64 x.2.1.1.2.2, .int .i64 x.2.2] 49)=Gi/\wx.heap.size=b12):=⟨FI.symm,vL.symm⟩;clear FI vL;go_upto_region 19 with fail;rw[Gt.o.1,Gt.o.2];clear Gt x0 x1 x2 x3 x4 z1;have c17:=(aa tZ.o.2.2.1).1;have l17:=ae tZ.o.2.2.1;by_cases hn:x.2.2<=0
        ·have FIN:Hid (Kp (fun k=>k=gg) w16 Gi/\Gi.ownsRow gg 4 1 (.slice (some ⟨gg,0,none⟩) nf nf) nf (fl jK (il f us))/\∀i x,i<j+1->CL[i]? =some x->0<x.2.2->∀a∈bt N R x.1 (q:Int),∀v,bz a x.2.1=some v->v∈us):=by
           refine⟨tZ.o.1,tZ.o.2.1,fun i y hi hy h0=> ?_⟩;by_cases e:i=j
           ·subst e;rw[ZH.o]at hy;obtain rfl:=Option.some.inj hy;omega
           ·exact HJ.o.2.2 i y (by omega) hy h0
         clear tZ HJ ZH;go_wp2_with fail;go_roundw;case rel=>exact⟨j+1,us,by omega,by go_num,FIN.o⟩
         case measure=>simp[RowKit.intOf];omega
        ·have hle:=rE.o Gi x.1 q (HX.o Gi tZ.o.1).1;go_wp2_with fail;refine hle.mono ?_;clear hle c17 l17;rintro e wQ ⟨pl,nl,cl,rfl,h20⟩;have hnl:nl<=64:=h20.o.2.1;obtain⟨LS,hLS⟩:=aB (bt N R x.1 (q:Int));have Xv:Hid (LS=bt N R x.1 (q:Int)/\nl=LS.length):=⟨hLS,by rw[hLS];exact h20.o.1⟩;have P20:Hid (Kp (fun k=>k=gg) w16 wQ/\wQ.ownsRow gg 4 1 (.slice (some ⟨gg,0,none⟩) nf nf) nf (fl jK (il f us))/\wQ.heap[b12]? =some (.cells (cc x) 49 (0,0))/\b12≠gg/\wQ.ownsRow Gi.heap.size 52 3 (.slice pl nl cl) nl (fl ET LS)):=by
          have hb:=h20.o.2.2.2;rw[hLS];exact⟨tZ.o.1.trans (Kp.of_below (S:=fun _=>False) hb) (fun _ _ h=>h.elim),ag tZ.o.2.1 hb,(hb.block _ (ae tZ.o.2.2.1)).trans tZ.o.2.2.1,tZ.o.2.2.2,h20.o.2.2.1⟩
         have HY:Hid (∀W,Kp (fun k=>k=gg) wQ W->Below we.heap.size we W/\Ls ET W (.slice pf nf cf) f/\Ls ET W (.slice pl nl cl) LS/\W.heap[b12]? =some (.cells (cc x) 49 (0,0))):=fun W hW=>by
          obtain⟨a1,a2,a3,a4,a5⟩:=P20.o;obtain⟨d1,d2,-,d4,d5⟩:=HX.o W (a1.trans hW fun _ _ h=>h);have ll:Ls ET wQ (.slice pl nl cl) LS:=by
           have e:=Xv.o.2;rw[e]at a5⊢;exact aJ (E:=ET) a5
          refine⟨d1,d2,hW.ls ll fun k e hk=> ?_,(hW.block b12 (ae a3) a4).trans a3⟩;have:=(a5.lt k e).1;have:=(tZ.o.2.1.lt gg rfl).2;omega
         clear h20 hLS;go_wp2_with fail;go_loopw [86] (fun Ud wy=>∃(m:Nat) (vs:List ah),m<=nl/\Ud= .int .i64 (m:Nat)/\Hid (Kp (fun k=>k=gg) wQ wy/\wy.ownsRow gg 4 1 (.slice (some ⟨gg,0,none⟩) nf nf) nf (fl jK (il f vs))/\(∀v∈us,v∈vs)/\∀i a,i<m->LS[i]? =some a->∀v,bz a x.2.1=some v->v∈vs)) (fun Ud _=>nl-(RowKit.intOf Ud).toNat);case atStart=>exact⟨0,us,Nat.zero_le _,rfl,Kp.aU (Gr.refl wQ),P20.o.2.1,fun _ h=>h,fun i a hi=>absurd hi (Nat.not_lt_zero _)⟩
         case round=>
          obtain⟨m,vs,hm,rfl,HM⟩:=hrel;rename World=>wy;have hm0:(0:Int)<=(m:Int):=(by omega);by_cases rU:m<nl
          ·have hmz:(m:Int)<(nl:Int):=(by omega);obtain⟨a9,ha⟩:∃a,LS[m]? =some a:=⟨LS[m]'(by have:=Xv.o.2;omega),by simp⟩;have HAM:=hid ha;obtain⟨b2,o2,q2,Zj,z2,y0,y1,y2⟩:=Ls.at3 (HY.o wy HM.o.1).2.2.1 ha;simp only[vS]at Zj;obtain⟨rfl,-,-⟩:=Zj;clear ha;obtain⟨b14,xx⟩:=aB (wy.heap.size);obtain⟨Xh,Vl⟩:=aB (wy.alloc (.cells #[.int .u64 a9.1.1, .int .u64 a9.1.2.1, .int .u64 a9.1.2.2] 52));have Xi:Hid (Kp (fun k=>k=gg) wQ Xh/\Xh.ownsRow gg 4 1 (.slice (some ⟨gg,0,none⟩) nf nf) nf (fl jK (il f vs))/\Xh.heap[b14]? =some (.cells #[.int .u64 a9.1.1, .int .u64 a9.1.2.1, .int .u64 a9.1.2.2] 52 (0,0))):=by
            have g5:=((Gr.refl wy).alloc (.cells #[.int .u64 a9.1.1, .int .u64 a9.1.2.1, .int .u64 a9.1.2.2] 52)).below;obtain⟨a1,a2,a3⟩:=HM.o;rw[Vl,xx];exact⟨a1.trans (Kp.of_below (S:=fun _=>False) g5) (fun _ _ h=>h.elim),ag a2 g5,ai _ _⟩
           have Wu:Hid (wy.alloc (.cells #[.int .u64 a9.1.1, .int .u64 a9.1.2.1, .int .u64 a9.1.2.2] 52)=Xh/\wy.heap.size=b14):=⟨Vl.symm,xx.symm⟩;clear Vl xx;go_upto_region 23 with fail;rw[Wu.o.1,Wu.o.2];clear Wu y0 y1 y2 z2;have OU:=(aa Xi.o.2.2).1;have l22:=ae Xi.o.2.2;have Vg:=(HY.o Xh Xi.o.1).2.2.2;have c12:=(aa Vg).1;have Qn:=ae Vg;have hon:=LW a9 x.2.1 Xh;go_wp2_with fail;refine hon.mono ?_;clear hon OU l22 c12 Qn Vg;rintro e TG ⟨rfl,h23⟩;obtain⟨uv,huv⟩:=aB (qG a9 x.2.1);rw[<-huv];obtain⟨o,ho⟩:=aB (bz a9 x.2.1);rw[<-ho];have HO:Hid (o=bz a9 x.2.1/\∀v,o=some v->uv=v):=⟨ho,fun v e=>by rw[huv];exact lT (ho.symm.trans e)⟩;have P23:Hid (Kp (fun k=>k=gg) wQ TG/\TG.ownsRow gg 4 1 (.slice (some ⟨gg,0,none⟩) nf nf) nf (fl jK (il f vs))):=⟨Xi.o.1.trans (Kp.of_below (S:=fun _=>False) h23) (fun _ _ h=>h.elim),ag Xi.o.2.1 h23⟩;clear h23 Xi huv ho;obtain⟨b15,xw⟩:=aB (TG.heap.size);obtain⟨Wl,Vk⟩:=aB (TG.alloc (.cells #[.int .u64 uv.1.1, .int .u64 uv.1.2.1, .int .u64 uv.1.2.2] 45));have Kj:Hid (Kp (fun k=>k=gg) wQ Wl/\Wl.ownsRow gg 4 1 (.slice (some ⟨gg,0,none⟩) nf nf) nf (fl jK (il f vs))/\Wl.heap[b15]? =some (.cells #[.int .u64 uv.1.1, .int .u64 uv.1.2.1, .int .u64 uv.1.2.2] 45 (0,0))/\b15≠gg):=by
            have g5:=((Gr.refl TG).alloc (.cells #[.int .u64 uv.1.1, .int .u64 uv.1.2.1, .int .u64 uv.1.2.2] 45)).below;obtain⟨a1,a2⟩:=P23.o;have hgl:=(a2.lt gg rfl).2;rw[Vk,xw];exact⟨a1.trans (Kp.of_below (S:=fun _=>False) g5) (fun _ _ h=>h.elim),ag a2 g5,ai _ _,by omega⟩
           have J4:Hid (TG.alloc (.cells #[.int .u64 uv.1.1, .int .u64 uv.1.2.1, .int .u64 uv.1.2.2] 45)=Wl/\TG.heap.size=b15):=⟨Vk.symm,xw.symm⟩;clear Vk xw P23;cases o with
           | none=>
            go_upto_region 24 with fail;rw[J4.o.1,J4.o.2];clear J4;obtain⟨DI,Yf⟩:=aB Wl;rw[<-Yf]at Kj⊢;clear Yf;have Gl:=Kj;clear Kj;go_wp2_with fail;go_loopw [108] (fun Ew wv=>∃i:Nat,i<=nf/\Ew= .int .i64 (i:Nat)/\Hid (Kp (fun k=>k=gg) DI wv/\wv.ownsRow gg 4 1 (.slice (some ⟨gg,0,none⟩) nf nf) nf (fl jK (gV f vs none i)))) (fun Ew _=>nf-(RowKit.intOf Ew).toNat);case atStart=>exact⟨0,Nat.zero_le _,rfl,Kp.aU (Gr.refl DI),by rw[yh];exact Gl.o.2.1⟩
            case round=>
             obtain⟨i,hi,rfl,HI⟩:=hrel;rename World=>wv;have hi1:(0:Int)<=(i:Int):=(by omega);by_cases hil:i<nf
             ·have hiz:(i:Int)<(nf:Int):=(by omega);obtain⟨v,hv⟩:∃v,f[i]? =some v:=⟨f[i]'(by have:=Bb.o.2.1;omega),by simp⟩;have HV:=hid hv;have Gv:Hid (∀W,Below wv.heap.size wv W->Kp (fun k=>k=gg) wQ W):=fun W hW=>(Gl.o.1.trans HI.o.1 fun _ _ h=>h).trans (Kp.of_below (S:=fun _=>False) hW) (fun _ _ h=>h.elim);obtain⟨bf,of,qf,SK,zf,-,-,-⟩:=Ls.at3 (HY.o wv (Gv.o wv (Below.refl _ _))).2.1 hv;simp only[vS]at SK;obtain⟨rfl,-,-⟩:=SK;clear zf hv;obtain⟨eb,Vd⟩:=aB (decide (v∈vs));obtain⟨ez,SB⟩:=aB (decide (none=some v));have OY:Hid (eb=decide (v∈vs)/\ez=decide (none=some v)):=⟨Vd,SB⟩;have hget:=BX (us:=vs) (o:=none) HV.o;rw[<-Vd]at hget;clear Vd;have dD:Hid (∀W,Below wv.heap.size wv W->W.cell? ⟨gg,i,none⟩=some (.bool eb)/\gg<W.heap.size/\W.cell? ⟨bf,of+i*3,none⟩=some (.int .u64 v.1.1)/\W.cell? ⟨bf,of+i*3+1,none⟩=some (.int .u64 v.1.2.1)/\W.cell? ⟨bf,of+i*3+2,none⟩=some (.int .u64 v.1.2.2)/\bf<W.heap.size/\W.heap[b15]? =some (.cells #[.int .u64 uv.1.1, .int .u64 uv.1.2.1, .int .u64 uv.1.2.2] 45 (0,0))/\W.frozen? ⟨gg,i,none⟩=false):=fun W hW=>by
               have ho:=ag HI.o.2 hW;have hrow:W.ownsRow gg 4 1 (.slice (some ⟨gg,0,none⟩) nf nf) (gV f vs none i).length (fl jK (gV f vs none i)):=(by rw[BV,<-Bb.o.2.1];exact ho);obtain⟨b',o',c',hv',hb',hc'⟩:=Ls.get (E:=jK) (show Ls jK W (.slice (some ⟨gg,0,none⟩) nf nf) (gV f vs none i)from aJ (E:=jK) hrow) hget;simp only[vS,oI,aI,and_true]at hv';obtain⟨⟨rfl,rfl⟩,-,-⟩:=hv';have e0:=hc' 0 _ (by decide) rfl;rw[show jK.k=1 from rfl,Nat.mul_one,nZ,nO]at e0;obtain⟨b3,o3,c3,hv3,hb3,k0,k1,k2⟩:=Ls.at3 (HY.o W (Gv.o W hW)).2.1 HV.o;simp only[vS,oI,aI,and_true]at hv3;obtain⟨⟨rfl,rfl⟩,-,-⟩:=hv3;have U8:Kp (fun k=>k=gg) DI W:=HI.o.1.trans (Kp.of_below (S:=fun _=>False) hW) (fun _ _ h=>h.elim);exact⟨e0,(ho.lt gg rfl).2,k0,k1,k2,hb3,(U8.block b15 (ae Gl.o.2.2.1) Gl.o.2.2.2).trans Gl.o.2.2.1,ho.frozenAt _⟩
              have qE:Hid (∀W z,Below wv.heap.size wv W->z=(eb|| ez)->Kp (fun k=>k=gg) DI (W.setCell ⟨gg,i,none⟩ (.bool z))/\(W.setCell ⟨gg,i,none⟩ (.bool z)).ownsRow gg 4 1 (.slice (some ⟨gg,0,none⟩) nf nf) nf (fl jK (gV f vs none (i+1)))):=fun W z hW hz=>by
               have ho:=ag HI.o.2 hW;obtain⟨k1,k2⟩:=qQ ho i (.bool z);have e:=Am jK (gV f vs none i) i 0 eb z (.bool z) hget (by decide) (by simp[jK]);rw[show jK.k=1 from rfl,Nat.mul_one,nO]at e;rw[e,hz,OY.o.1,OY.o.2,yj HV.o,<-OY.o.1,<-OY.o.2,<-hz]at k1;exact⟨(HI.o.1.trans (Kp.of_below (S:=fun _=>False) hW) (fun _ _ h=>h.elim)).trans k2 (fun _ _ h=>h),k1⟩
              clear hget Gv;go_upto_region 29 with fail;have hS0:Below wv.heap.size wv wv.drew:=(Gr.refl wv).drew.below;cases eb with
              | true=>
               refine av (S:=fun W:World=>Below wv.heap.size wv W) (D:=[18]) hmx ?_;refine' au 0 hS0 ?_;refine' au 1 hS0 ?_;refine' au 2 hS0 ?_;refine' au 3 hS0 ?_;refine' aR 4 hS0 ?h ?_;case h=>(intro W hSw;obtain⟨d0,dz,d1,d2,d3,dy,d4,-⟩:=dD.o W hSw;have e0:=(aa d4).1;have e1:=ae d4;go_simp;try(with_reducible rfl))
               refine' aR 5 hS0 ?h ?_;case h=>(intro W hSw;obtain⟨d0,dz,d1,d2,d3,dy,d4,-⟩:=dD.o W hSw;have e0:=(aa d4).1;have e1:=ae d4;go_simp;try(with_reducible rfl))
               refine' au 6 hS0 ?_;refine' bQ 7 hS0 ?_;refine' bQ 8 hS0 ?_;refine' bQ 9 hS0 ?_;refine' bQ 10 hS0 ?_;refine' bQ 11 hS0 ?_;refine' bQ 12 hS0 ?_;refine' bQ 13 hS0 ?_;refine' bQ 14 hS0 ?_;refine' bQ 15 hS0 ?_;refine' au 16 hS0 ?_;refine' aR 17 hS0 ?h ?_;case h=>(intro W hSw;obtain⟨d0,dz,d1,d2,d3,dy,d4,-⟩:=dD.o W hSw;have e0:=(aa d4).1;have e1:=ae d4;go_simp;try(with_reducible rfl))
               refine bF 18 fun K hK=> ?_;obtain⟨d0,dz,-,-,-,-,-,d5⟩:=dD.o wv.drew hS0;have FIN:Hid (Kp (fun k=>k=gg) DI (wv.setCell ⟨gg,i,none⟩ (.bool true)).drew/\(wv.setCell ⟨gg,i,none⟩ (.bool true)).drew.ownsRow gg 4 1 (.slice (some ⟨gg,0,none⟩) nf nf) nf (fl jK (gV f vs none (i+1)))):=by
                obtain⟨f1,f2⟩:=qE.o wv true (Below.refl _ _) (by rfl);have gd:=(Gr.refl (wv.setCell ⟨gg,i,none⟩ (.bool true))).drew.below;exact⟨f1.trans (Kp.of_below (S:=fun _=>False) gd) (fun _ _ h=>h.elim),ag f2 gd⟩
               go_simp;clear d0 dz d5;refine hK.o _ _ (fun hD=>absurd (List.mem_cons_self ..) hD) ?_;clear hK K;try simp only[Act.put,qI,q0,qS]
               refine aj (by kernel_rfl) ?_ _;clear qE dD HI hS0;generalize (wv.setCell ⟨gg,i,none⟩ (.bool true)).drew=wz at FIN⊢;go_wp2_with fail;go_roundw;case rel=>exact⟨i+1,by omega,by go_num,FIN.o⟩
               case measure=>simp[RowKit.intOf];omega
              | false=>
               refine av (S:=fun W:World=>Below wv.heap.size wv W) (D:=[18]) hmx ?_;refine' au 0 hS0 ?_;refine' au 1 hS0 ?_;refine' au 2 hS0 ?_;refine' au 3 hS0 ?_;refine' aR 4 hS0 ?h ?_;case h=>(intro W hSw;obtain⟨d0,dz,d1,d2,d3,dy,d4,-⟩:=dD.o W hSw;have e0:=(aa d4).1;have e1:=ae d4;go_simp;try(with_reducible rfl))
               refine' aR 5 hS0 ?h ?_;case h=>(intro W hSw;obtain⟨d0,dz,d1,d2,d3,dy,d4,-⟩:=dD.o W hSw;have e0:=(aa d4).1;have e1:=ae d4;go_simp;try(with_reducible rfl))
               refine' au 6 hS0 ?_;refine' au 7 hS0 ?_;refine' au 8 hS0 ?_;refine' bQ 9 hS0 ?_;refine' bQ 10 hS0 ?_;refine' bQ 11 hS0 ?_;refine' bQ 12 hS0 ?_;refine' bQ 13 hS0 ?_;refine' bQ 14 hS0 ?_;refine' au 15 hS0 ?_;refine' au 16 hS0 ?_;refine' aR 17 hS0 ?h ?_;case h=>(intro W hSw;obtain⟨d0,dz,d1,d2,d3,dy,d4,-⟩:=dD.o W hSw;have e0:=(aa d4).1;have e1:=ae d4;go_simp;try(with_reducible rfl))
               refine bF 18 fun K hK=> ?_;obtain⟨d0,dz,-,-,-,-,-,d5⟩:=dD.o wv.drew hS0;have FIN:Hid (Kp (fun k=>k=gg) DI (wv.setCell ⟨gg,i,none⟩ (.bool false)).drew/\(wv.setCell ⟨gg,i,none⟩ (.bool false)).drew.ownsRow gg 4 1 (.slice (some ⟨gg,0,none⟩) nf nf) nf (fl jK (gV f vs none (i+1)))):=by
                obtain⟨f1,f2⟩:=qE.o wv false (Below.refl _ _) (by rw[OY.o.2];simp);have gd:=(Gr.refl (wv.setCell ⟨gg,i,none⟩ (.bool false))).drew.below;exact⟨f1.trans (Kp.of_below (S:=fun _=>False) gd) (fun _ _ h=>h.elim),ag f2 gd⟩
               go_simp;clear d0 dz d5;refine hK.o _ _ (fun hD=>absurd (List.mem_cons_self ..) hD) ?_;clear hK K;try simp only[Act.put,qI,q0,qS]
               refine aj (by kernel_rfl) ?_ _;clear qE dD HI hS0;generalize (wv.setCell ⟨gg,i,none⟩ (.bool false)).drew=wz at FIN⊢;go_wp2_with fail;go_roundw;case rel=>exact⟨i+1,by omega,by go_num,FIN.o⟩
               case measure=>simp[RowKit.intOf];omega
             ·have hiz:¬(i:Int)<(nf:Int):=(by omega);have FIN:Hid (Kp (fun k=>k=gg) wQ wv/\wv.ownsRow gg 4 1 (.slice (some ⟨gg,0,none⟩) nf nf) nf (fl jK (il f ((none:Option ah).toList++vs)))/\(∀v∈us,v∈(none:Option ah).toList++vs)/\∀i a,i<m+1->LS[i]? =some a->∀v,bz a x.2.1=some v->v∈(none:Option ah).toList++vs):=by
               have e:i=f.length:=(by have:=Bb.o.2.1;omega);refine⟨Gl.o.1.trans HI.o.1 fun _ _ h=>h, ?_,fun v hv=>List.mem_append_right _ (HM.o.2.2.1 v hv),fun k a hk ha v hv=> ?_⟩
               ·rw[<-BZ,<-e];exact HI.o.2
               ·by_cases e2:k=m
                ·subst e2;rw[HAM.o]at ha;obtain rfl:=Option.some.inj ha;rw[<-HO.o.1]at hv;cases hv
                ·exact List.mem_append_right _ (HM.o.2.2.2 k a (by omega) ha v hv)
              clear HI HM Gl HAM HO;go_wp2_with fail;go_roundw;case rel=>exact⟨m+1,_,by omega,by go_num,FIN.o⟩
              case measure=>simp[RowKit.intOf];omega
           | some ov=>
            obtain rfl:uv=ov:=HO.o.2 _ rfl;have hcv:bC ax f uv=true:=by
             refine Bb.o.1.safe x (lM ZH.o) (by omega) a9 ?_ uv HO.o.1.symm;rw[<-Xv.o.1];exact lM HAM.o
            have hop:=HOP.o Wl q uv (HY.o Wl Kj.o.1).1 Sr;rw[HFE.o,hcv]at hop;go_upto_region 24 with fail;rw[J4.o.1,J4.o.2];clear J4;have c24:=(aa Kj.o.2.2.1).1;have l24:=ae Kj.o.2.2.1;go_wp2_with fail;refine hop.mono ?_;clear hop c24 l24;rintro e DI ⟨rfl,h25⟩;have Gl:Hid (Kp (fun k=>k=gg) wQ DI/\DI.ownsRow gg 4 1 (.slice (some ⟨gg,0,none⟩) nf nf) nf (fl jK (il f vs))/\DI.heap[b15]? =some (.cells #[.int .u64 uv.1.1, .int .u64 uv.1.2.1, .int .u64 uv.1.2.2] 45 (0,0))/\b15≠gg):=⟨Kj.o.1.trans (Kp.of_below (S:=fun _=>False) h25) (fun _ _ h=>h.elim),ag Kj.o.2.1 h25,(h25.block _ (ae Kj.o.2.2.1)).trans Kj.o.2.2.1,Kj.o.2.2.2⟩;clear h25 Kj hcv;go_wp2_with fail;go_loopw [108] (fun Ew wv=>∃i:Nat,i<=nf/\Ew= .int .i64 (i:Nat)/\Hid (Kp (fun k=>k=gg) DI wv/\wv.ownsRow gg 4 1 (.slice (some ⟨gg,0,none⟩) nf nf) nf (fl jK (gV f vs (some uv) i)))) (fun Ew _=>nf-(RowKit.intOf Ew).toNat);case atStart=>exact⟨0,Nat.zero_le _,rfl,Kp.aU (Gr.refl DI),by rw[yh];exact Gl.o.2.1⟩
            case round=>
             obtain⟨i,hi,rfl,HI⟩:=hrel;rename World=>wv;have hi1:(0:Int)<=(i:Int):=(by omega);by_cases hil:i<nf
             ·have hiz:(i:Int)<(nf:Int):=(by omega);obtain⟨v,hv⟩:∃v,f[i]? =some v:=⟨f[i]'(by have:=Bb.o.2.1;omega),by simp⟩;have HV:=hid hv;have Gv:Hid (∀W,Below wv.heap.size wv W->Kp (fun k=>k=gg) wQ W):=fun W hW=>(Gl.o.1.trans HI.o.1 fun _ _ h=>h).trans (Kp.of_below (S:=fun _=>False) hW) (fun _ _ h=>h.elim);obtain⟨bf,of,qf,SK,zf,-,-,-⟩:=Ls.at3 (HY.o wv (Gv.o wv (Below.refl _ _))).2.1 hv;simp only[vS]at SK;obtain⟨rfl,-,-⟩:=SK;clear zf hv;obtain⟨eb,Vd⟩:=aB (decide (v∈vs));obtain⟨ez,SB⟩:=aB (decide ((some uv)=some v));have OY:Hid (eb=decide (v∈vs)/\ez=decide ((some uv)=some v)):=⟨Vd,SB⟩;have hget:=BX (us:=vs) (o:=(some uv)) HV.o;rw[<-Vd]at hget;clear Vd;have dD:Hid (∀W,Below wv.heap.size wv W->W.cell? ⟨gg,i,none⟩=some (.bool eb)/\gg<W.heap.size/\W.cell? ⟨bf,of+i*3,none⟩=some (.int .u64 v.1.1)/\W.cell? ⟨bf,of+i*3+1,none⟩=some (.int .u64 v.1.2.1)/\W.cell? ⟨bf,of+i*3+2,none⟩=some (.int .u64 v.1.2.2)/\bf<W.heap.size/\W.heap[b15]? =some (.cells #[.int .u64 uv.1.1, .int .u64 uv.1.2.1, .int .u64 uv.1.2.2] 45 (0,0))/\W.frozen? ⟨gg,i,none⟩=false):=fun W hW=>by
               have ho:=ag HI.o.2 hW;have hrow:W.ownsRow gg 4 1 (.slice (some ⟨gg,0,none⟩) nf nf) (gV f vs (some uv) i).length (fl jK (gV f vs (some uv) i)):=(by rw[BV,<-Bb.o.2.1];exact ho);obtain⟨b',o',c',hv',hb',hc'⟩:=Ls.get (E:=jK) (show Ls jK W (.slice (some ⟨gg,0,none⟩) nf nf) (gV f vs (some uv) i)from aJ (E:=jK) hrow) hget;simp only[vS,oI,aI,and_true]at hv';obtain⟨⟨rfl,rfl⟩,-,-⟩:=hv';have e0:=hc' 0 _ (by decide) rfl;rw[show jK.k=1 from rfl,Nat.mul_one,nZ,nO]at e0;obtain⟨b3,o3,c3,hv3,hb3,k0,k1,k2⟩:=Ls.at3 (HY.o W (Gv.o W hW)).2.1 HV.o;simp only[vS,oI,aI,and_true]at hv3;obtain⟨⟨rfl,rfl⟩,-,-⟩:=hv3;have U8:Kp (fun k=>k=gg) DI W:=HI.o.1.trans (Kp.of_below (S:=fun _=>False) hW) (fun _ _ h=>h.elim);exact⟨e0,(ho.lt gg rfl).2,k0,k1,k2,hb3,(U8.block b15 (ae Gl.o.2.2.1) Gl.o.2.2.2).trans Gl.o.2.2.1,ho.frozenAt _⟩
              have qE:Hid (∀W z,Below wv.heap.size wv W->z=(eb|| ez)->Kp (fun k=>k=gg) DI (W.setCell ⟨gg,i,none⟩ (.bool z))/\(W.setCell ⟨gg,i,none⟩ (.bool z)).ownsRow gg 4 1 (.slice (some ⟨gg,0,none⟩) nf nf) nf (fl jK (gV f vs (some uv) (i+1)))):=fun W z hW hz=>by
               have ho:=ag HI.o.2 hW;obtain⟨k1,k2⟩:=qQ ho i (.bool z);have e:=Am jK (gV f vs (some uv) i) i 0 eb z (.bool z) hget (by decide) (by simp[jK]);rw[show jK.k=1 from rfl,Nat.mul_one,nO]at e;rw[e,hz,OY.o.1,OY.o.2,yj HV.o,<-OY.o.1,<-OY.o.2,<-hz]at k1;exact⟨(HI.o.1.trans (Kp.of_below (S:=fun _=>False) hW) (fun _ _ h=>h.elim)).trans k2 (fun _ _ h=>h),k1⟩
              clear hget Gv;go_upto_region 29 with fail;have hS0:Below wv.heap.size wv wv.drew:=(Gr.refl wv).drew.below;cases eb with
              | true=>
               refine av (S:=fun W:World=>Below wv.heap.size wv W) (D:=[18]) hmx ?_;refine' au 0 hS0 ?_;refine' au 1 hS0 ?_;refine' au 2 hS0 ?_;refine' au 3 hS0 ?_;refine' aR 4 hS0 ?h ?_;case h=>(intro W hSw;obtain⟨d0,dz,d1,d2,d3,dy,d4,-⟩:=dD.o W hSw;have e0:=(aa d4).1;have e1:=ae d4;go_simp;try(with_reducible rfl))
               refine' aR 5 hS0 ?h ?_;case h=>(intro W hSw;obtain⟨d0,dz,d1,d2,d3,dy,d4,-⟩:=dD.o W hSw;have e0:=(aa d4).1;have e1:=ae d4;go_simp;try(with_reducible rfl))
               refine' au 6 hS0 ?_;refine' bQ 7 hS0 ?_;refine' bQ 8 hS0 ?_;refine' bQ 9 hS0 ?_;refine' bQ 10 hS0 ?_;refine' bQ 11 hS0 ?_;refine' bQ 12 hS0 ?_;refine' bQ 13 hS0 ?_;refine' bQ 14 hS0 ?_;refine' bQ 15 hS0 ?_;refine' au 16 hS0 ?_;refine' aR 17 hS0 ?h ?_;case h=>(intro W hSw;obtain⟨d0,dz,d1,d2,d3,dy,d4,-⟩:=dD.o W hSw;have e0:=(aa d4).1;have e1:=ae d4;go_simp;try(with_reducible rfl))
               refine bF 18 fun K hK=> ?_;obtain⟨d0,dz,-,-,-,-,-,d5⟩:=dD.o wv.drew hS0;have FIN:Hid (Kp (fun k=>k=gg) DI (wv.setCell ⟨gg,i,none⟩ (.bool true)).drew/\(wv.setCell ⟨gg,i,none⟩ (.bool true)).drew.ownsRow gg 4 1 (.slice (some ⟨gg,0,none⟩) nf nf) nf (fl jK (gV f vs (some uv) (i+1)))):=by
                obtain⟨f1,f2⟩:=qE.o wv true (Below.refl _ _) (by rfl);have gd:=(Gr.refl (wv.setCell ⟨gg,i,none⟩ (.bool true))).drew.below;exact⟨f1.trans (Kp.of_below (S:=fun _=>False) gd) (fun _ _ h=>h.elim),ag f2 gd⟩
               go_simp;clear d0 dz d5;refine hK.o _ _ (fun hD=>absurd (List.mem_cons_self ..) hD) ?_;clear hK K;try simp only[Act.put,qI,q0,qS]
               refine aj (by kernel_rfl) ?_ _;clear qE dD HI hS0;generalize (wv.setCell ⟨gg,i,none⟩ (.bool true)).drew=wz at FIN⊢;go_wp2_with fail;go_roundw;case rel=>exact⟨i+1,by omega,by go_num,FIN.o⟩
               case measure=>simp[RowKit.intOf];omega
              | false=>
               have heq:∀W,Sem.run Tryz.prog (Op.equalIn 10000 45 (.agg #[.int .u64 v.1.1, .int .u64 v.1.2.1, .int .u64 v.1.2.2]) (.agg #[.int .u64 uv.1.1, .int .u64 uv.1.2.1, .int .u64 uv.1.2.2])) W= .ok ez W:=fun W=>by
                have h:=Rs.BC 9998 v.1.1 v.1.2.1 v.1.2.2 uv.1.1 uv.1.2.1 uv.1.2.2 W;have e:oV v.1.1 v.1.2.1 v.1.2.2 uv.1.1 uv.1.2.1 uv.1.2.2=ez:=by
                 rw[SB,Bool.eq_iff_iff,sZ,decide_eq_true_eq];exact⟨fun k=>by rw[bU k.1 k.2.1 k.2.2],fun k=>by have:=Option.some.inj k;rw[this];exact⟨rfl,rfl,rfl⟩⟩
                rw[e]at h;exact h
               clear SB;refine av (S:=fun W:World=>Below wv.heap.size wv W) (D:=[18]) hmx ?_;refine' au 0 hS0 ?_;refine' au 1 hS0 ?_;refine' au 2 hS0 ?_;refine' au 3 hS0 ?_;refine' aR 4 hS0 ?h ?_;case h=>(intro W hSw;obtain⟨d0,dz,d1,d2,d3,dy,d4,-⟩:=dD.o W hSw;have e0:=(aa d4).1;have e1:=ae d4;go_simp;try(with_reducible rfl))
               refine' aR 5 hS0 ?h ?_;case h=>(intro W hSw;obtain⟨d0,dz,d1,d2,d3,dy,d4,-⟩:=dD.o W hSw;have e0:=(aa d4).1;have e1:=ae d4;go_simp;try(with_reducible rfl))
               refine' au 6 hS0 ?_;refine' au 7 hS0 ?_;refine' au 8 hS0 ?_;refine' au 9 hS0 ?_;refine' au 10 hS0 ?_;refine' aR 11 hS0 ?h ?_;case h=>(intro W hSw;obtain⟨d0,dz,d1,d2,d3,dy,d4,-⟩:=dD.o W hSw;have e0:=(aa d4).1;have e1:=ae d4;go_simp;try(with_reducible rfl))
               refine' aR 12 hS0 ?h ?_;case h=>(intro W hSw;obtain⟨d0,dz,d1,d2,d3,dy,d4,-⟩:=dD.o W hSw;have e0:=(aa d4).1;have e1:=ae d4;go_simp;try(with_reducible rfl))
               refine' aR 13 hS0 ?h ?_;case h=>(intro W hSw;obtain⟨d0,dz,d1,d2,d3,dy,d4,-⟩:=dD.o W hSw;have e0:=(aa d4).1;have e1:=ae d4;go_simp;try(with_reducible rfl))
               refine' aR 14 hS0 ?h ?_;case h=>(intro W hSw;have hq:=heq W;go_simp;try(with_reducible rfl))
               refine' au 15 hS0 ?_;refine' au 16 hS0 ?_;refine' aR 17 hS0 ?h ?_;case h=>(intro W hSw;obtain⟨d0,dz,d1,d2,d3,dy,d4,-⟩:=dD.o W hSw;have e0:=(aa d4).1;have e1:=ae d4;go_simp;try(with_reducible rfl))
               refine bF 18 fun K hK=> ?_;obtain⟨d0,dz,-,-,-,-,-,d5⟩:=dD.o wv.drew hS0;have FIN:Hid (Kp (fun k=>k=gg) DI (wv.setCell ⟨gg,i,none⟩ (.bool ez)).drew/\(wv.setCell ⟨gg,i,none⟩ (.bool ez)).drew.ownsRow gg 4 1 (.slice (some ⟨gg,0,none⟩) nf nf) nf (fl jK (gV f vs (some uv) (i+1)))):=by
                obtain⟨f1,f2⟩:=qE.o wv ez (Below.refl _ _) (by rfl);have gd:=(Gr.refl (wv.setCell ⟨gg,i,none⟩ (.bool ez))).drew.below;exact⟨f1.trans (Kp.of_below (S:=fun _=>False) gd) (fun _ _ h=>h.elim),ag f2 gd⟩
               go_simp;clear d0 dz d5;refine hK.o _ _ (fun hD=>absurd (List.mem_cons_self ..) hD) ?_;clear hK K;try simp only[Act.put,qI,q0,qS]
               refine aj (by kernel_rfl) ?_ _;clear qE dD HI hS0;generalize (wv.setCell ⟨gg,i,none⟩ (.bool ez)).drew=wz at FIN⊢;go_wp2_with fail;go_roundw;case rel=>exact⟨i+1,by omega,by go_num,FIN.o⟩
               case measure=>simp[RowKit.intOf];omega
             ·have hiz:¬(i:Int)<(nf:Int):=(by omega);have FIN:Hid (Kp (fun k=>k=gg) wQ wv/\wv.ownsRow gg 4 1 (.slice (some ⟨gg,0,none⟩) nf nf) nf (fl jK (il f (((some uv):Option ah).toList++vs)))/\(∀v∈us,v∈((some uv):Option ah).toList++vs)/\∀i a,i<m+1->LS[i]? =some a->∀v,bz a x.2.1=some v->v∈((some uv):Option ah).toList++vs):=by
               have e:i=f.length:=(by have:=Bb.o.2.1;omega);refine⟨Gl.o.1.trans HI.o.1 fun _ _ h=>h, ?_,fun v hv=>List.mem_append_right _ (HM.o.2.2.1 v hv),fun k a hk ha v hv=> ?_⟩
               ·rw[<-BZ,<-e];exact HI.o.2
               ·by_cases e2:k=m
                ·subst e2;rw[HAM.o]at ha;obtain rfl:=Option.some.inj ha;rw[<-HO.o.1]at hv;rw[<-Option.some.inj hv];exact List.mem_append_left _ (List.mem_singleton_self _)
                ·exact List.mem_append_right _ (HM.o.2.2.2 k a (by omega) ha v hv)
              clear HI HM Gl HAM HO;go_wp2_with fail;go_roundw;case rel=>exact⟨m+1,_,by omega,by go_num,FIN.o⟩
              case measure=>simp[RowKit.intOf];omega
          ·have hmz:¬(m:Int)<(nl:Int):=(by omega);have FIN:Hid (Kp (fun k=>k=gg) w16 wy/\wy.ownsRow gg 4 1 (.slice (some ⟨gg,0,none⟩) nf nf) nf (fl jK (il f vs))/\∀i x,i<j+1->CL[i]? =some x->0<x.2.2->∀a∈bt N R x.1 (q:Int),∀v,bz a x.2.1=some v->v∈vs):=by
            obtain⟨a1,a2,a3,a4⟩:=HM.o;refine⟨P20.o.1.trans a1 fun _ _ h=>h,a2,fun i y hi hy h0 a ha v hv=> ?_⟩;by_cases e:i=j
            ·subst e;rw[ZH.o]at hy;obtain rfl:=Option.some.inj hy;rw[<-Xv.o.1]at ha;obtain⟨k,hk,hk2⟩:=List.mem_iff_getElem.1 ha;exact a4 k a (by have:=Xv.o.2;omega) (by rw[nY hk,hk2]) v hv
            ·exact a3 v (HJ.o.2.2 i y (by omega) hy h0 a ha v hv)
           clear HM P20 HY tZ HJ ZH Xv;go_wp2_with fail;go_roundw;case rel=>exact⟨j+1,vs,by omega,by go_num,FIN.o⟩
           case measure=>simp[RowKit.intOf];omega
       ·have hjz:¬(j:Int)<(nc:Int):=(by omega);have HE:Hid (∀W,Below wx.heap.size wx W->Below we.heap.size we W/\Ls ET W (.slice pf nf cf) f/\∀i v,f[i]? =some v->W.cell? ⟨gg,i,none⟩=some (.bool true)/\gg<W.heap.size):=fun W hW=>by
         obtain⟨a1,a2,a3⟩:=HJ.o;obtain⟨d1,d2,-⟩:=HX.o W (a1.trans (Kp.of_below (S:=fun _=>False) hW) (fun _ _ h=>h.elim));refine⟨d1,d2,fun i v hv=> ?_⟩;have ho:=ag a2 hW;have hrow:W.ownsRow gg 4 1 (.slice (some ⟨gg,0,none⟩) nf nf) (il f us).length (fl jK (il f us)):=(by unfold il at ho⊢;rw[fG,<-Bb.o.2.1];exact ho);have hget:(il f us)[i]? =some true:=by
          obtain⟨y,hy,hy0,a,ha,hav⟩:=Bb.o.1.met v (lM hv);obtain⟨k,hk,hk2⟩:=List.mem_iff_getElem.1 hy;have:=a3 k y (by have:=Bb.o.2.2;omega) (by rw[nY hk,hk2]) hy0 a ha v hav;unfold il;rw[gM,hv,Option.map_some,decide_eq_true this]
         obtain⟨b',o',c',hv',hb',hc'⟩:=Ls.get (E:=jK) (show Ls jK W (.slice (some ⟨gg,0,none⟩) nf nf) (il f us)from aJ (E:=jK) hrow) hget;simp only[vS,oI,aI,and_true]at hv';obtain⟨⟨rfl,rfl⟩,-,-⟩:=hv';have e0:=hc' 0 _ (by decide) rfl;rw[show jK.k=1 from rfl,Nat.mul_one,nZ,nO]at e0;exact⟨e0,(ho.lt gg rfl).2⟩
        clear HJ HX;go_wp2_with fail;go_loopw [134] (fun Ui wy=>∃i:Nat,i<=nf/\Ui= .int .i64 (i:Nat)/\Hid (Below wx.heap.size wx wy)) (fun Ui _=>nf-(RowKit.intOf Ui).toNat);case atStart=>exact⟨0,Nat.zero_le _,rfl,Below.refl _ _⟩
        case round=>
         obtain⟨i,hi,rfl,HI⟩:=hrel;rename World=>wy;have hi1:(0:Int)<=(i:Int):=(by omega);by_cases hil:i<nf
         ·have hiz:(i:Int)<(nf:Int):=(by omega);obtain⟨v,hv⟩:∃v,f[i]? =some v:=⟨f[i]'(by have:=Bb.o.2.1;omega),by simp⟩;have HV:=hid hv;obtain⟨bf,of,qf,SK,zf,-,-,-⟩:=Ls.at3 (HE.o wy HI.o).2.1 hv;simp only[vS]at SK;obtain⟨rfl,-,-⟩:=SK;clear zf hv;have D5:Hid (∀W,Below wy.heap.size wy W->∀k u,f[k]? =some u->W.cell? ⟨bf,of+k*3,none⟩=some (.int .u64 u.1.1)/\W.cell? ⟨bf,of+k*3+1,none⟩=some (.int .u64 u.1.2.1)/\W.cell? ⟨bf,of+k*3+2,none⟩=some (.int .u64 u.1.2.2)/\bf<W.heap.size/\W.cell? ⟨gg,k,none⟩=some (.bool true)/\gg<W.heap.size):=fun W hW k u hu=>by
           obtain⟨-,e2,e3⟩:=HE.o W (HI.o.trans (hW.mono HI.o.size));obtain⟨b3,o3,c3,hv3,hb3,k0,k1,k2⟩:=Ls.at3 e2 hu;simp only[vS,oI,aI,and_true]at hv3;obtain⟨⟨rfl,rfl⟩,-,-⟩:=hv3;exact⟨k0,k1,k2,hb3,e3 k u hu⟩
          go_upto_region 36 with fail;have hS0:Below wy.heap.size wy wy.drew:=(Gr.refl wy).drew.below;by_cases hi0:i=0
          ·have aaE:¬(0:Int)<(i:Int):=(by omega);clear hi0;refine av (S:=fun W:World=>Below wy.heap.size wy W) (D:=[]) hmx ?_;refine' au 0 hS0 ?_;refine' au 1 hS0 ?_;refine' aR 2 hS0 ?h ?_;case h=>(intro W hSw;obtain⟨-,-,-,-,d4,d5⟩:=D5.o W hSw i v HV.o;go_simp;try(with_reducible rfl))
           refine' aR 3 hS0 ?h ?_;case h=>(intro W hSw;obtain⟨-,-,-,-,d4,d5⟩:=D5.o W hSw i v HV.o;go_simp;try(with_reducible rfl))
           refine' au 4 hS0 ?_;refine' au 5 hS0 ?_;refine' au 6 hS0 ?_;refine' aR 7 hS0 ?h ?_ (v:=(.bool false));case h=>(intro W hSw;(try go_simp);(try simp[aaE]);(try omega))
           refine' au 8 hS0 ?_;refine' bQ 9 hS0 ?_;refine' bQ 10 hS0 ?_;refine' bQ 11 hS0 ?_;refine' bQ 12 hS0 ?_;refine' bQ 13 hS0 ?_;refine' bQ 14 hS0 ?_;refine' bQ 15 hS0 ?_;refine' bQ 16 hS0 ?_;refine' bQ 17 hS0 ?_;refine' bQ 18 hS0 ?_;refine' bQ 19 hS0 ?_;refine' au 20 hS0 ?_;refine' au 21 hS0 ?_;refine aj (by kernel_rfl) ?_ _;have HZ2:=hid hS0;clear hS0;go_wp2_with fail;go_loopw [161] (fun Eu wv=>∃k:Nat,k<=nf/\Eu= .int .i64 (k:Nat)/\Hid (Below wy.heap.size wy wv)) (fun Eu _=>nf-(RowKit.intOf Eu).toNat);case atStart=>exact⟨0,Nat.zero_le _,rfl,HZ2.o⟩
           case round=>
            obtain⟨k,hk,rfl,HKK⟩:=hrel;rename World=>wv;have hk1:(0:Int)<=(k:Int):=(by omega);by_cases hkl:k<nf
            ·have hkz:(k:Int)<(nf:Int):=(by omega);obtain⟨u,hu⟩:∃u,f[k]? =some u:=⟨f[k]'(by have:=Bb.o.2.1;omega),by simp⟩;have HU:=hid hu;clear hu;go_upto_region 41 with fail;have hS0:Below wv.heap.size wv wv.drew:=(Gr.refl wv).drew.below;have Du:Hid (∀W,Below wv.heap.size wv W->Below wy.heap.size wy W):=fun W hW=>HKK.o.trans (hW.mono HKK.o.size);by_cases hik:i=k
             ·have Fy:(i:Int)=(k:Int):=(by omega);refine av (S:=fun W:World=>Below wv.heap.size wv W) (D:=[]) hmx ?_;refine' au 0 hS0 ?_;refine' au 1 hS0 ?_;refine' aR 2 hS0 ?h ?_ (v:=(.bool false));case h=>(intro W hSw;(try go_simp);(try simp[Fy]);(try omega))
              refine' au 3 hS0 ?_;refine' bQ 4 hS0 ?_;refine' bQ 5 hS0 ?_;refine' bQ 6 hS0 ?_;refine' bQ 7 hS0 ?_;refine' bQ 8 hS0 ?_;refine' bQ 9 hS0 ?_;refine' bQ 10 hS0 ?_;refine' bQ 11 hS0 ?_;refine' bQ 12 hS0 ?_;refine' au 13 hS0 ?_;refine aj (by kernel_rfl) ?_ _;have FIN:=hid (Du.o _ hS0);clear hS0 Du;go_wp2_with fail;go_roundw;case rel=>exact⟨k+1,by omega,by go_num,FIN.o⟩
              case measure=>simp[RowKit.intOf];omega
             ·have Fy:¬(i:Int)=(k:Int):=(by omega);have hbl:Bn v.1.1 v.1.2.1 v.1.2.2 u.1.1 u.1.2.1 u.1.2.2=false:=Bb.o.1.apart i k v u HV.o HU.o hik;refine av (S:=fun W:World=>Below wv.heap.size wv W) (D:=[]) hmx ?_;refine' au 0 hS0 ?_;refine' au 1 hS0 ?_;refine' aR 2 hS0 ?h ?_ (v:=(.bool true));case h=>(intro W hSw;(try go_simp);(try simp[Fy]);(try omega))
              refine' au 3 hS0 ?_;refine' au 4 hS0 ?_;refine' au 5 hS0 ?_;refine' aR 6 hS0 ?h ?_;case h=>(intro W hSw;obtain⟨d0,d1,d2,d3,-,-⟩:=D5.o W (Du.o W hSw) i v HV.o;go_simp;try(with_reducible rfl))
              refine' aR 7 hS0 ?h ?_;case h=>(intro W hSw;obtain⟨d0,d1,d2,d3,-,-⟩:=D5.o W (Du.o W hSw) i v HV.o;go_simp;try(with_reducible rfl))
              refine' au 8 hS0 ?_;refine' au 9 hS0 ?_;refine' aR 10 hS0 ?h ?_;case h=>(intro W hSw;obtain⟨d0,d1,d2,d3,-,-⟩:=D5.o W (Du.o W hSw) k u HU.o;go_simp;try(with_reducible rfl))
              refine' aR 11 hS0 ?h ?_;case h=>(intro W hSw;obtain⟨d0,d1,d2,d3,-,-⟩:=D5.o W (Du.o W hSw) k u HU.o;go_simp;try(with_reducible rfl))
              refine bF 12 fun K hK=> ?_;rw[if_pos (by kernel_rfl)];go_simp;refine(kz _ _ _ _ _ _ _).mono ?_;rintro e y9 ⟨rfl,g9⟩;have fZ:Below wv.heap.size wv y9:=hS0.trans (g9.below.mono hS0.size);clear g9;go_wp2_with fail;try rw[hbl]
              refine hK.o _ _ (fun hD=>fZ) ?_;clear hK K;try simp only[Act.put,qI,q0,qS]
              refine' au 13 fZ ?_;refine aj (by kernel_rfl) ?_ _;have FIN:=hid (Du.o _ fZ);clear hS0 fZ Du;go_wp2_with fail;go_roundw;case rel=>exact⟨k+1,by omega,by go_num,FIN.o⟩
              case measure=>simp[RowKit.intOf];omega
            ·have hkz:¬(k:Int)<(nf:Int):=(by omega);have FIN:Hid (Below wx.heap.size wx wv):=HI.o.trans (HKK.o.mono HI.o.size);go_wp2_with fail;go_roundw;case rel=>exact⟨i+1,by omega,by go_num,FIN.o⟩
             case measure=>simp[RowKit.intOf];omega
          ·have hip:(0:Int)<(i:Int):=(by omega);obtain⟨i',hi'⟩:∃k,k=i-1:=⟨_,rfl⟩;have hie:(i:Int)-1=(i':Int):=(by omega);have hwr:IntKind.i64.wrap (i':Int)=(i':Int):=by
            have h9:i'<448000:=(by omega);simp[IntKind.wrap,IntKind.bits,IntKind.signed];omega
           have hi'0:(0:Int)<=(i':Int):=(by omega);have hi'n:(i':Int)<(nf:Int):=(by omega);obtain⟨u,hu⟩:∃u,f[i']? =some u:=⟨f[i']'(by have:=Bb.o.2.1;omega),by simp⟩;have HU:=hid hu;obtain⟨z,hz⟩:=aB (wZ u v);have hz0':¬0<=z:=by
            have:=Bb.o.1.so i' u v hu (by rw[show i'+1=i by omega];exact HV.o);omega
           have htc:kG u.1.1 u.1.2.1 u.1.2.2 v.1.1 v.1.2.1 v.1.2.2=z:=hz.symm;clear hu hz hi' ;refine av (S:=fun W:World=>Below wy.heap.size wy W) (D:=[]) hmx ?_;refine' au 0 hS0 ?_;refine' au 1 hS0 ?_;refine' aR 2 hS0 ?h ?_;case h=>(intro W hSw;obtain⟨-,-,-,-,d4,d5⟩:=D5.o W hSw i v HV.o;go_simp;try(with_reducible rfl))
           refine' aR 3 hS0 ?h ?_;case h=>(intro W hSw;obtain⟨-,-,-,-,d4,d5⟩:=D5.o W hSw i v HV.o;go_simp;try(with_reducible rfl))
           refine' au 4 hS0 ?_;refine' au 5 hS0 ?_;refine' au 6 hS0 ?_;refine' aR 7 hS0 ?h ?_ (v:=(.bool true));case h=>(intro W hSw;(try go_simp);(try simp[hip]);(try omega))
           refine' au 8 hS0 ?_;refine' au 9 hS0 ?_;refine' au 10 hS0 ?_;refine' au 11 hS0 ?_;refine' aR 12 hS0 ?h ?_;case h=>(intro W hSw;obtain⟨d0,d1,d2,d3,-,-⟩:=D5.o W hSw i' u HU.o;go_simp;try(with_reducible rfl))
           refine' aR 13 hS0 ?h ?_;case h=>(intro W hSw;obtain⟨d0,d1,d2,d3,-,-⟩:=D5.o W hSw i' u HU.o;go_simp;try(with_reducible rfl))
           refine' au 14 hS0 ?_;refine' au 15 hS0 ?_;refine' aR 16 hS0 ?h ?_;case h=>(intro W hSw;obtain⟨d0,d1,d2,d3,-,-⟩:=D5.o W hSw i v HV.o;go_simp;try(with_reducible rfl))
           refine' aR 17 hS0 ?h ?_;case h=>(intro W hSw;obtain⟨d0,d1,d2,d3,-,-⟩:=D5.o W hSw i v HV.o;go_simp;try(with_reducible rfl))
           refine bF 18 fun K hK=> ?_;rw[if_pos (by kernel_rfl)];go_simp;refine(eX _ _ _ _ _ _ _).mono ?_;rintro e y9 ⟨rfl,g9⟩;have fZ:Below wy.heap.size wy y9:=hS0.trans (g9.below.mono hS0.size);clear g9;go_wp2_with fail;try rw[htc]
           refine hK.o _ _ (fun hD=>fZ) ?_;clear hK K;try simp only[Act.put,qI,q0,qS]
           refine' au 19 fZ ?_;refine' au 20 fZ ?_;refine' au 21 fZ ?_;refine aj (by kernel_rfl) ?_ _;have HZ2:=hid fZ;clear hS0 fZ;go_wp2_with fail;go_loopw [161] (fun Eu wv=>∃k:Nat,k<=nf/\Eu= .int .i64 (k:Nat)/\Hid (Below wy.heap.size wy wv)) (fun Eu _=>nf-(RowKit.intOf Eu).toNat);case atStart=>exact⟨0,Nat.zero_le _,rfl,HZ2.o⟩
           case round=>
            obtain⟨k,hk,rfl,HKK⟩:=hrel;rename World=>wv;have hk1:(0:Int)<=(k:Int):=(by omega);by_cases hkl:k<nf
            ·have hkz:(k:Int)<(nf:Int):=(by omega);obtain⟨u,hu⟩:∃u,f[k]? =some u:=⟨f[k]'(by have:=Bb.o.2.1;omega),by simp⟩;have HU:=hid hu;clear hu;go_upto_region 41 with fail;have hS0:Below wv.heap.size wv wv.drew:=(Gr.refl wv).drew.below;have Du:Hid (∀W,Below wv.heap.size wv W->Below wy.heap.size wy W):=fun W hW=>HKK.o.trans (hW.mono HKK.o.size);by_cases hik:i=k
             ·have Fy:(i:Int)=(k:Int):=(by omega);refine av (S:=fun W:World=>Below wv.heap.size wv W) (D:=[]) hmx ?_;refine' au 0 hS0 ?_;refine' au 1 hS0 ?_;refine' aR 2 hS0 ?h ?_ (v:=(.bool false));case h=>(intro W hSw;(try go_simp);(try simp[Fy]);(try omega))
              refine' au 3 hS0 ?_;refine' bQ 4 hS0 ?_;refine' bQ 5 hS0 ?_;refine' bQ 6 hS0 ?_;refine' bQ 7 hS0 ?_;refine' bQ 8 hS0 ?_;refine' bQ 9 hS0 ?_;refine' bQ 10 hS0 ?_;refine' bQ 11 hS0 ?_;refine' bQ 12 hS0 ?_;refine' au 13 hS0 ?_;refine aj (by kernel_rfl) ?_ _;have FIN:=hid (Du.o _ hS0);clear hS0 Du;go_wp2_with fail;go_roundw;case rel=>exact⟨k+1,by omega,by go_num,FIN.o⟩
              case measure=>simp[RowKit.intOf];omega
             ·have Fy:¬(i:Int)=(k:Int):=(by omega);have hbl:Bn v.1.1 v.1.2.1 v.1.2.2 u.1.1 u.1.2.1 u.1.2.2=false:=Bb.o.1.apart i k v u HV.o HU.o hik;refine av (S:=fun W:World=>Below wv.heap.size wv W) (D:=[]) hmx ?_;refine' au 0 hS0 ?_;refine' au 1 hS0 ?_;refine' aR 2 hS0 ?h ?_ (v:=(.bool true));case h=>(intro W hSw;(try go_simp);(try simp[Fy]);(try omega))
              refine' au 3 hS0 ?_;refine' au 4 hS0 ?_;refine' au 5 hS0 ?_;refine' aR 6 hS0 ?h ?_;case h=>(intro W hSw;obtain⟨d0,d1,d2,d3,-,-⟩:=D5.o W (Du.o W hSw) i v HV.o;go_simp;try(with_reducible rfl))
              refine' aR 7 hS0 ?h ?_;case h=>(intro W hSw;obtain⟨d0,d1,d2,d3,-,-⟩:=D5.o W (Du.o W hSw) i v HV.o;go_simp;try(with_reducible rfl))
              refine' au 8 hS0 ?_;refine' au 9 hS0 ?_;refine' aR 10 hS0 ?h ?_;case h=>(intro W hSw;obtain⟨d0,d1,d2,d3,-,-⟩:=D5.o W (Du.o W hSw) k u HU.o;go_simp;try(with_reducible rfl))
              refine' aR 11 hS0 ?h ?_;case h=>(intro W hSw;obtain⟨d0,d1,d2,d3,-,-⟩:=D5.o W (Du.o W hSw) k u HU.o;go_simp;try(with_reducible rfl))
              refine bF 12 fun K hK=> ?_;rw[if_pos (by kernel_rfl)];go_simp;refine(kz _ _ _ _ _ _ _).mono ?_;rintro e y9 ⟨rfl,g9⟩;have fZ:Below wv.heap.size wv y9:=hS0.trans (g9.below.mono hS0.size);clear g9;go_wp2_with fail;try rw[hbl]
              refine hK.o _ _ (fun hD=>fZ) ?_;clear hK K;try simp only[Act.put,qI,q0,qS]
              refine' au 13 fZ ?_;refine aj (by kernel_rfl) ?_ _;have FIN:=hid (Du.o _ fZ);clear hS0 fZ Du;go_wp2_with fail;go_roundw;case rel=>exact⟨k+1,by omega,by go_num,FIN.o⟩
              case measure=>simp[RowKit.intOf];omega
            ·have hkz:¬(k:Int)<(nf:Int):=(by omega);have FIN:Hid (Below wx.heap.size wx wv):=HI.o.trans (HKK.o.mono HI.o.size);go_wp2_with fail;go_roundw;case rel=>exact⟨i+1,by omega,by go_num,FIN.o⟩
             case measure=>simp[RowKit.intOf];omega
         ·have hiz:¬(i:Int)<(nf:Int):=(by omega);have FIN:Hid (Below we.heap.size we wy):=(HE.o wy HI.o).1;clear HI HE;go_wp2_with fail;go_roundw;case rel=>exact⟨q+1,by omega,by go_num,FIN.o⟩
          case measure=>simp[RowKit.intOf];omega
     ·have hqz:¬(q:Int)<(N:Int):=(by omega);go_wp2_with fail;refine hpl.mono ?_;clear hpl;rintro e w9 ⟨rfl,qY⟩;have FIN:Hid (Below w.heap.size w w9):=(by rw[qY];exact HWW.o _ HQ.o);clear qY;go_wp2_with fail;go_ret;exact⟨rfl,FIN.o⟩
end Go.Proofs.YteekbpokkjjipaaGreat.Rc
