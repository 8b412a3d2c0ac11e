import Derived.Test.YtiiefcalkjeieaaGreatJ12
variable{ff hb np g cap cb fb B2 i k b:Nat}{v:Go.Value}{w w2 wr:Go.World}{z:Bool}
set_option maxHeartbeats 16000000
set_option maxRecDepth 100000
namespace Go.Proofs.YtiiefcalkjeieaaGreat
namespace Hf
open Go.RowKit Go.Sort Hp
attribute[local go_sem ↓]wp_at_zero wp_at_succ
theorem xg{n c:Nat}(h:(sO g n c).ownBlock=some k):g=k:=by simpa[Value.ownBlock]using h
theorem MC(w:World):(zeroValue 290).run Tryz.prog w= .ok (.agg #[iV 0,uV 0,uV 0,uV 0,uV 0]) w:=by kernel_rfl
theorem oG{T:TypeId}{d0 d1 d2 d3 c0 c1 c2 c3:Value}(h:w.heap[b]? =some (.cells #[d0,d1,d2,d3] T (0,0))):((((w.setCell ⟨b,0,none⟩ c0).setCell ⟨b,1,none⟩ c1).setCell ⟨b,2,none⟩ c2).setCell ⟨b,3,none⟩ c3).heap[b]? =some (.cells #[c0,c1,c2,c3] T (0,0))/\Kp (fun k=>k=b) w ((((w.setCell ⟨b,0,none⟩ c0).setCell ⟨b,1,none⟩ c1).setCell ⟨b,2,none⟩ c2).setCell ⟨b,3,none⟩ c3):=by
 obtain⟨h0,k0⟩:=Df.aP h 0 c0;obtain⟨h1,k1⟩:=Df.aP h0 1 c1;obtain⟨h2,k2⟩:=Df.aP h1 2 c2;obtain⟨h3,k3⟩:=Df.aP h2 3 c3;exact⟨by simpa using h3,(((k0.tr k1).tr k2).tr k3)⟩
theorem wY(w:World)(hH:Hb w hb ff v [] np):CL 127 #[aB hb] w fun e w'=>e= .returned (ans zt false)/\Bw w w':=by
 have hpk:∀W:World,Gr w W->CL 187 #[aB hb] W fun e w'=>e= .returned (ans zt false)/\Gr W w':=fun W h=>kJ W (hH.gr h);clear hH;obtain⟨W0,hW0⟩:=aF (w.alloc (.cells #[iV 0,uV 0,uV 0,uV 0] 215));have G0:Gr w W0:=by rw[hW0];exact(Gr.refl _).alloc _
 obtain⟨A0,xO⟩:=aF (w.heap.size);have hA:W0.heap[A0]? =some (.cells #[iV 0,uV 0,uV 0,uV 0] 215 (0,0)):=by rw[hW0,xO];exact ah _ _
 have YR:Hid (w.heap.size<=A0):=by rw[xO];exact nR _
 go_enter Tryz.func127,Tryz.ntmps127;go_wp2_with fail;rw[<-hW0,<-xO];clear hW0 xO;refine(hpk _ G0).mono ?_;rintro e w1 ⟨rfl,hg1⟩;have HA1:=hid ((hg1.below.block A0 (aG.1 hA).1).trans hA);have hAl:A0<w1.heap.size:=(aG.1 HA1.o).1;have a0:=(Df.aa HA1.o).1;have b0:=(Df.aa HA1.o).2;clear hA;go_wp2;obtain⟨s1,s2⟩:=oG (c0:=iV 0) (c1:=uV 0) (c2:=uV 0) (c3:=uV 0) HA1.o;generalize ((((w1.setCell ⟨A0,0,none⟩ (iV 0)).setCell ⟨A0,1,none⟩ (uV 0)).setCell ⟨A0,2,none⟩ (uV 0)).setCell ⟨A0,3,none⟩ (uV 0))=W5 at s1 s2⊢;have hA5:A0<W5.heap.size:=(aG.1 s1).1;have q0:=(Df.aa s1).1;refine bR (v:=ans zt false) (by simp[results,Tryz.results127,go_sem,q0,hA5]) rfl ?_;refine⟨rfl,((((Kp.bg (S:=fun k=>k=A0) (G0.trans hg1)).tr s2).tr (Kp.bg (S:=fun k=>k=A0) ((Gr.refl W5).alloc _))).below (nR _) (fun k hk=>by subst hk;exact YR.o))⟩
structure Po(w2:World)(hb ff np B2 g cap:Nat)(s:It)(M0:List It)(r:Th->Th->Bool)(M:List It)(i:Nat)(mv:It)(wr:World):Prop where
 inv:(M0=[]/\M=[]/\i=0)\/jH (aX r) M0 s M i mv
 hp:Hb wr hb ff (sO g (M0.length+1) cap) (M++[s]) np
 bx:wr.heap[B2]? =some (.cells #[iV mv.1.1,uV mv.1.2.1.1,uV mv.1.2.1.2.1,uV mv.1.2.1.2.2,uV (mv.2:Nat)] 290 (0,0))
 kp:Kp (fun k=>k=g\/k=B2) w2 wr
 ne:B2≠g/\B2≠hb
theorem Po.len{s mv:It}{M0 M:List It}{r:Th->Th->Bool}(h:Po w2 hb ff np B2 g cap s M0 r M i mv wr):M.length=M0.length:=by
 rcases h.inv with⟨h1,h2,_⟩|h
 ·rw[h1,h2]
 ·exact h.len
theorem Po.row{s mv:It}{M0 M:List It}{r:Th->Th->Bool}(h:Po w2 hb ff np B2 g cap s M0 r M i mv wr):wr.ownsRow 0 290 5 (sO g (M0.length+1) cap) (M0.length+1) (fl EI (M++[s])):=by
 have:=h.hp.own;rw[dQ,h.len]at this;exact this
theorem CF{x y:It}(h:w.heap[b]? =some (.cells #[iV x.1.1,uV x.1.2.1.1,uV x.1.2.1.2.1,uV x.1.2.1.2.2,uV (x.2:Nat)] 290 (0,0))):(((((w.setCell ⟨b,0,none⟩ (iV y.1.1)).setCell ⟨b,1,none⟩ (uV y.1.2.1.1)).setCell ⟨b,2,none⟩ (uV y.1.2.1.2.1)).setCell ⟨b,3,none⟩ (uV y.1.2.1.2.2)).setCell ⟨b,4,none⟩ (uV (y.2:Nat))).heap[b]? =some (.cells #[iV y.1.1,uV y.1.2.1.1,uV y.1.2.1.2.1,uV y.1.2.1.2.2,uV (y.2:Nat)] 290 (0,0))/\Kp (fun k=>k=b) w (((((w.setCell ⟨b,0,none⟩ (iV y.1.1)).setCell ⟨b,1,none⟩ (uV y.1.2.1.1)).setCell ⟨b,2,none⟩ (uV y.1.2.1.2.1)).setCell ⟨b,3,none⟩ (uV y.1.2.1.2.2)).setCell ⟨b,4,none⟩ (uV (y.2:Nat))):=by
 obtain⟨h0,k0⟩:=Df.aP h 0 (iV y.1.1);obtain⟨h1,k1⟩:=Df.aP h0 1 (uV y.1.2.1.1);obtain⟨h2,k2⟩:=Df.aP h1 2 (uV y.1.2.1.2.1);obtain⟨h3,k3⟩:=Df.aP h2 3 (uV y.1.2.1.2.2);obtain⟨h4,k4⟩:=Df.aP h3 4 (uV (y.2:Nat));exact⟨by simpa using h4,((((k0.tr k1).tr k2).tr k3).tr k4)⟩
theorem Po.move{w3 w4:World}{s mv z:It}{M0 M:List It}{r:Th->Th->Bool}(h:Po w2 hb ff np B2 g cap s M0 r M i mv wr)(h0:0<i)(hz:(M++[s])[i]? =some z)
    (b1:w3.heap[B2]? =some (.cells #[iV z.1.1,uV z.1.2.1.1,uV z.1.2.1.2.1,uV z.1.2.1.2.2,uV (z.2:Nat)] 290 (0,0))) (b2:Kp (fun k=>k=B2) wr w3) (o4:w4.ownsRow 0 290 5 (sO g (M0.length+1) cap) (M0.length+1) (fl EI ((M++[s]).set i mv))) (k4:Kp (fun k=>k=g) w3 w4) :
    Po w2 hb ff np B2 g cap s M0 r (M.set i mv) (par i) z w4.drew:=by
 have hgb:hb≠g:=fun e=>h.hp.off (by rw[e];rfl);rcases h.inv with⟨_,_,e⟩|hi
 ·omega
 ·obtain⟨y,hy,hs⟩:=hi.step h0;have hil:i<M.length:=by rw[hi.len];exact hi.OX
  rw[gL hil,hy]at hz;cases hz;have kD:Kp (fun k=>k=g\/k=B2) wr w4.drew:=((b2.mono (fun _ h=>Or.inr h)).tr (k4.mono (fun _ h=>Or.inl h))).tr (Kp.bg (S:=fun k=>k=g\/k=B2) (Gr.refl _).drew);rw[List.set_append_left _ _ hil]at o4;refine⟨Or.inr hs,⟨(kD.block hb h.hp.lt (fun e=>e.elim hgb (fun e=>h.ne.2 e.symm))).trans h.hp.blk, ?_,h.hp.off⟩, ?_,h.kp.tr kD,h.ne⟩
  ·rw[dQ,lZ,hi.len];exact ag o4 (Gr.refl _).drew.below
  ·exact((Gr.refl w4).drew.below.block B2 (nL (aG.1 b1).1 k4.size)).trans ((k4.block B2 (aG.1 b1).1 h.ne.1).trans b1)
theorem Po.done{s mv t:It}{M0 M:List It}{r:Th->Th->Bool}(h:Po w2 hb ff np B2 g cap s M0 r M 0 mv wr)(ht:(M0++[s])[0]? =some t):
    ((M++[s]).set 0 mv).take M0.length=M.set 0 mv/\(t::M.set 0 mv).Perm (M0++[s])/\(Av (aX r)->bZ (aX r) (M0++[s])->bZ (aX r) (M.set 0 mv)):=by
 rcases h.inv with⟨rfl,rfl,_⟩|hi
 ·simp at ht;subst ht;exact⟨by simp,by simp,fun _ _ i x y _ hx _=>by simp at hx⟩
 ·have hil:0<M.length:=by rw[hi.len];exact hi.OX
  obtain⟨⟨u,hu,hp⟩,hh⟩:=hi.done;rw[gL hi.OX,hu]at ht;cases ht;refine⟨?_,hp.trans ?_,fun hA hH=>hh hA ?_⟩
  ·rw[List.set_append_left _ _ hil,List.take_left' (by rw[lZ,hi.len])]
  ·exact(List.perm_append_comm (l₁:=[s]) (l₂:=M0))
  ·have:=hH.take M0.length
   rwa [List.take_left' rfl]at this
theorem Br{L:List It}{t:It}{r:Th->Th->Bool}(w:World)(hH:Hb w hb ff v L np)(ht:L[0]? =some t)(hl:L.length<=140737488355328)(hF:dZ ff r):
    CL 127 #[aB hb] w fun e w'=>e= .returned (ans t.1 true)/\∃v' L',Hb w' hb ff v' L' np/\(t::L').Perm L/\(Av (aX r)->bZ (aX r) L->bZ (aX r) L')/\dX hb v v' w w':=by
 have hmx:Tryz.prog.follows .mixedOrders=true:=by kernel_rfl
 have hpk:∀W:World,Gr w W->CL 187 #[aB hb] W fun e w'=>e= .returned (ans t.1 true)/\Gr W w':=fun W h=>qZ W (hH.gr h) ht;obtain⟨M0,s,rfl⟩:∃M0 s,L=M0++[s]:=by
  have hne:L≠[]:=by intro e;rw[e]at ht;simp at ht
  exact⟨L.dropLast,L.getLast hne,(List.dropLast_concat_getLast hne).symm⟩
 have HT:Hid ((M0++[s])[0]? =some t):=ht;have hlm:M0.length+1<=140737488355328:=by simpa using hl
 obtain⟨g,cap,rfl,hcp⟩:∃g cap,v=sO g (M0.length+1) cap/\M0.length+1<=cap/\cap<=maxLen:=by
  obtain⟨h1,⟨_,h0⟩|⟨g',cap',cur,hv,_,_,hn,hm,_⟩⟩:=id hH.own
  ·simp at h0
  ·rw[dQ]at hv hn;exact⟨g',cap',hv,hn,hm⟩
 obtain⟨hcp1,hcp2⟩:=hcp;unfold maxLen at hcp2;have HH0:Hid (Hb w hb ff (sO g (M0.length+1) cap) (M0++[s]) np):=hH;clear hH ht hl;obtain⟨W0,hW0⟩:=aF (w.alloc (.cells #[iV 0,uV 0,uV 0,uV 0] 215));have G0:Gr w W0:=by rw[hW0];exact(Gr.refl _).alloc _
 obtain⟨A0,xO⟩:=aF (w.heap.size);have hA:W0.heap[A0]? =some (.cells #[iV 0,uV 0,uV 0,uV 0] 215 (0,0)):=by rw[hW0,xO];exact ah _ _
 have YR:Hid (w.heap.size<=A0):=by rw[xO];exact nR _
 go_enter Tryz.func127,Tryz.ntmps127;go_wp2_with fail;rw[<-hW0,<-xO];clear xO;clear hW0;refine(hpk _ G0).mono ?_;rintro e w1 ⟨rfl,hg1⟩;clear hpk;have yJ:Hid (Gr w w1):=G0.trans hg1;have FR:Hid (Hb w1 hb ff (sO g (M0.length+1) cap) (M0++[s]) np):=HH0.o.gr yJ.o;have k1:=FR.o.c1;have kl:=FR.o.lt;obtain⟨b1,o1,c1,e1,z1,x0⟩:=gV FR.o.qF (j:=M0.length) (x:=s) (by simp);clear z1;simp only[vS,oI,aI,and_true]at e1;obtain⟨⟨rfl,rfl⟩,-,rfl⟩:=e1;simp only[nZ]at x0;have hgl:g<w1.heap.size:=FR.o.row g rfl;have m0:(0:Int)<=(M0.length:Int):=by omega
 have m1:(M0.length:Int)<(M0.length:Int)+1:=by omega
 obtain⟨A1,hA1⟩:=aF (w1.heap.size);obtain⟨B2,hB2⟩:=aF (A1+1);obtain⟨W2,hW2⟩:=aF ((w1.alloc (.cells #[iV t.1.1,uV t.1.2.1.1,uV t.1.2.1.2.1,uV t.1.2.1.2.2] 215)).alloc (.cells #[iV s.1.1,uV s.1.2.1.1,uV s.1.2.1.2.1,uV s.1.2.1.2.2,uV (s.2:Nat)] 290));have Eu:W2.heap[B2]? =some (.cells #[iV s.1.1,uV s.1.2.1.1,uV s.1.2.1.2.1,uV s.1.2.1.2.2,uV (s.2:Nat)] 290 (0,0)):=by
  have h:=ah (w1.alloc (.cells #[iV t.1.1,uV t.1.2.1.1,uV t.1.2.1.2.1,uV t.1.2.1.2.2] 215)) (.cells #[iV s.1.1,uV s.1.2.1.1,uV s.1.2.1.2.1,uV s.1.2.1.2.2,uV (s.2:Nat)] 290);rw[show(w1.alloc (.cells #[iV t.1.1,uV t.1.2.1.1,uV t.1.2.1.2.1,uV t.1.2.1.2.2] 215)).heap.size=w1.heap.size+1 by simp]at h;rw[hW2,hB2,hA1];exact h
 have G2:Gr w1 W2:=by rw[hW2];exact((Gr.refl _).alloc _).alloc _
 have HA0:Hid (W2.heap[A0]? =some (.cells #[iV 0,uV 0,uV 0,uV 0] 215 (0,0))):=((hg1.trans G2).below.block A0 (aG.1 hA).1).trans hA;have HA1:Hid (W2.heap[A1]? =some (.cells #[iV t.1.1,uV t.1.2.1.1,uV t.1.2.1.2.1,uV t.1.2.1.2.2] 215 (0,0))):=by
  rw[hW2,hA1];exact(((Gr.refl (w1.alloc (.cells #[iV t.1.1,uV t.1.2.1.1,uV t.1.2.1.2.1,uV t.1.2.1.2.2] 215))).alloc _).below.block w1.heap.size (by simp)).trans (ah _ _)
 have Fz:Hid (A1≠g/\A0≠g/\A1≠hb/\A0≠hb/\A0≠A1/\A1≠B2/\A0≠B2/\w.heap.size<=A1/\w.heap.size<=A0):=by
  have h1:=HH0.o.lt;have h2:=HH0.o.row g rfl;have h3:=yJ.o.size;have h4:=nL (aG.1 hA).1 hg1.size;have h5:=YR.o;refine⟨?_, ?_, ?_, ?_, ?_, ?_, ?_, ?_, ?_⟩<;>omega
 have I4:Hid (B2≠g/\B2≠hb/\w.heap.size<=B2):=by
  have h1:=HH0.o.lt;have h2:=HH0.o.row g rfl;have h3:=yJ.o.size;refine⟨?_, ?_, ?_⟩<;>omega
 have HG2:Hid (Gr w W2):=yJ.o.trans G2;have uK:Hid (Hb W2 hb ff (sO g (M0.length+1) cap) (M0++[s]) np):=FR.o.gr G2;have yK:Hid (W2.heap[B2]? =some (.cells #[iV s.1.1,uV s.1.2.1.1,uV s.1.2.1.2.1,uV s.1.2.1.2.2,uV (s.2:Nat)] 290 (0,0))):=Eu;clear hg1 Eu G2;clear hA;go_upto_region 6 with fail;rw[<-hW2,<-hA1,<-hB2];clear hW2 hA1 hB2;have hBl:B2<W2.heap.size:=(aG.1 yK.o).1;obtain⟨q0,q1,q2,q3,q4⟩:W2.cell? ⟨B2,0,none⟩=some (iV s.1.1)/\W2.cell? ⟨B2,1,none⟩=some (uV s.1.2.1.1)/\W2.cell? ⟨B2,2,none⟩=some (uV s.1.2.1.2.1)/\W2.cell? ⟨B2,3,none⟩=some (uV s.1.2.1.2.2)/\W2.cell? ⟨B2,4,none⟩=some (uV (s.2:Nat)):=by simp[World.cell?,yK.o]
 have QV:Ls EI W2 (sO g M0.length cap) M0:=by
  have:=uK.o.qF.cut (k:=M0.length) (by simp) cap;simpa using this
 have S0:(W2.drew.cell? ⟨hb,0,none⟩=some (fv ff)/\W2.drew.cell? ⟨hb,1,none⟩=some (sO g (M0.length+1) cap)/\W2.drew.cell? ⟨B2,0,none⟩=some (iV s.1.1)/\W2.drew.cell? ⟨B2,1,none⟩=some (uV s.1.2.1.1)/\W2.drew.cell? ⟨B2,2,none⟩=some (uV s.1.2.1.2.1)/\W2.drew.cell? ⟨B2,3,none⟩=some (uV s.1.2.1.2.2)/\W2.drew.cell? ⟨B2,4,none⟩=some (uV (s.2:Nat))/\hb<W2.drew.heap.size/\B2<W2.drew.heap.size/\Ls EI W2.drew (sO g M0.length cap) M0):=⟨uK.o.c0,uK.o.c1,q0,q1,q2,q3,q4,uK.o.lt,hBl,QV.below (Gr.refl W2).drew.below⟩;have il:∀W W':World,(aj W hb 0 (fv ff)/\aj W hb 1 (sO g (M0.length+1) cap)/\aj W B2 0 (iV s.1.1)/\aj W B2 1 (uV s.1.2.1.1)/\aj W B2 2 (uV s.1.2.1.2.1)/\aj W B2 3 (uV s.1.2.1.2.2)/\aj W B2 4 (uV (s.2:Nat))/\hb<W.heap.size/\B2<W.heap.size/\Ls EI W (sO g M0.length cap) M0)->Gr W W'->(aj W' hb 0 (fv ff)/\aj W' hb 1 (sO g (M0.length+1) cap)/\aj W' B2 0 (iV s.1.1)/\aj W' B2 1 (uV s.1.2.1.1)/\aj W' B2 2 (uV s.1.2.1.2.1)/\aj W' B2 3 (uV s.1.2.1.2.2)/\aj W' B2 4 (uV (s.2:Nat))/\hb<W'.heap.size/\B2<W'.heap.size/\Ls EI W' (sO g M0.length cap) M0):=by
  rintro W W' ⟨d0,d1,a0,a1,a2,a3,a4,d2,d3,d4⟩ hg;exact⟨(hg.cell d2).trans d0,(hg.cell d2).trans d1,(hg.cell d3).trans a0,(hg.cell d3).trans a1,(hg.cell d3).trans a2,(hg.cell d3).trans a3,(hg.cell d3).trans a4,nL d2 hg.size,nL d3 hg.size,d4.below hg.below⟩
 have Er:CL 188 #[aB hb,sO g M0.length cap,iv s] W2.drew fun e w'=>∃at_:Nat,e= .returned (iV at_)/\Dn (aX r) M0 s at_/\oC (aX r) M0 s at_/\Gr W2.drew w':=qA _ M0 s W2.drew uK.o.lt uK.o.c0 (QV.below (Gr.refl W2).drew.below) (by omega) hF;have m2:(M0.length:Int)<=(cap:Int):=by omega
 have m3:(M0.length:Int)<=(M0.length:Int)+1:=by omega
 clear QV q0 x0 k1 kl;go_region_held3 (fun w'=>aj w' hb 0 (fv ff)/\aj w' hb 1 (sO g (M0.length+1) cap)/\aj w' B2 0 (iV s.1.1)/\aj w' B2 1 (uV s.1.2.1.1)/\aj w' B2 2 (uV s.1.2.1.2.1)/\aj w' B2 3 (uV s.1.2.1.2.2)/\aj w' B2 4 (uV (s.2:Nat))/\hb<w'.heap.size/\B2<w'.heap.size/\Ls EI w' (sO g M0.length cap) M0)
  (first|exact S0|exact il _ _ (by assumption) (by assumption)|assumption)
  (first|(go_at_call 188;refine Er.mono ?_;rintro e w6 ⟨at_,rfl,hdn,hde,nQ⟩))
 have YF:Hid (Po W2 hb ff np B2 g cap s M0 r M0 at_ s w6):=by
  have hgg:Gr W2 w6:=(Gr.refl W2).drew.trans nQ;refine⟨?_,uK.o.gr hgg,(hgg.below.block B2 hBl).trans yK.o,Kp.bg hgg,I4.o.1,I4.o.2.1⟩;by_cases hm:M0=[]
  ·refine Or.inl ⟨hm,hm, ?_⟩;rcases hdn.lt with h|h
   ·exact h
   ·rw[hm]at h;simp at h
  ·exact Or.inr (jH.init hdn hde (List.length_pos_iff.2 hm))
 clear Er S0 il hdn hde nQ;go_wp2_with fail;go_loopw [9] (fun s9 wr=>∃(i:Nat) (M:List It) (mv:It),i<=M0.length/\s9=iV i/\Hid (Po W2 hb ff np B2 g cap s M0 r M i mv wr)) (fun s9 _=>(intOf s9).toNat);case atStart=>
  refine⟨at_,M0,s, ?_,rfl,YF.o⟩;rcases YF.o.inv with⟨_,_,h⟩|h
  ·omega
  ·exact nE h.OX
 case round=>
  clear YF;obtain⟨i,M,mv,hil,rfl,HP⟩:=hrel;have CU:Hid (wr.ownsRow 0 290 5 (sO g (M0.length+1) cap) (M0.length+1) (fl EI (M++[s]))):=HP.o.row;have hfz:=oP CU.o;have r1:=HP.o.hp.c1;have ZU:=HP.o.hp.fz 1;have hlr:=HP.o.hp.lt;have abM:g<wr.heap.size:=(CU.o.lt g rfl).2;have hBr:B2<wr.heap.size:=(aG.1 HP.o.bx).1;have q0:=(Df.aa HP.o.bx).1;have p0:=(Df.aa HP.o.bx).2;have Xn:(i:Int)<(M0.length:Int)+1:=by omega
  have hi0:(0:Int)<=(i:Int):=by omega
  obtain⟨z,hz⟩:∃z,(M++[s])[i]? =some z:=⟨(M++[s])[i]'(by rw[dQ,HP.o.len];simp;omega),by rw[p8]⟩;obtain⟨b1,o1,c1,e1,z1,y0⟩:=gV HP.o.hp.qF hz;simp only[vS,oI,aI,and_true]at e1;obtain⟨⟨rfl,rfl⟩,-,rfl⟩:=e1;simp only[nZ]at y0;have HZ:Hid ((M++[s])[i]? =some z):=hz;have hbg:B2≠g:=I4.o.1;have hgb:g≠B2:=fun e=>I4.o.1 e.symm;have hbh:B2≠hb:=I4.o.2.1;have hhb:hb≠B2:=fun e=>I4.o.2.1 e.symm;have Xp:hb≠g:=fun e=>HH0.o.off (by rw[e];rfl);have hgh:g≠hb:=fun e=>HH0.o.off (by rw[<-e];rfl);clear hz z1;by_cases hpos:0<i
  ·have aak:(0:Int)<(i:Int):=(by omega);go_wp2_with fail;go_region;obtain⟨hb1,hb2⟩:=CF (y:=z) HP.o.bx;have hgk:∀k,(sO g (M0.length+1) cap).ownBlock=some k->¬k=B2:=by
    intro k hk e;have h:g=k:=(by simpa[Value.ownBlock]using hk);exact hgb (h.trans e)
   have ho3:=ax hb2 CU.o hgk;obtain⟨Hw,hk4⟩:=fM (i:=i) mv ho3;have Qz:=hid (HP.o.move hpos HZ.o hb1 hb2 Hw hk4);have Ej:=fD hpos;have Fy:Hid (par i<i):=Ej;have pK:∀W,CL 147 #[iV i] W fun e w'=>e= .returned (iV (par i:Nat))/\w'=W:=fun W=>gD i hpos (by omega) W;clear hgk hb1 hb2 ho3 Hw hk4 r1 q0 p0 y0 hfz Ej ZU;go_wp2_with (go_at_call 147;refine(pK _).mono ?_;rintro e w4 ⟨rfl,rfl⟩);go_roundw;case rel=>exact⟨par i,_,_,by have:=Fy.o;omega,rfl,Qz.o⟩
   case measure=>simp[intOf];exact Fy.o
  ·have hpz:¬(0:Int)<(i:Int):=(by omega);have Xo:i=0:=(by omega);subst Xo;simp only[Nat.zero_mul,nZ]at y0;have abI:(0:Int)<(M0.length:Int)+1:=(by omega);go_wp2_with fail;go_region;obtain⟨Hw,hk4⟩:=fM (i:=0) mv CU.o;simp only[Nat.zero_mul,nZ]at Hw hk4;have Tx:=ag Hw (Gr.refl _).drew.below;have Pk:=hk4.tr (Kp.bg (S:=fun k=>k=g) (Gr.refl _).drew);generalize World.drew _=w7 at Tx Pk⊢;obtain⟨hD1,hD2,hD3⟩:=HP.o.done HT.o;obtain⟨w9,hrun,Mk,Ah⟩:=qj (P:=Tryz.prog) (E:=EI) (sT:=285) (z:= .agg #[.int .i64 0, .int .u64 0, .int .u64 0, .int .u64 0, .int .u64 0]) (i:=M0.length) 0 (cap-M0.length) Tryz.underlying285 MC rfl (fun j hj=>by have hj':j<5:=hj;(match j,hj' with|0,_=>rfl|1,_=>rfl|2,_=>rfl|3,_=>rfl|4,_=>rfl)) (by decide) Tx (by rw[lZ,dQ,HP.o.len];rfl) (by omega);have hrun:Sem.run Tryz.prog (Builtin.clear_ #[285] 0 #[.slice (some ⟨g,M0.length*5,none⟩) 1 (cap-M0.length)]) w7= .ok (.tuple #[]) w9:=by
    have e:M0.length+1-M0.length=1:=(by omega);rw[e]at hrun;exact hrun
   rw[hD1]at Mk;have HK7:Hid (Kp (fun k=>k=g) wr w7):=Pk;have Mc:Hid (Kp (fun k=>k=g) wr w9):=Pk.tr Ah;have HO9:Hid (w9.ownsRow 0 290 5 (sO g M0.length cap) M0.length (fl EI (M.set 0 mv))):=Mk;have Ra:Hid (w9.heap[hb]? =some (.cells #[fv ff,sO g (M0.length+1) cap,uV (np:Nat)] 287 (0,0))):=(Mc.o.block hb hlr Xp).trans HP.o.hp.blk;have a7:aj w7 hb 1 (sO g (M0.length+1) cap):=(HK7.o.cell hlr Xp).trans r1;have hl7:=nL hlr HK7.o.size;have a9:aj w9 hb 1 (sO g (M0.length+1) cap):=(Mc.o.cell hlr Xp).trans r1;have a9f:w9.frozen? ⟨hb,1,none⟩=false:=(by simp[World.frozen?,Ra.o]);have hl9:=nL hlr Mc.o.size;have HD:Hid ((t::M.set 0 mv).Perm (M0++[s])/\(Av (aX r)->bZ (aX r) (M0++[s])->bZ (aX r) (M.set 0 mv))):=⟨hD2,hD3⟩;have HML:Hid ((M.set 0 mv).length=M0.length):=(by rw[lZ];exact HP.o.len);have z3:¬cap=M0.length:=(by omega);have z5:¬cap=0:=(by omega);have CW:Hid (w9.heap[A0]? =some (.cells #[iV 0,uV 0,uV 0,uV 0] 215 (0,0))):=((HP.o.kp.tr (Mc.o.mono (fun _ h=>Or.inl h))).block A0 (aG.1 HA0.o).1 (fun h=>h.elim Fz.o.2.1 Fz.o.2.2.2.2.2.2.1)).trans HA0.o;have QJ:Hid (w9.heap[A1]? =some (.cells #[iV t.1.1,uV t.1.2.1.1,uV t.1.2.1.2.1,uV t.1.2.1.2.2] 215 (0,0))):=((HP.o.kp.tr (Mc.o.mono (fun _ h=>Or.inl h))).block A1 (aG.1 HA1.o).1 (fun h=>h.elim Fz.o.1 Fz.o.2.2.2.2.2.1)).trans HA1.o;have u0:=(Df.aa CW.o).1;have ub0:=(Df.aa CW.o).2;have ut0:=(Df.aa QJ.o).1;have XI:A0<w9.heap.size:=(aG.1 CW.o).1;have abW:A1<w9.heap.size:=(aG.1 QJ.o).1;have n1:A1≠hb:=Fz.o.2.2.1;have n2:A0≠hb:=Fz.o.2.2.2.1;have n3:hb≠A1:=fun e=>n1 e.symm;have n4:hb≠A0:=fun e=>n2 e.symm;clear Hw hk4 Tx Pk Ah Mk hD1 hD2 hD3 r1 ZU q0 p0 y0 hfz;go_wp2;obtain⟨hs1,hs2⟩:=(lY Ra.o).1 (sO g M0.length cap);have Pe:=ax hs2 HO9.o (fun k hk e=>hgh ((xg hk).trans e));have Vd:Kp (fun k=>k=hb\/(sO g (M0.length+1) cap).ownBlock=some k) w w9:=(Kp.bg HG2.o).trans ((HP.o.kp.tr (Mc.o.mono (fun _ h=>Or.inl h)))) (fun j hj h=>by
    rcases h with h|h
    ·exact Or.inr (by rw[h];rfl)
    ·have:=I4.o.2.2;omega)
   have sZ:=Vd.trans hs2 (fun _ _ h=>Or.inl h);generalize w9.setCell ⟨hb,1,none⟩ (sO g M0.length cap)=eF at hs1 hs2 Pe sZ⊢;have XH:=(hs2.block A0 XI n2).trans CW.o;obtain⟨t1,t2⟩:=oG (c0:=iV t.1.1) (c1:=uV t.1.2.1.1) (c2:=uV t.1.2.1.2.1) (c3:=uV t.1.2.1.2.2) XH;have Pd:=ax t2 Pe (fun k hk e=>Fz.o.2.1 ((xg hk).trans e).symm);have xL:=(t2.block hb (aG.1 hs1).1 n4).trans hs1;have PE:=sZ.trans t2 (fun j hj e=>by have:=Fz.o.2.2.2.2.2.2.2.2;omega);generalize ((((eF.setCell ⟨A0,0,none⟩ (iV t.1.1)).setCell ⟨A0,1,none⟩ (uV t.1.2.1.1)).setCell ⟨A0,2,none⟩ (uV t.1.2.1.2.1)).setCell ⟨A0,3,none⟩ (uV t.1.2.1.2.2))=qL at t1 t2 Pd xL PE⊢;have v0:=(Df.aa t1).1;refine bR (v:=ans t.1 true) (by simp[results,Tryz.results127,go_sem,v0]) rfl ?_;refine⟨rfl,_,M.set 0 mv,⟨xL,by rw[HML.o];exact Pd, ?_⟩,HD.o.1,HD.o.2,PE,fun q hq=>Or.inl hq⟩;simpa[Value.ownBlock]using hgh
end Hf
namespace Hf
open Go.RowKit Go.Sort Hp
abbrev key(f:Th->Int):Th->Th->Bool:=fun a b=>decide (f a<f b)
theorem eG{f:Th->Int}{a b:It}:aX (key f) a b=false↔(f b.1<f a.1\/(f a.1=f b.1/\b.2<=a.2)):=by
 unfold aX key;split<;>simp<;>omega
theorem jL(f:Th->Int):Av (aX (key f)):=by
 refine⟨fun a b c h1 h2=> ?_,fun a b h=> ?_⟩
 ·rw[eG]at *;omega
 ·rw[eG];have:¬(aX (key f) a b=false):=by rw[h];simp
  rw[eG]at this;omega
structure Hq(w:World)(hb ff:Nat)(v:Value)(f:Th->Int)(L:List It)(np:Nat):Prop where
 h:Hb w hb ff v L np
 hp:bZ (aX (key f)) L
 nd:(L.map Prod.snd).Nodup
 lt:∀x∈L,x.2<np
theorem Hq.kp{w':World}{f:Th->Int}{L:List It}{S:Nat->Prop}(h:Hq w hb ff v f L np)(hk:Kp S w w')(h1:¬S hb)(h2:∀k,v.ownBlock=some k->¬S k):Hq w' hb ff v f L np:=⟨h.h.kp hk h1 h2,h.hp,h.nd,h.lt⟩
theorem xx(ff:Nat)(f:Th->Int)(w:World):CL 123 #[fv ff] w fun e w'=>∃hb,e= .returned (aB hb)/\w.heap.size<=hb/\Hq w' hb ff (.slice none 0 0) f [] 0/\Gr w w':=by
 refine(dI ff w).mono ?_;rintro e w' ⟨hb,rfl,h1,h2,h3⟩;exact⟨hb,rfl,h1,⟨h2,fun i x y _ hx=>by simp at hx,by simp,by simp⟩,h3⟩
theorem sM{f:Th->Int}{L:List It}(x:Th)(w:World)(hH:Hq w hb ff v f L np)(hl:(L.length+1)*40<=140737488355328)(Ty:np+1<18446744073709551616)(hF:dZ ff (key f)):
    CL 126 #[aB hb,tv x] w fun e w'=>∃v' L',e= .returned (.tuple #[])/\Hq w' hb ff v' f L' (np+1)/\L'.Perm (L++[(x,np)])/\dX hb v v' w w':=by
 refine(wX x w hH.h hl Ty hF).mono ?_;rintro e w' ⟨v',L',rfl,h1,h2,h3,h4⟩;refine⟨v',L',rfl,⟨h1,h3 (jL f) hH.hp, ?_,fun y hy=> ?_⟩,h2,h4⟩
 ·rw[(h2.map Prod.snd).nodup_iff,De,List.nodup_append];refine⟨hH.nd,by simp,fun a ha b hb e=> ?_⟩;obtain⟨y,hy,rfl⟩:=mM.1 ha;have:=hH.lt y hy;simp at hb;omega
 ·rcases kr.1 (h2.mem_iff.1 hy)with h|h
  ·have:=hH.lt y h;omega
  ·simp at h;subst h;simp
theorem qY{f:Th->Int}{L:List It}{t:It}(w:World)(hH:Hq w hb ff v f L np)(ht:L[0]? =some t)(hl:L.length<=140737488355328)(hF:dZ ff (key f)):
    CL 127 #[aB hb] w fun e w'=>∃v' L',e= .returned (ans t.1 true)/\Hq w' hb ff v' f L' np/\(t::L').Perm L/\(∀x∈L',f t.1<f x.1\/(f t.1=f x.1/\t.2<x.2))/\dX hb v v' w w':=by
 refine(Br w hH.h ht hl hF).mono ?_;rintro e w' ⟨rfl,v',L',h1,h2,h3,h4⟩;have hnd:((t::L').map Prod.snd).Nodup:=(h2.map Prod.snd).nodup_iff.2 hH.nd;rw[List.map_cons,List.nodup_cons]at hnd;refine⟨v',L',rfl,⟨h1,h3 (jL f) hH.hp,hnd.2,fun y hy=>hH.lt y (h2.mem_iff.1 (mO _ hy))⟩,h2,fun x hx=> ?_,h4⟩;obtain⟨i,hi⟩:=List.getElem?_of_mem (h2.mem_iff.1 (mO t hx));have:=eG.1 (bZ.top (jL f) hH.hp ht i x hi);have hne:t.2≠x.2:=fun e=>hnd.1 (mM.2 ⟨x,hx,e.symm⟩);omega
end Hf
namespace Cz
open Go.RowKit Go.Sort
attribute[local go_sem ↓]wp_at_zero wp_at_succ
theorem copied(cur:List Value)(M:List Tm)(n k o:Nat)(hM:M.length=n+1)(hk:k<=n)(hc:cur.take ((n+1)*3)=eQ M)(ho:o=(k+1)*3\/n=k):
    (cur.take o++eQ ((M.drop k).take (n-k))++cur.drop (o+(n-k)*3)).take ((n+1)*3)=eQ (M.take (k+1)++(M.drop k).take (n-k)):=by
 have hl:(n+1)*3<=cur.length:=by
  have h1:=congrArg List.length hc;rw[iA,hM,lK]at h1;omega
 rcases ho with rfl|rfl
 ·have h2:cur.take ((k+1)*3)=eQ (M.take (k+1)):=by
    rw[<-EH,<-hc,List.take_take,Nat.min_eq_left (by omega)]
  rw[h2,jF,List.take_append_of_le_length (by simp[iA];omega),tL (by simp[iA];omega)]
 ·simp only[Nat.sub_self,List.take_zero,TU,FZ,Nat.zero_mul,nO,List.take_append_drop];rw[hc,tL (by omega)]
theorem wB(z:Bool){ops:Array Oper}{o:Oper}{a:Act}{K:Act->World->Prop}{Q:Exit->Act->World->Prop}{E:Prop}(hgd:o.guard=none)(d s:Operand)
    (hop:o.op= .call { callee:= .builtin .copy,args:=#[d,s],argTypes:=#[(nm z).t2,(nm z).t2] })
    (g n cap k off dc sc:Nat) (M:List Tm) (hM:M.length=n+1) (hk:k<=n) (hd:a.eval d= .slice (some ⟨g,off,none⟩) (n-k) dc) (ho:off=(k+1)*3\/(n=k/\off=0)) (hs:a.eval s= .slice (some ⟨g,k*3,none⟩) (n+1-k) sc)
    (hown:w.ownsRow 0 (nm z).t1 3 (sO g (n+1) cap) (n+1) (eQ M))
    (h:∀w',w'.ownsRow 0 (nm z).t1 3 (sO g (n+1) cap) (n+1) (eQ (M.take (k+1)++(M.drop k).take (n-k)))->Kp (fun j=>j=g) w w'->K (a.put o.dst (goInt (n-k:Nat))) w') :
    if Region.wanted o (yielded ops a.tmps)=true then Oper.wp Tryz.prog o a w K Q else E:=by
 have hw:Region.wanted o (yielded ops a.tmps)=true:=by simp[Region.wanted,hgd]
 rw[if_pos hw];obtain⟨hlen,⟨h0,_⟩|⟨g',cap',cur,hv,_,hgg,hn,hm,hcs,htk⟩⟩:=id hown
 ·cases h0
 cases hv;have hcl:(eQ ((M.drop k).take (n-k))).length=(n-k)*3:=by rw[iA];simp;omega
 have hmin:Nat.min (n+1-k) (n-k)=n-k:=Nat.min_eq_right (by omega);have hrun:=yP (P:=Tryz.prog) w (nm z).t2 (nm z).t2 o.type (nm z).t1 3 g off (n-k) dc ⟨g,k*3,none⟩ (n+1-k) sc cur (nm z).t1 (eQ ((M.drop k).take (n-k))) (GQ z) (by cases z<;>kernel_rfl) hgg (by rw[hcl,hmin])
  (fun j v hj=>by
   rw[ze];have h1:(eQ M)[k*3+j]? =some v:=by
    rw[<-List.getElem?_drop,PR];rw[<-EH,List.getElem?_take]at hj;split at hj
    ·exact hj
    ·cases hj
   have:=hown.cells (g:=g) rfl _ _ h1
   rwa [ze,nZ]at this)
  (by rw[hcl,hcs];rcases ho with rfl|⟨rfl,rfl⟩<;>omega) (EJ _)
 rw[hmin]at hrun;unfold Oper.wp;simp[execOp,hop,resolve,invoke,builtin,hd,hs,hrun,Result.andThen];refine h _ ⟨?_,Or.inr ⟨g,cap,_,rfl,zL _,setRow_heap w g _ _ _ _ hgg,hn,hm, ?_, ?_⟩⟩ ⟨rfl,rfl,rfl,by simp[World.setRow],fun j _ hne=>setRow_other w g j _ (by omega)⟩
 ·rw[iA];simp;omega
 ·simp[hcl];rw[hcs];rcases ho with rfl|⟨rfl,rfl⟩<;>omega
 ·rw[hcl,List.toList_toArray,<-aA];exact copied cur.toList M n k off hM hk htk (ho.imp id (fun h=>h.1))
theorem NJ(m:List Tm)(x:Tm)(n k:Nat)(hn:m.length=n)(hk:k<=n):(((m++[x]).take (k+1)++((m++[x]).drop k).take (n-k))).set k x=m.take k++x::m.drop k:=by
 subst hn;have h1:((m++[x]).drop k).take (m.length-k)=m.drop k:=by
  rw[List.drop_append_of_le_length hk,List.take_append_of_le_length (by simp),tL (by simp)]
 rw[h1];have h2:(m++[x]).take k=m.take k:=List.take_append_of_le_length hk;have h3:((m++[x]).take (k+1))=m.take k++[(m++[x])[k]'(by simp;omega)]:=by
  rw[tO,h2,p8 (by simp;omega)];rfl
 rw[h3];generalize (m++[x])[k]'(by simp;omega)=y;rw[aA,List.set_append_right _ _ (by rw[lK];exact Nat.min_le_left _ _)];simp[Nat.min_eq_left hk]
theorem TS(L:List Tm)(k:Nat)(x:Tm):(((eQ L).set (k*3) (uV x.1.1)).set (k*3+1) (uV x.1.2.1)).set (k*3+2) (uV x.1.2.2)=eQ (L.set k x):=by
 induction L generalizing k with
 | nil => simp[eQ,fl]
 | cons y L ih=>
  show List.set (List.set (List.set (fl ET (y::L)) _ _) _ _) _ _=_;rw[aR];cases k with
  | zero => simp[ET,fl]
  | succ k=>
   rw[List.set_cons_succ];show _=fl ET (y::L.set k x);rw[aR,show fl ET (L.set k x)=eQ (L.set k x)from rfl,<-ih k,show(k+1)*3=k*3+3 by omega];simp[ET];rfl
theorem zJ(z:Bool){N:Nat}{L:List Tm}(x:Tm)(h:w.ownsRow 0 (nm z).t1 3 (sO g N cap) N (eQ L)):
    (((w.setCell ⟨g,k*3,none⟩ (uV x.1.1)).setCell ⟨g,k*3+1,none⟩ (uV x.1.2.1)).setCell ⟨g,k*3+2,none⟩ (uV x.1.2.2)).ownsRow 0 (nm z).t1 3 (sO g N cap) N (eQ (L.set k x))/\Kp (fun j=>j=g) w (((w.setCell ⟨g,k*3,none⟩ (uV x.1.1)).setCell ⟨g,k*3+1,none⟩ (uV x.1.2.1)).setCell ⟨g,k*3+2,none⟩ (uV x.1.2.2)):=by
 obtain⟨hlen,⟨h0,_⟩|⟨g',cap',cur,hv,_,hgg,hn,hm,hcs,htk⟩⟩:=id h
 ·cases h0
 cases hv;have e1:=setCell_eq_setRow w g (k*3) _ _ _ (uV x.1.1) hgg;have hg2:=setRow_heap w g _ (cur.setIfInBounds (k*3) (uV x.1.1)) _ _ hgg;have e2:=setCell_eq_setRow (w.setRow g (cur.setIfInBounds (k*3) (uV x.1.1))) g (k*3+1) _ _ _ (uV x.1.2.1) hg2;have hg3:=setRow_heap (w.setRow g (cur.setIfInBounds (k*3) (uV x.1.1))) g _ ((cur.setIfInBounds (k*3) (uV x.1.1)).setIfInBounds (k*3+1) (uV x.1.2.1)) _ _ hg2;have e3:=setCell_eq_setRow ((w.setRow g (cur.setIfInBounds (k*3) (uV x.1.1))).setRow g ((cur.setIfInBounds (k*3) (uV x.1.1)).setIfInBounds (k*3+1) (uV x.1.2.1))) g (k*3+2) _ _ _ (uV x.1.2.2) hg3;rw[e1,e2,e3];have hg4:=setRow_heap ((w.setRow g (cur.setIfInBounds (k*3) (uV x.1.1))).setRow g ((cur.setIfInBounds (k*3) (uV x.1.1)).setIfInBounds (k*3+1) (uV x.1.2.1))) g _ (((cur.setIfInBounds (k*3) (uV x.1.1)).setIfInBounds (k*3+1) (uV x.1.2.1)).setIfInBounds (k*3+2) (uV x.1.2.2)) _ _ hg3;refine⟨⟨by rw[iA]at hlen⊢;simpa using hlen,Or.inr ⟨g,cap,_,rfl,zL _,hg4,hn,hm,by simpa using hcs, ?_⟩⟩,⟨rfl,rfl,rfl,by simp[World.setRow],fun j _ hne=> ?_⟩⟩
 ·rw[Array.toList_setIfInBounds,Array.toList_setIfInBounds,Array.toList_setIfInBounds,List.take_set,List.take_set,List.take_set,htk];exact TS L k x
 ·rw[setRow_other _ g j _ (by omega),setRow_other _ g j _ (by omega),setRow_other _ g j _ (by omega)]
theorem Sj(z:Bool)(u:Value)(m:List Tm)(k:Nat)(x:Tm)(w:World)(hown:w.ownsRow 0 (nm z).t1 3 u m.length (eQ m))(hk:k<=m.length)(hl:(m.length+1)*24<=140737488355328):
    CL (nm z).pt #[u,iV k,tv x] w fun e w'=>∃g cap,e= .returned (sO g (m.length+1) cap)/\w'.ownsRow 0 (nm z).t1 3 (sO g (m.length+1) cap) (m.length+1) (eQ (m.take k++x::m.drop k))/\Kp (fun j=>u.ownBlock=some j) w w'/\(u.ownBlock=some g\/w.heap.size<=g):=by
 let zq:=z
 rcases Bool.eq_false_or_eq_true z with rfl|rfl;all_goals
  (try dsimp only[nm])
  have hmx:Tryz.prog.follows .mixedOrders=true:=by kernel_rfl
  generalize hn:m.length=n at *;have HN:Hid (m.length=n):=hn;clear hn;first|go_enter Tryz.func256,Tryz.ntmps256|go_enter Tryz.func191,Tryz.ntmps191
  go_wp2_with (at_builtin;refine gB zq rfl _ _ rfl 0 u n (eQ m) rfl (hown.alloc _) x (by show Value.slice (some ⟨w.heap.size+1,0,none⟩) 1 1=_;simp) (by omega) (zL _) ?_);intro g cap w1 ho1 hg1 hl1;have hb1:Kp (fun j=>u.ownBlock=some j) w w1:=(Kp.of_below ((Gr.refl w).alloc _).below).tr (Kp.grownBy (S:=fun j=>u.ownBlock=some j) hg1 (fun _ h=>h));have hlt1:w.heap.size<w1.heap.size:=nL (by simp) hg1.size;have hne:u.ownBlock≠some w.heap.size:=fun h=>by have:=(hown.lt _ h).2;omega
  have q1:w1.cell? ⟨w.heap.size,0,none⟩=some (uV x.1.1):=hg1.cell (a:=⟨w.heap.size,0,none⟩) (by simp) (fun h=>hne h.symm);have q2:w1.cell? ⟨w.heap.size,1,none⟩=some (uV x.1.2.1):=hg1.cell (a:=⟨w.heap.size,1,none⟩) (by simp) (fun h=>hne h.symm);have q3:w1.cell? ⟨w.heap.size,2,none⟩=some (uV x.1.2.2):=hg1.cell (a:=⟨w.heap.size,2,none⟩) (by simp) (fun h=>hne h.symm);have aao:Hid (w1.ownsRow 0 (nm zq).t1 3 (sO g (n+1) cap) (n+1) (eQ (m++[x]))):=by
   show World.ownsRow _ _ _ _ _ _ _;rw[jF,vL];exact ho1
  obtain⟨hcp1,hcp2⟩:n+1<=cap/\cap<=maxLen:=by
   obtain⟨_,⟨h0,_⟩|⟨g',cap',cur,hv,_,_,hn,hm,_⟩⟩:=ho1
   ·cases h0
   ·cases hv;exact⟨hn,hm⟩
  have hgl:g<w1.heap.size:=(ho1.lt g rfl).2;have hgn:g≠w.heap.size:=by
   rcases hl1 with h|h
   ·have:=(hown.lt g h).2;omega
   ·first|omega|(simp at h;omega)
  unfold maxLen at hcp2;clear ho1 hg1;have z1:(0:Int)<=(k:Int):=by omega
  have z2:(k:Int)+1<=((n+1:Nat):Int):=by omega
  have z3:(k:Int)<=((n+1:Nat):Int):=by omega
  have z4:¬cap=k:=by omega
  have hwk:IntKind.i64.wrap ((k:Int)+1)=(k:Int)+1:=by rw[IntKind.wrap_i64];omega
  have z6:(0:Int)<=(k:Int)+1:=by omega
  have z7:(k:Int)+1<=(n:Int)+1:=by omega
  have z8:(k:Int)<=(n:Int)+1:=by omega
  have z9:((k:Int)+1).toNat=k+1:=by omega
  have z5:n+1-(k+1)=n-k:=by omega
  have HMX:Hid ((m++[x]).length=n+1):=by simp[Hid,HN.o]
  go_upto_region 2 with fail;go_cut [18] (fun _ w'=>w'.ownsRow 0 (nm zq).t1 3 (sO g (n+1) cap) (n+1) (eQ ((m++[x]).take (k+1)++((m++[x]).drop k).take (n-k)))/\Kp (fun j=>j=g) w1 w');case first=>
   by_cases hcc:cap=k+1
   ·subst hcc;go_region_law (refine wB zq rfl (.tmp 14) (.tmp 17) rfl g n (k+1) k 0 0 1 (m++[x]) HMX.o hk (by simp[Act.eval,Act.put]) (Or.inr ⟨by omega,rfl⟩) (by simp[Act.eval,Act.put]) aao.o ?_;intro w2 ho2 hk2);all_goals (go_wp2_with fail;go_meet;exact⟨ho2,⟨hk2.os,hk2.tape,hk2.output,hk2.size,hk2.block⟩⟩)
   ·go_region_law (refine wB zq rfl (.tmp 14) (.tmp 17) rfl g n cap k ((k+1)*3) (cap-(k+1)) (cap-k) (m++[x]) HMX.o hk (by simp[Act.eval,Act.put]) (Or.inl rfl) (by simp[Act.eval,Act.put]) aao.o ?_;intro w2 ho2 hk2);all_goals (go_wp2_with fail;go_meet;exact⟨ho2,⟨hk2.os,hk2.tape,hk2.output,hk2.size,hk2.block⟩⟩)
  case rest=>
   obtain⟨ho2,hk2⟩:=hcut;have HS:Hid (((m++[x]).take (k+1)++((m++[x]).drop k).take (n-k)).set k x=m.take k++x::m.drop k):=NJ m x n k HN.o hk;have hL:((m++[x]).take (k+1)++((m++[x]).drop k).take (n-k)).length=n+1:=by
    have:=HMX.o;simp at this⊢;omega
   generalize (m++[x]).take (k+1)++((m++[x]).drop k).take (n-k)=L2 at *;obtain⟨y,hy⟩:∃y,L2[k]? =some y:=⟨L2[k]'(by omega),by simp⟩;have HT:=(dG (ts:=L2) (by rw[hL];exact ho2)).at3 hy;obtain⟨b1,o1,c1,e1,zz,y1,y2,y3⟩:=HT;simp only[vS,oI,aI]at e1;obtain⟨⟨rfl,rfl,-⟩,-,rfl⟩:=e1;rw[nZ]at y1 y2 y3;obtain⟨f1,f2,f3⟩:wc.frozen? ⟨g,k*3,none⟩=false/\wc.frozen? ⟨g,k*3+1,none⟩=false/\wc.frozen? ⟨g,k*3+2,none⟩=false:=by
    obtain⟨_,⟨h0,_⟩|⟨g',cap',cur,hv,_,hgg,_⟩⟩:=id ho2
    ·cases h0
    ·cases hv;simp[World.frozen?,hgg]
   have q1':wc.cell? ⟨w.heap.size,0,none⟩=some (uV x.1.1):=(zh (a:=⟨w.heap.size,0,none⟩) (hk2.block w.heap.size hlt1 (fun h=>hgn h.symm))).trans q1;have q2':wc.cell? ⟨w.heap.size,1,none⟩=some (uV x.1.2.1):=(zh (a:=⟨w.heap.size,1,none⟩) (hk2.block w.heap.size hlt1 (fun h=>hgn h.symm))).trans q2;have q3':wc.cell? ⟨w.heap.size,2,none⟩=some (uV x.1.2.2):=(zh (a:=⟨w.heap.size,2,none⟩) (hk2.block w.heap.size hlt1 (fun h=>hgn h.symm))).trans q3;have zl:(k:Int)<(n:Int)+1:=(by omega);have zl2:(k:Int)<((n+1:Nat):Int):=(by omega);clear q1 q2 q3 hwk z6 z7 z8 z9 z4 z5 z2 z3 hy;go_wp2;go_ret;obtain⟨ho3,hk3⟩:=zJ zq (k:=k) x ho2;rw[HS.o]at ho3;refine⟨g,cap,rfl,ho3, ?_,hl1.imp id (fun h=>by first|omega|(simp at h;omega))⟩;refine hb1.trans ((hk2.tr hk3)) (fun j hj h=> ?_);subst h;rcases hl1 with h|h
   ·exact h
   ·exact absurd hj (by first|omega|(simp at h;omega))
def UL(z:Bool)(w:World)(cb fb ff:Nat)(v:Value):Prop:=w.heap[cb]? =some (.cells #[fv fb,fv ff,v] (nm z).t3 (0,0))
theorem UL.set{v2:Value}{l2:List Tm}(h:UL z w cb fb ff v)(ho:w.ownsRow 0 (nm z).t1 3 v2 l2.length (eQ l2))(hoff:v2.ownBlock≠some cb):Ch z (w.setCell ⟨cb,2,none⟩ v2) cb fb ff v2 l2/\Kp (fun k=>k=cb) w (w.setCell ⟨cb,2,none⟩ v2):=by
 have e:=setCell_eq_setRow w cb 2 _ _ _ v2 h;have hk:Kp (fun k=>k=cb) w (w.setCell ⟨cb,2,none⟩ v2):=by
  rw[e];exact⟨rfl,rfl,rfl,by simp[World.setRow],fun k _ hne=>setRow_other w cb k _ (by omega)⟩
 refine⟨⟨?_,ax hk ho (fun k hk he=>hoff (he ▸ hk)),hoff⟩,hk⟩;rw[e,setRow_heap w cb _ _ _ _ h];simp
theorem UL.cells(h:UL z w cb fb ff v):w.cell? ⟨cb,2,none⟩=some v/\w.frozen? ⟨cb,2,none⟩=false/\cb<w.heap.size:=by
 unfold UL at h;exact⟨by simp[World.cell?,h],by simp[World.frozen?,h],(aG.1 h).1⟩
theorem jC{l:List Tm}{aC fst:Tm->Tm->Bool}(x:Tm)(w:World)(hc:Ch z w cb fb ff v l)(hl:(l.length+1)*24<=140737488355328)(hB:dZ fb aC)(hF:dZ ff fst):
    CL (nm z).is #[aB cb,tv x] w fun e w'=>∃v',e= .returned (.bool (!bH aC l x))/\Ch z w' cb fb ff v' (gG aC fst l x)/\dX cb v v' w w':=by
 let zq:=z
 rcases Bool.eq_false_or_eq_true z with rfl|rfl;all_goals
  (try dsimp only[nm])
  obtain⟨W1,hW1⟩:=aF (w.alloc (.cells #[uV x.1.1,uV x.1.2.1,uV x.1.2.2] (nm zq).t1));dsimp only[nm,zq]at hW1;have G1:Gr w W1:=by rw[hW1];exact(Gr.refl _).alloc _
  have hz:w.heap.size<W1.heap.size:=by rw[hW1];simp
  have HB1:Hid (W1.cell? ⟨w.heap.size,0,none⟩=some (uV x.1.1)):=by rw[hW1];simp[Hid]
  have HB2:Hid (W1.cell? ⟨w.heap.size,1,none⟩=some (uV x.1.2.1)):=by rw[hW1];simp[Hid]
  have HB3:Hid (W1.cell? ⟨w.heap.size,2,none⟩=some (uV x.1.2.2)):=by rw[hW1];simp[Hid]
  have hc1:=hc.below G1.below;have h1:=qB x W1 hc1 (by omega) hB;have HC:Hid (Ch zq w cb fb ff v l):=hc;have HZ:Hid (w.heap.size<W1.heap.size):=hz;cases hcv:bH aC l x with
  | true=>
   have HE:Hid (gG aC fst l x=l):=(by unfold gG;rw[hcv];simp[Hid]);rw[hcv]at h1;rw[HE.o];clear hcv hc hc1 hz;subst hW1;first|go_enter Tryz.func207,Tryz.ntmps207|go_enter Tryz.func128,Tryz.ntmps128
   go_wp2_with fail;refine h1.mono ?_;rintro e w2 ⟨rfl,hg2⟩;go_wp2;go_ret;exact⟨v,rfl,HC.o.below (G1.trans hg2).below,dX.of_below (G1.trans hg2).below⟩
  | false=>
   have HE:Hid (gG aC fst l x=yc fst (dJ aC l x) x):=(by unfold gG;rw[hcv];simp[Hid]);rw[hcv]at h1;rw[HE.o];have h2:=fun(W:World) (hW:Gr W1 W)=>uk (aC:=aC) x W (hc1.below hW.below) (by omega) hB;have rC:=gN (aC:=aC) l x;generalize hm:dJ aC l x=m at *;clear hcv hc hc1 hz hm;subst hW1;first|go_enter Tryz.func207,Tryz.ntmps207|go_enter Tryz.func128,Tryz.ntmps128
   go_wp2_with fail;refine h1.mono ?_;rintro e w2 ⟨rfl,hg2⟩;have a1:=(hg2.cell HZ.o).trans HB1.o;have a2:=(hg2.cell HZ.o).trans HB2.o;have a4:=(hg2.cell HZ.o).trans HB3.o;have a3:=nL HZ.o hg2.size;have h2':=h2 w2 hg2;have A2:Hid (Bw w w2):=(G1.trans hg2).below;clear h1 h2;go_wp2_with fail;refine h2'.mono ?_;rintro e w3 ⟨v3,rfl,ho3,hb3,hor⟩;have b1:=(hb3.cell (p:=⟨w.heap.size,0,none⟩) a3).trans a1;have b2:=(hb3.cell (p:=⟨w.heap.size,1,none⟩) a3).trans a2;have b4:=(hb3.cell (p:=⟨w.heap.size,2,none⟩) a3).trans a4;have b3:=nL a3 hb3.size;have A3:Hid (Bw w w3):=A2.o.trans (hb3.mono (nE a3));have hc3:Hid (Ch zq w3 cb fb ff v l):=HC.o.below A3.o;have h3:=KA x w3 hc3.o (dG ho3) (by omega) hF;have hpl:m.findIdx (fun y=>fst x y)<=m.length:=List.findIdx_le_length;have FO:Hid (yc fst m x=m.take (m.findIdx fun y=>fst x y)++x::m.drop (m.findIdx fun y=>fst x y)):=rfl;generalize List.findIdx (fun y=>fst x y) m=at_ at *;have Vv:Hid (w3.ownsRow 0 (nm zq).t1 3 v3 m.length (eQ m)):=ho3;have HOR:Hid (v3=v\/∀g,v3.ownBlock=some g->w2.heap.size<=g):=hor;clear a1 a2 a4 h2' ho3 hor;go_wp2_with fail;refine h3.mono ?_;rintro e w4 ⟨rfl,hg4⟩;have c1:=(hg4.cell b3).trans b1;have c2:=(hg4.cell b3).trans b2;have c4:=(hg4.cell b3).trans b4;have c3:=nL b3 hg4.size;have h4:=Sj zq v3 m at_ x w4 (ag Vv.o hg4.below) hpl (by omega);clear b1 b2 b4 h3;go_wp2_with fail;refine h4.mono ?_;rintro e w5 ⟨g,cap,rfl,Em,hk5,aan⟩;have hlt:=HC.o.lt;have JL:v3.ownBlock≠some cb:=by
    intro h;rcases HOR.o with rfl|h'
    ·exact HC.o.off h
    ·have:=h' cb h;omega
   have A4:Hid (Bw w w4):=A3.o.trans (hg4.below.mono (nE b3));have aaD:UL zq w4 cb fb ff v:=(HC.o.below A4.o).blk;have hblk5:UL zq w5 cb fb ff v:=(hk5.block cb (nU hlt c3) JL).trans aaD;obtain⟨d1,d2,d3⟩:=hblk5.cells;clear c1 c2 c4 h4;go_wp2;go_ret;have abN:(sO g (m.length+1) cap).ownBlock≠some cb:=by
    simp only[Value.ownBlock];intro h;rcases aan with h'|h'
    ·exact JL (h'.trans h)
    ·simp at h;omega
   have hlen:(yc fst m x).length=m.length+1:=uD m x;obtain⟨hch,hks⟩:=hblk5.set (v2:=sO g (m.length+1) cap) (l2:=yc fst m x) (by rw[hlen,FO.o];exact Em) abN;refine⟨_,rfl,hch,⟨?_, ?_⟩⟩
   ·refine((Kp.of_below A4.o).trans hk5 (fun j hj h=> ?_)).trans hks (fun j _ h=>Or.inl h);rcases HOR.o with rfl|h'
    ·exact Or.inr h
    ·have:=h' j h;omega
   ·intro g' hg';simp[Value.ownBlock]at hg';subst hg';rcases aan with h'|h'
    ·rcases HOR.o with rfl|h''
     ·exact Or.inl h'
     ·right;have:=h'' _ h';omega
    ·right;omega
end Cz
namespace Pc.Cn
open Cz
open Go.RowKit Go.Sort
attribute[local go_sem ↓]wp_at_zero wp_at_succ
theorem tX(v:Value)(l:List Tm)(w:World)(hv:oz w v l)(hl:l.length*24<=140737488355328):
    CL 45 #[v] w fun e w'=>∃v',e= .returned v'/\w'.ownsRow w.heap.size 52 3 v' l.length (eQ l)/\Bw w w':=by
 have HV:Hid (oz w v l):=hv;have hen:=fun(W:World) (a:Option Addr) (n c:Nat)=>Lib.run_eql_slice_nil (P:=Tryz.prog) W 50 52 a n c 0 0 Tryz.underlying50;rcases hv with⟨rfl,rfl⟩|⟨b,off,c,rfl,hb,ht⟩
 ·go_enter Tryz.func45,Tryz.ntmps45;go_wp2;go_ret;exact⟨_,rfl,oN _ _ _ _,Below.refl _ _⟩
 ·clear ht;go_enter Tryz.func45,Tryz.ntmps45;go_wp2_with (at_builtin;refine Cz.jZ false rfl _ _ rfl w.heap.size (sO w.heap.size 0 0) 0 [] rfl (World.ownsRow_made w #[] 0 (nR _) (by unfold maxLen;omega) rfl) _ l rfl (HV.o.below ((Gr.refl w).alloc _).below) (by omega) (by simp) ?_);intro v' w' h1 h2;go_wp2;go_ret;refine⟨_,rfl,by simpa using h1, ?_⟩;exact((Gr.refl w).alloc _).below.trans ((Kp.grownBy (S:=fun k=>w.heap.size<=k) h2 (fun k hk=>by simp[Value.ownBlock]at hk;omega)).below (by simp) (fun _ h=>h))
theorem kM{l:List Tm}(w:World)(hc:Ch false w cb fb ff v l)(hl:l.length*24<=140737488355328):
    CL 194 #[aB cb] w fun e w'=>∃v',e= .returned v'/\w'.ownsRow w.heap.size 52 3 v' l.length (eQ l)/\Bw w w':=by
 have h:=tX v l w hc.qF hl;have k2:=hc.c2;have kl:=hc.lt;clear hc;go_enter Tryz.func194,Tryz.ntmps194;go_wp2_with fail;refine h.mono ?_;rintro e w1 ⟨v',rfl,h1,h2⟩;go_wp2;go_ret;exact⟨_,rfl,h1,h2⟩
theorem gW{l:List Tm}(w:World)(hc:Ch false w cb fb ff v l):
    CL 129 #[aB cb] w fun e w'=>e= .returned (iV (l.length:Nat))/\w'=w:=by
 obtain⟨pl,cl,rfl⟩:=hc.qF.form;have k2:=hc.c2;have kl:=hc.lt;go_enter Tryz.func129,Tryz.ntmps129;go_wp2;go_ret;exact⟨rfl,rfl⟩
theorem yl(fb ff:Nat)(w:World):CL 183 #[fv fb,fv ff] w fun e w'=>e= .returned (aB w.heap.size)/\Ch false w' w.heap.size fb ff (.slice none 0 0) []/\Gr w w':=by
 go_enter Tryz.func183,Tryz.ntmps183;go_wp2;go_ret;exact⟨rfl,⟨ah _ _,oN _ _ _ _,by simp[Value.ownBlock]⟩,(Gr.refl _).alloc _⟩
theorem DV(w:World):CL 122 #[] w fun e w'=>e= .returned (aB w.heap.size)/\Ch false w' w.heap.size 184 125 (.slice none 0 0) []/\Gr w w':=by
 have h:=yl 184 125 w;go_enter Tryz.func122,Tryz.ntmps122;go_wp2_with fail;refine h.mono ?_;rintro e w1 ⟨rfl,h1,h2⟩;go_wp2;go_ret;exact⟨rfl,h1,h2⟩
end Pc.Cn
namespace Hf
open Go.RowKit Go.Sort Hp
attribute[local go_sem ↓]wp_at_zero wp_at_succ
def kf(a:Th):Int:=a.2.1.1*340282366920938463463374607431768211456+a.2.1.2.1*18446744073709551616+a.2.1.2.2
theorem OE(a b:Th):kf a<kf b↔dL a.2 b.2=true:=by
 rw[kX];have h1:=Pt.bY a.2;have h2:=Pt.bY b.2;unfold kf;omega
theorem WJ(a b:Th):key kf a b=dL a.2 b.2:=by
 unfold key;cases h:dL a.2 b.2
 ·exact decide_eq_false (fun e=>by rw[(OE a b).1 e]at h;cases h)
 ·exact decide_eq_true ((OE a b).2 h)
theorem I6:dZ 124 (key kf):=by
 refine⟨enters_of Tryz.func124 (by kernel_rfl) rfl,fun a b W=> ?_⟩;have h:=fun W=>Pc.jM.calls a.2 b.2 W;rw[WJ];generalize dL a.2 b.2=r at h⊢;have et:=Pc.jM.enter;go_enter Tryz.func124,Tryz.ntmps124;go_wp2_with fail;refine(h _).mono ?_;rintro e w' ⟨rfl,hg⟩;go_wp2;go_ret;exact⟨rfl,(((Gr.refl _).alloc _).alloc _).trans hg⟩
end Hf
end Go.Proofs.YtiiefcalkjeieaaGreat
