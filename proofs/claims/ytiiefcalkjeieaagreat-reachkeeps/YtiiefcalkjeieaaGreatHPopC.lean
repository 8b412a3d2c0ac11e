import Derived.Test.YtiiefcalkjeieaaGreatJ12
variable{hb np g B2 cap i b:Nat}{ff v:Go.Value}{w2 wr w:Go.World}
set_option maxHeartbeats 16000000
set_option maxRecDepth 100000
namespace Go.Proofs.YtiiefcalkjeieaaGreat.Hc
open Go.RowKit Go.Sort Hp
attribute[local go_sem ↓]wp_at_zero wp_at_succ
theorem xg{n c k:Nat}(h:(sO g n c).ownBlock=some k):g=k:=by simpa[Value.ownBlock]using h
theorem MC(w:World):(zeroValue 251).run Tryz.prog w= .ok (.agg #[iV 0,uV 0,uV 0,uV 0,iV 0,uV 0]) w:=by kernel_rfl
theorem oG{T:TypeId}{d0 d1 d2 d3 d4 c0 c1 c2 c3 c4:Value}(h:w.heap[b]? =some (.cells #[d0,d1,d2,d3,d4] T (0,0))):(((((w.setCell ⟨b,0,none⟩ c0).setCell ⟨b,1,none⟩ c1).setCell ⟨b,2,none⟩ c2).setCell ⟨b,3,none⟩ c3).setCell ⟨b,4,none⟩ c4).heap[b]? =some (.cells #[c0,c1,c2,c3,c4] T (0,0))/\Kp (fun k=>k=b) w (((((w.setCell ⟨b,0,none⟩ c0).setCell ⟨b,1,none⟩ c1).setCell ⟨b,2,none⟩ c2).setCell ⟨b,3,none⟩ c3).setCell ⟨b,4,none⟩ c4):=by
 obtain⟨h0,k0⟩:=Df.aP h 0 c0;obtain⟨h1,k1⟩:=Df.aP h0 1 c1;obtain⟨h2,k2⟩:=Df.aP h1 2 c2;obtain⟨h3,k3⟩:=Df.aP h2 3 c3;obtain⟨h4,k4⟩:=Df.aP h3 4 c4;exact⟨by simpa using h4,((((k0.tr k1).tr k2).tr k3).tr k4)⟩
theorem wY(w:World)(hH:Hb w hb ff v [] np):CL 137 #[aB hb] w fun e w'=>e= .returned (ans zt false)/\Bw w w':=by
 have hpk:∀W:World,Gr w W->CL 138 #[aB hb] W fun e w'=>e= .returned (ans zt false)/\Gr W w':=fun W h=>kJ W (hH.gr h);clear hH;obtain⟨W0,hW0⟩:=aF (w.alloc (.cells #[iV 0,uV 0,uV 0,uV 0,iV 0] 49));have G0:Gr w W0:=by rw[hW0];exact(Gr.refl _).alloc _
 obtain⟨A0,xO⟩:=aF (w.heap.size);have hA:W0.heap[A0]? =some (.cells #[iV 0,uV 0,uV 0,uV 0,iV 0] 49 (0,0)):=by rw[hW0,xO];exact ah _ _
 have YR:Hid (w.heap.size<=A0):=by rw[xO];exact nR _
 go_enter Tryz.func137,Tryz.ntmps137;go_wp2_with fail;rw[<-hW0,<-xO];clear hW0 xO;refine(hpk _ G0).mono ?_;rintro e w1 ⟨rfl,hg1⟩;have HA1:=hid ((hg1.below.block A0 (aG.1 hA).1).trans hA);have hAl:A0<w1.heap.size:=(aG.1 HA1.o).1;have a0:=(Df.aa HA1.o).1;have b0:=(Df.aa HA1.o).2;clear hA;go_wp2;obtain⟨s1,s2⟩:=oG (c0:=iV 0) (c1:=uV 0) (c2:=uV 0) (c3:=uV 0) (c4:=iV 0) HA1.o;generalize (((((w1.setCell ⟨A0,0,none⟩ (iV 0)).setCell ⟨A0,1,none⟩ (uV 0)).setCell ⟨A0,2,none⟩ (uV 0)).setCell ⟨A0,3,none⟩ (uV 0)).setCell ⟨A0,4,none⟩ (iV 0))=W5 at s1 s2⊢;have hA5:A0<W5.heap.size:=(aG.1 s1).1;have q0:=(Df.aa s1).1;refine bR (v:=ans zt false) (by simp[results,Tryz.results137,go_sem,q0,hA5]) rfl ?_;refine⟨rfl,((((Kp.bg (S:=fun k=>k=A0) (G0.trans hg1)).tr s2).tr (Kp.bg (S:=fun k=>k=A0) ((Gr.refl W5).alloc _))).below (nR _) (fun k hk=>by subst hk;exact YR.o))⟩
structure Po(w2:World)(hb:Nat)(ff:Value)(np B2 g cap:Nat)(s:It)(M0:List It)(r:Th->Th->Bool)(M:List It)(i:Nat)(mv:It)(wr:World):Prop where
 inv:(M0=[]/\M=[]/\i=0)\/jH (aX r) M0 s M i mv
 hp:Hb wr hb ff (sO g (M0.length+1) cap) (M++[s]) np
 bx:wr.heap[B2]? =some (.cells #[iV mv.1.1,uV mv.1.2.1.1.1,uV mv.1.2.1.1.2.1,uV mv.1.2.1.1.2.2,iV mv.1.2.2,uV (mv.2:Nat)] 251 (0,0))
 kp:Kp (fun k=>k=g\/k=B2) w2 wr
 ne:B2≠g/\B2≠hb
theorem Po.len{s mv:It}{M0 M:List It}{r:Th->Th->Bool}(h:Po w2 hb ff np B2 g cap s M0 r M i mv wr):M.length=M0.length:=by
 rcases h.inv with⟨h1,h2,_⟩|h
 ·rw[h1,h2]
 ·exact h.len
theorem Po.row{s mv:It}{M0 M:List It}{r:Th->Th->Bool}(h:Po w2 hb ff np B2 g cap s M0 r M i mv wr):wr.ownsRow 0 251 6 (sO g (M0.length+1) cap) (M0.length+1) (fl EI (M++[s])):=by
 have:=h.hp.own;rw[dQ,h.len]at this;exact this
theorem CF{x y:It}(h:w.heap[b]? =some (.cells #[iV x.1.1,uV x.1.2.1.1.1,uV x.1.2.1.1.2.1,uV x.1.2.1.1.2.2,iV x.1.2.2,uV (x.2:Nat)] 251 (0,0))):((((((w.setCell ⟨b,0,none⟩ (iV y.1.1)).setCell ⟨b,1,none⟩ (uV y.1.2.1.1.1)).setCell ⟨b,2,none⟩ (uV y.1.2.1.1.2.1)).setCell ⟨b,3,none⟩ (uV y.1.2.1.1.2.2)).setCell ⟨b,4,none⟩ (iV y.1.2.2)).setCell ⟨b,5,none⟩ (uV (y.2:Nat))).heap[b]? =some (.cells #[iV y.1.1,uV y.1.2.1.1.1,uV y.1.2.1.1.2.1,uV y.1.2.1.1.2.2,iV y.1.2.2,uV (y.2:Nat)] 251 (0,0))/\Kp (fun k=>k=b) w ((((((w.setCell ⟨b,0,none⟩ (iV y.1.1)).setCell ⟨b,1,none⟩ (uV y.1.2.1.1.1)).setCell ⟨b,2,none⟩ (uV y.1.2.1.1.2.1)).setCell ⟨b,3,none⟩ (uV y.1.2.1.1.2.2)).setCell ⟨b,4,none⟩ (iV y.1.2.2)).setCell ⟨b,5,none⟩ (uV (y.2:Nat))):=by
 obtain⟨h0,k0⟩:=Df.aP h 0 (iV y.1.1);obtain⟨h1,k1⟩:=Df.aP h0 1 (uV y.1.2.1.1.1);obtain⟨h2,k2⟩:=Df.aP h1 2 (uV y.1.2.1.1.2.1);obtain⟨h3,k3⟩:=Df.aP h2 3 (uV y.1.2.1.1.2.2);obtain⟨h4,k4⟩:=Df.aP h3 4 (iV y.1.2.2);obtain⟨h5,k5⟩:=Df.aP h4 5 (uV (y.2:Nat));exact⟨by simpa using h5,(((((k0.tr k1).tr k2).tr k3).tr k4).tr k5)⟩
theorem Po.move{w3 w4:World}{s mv z:It}{M0 M:List It}{r:Th->Th->Bool}(h:Po w2 hb ff np B2 g cap s M0 r M i mv wr)(h0:0<i)(hz:(M++[s])[i]? =some z)
    (b1:w3.heap[B2]? =some (.cells #[iV z.1.1,uV z.1.2.1.1.1,uV z.1.2.1.1.2.1,uV z.1.2.1.1.2.2,iV z.1.2.2,uV (z.2:Nat)] 251 (0,0))) (b2:Kp (fun k=>k=B2) wr w3) (o4:w4.ownsRow 0 251 6 (sO g (M0.length+1) cap) (M0.length+1) (fl EI ((M++[s]).set i mv))) (k4:Kp (fun k=>k=g) w3 w4) :
    Po w2 hb ff np B2 g cap s M0 r (M.set i mv) (par i) z w4.drew:=by
 have hgb:hb≠g:=fun e=>h.hp.off (by rw[e];rfl);rcases h.inv with⟨_,_,e⟩|hi
 ·omega
 ·obtain⟨y,hy,hs⟩:=hi.step h0;have hil:i<M.length:=by rw[hi.len];exact hi.OX
  rw[gL hil,hy]at hz;cases hz;have kD:Kp (fun k=>k=g\/k=B2) wr w4.drew:=((b2.mono (fun _ h=>Or.inr h)).tr (k4.mono (fun _ h=>Or.inl h))).tr (Kp.bg (S:=fun k=>k=g\/k=B2) (Gr.refl _).drew);rw[List.set_append_left _ _ hil]at o4;refine⟨Or.inr hs,⟨(kD.block hb h.hp.lt (fun e=>e.elim hgb (fun e=>h.ne.2 e.symm))).trans h.hp.blk, ?_,h.hp.off⟩, ?_,h.kp.tr kD,h.ne⟩
  ·rw[dQ,lZ,hi.len];exact ag o4 (Gr.refl _).drew.below
  ·exact((Gr.refl w4).drew.below.block B2 (nL (aG.1 b1).1 k4.size)).trans ((k4.block B2 (aG.1 b1).1 h.ne.1).trans b1)
theorem Po.done{s mv t:It}{M0 M:List It}{r:Th->Th->Bool}(h:Po w2 hb ff np B2 g cap s M0 r M 0 mv wr)(ht:(M0++[s])[0]? =some t):
    ((M++[s]).set 0 mv).take M0.length=M.set 0 mv/\(t::M.set 0 mv).Perm (M0++[s])/\(Av (aX r)->bZ (aX r) (M0++[s])->bZ (aX r) (M.set 0 mv)):=by
 rcases h.inv with⟨rfl,rfl,_⟩|hi
 ·simp at ht;subst ht;exact⟨by simp,by simp,fun _ _ i x y _ hx _=>by simp at hx⟩
 ·have hil:0<M.length:=by rw[hi.len];exact hi.OX
  obtain⟨⟨u,hu,hp⟩,hh⟩:=hi.done;rw[gL hi.OX,hu]at ht;cases ht;refine⟨?_,hp.trans ?_,fun hA hH=>hh hA ?_⟩
  ·rw[List.set_append_left _ _ hil,List.take_left' (by rw[lZ,hi.len])]
  ·exact(List.perm_append_comm (l₁:=[s]) (l₂:=M0))
  ·have:=hH.take M0.length
   rwa [List.take_left' rfl]at this
theorem Br{L:List It}{t:It}{r:Th->Th->Bool}(w:World)(hH:Hb w hb ff v L np)(ht:L[0]? =some t)(hl:L.length<=140737488355328){K:World->Prop}{V:Th->Prop}(hF:dZ K V ff r)(hk:K w)(hV:∀y∈L,V y.1):
    CL 137 #[aB hb] w fun e w'=>e= .returned (ans t.1 true)/\∃v' L',Hb w' hb ff v' L' np/\(t::L').Perm L/\(Av (aX r)->bZ (aX r) L->bZ (aX r) L')/\dX hb v v' w w':=by
 have hmx:Tryz.prog.follows .mixedOrders=true:=by kernel_rfl
 have hpk:∀W:World,Gr w W->CL 138 #[aB hb] W fun e w'=>e= .returned (ans t.1 true)/\Gr W w':=fun W h=>qZ W (hH.gr h) ht;obtain⟨M0,s,rfl⟩:∃M0 s,L=M0++[s]:=by
  have hne:L≠[]:=by intro e;rw[e]at ht;simp at ht
  exact⟨L.dropLast,L.getLast hne,(List.dropLast_concat_getLast hne).symm⟩
 have HT:Hid ((M0++[s])[0]? =some t):=ht;have hlm:M0.length+1<=140737488355328:=by simpa using hl
 obtain⟨g,cap,rfl,hcp⟩:∃g cap,v=sO g (M0.length+1) cap/\M0.length+1<=cap/\cap<=maxLen:=by
  obtain⟨h1,⟨_,h0⟩|⟨g',cap',cur,hv,_,_,hn,hm,_⟩⟩:=id hH.own
  ·simp at h0
  ·rw[dQ]at hv hn;exact⟨g',cap',hv,hn,hm⟩
 obtain⟨hcp1,hcp2⟩:=hcp;unfold maxLen at hcp2;have HH0:Hid (Hb w hb ff (sO g (M0.length+1) cap) (M0++[s]) np):=hH;clear hH ht hl;obtain⟨W0,hW0⟩:=aF (w.alloc (.cells #[iV 0,uV 0,uV 0,uV 0,iV 0] 49));have G0:Gr w W0:=by rw[hW0];exact(Gr.refl _).alloc _
 obtain⟨A0,xO⟩:=aF (w.heap.size);have hA:W0.heap[A0]? =some (.cells #[iV 0,uV 0,uV 0,uV 0,iV 0] 49 (0,0)):=by rw[hW0,xO];exact ah _ _
 have YR:Hid (w.heap.size<=A0):=by rw[xO];exact nR _
 go_enter Tryz.func137,Tryz.ntmps137;go_wp2_with fail;rw[<-hW0,<-xO];clear xO;clear hW0;refine(hpk _ G0).mono ?_;rintro e w1 ⟨rfl,hg1⟩;clear hpk;have yJ:Hid (Gr w w1):=G0.trans hg1;have FR:Hid (Hb w1 hb ff (sO g (M0.length+1) cap) (M0++[s]) np):=HH0.o.gr yJ.o;have k1:=FR.o.c1;have kl:=FR.o.lt;obtain⟨b1,o1,c1,e1,z1,x0⟩:=gV FR.o.qF (j:=M0.length) (x:=s) (by simp);clear z1;simp only[vS,oI,aI,and_true]at e1;obtain⟨⟨rfl,rfl⟩,-,rfl⟩:=e1;simp only[nZ]at x0;have hgl:g<w1.heap.size:=FR.o.row g rfl;have m0:(0:Int)<=(M0.length:Int):=by omega
 have m1:(M0.length:Int)<(M0.length:Int)+1:=by omega
 obtain⟨A1,hA1⟩:=aF (w1.heap.size);obtain⟨B2,hB2⟩:=aF (A1+1);obtain⟨W2,hW2⟩:=aF ((w1.alloc (.cells #[iV t.1.1,uV t.1.2.1.1.1,uV t.1.2.1.1.2.1,uV t.1.2.1.1.2.2,iV t.1.2.2] 49)).alloc (.cells #[iV s.1.1,uV s.1.2.1.1.1,uV s.1.2.1.1.2.1,uV s.1.2.1.1.2.2,iV s.1.2.2,uV (s.2:Nat)] 251));have Eu:W2.heap[B2]? =some (.cells #[iV s.1.1,uV s.1.2.1.1.1,uV s.1.2.1.1.2.1,uV s.1.2.1.1.2.2,iV s.1.2.2,uV (s.2:Nat)] 251 (0,0)):=by
  have h:=ah (w1.alloc (.cells #[iV t.1.1,uV t.1.2.1.1.1,uV t.1.2.1.1.2.1,uV t.1.2.1.1.2.2,iV t.1.2.2] 49)) (.cells #[iV s.1.1,uV s.1.2.1.1.1,uV s.1.2.1.1.2.1,uV s.1.2.1.1.2.2,iV s.1.2.2,uV (s.2:Nat)] 251);rw[show(w1.alloc (.cells #[iV t.1.1,uV t.1.2.1.1.1,uV t.1.2.1.1.2.1,uV t.1.2.1.1.2.2,iV t.1.2.2] 49)).heap.size=w1.heap.size+1 by simp]at h;rw[hW2,hB2,hA1];exact h
 have G2:Gr w1 W2:=by rw[hW2];exact((Gr.refl _).alloc _).alloc _
 have HA0:Hid (W2.heap[A0]? =some (.cells #[iV 0,uV 0,uV 0,uV 0,iV 0] 49 (0,0))):=((hg1.trans G2).below.block A0 (aG.1 hA).1).trans hA;have HA1:Hid (W2.heap[A1]? =some (.cells #[iV t.1.1,uV t.1.2.1.1.1,uV t.1.2.1.1.2.1,uV t.1.2.1.1.2.2,iV t.1.2.2] 49 (0,0))):=by
  rw[hW2,hA1];exact(((Gr.refl (w1.alloc (.cells #[iV t.1.1,uV t.1.2.1.1.1,uV t.1.2.1.1.2.1,uV t.1.2.1.1.2.2,iV t.1.2.2] 49))).alloc _).below.block w1.heap.size (by simp)).trans (ah _ _)
 have Fz:Hid (A1≠g/\A0≠g/\A1≠hb/\A0≠hb/\A0≠A1/\A1≠B2/\A0≠B2/\w.heap.size<=A1/\w.heap.size<=A0):=by
  have h1:=HH0.o.lt;have h2:=HH0.o.row g rfl;have h3:=yJ.o.size;have h4:=nL (aG.1 hA).1 hg1.size;have h5:=YR.o;refine⟨?_, ?_, ?_, ?_, ?_, ?_, ?_, ?_, ?_⟩<;>omega
 have I4:Hid (B2≠g/\B2≠hb/\w.heap.size<=B2):=by
  have h1:=HH0.o.lt;have h2:=HH0.o.row g rfl;have h3:=yJ.o.size;refine⟨?_, ?_, ?_⟩<;>omega
 have HG2:Hid (Gr w W2):=yJ.o.trans G2;have uK:Hid (Hb W2 hb ff (sO g (M0.length+1) cap) (M0++[s]) np):=FR.o.gr G2;have yK:Hid (W2.heap[B2]? =some (.cells #[iV s.1.1,uV s.1.2.1.1.1,uV s.1.2.1.1.2.1,uV s.1.2.1.1.2.2,iV s.1.2.2,uV (s.2:Nat)] 251 (0,0))):=Eu;clear hg1 Eu G2;clear hA;go_upto_region 6 with fail;rw[<-hW2,<-hA1,<-hB2];clear hW2 hA1 hB2;have hBl:B2<W2.heap.size:=(aG.1 yK.o).1;obtain⟨q0,q1,q2,q3,q4,q5⟩:W2.cell? ⟨B2,0,none⟩=some (iV s.1.1)/\W2.cell? ⟨B2,1,none⟩=some (uV s.1.2.1.1.1)/\W2.cell? ⟨B2,2,none⟩=some (uV s.1.2.1.1.2.1)/\W2.cell? ⟨B2,3,none⟩=some (uV s.1.2.1.1.2.2)/\W2.cell? ⟨B2,4,none⟩=some (iV s.1.2.2)/\W2.cell? ⟨B2,5,none⟩=some (uV (s.2:Nat)):=by simp[World.cell?,yK.o]
 have QV:Ls EI W2 (sO g M0.length cap) M0:=by
  have:=uK.o.qF.cut (k:=M0.length) (by simp) cap;simpa using this
 have S0:(W2.drew.cell? ⟨hb,0,none⟩=some (fv ff)/\W2.drew.cell? ⟨hb,1,none⟩=some (sO g (M0.length+1) cap)/\W2.drew.cell? ⟨B2,0,none⟩=some (iV s.1.1)/\W2.drew.cell? ⟨B2,1,none⟩=some (uV s.1.2.1.1.1)/\W2.drew.cell? ⟨B2,2,none⟩=some (uV s.1.2.1.1.2.1)/\W2.drew.cell? ⟨B2,3,none⟩=some (uV s.1.2.1.1.2.2)/\W2.drew.cell? ⟨B2,4,none⟩=some (iV s.1.2.2)/\W2.drew.cell? ⟨B2,5,none⟩=some (uV (s.2:Nat))/\hb<W2.drew.heap.size/\B2<W2.drew.heap.size/\Ls EI W2.drew (sO g M0.length cap) M0):=⟨uK.o.c0,uK.o.c1,q0,q1,q2,q3,q4,q5,uK.o.lt,hBl,QV.below (Gr.refl W2).drew.below⟩;have il:∀W W':World,(aj W hb 0 (fv ff)/\aj W hb 1 (sO g (M0.length+1) cap)/\aj W B2 0 (iV s.1.1)/\aj W B2 1 (uV s.1.2.1.1.1)/\aj W B2 2 (uV s.1.2.1.1.2.1)/\aj W B2 3 (uV s.1.2.1.1.2.2)/\aj W B2 4 (iV s.1.2.2)/\aj W B2 5 (uV (s.2:Nat))/\hb<W.heap.size/\B2<W.heap.size/\Ls EI W (sO g M0.length cap) M0)->Gr W W'->(aj W' hb 0 (fv ff)/\aj W' hb 1 (sO g (M0.length+1) cap)/\aj W' B2 0 (iV s.1.1)/\aj W' B2 1 (uV s.1.2.1.1.1)/\aj W' B2 2 (uV s.1.2.1.1.2.1)/\aj W' B2 3 (uV s.1.2.1.1.2.2)/\aj W' B2 4 (iV s.1.2.2)/\aj W' B2 5 (uV (s.2:Nat))/\hb<W'.heap.size/\B2<W'.heap.size/\Ls EI W' (sO g M0.length cap) M0):=by
  rintro W W' ⟨d0,d1,a0,a1,a2,a3,a4,a5,d2,d3,d4⟩ hg;exact⟨(hg.cell d2).trans d0,(hg.cell d2).trans d1,(hg.cell d3).trans a0,(hg.cell d3).trans a1,(hg.cell d3).trans a2,(hg.cell d3).trans a3,(hg.cell d3).trans a4,(hg.cell d3).trans a5,nL d2 hg.size,nL d3 hg.size,d4.below hg.below⟩
 have Er:CL 196 #[aB hb,sO g M0.length cap,iv s] W2.drew fun e w'=>∃at_:Nat,e= .returned (iV at_)/\Dn (aX r) M0 s at_/\oC (aX r) M0 s at_/\Gr W2.drew w':=qA _ M0 s W2.drew uK.o.lt uK.o.c0 (QV.below (Gr.refl W2).drew.below) (by omega) hF (hF.gr _ _ hk HG2.o.drew) (fun y hy=>hV y (List.mem_append_left _ hy)) (hV s (by simp));have m2:(M0.length:Int)<=(cap:Int):=by omega
 have m3:(M0.length:Int)<=(M0.length:Int)+1:=by omega
 clear QV q0 x0 k1 kl;go_region_held3 (fun w'=>aj w' hb 0 (fv ff)/\aj w' hb 1 (sO g (M0.length+1) cap)/\aj w' B2 0 (iV s.1.1)/\aj w' B2 1 (uV s.1.2.1.1.1)/\aj w' B2 2 (uV s.1.2.1.1.2.1)/\aj w' B2 3 (uV s.1.2.1.1.2.2)/\aj w' B2 4 (iV s.1.2.2)/\aj w' B2 5 (uV (s.2:Nat))/\hb<w'.heap.size/\B2<w'.heap.size/\Ls EI w' (sO g M0.length cap) M0)
  (first|exact S0|exact il _ _ (by assumption) (by assumption)|assumption)
  (first|(go_at_call 196;refine Er.mono ?_;rintro e w6 ⟨at_,rfl,hdn,hde,nQ⟩))
 have YF:Hid (Po W2 hb ff np B2 g cap s M0 r M0 at_ s w6):=by
  have hgg:Gr W2 w6:=(Gr.refl W2).drew.trans nQ;refine⟨?_,uK.o.gr hgg,(hgg.below.block B2 hBl).trans yK.o,Kp.bg hgg,I4.o.1,I4.o.2.1⟩;by_cases hm:M0=[]
  ·refine Or.inl ⟨hm,hm, ?_⟩;rcases hdn.lt with h|h
   ·exact h
   ·rw[hm]at h;simp at h
  ·exact Or.inr (jH.init hdn hde (List.length_pos_iff.2 hm))
 clear Er S0 il hdn hde nQ;go_wp2_with fail;go_loopw [9] (fun s9 wr=>∃(i:Nat) (M:List It) (mv:It),i<=M0.length/\s9=iV i/\Hid (Po W2 hb ff np B2 g cap s M0 r M i mv wr)) (fun s9 _=>(intOf s9).toNat);case atStart=>
  refine⟨at_,M0,s, ?_,rfl,YF.o⟩;rcases YF.o.inv with⟨_,_,h⟩|h
  ·omega
  ·exact nE h.OX
 case round=>
  clear YF;obtain⟨i,M,mv,hil,rfl,HP⟩:=hrel;have CU:Hid (wr.ownsRow 0 251 6 (sO g (M0.length+1) cap) (M0.length+1) (fl EI (M++[s]))):=HP.o.row;have hfz:=oP CU.o;have r1:=HP.o.hp.c1;have ZU:=HP.o.hp.fz 1;have hlr:=HP.o.hp.lt;have abM:g<wr.heap.size:=(CU.o.lt g rfl).2;have hBr:B2<wr.heap.size:=(aG.1 HP.o.bx).1;have q0:=(Df.aa HP.o.bx).1;have p0:=(Df.aa HP.o.bx).2;have Xn:(i:Int)<(M0.length:Int)+1:=by omega
  have hi0:(0:Int)<=(i:Int):=by omega
  obtain⟨z,hz⟩:∃z,(M++[s])[i]? =some z:=⟨(M++[s])[i]'(by rw[dQ,HP.o.len];simp;omega),by rw[p8]⟩;obtain⟨b1,o1,c1,e1,z1,y0⟩:=gV HP.o.hp.qF hz;simp only[vS,oI,aI,and_true]at e1;obtain⟨⟨rfl,rfl⟩,-,rfl⟩:=e1;simp only[nZ]at y0;have HZ:Hid ((M++[s])[i]? =some z):=hz;have hbg:B2≠g:=I4.o.1;have hgb:g≠B2:=fun e=>I4.o.1 e.symm;have hbh:B2≠hb:=I4.o.2.1;have hhb:hb≠B2:=fun e=>I4.o.2.1 e.symm;have Xp:hb≠g:=fun e=>HH0.o.off (by rw[e];rfl);have hgh:g≠hb:=fun e=>HH0.o.off (by rw[<-e];rfl);clear hz z1;by_cases hpos:0<i
  ·have aak:(0:Int)<(i:Int):=(by omega);go_wp2_with fail;go_region;obtain⟨hb1,hb2⟩:=CF (y:=z) HP.o.bx;have hgk:∀k,(sO g (M0.length+1) cap).ownBlock=some k->¬k=B2:=by
    intro k hk e;have h:g=k:=(by simpa[Value.ownBlock]using hk);exact hgb (h.trans e)
   have ho3:=ax hb2 CU.o hgk;obtain⟨Hw,hk4⟩:=fM (i:=i) mv ho3;have Qz:=hid (HP.o.move hpos HZ.o hb1 hb2 Hw hk4);have Ej:=fD hpos;have Fy:Hid (par i<i):=Ej;have pK:∀W,CL 147 #[iV i] W fun e w'=>e= .returned (iV (par i:Nat))/\w'=W:=fun W=>gD i hpos (by omega) W;clear hgk hb1 hb2 ho3 Hw hk4 r1 q0 p0 y0 hfz Ej ZU;go_wp2_with (go_at_call 147;refine(pK _).mono ?_;rintro e w4 ⟨rfl,rfl⟩);go_roundw;case rel=>exact⟨par i,_,_,by have:=Fy.o;omega,rfl,Qz.o⟩
   case measure=>simp[intOf];exact Fy.o
  ·have hpz:¬(0:Int)<(i:Int):=(by omega);have Xo:i=0:=(by omega);subst Xo;simp only[Nat.zero_mul,nZ]at y0;have abI:(0:Int)<(M0.length:Int)+1:=(by omega);go_wp2_with fail;go_region;obtain⟨Hw,hk4⟩:=fM (i:=0) mv CU.o;simp only[Nat.zero_mul,nZ]at Hw hk4;have Tx:=ag Hw (Gr.refl _).drew.below;have Pk:=hk4.tr (Kp.bg (S:=fun k=>k=g) (Gr.refl _).drew);generalize World.drew _=w7 at Tx Pk⊢;obtain⟨hD1,hD2,hD3⟩:=HP.o.done HT.o;obtain⟨w9,hrun,Mk,Ah⟩:=qj (P:=Tryz.prog) (E:=EI) (sT:=247) (z:= .agg #[.int .i64 0, .int .u64 0, .int .u64 0, .int .u64 0, .int .i64 0, .int .u64 0]) (i:=M0.length) 0 (cap-M0.length) Tryz.underlying247 MC rfl (fun j hj=>by have hj':j<6:=hj;(match j,hj' with|0,_=>rfl|1,_=>rfl|2,_=>rfl|3,_=>rfl|4,_=>rfl|5,_=>rfl)) (by decide) Tx (by rw[lZ,dQ,HP.o.len];rfl) (by omega);have hrun:Sem.run Tryz.prog (Builtin.clear_ #[247] 0 #[.slice (some ⟨g,M0.length*6,none⟩) 1 (cap-M0.length)]) w7= .ok (.tuple #[]) w9:=by
    have e:M0.length+1-M0.length=1:=(by omega);rw[e]at hrun;exact hrun
   rw[hD1]at Mk;have HK7:Hid (Kp (fun k=>k=g) wr w7):=Pk;have Mc:Hid (Kp (fun k=>k=g) wr w9):=Pk.tr Ah;have HO9:Hid (w9.ownsRow 0 251 6 (sO g M0.length cap) M0.length (fl EI (M.set 0 mv))):=Mk;have Ra:Hid (w9.heap[hb]? =some (.cells #[fv ff,sO g (M0.length+1) cap,uV (np:Nat)] 249 (0,0))):=(Mc.o.block hb hlr Xp).trans HP.o.hp.blk;have a7:aj w7 hb 1 (sO g (M0.length+1) cap):=(HK7.o.cell hlr Xp).trans r1;have hl7:=nL hlr HK7.o.size;have a9:aj w9 hb 1 (sO g (M0.length+1) cap):=(Mc.o.cell hlr Xp).trans r1;have a9f:w9.frozen? ⟨hb,1,none⟩=false:=(by simp[World.frozen?,Ra.o]);have hl9:=nL hlr Mc.o.size;have HD:Hid ((t::M.set 0 mv).Perm (M0++[s])/\(Av (aX r)->bZ (aX r) (M0++[s])->bZ (aX r) (M.set 0 mv))):=⟨hD2,hD3⟩;have HML:Hid ((M.set 0 mv).length=M0.length):=(by rw[lZ];exact HP.o.len);have z3:¬cap=M0.length:=(by omega);have z5:¬cap=0:=(by omega);have CW:Hid (w9.heap[A0]? =some (.cells #[iV 0,uV 0,uV 0,uV 0,iV 0] 49 (0,0))):=((HP.o.kp.tr (Mc.o.mono (fun _ h=>Or.inl h))).block A0 (aG.1 HA0.o).1 (fun h=>h.elim Fz.o.2.1 Fz.o.2.2.2.2.2.2.1)).trans HA0.o;have QJ:Hid (w9.heap[A1]? =some (.cells #[iV t.1.1,uV t.1.2.1.1.1,uV t.1.2.1.1.2.1,uV t.1.2.1.1.2.2,iV t.1.2.2] 49 (0,0))):=((HP.o.kp.tr (Mc.o.mono (fun _ h=>Or.inl h))).block A1 (aG.1 HA1.o).1 (fun h=>h.elim Fz.o.1 Fz.o.2.2.2.2.2.1)).trans HA1.o;have u0:=(Df.aa CW.o).1;have ub0:=(Df.aa CW.o).2;have ut0:=(Df.aa QJ.o).1;have XI:A0<w9.heap.size:=(aG.1 CW.o).1;have abW:A1<w9.heap.size:=(aG.1 QJ.o).1;have n1:A1≠hb:=Fz.o.2.2.1;have n2:A0≠hb:=Fz.o.2.2.2.1;have n3:hb≠A1:=fun e=>n1 e.symm;have n4:hb≠A0:=fun e=>n2 e.symm;clear Hw hk4 Tx Pk Ah Mk hD1 hD2 hD3 r1 ZU q0 p0 y0 hfz;go_wp2;obtain⟨hs1,hs2⟩:=(lY Ra.o).1 (sO g M0.length cap);have Pe:=ax hs2 HO9.o (fun k hk e=>hgh ((xg hk).trans e));have Vd:Kp (fun k=>k=hb\/(sO g (M0.length+1) cap).ownBlock=some k) w w9:=(Kp.bg HG2.o).trans ((HP.o.kp.tr (Mc.o.mono (fun _ h=>Or.inl h)))) (fun j hj h=>by
    rcases h with h|h
    ·exact Or.inr (by rw[h];rfl)
    ·have:=I4.o.2.2;omega)
   have sZ:=Vd.trans hs2 (fun _ _ h=>Or.inl h);generalize w9.setCell ⟨hb,1,none⟩ (sO g M0.length cap)=eF at hs1 hs2 Pe sZ⊢;have XH:=(hs2.block A0 XI n2).trans CW.o;obtain⟨t1,t2⟩:=oG (c0:=iV t.1.1) (c1:=uV t.1.2.1.1.1) (c2:=uV t.1.2.1.1.2.1) (c3:=uV t.1.2.1.1.2.2) (c4:=iV t.1.2.2) XH;have Pd:=ax t2 Pe (fun k hk e=>Fz.o.2.1 ((xg hk).trans e).symm);have xL:=(t2.block hb (aG.1 hs1).1 n4).trans hs1;have PE:=sZ.trans t2 (fun j hj e=>by have:=Fz.o.2.2.2.2.2.2.2.2;omega);generalize (((((eF.setCell ⟨A0,0,none⟩ (iV t.1.1)).setCell ⟨A0,1,none⟩ (uV t.1.2.1.1.1)).setCell ⟨A0,2,none⟩ (uV t.1.2.1.1.2.1)).setCell ⟨A0,3,none⟩ (uV t.1.2.1.1.2.2)).setCell ⟨A0,4,none⟩ (iV t.1.2.2))=qL at t1 t2 Pd xL PE⊢;have v0:=(Df.aa t1).1;refine bR (v:=ans t.1 true) (by simp[results,Tryz.results137,go_sem,v0]) rfl ?_;refine⟨rfl,_,M.set 0 mv,⟨xL,by rw[HML.o];exact Pd, ?_⟩,HD.o.1,HD.o.2,PE,fun q hq=>Or.inl hq⟩;simpa[Value.ownBlock]using hgh
end Go.Proofs.YtiiefcalkjeieaaGreat.Hc
