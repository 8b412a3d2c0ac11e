import Derived.Test.YtiiefcalkjeieaaGreatJ30
variable{p:Nat}{v:Go.Value}
set_option maxHeartbeats 4000000
set_option maxRecDepth 100000
namespace Go.Proofs.YtiiefcalkjeieaaGreat.Rc
open Go.RowKit Go.Sort Go.Maps Pt Hc
attribute[local go_sem ↓]wp_at_zero wp_at_succ
theorem IE{l:List Th}(w:World)(hv:Ls EC w v l)(hl:l.length*40<=140737488355328):CL 53 #[v] w fun e w'=>∃p n c,e= .returned (.slice p n c)/\Hid (w'.ownsRow w.heap.size 49 5 (.slice p n c) l.length (fl EC l)/\Bw w w'):=by
 rcases id hv with⟨rfl,rfl⟩|⟨b,off,c,rfl,hbs,-⟩
 ·clear hl hv;have hnil:∀W:World,Sem.run Tryz.prog (binOp BinOp.eql 26 (.slice none 0 0) (.slice none 0 0)) W= .ok (.bool true) W:=fun W=>by first|rfl|kernel_rfl
  go_enter Tryz.func53,Tryz.ntmps53;go_wp2_with fail;go_ret;exact⟨none,0,0,rfl,oN _ _ _ _,(Gr.refl w).below⟩
 ·obtain⟨n,hn⟩:=aF (l.length);rw[<-hn]at hv⊢;have HV:=hid hv;have HN:=hid hn;have vO:Hid ((0+l.length)*40<=140737488355328/\0+l.length<=maxLen):=⟨by omega,by unfold maxLen;omega⟩;clear hv hl;have hnil:∀W:World,Sem.run Tryz.prog (binOp BinOp.eql 26 (.slice (some ⟨b,off,none⟩) n c) (.slice none 0 0)) W= .ok (.bool false) W:=fun W=>by first|rfl|kernel_rfl
  clear hn hbs;go_enter Tryz.func53,Tryz.ntmps53;go_wp2_with (at_builtin;refine jZ EC Tryz.underlying26 Rs.pX rfl (by decide) rfl _ _ rfl w.heap.size _ 0 [] rfl (World.ownsRow_lit w _ 0 (nR _) (zL _) rfl) _ l rfl (HV.o.below ((Gr.refl w).alloc _).below) vO.o.1 vO.o.2 (by simp) ?_);intro v2 w2 ho2 hg2;have HB2:Hid (Bw w w2):=by
   have h1:Bw w (w.alloc (.cells #[] 49)):=((Gr.refl w).alloc _).below;exact h1.trans ((Kp.grownBy (S:=fun k=>w.heap.size<=k) hg2 (fun k hk=>by simp[Value.ownBlock]at hk;omega)).below h1.size (fun _ h=>h))
  have Vx:Hid (w2.ownsRow w.heap.size 49 5 v2 l.length (fl EC l)):=aV ho2 (by simp) (by simp);clear ho2 hg2;obtain⟨p2,n2,c2,rfl⟩:=Df.aD Vx.o;go_wp2_with fail;go_ret;exact⟨p2,_,c2,rfl,by rw[HN.o];exact Vx.o,HB2.o⟩
section
variable {t:Nat->Nat} {rb N:Nat} {ar:Int} {sv rv ov cv uv:Value} {L:Nat->List (Nat×ai)} {rs os ms:List Nat} {c:Nat->ai->Int} {K O:Nat->List ai} {C:Nat->ai->Int} {F:Nat->List ai} {U:List Th}
theorem zo(w:World)(h:Rw w t rb ar sv rv ov cv uv N L rs os ms U)(hl:U.length<=1000000000):CL 19 #[aB rb] w fun e w'=>∃p n q,e= .returned (.slice p n q)/\Hid (w'.ownsRow w.heap.size 49 5 (.slice p n q) U.length (fl EC U)/\Bw w w'):=by
 have hc:=IE w h.ut.1 (by omega);obtain⟨pu,cu,hu⟩:=h.ut.1.form;obtain⟨m,hm⟩:=aF (U.length);rw[<-hm]at hu;have c5:=((aa h.blk).1 5).trans rfl;rw[hu]at c5 hc;have l5:=ae h.blk;have HC:=hid hc;clear h hl hc hu hm;go_enter Tryz.func19,Tryz.ntmps19;go_wp2_with fail;refine HC.o.mono ?_;rintro e w1 ⟨p,n,q,rfl,h1⟩;go_wp2_with fail;go_ret;exact⟨p,n,q,rfl,h1.o⟩
theorem Ki{mb tb b cb n:Nat}{f:Tm->Int}{fr:List Tm}(w:World)(h:Mu w mb tb b cb n v f fr)(hn:n*24<=140737488355328):
    CL 43 #[aB mb] w fun e w'=>∃(v:Value) (ks:List Tm),qC f ks/\e= .returned v/\w'.ownsRow w.heap.size 45 3 v (jq ks).length (eQ (jq ks))/\Bw w w':=by
 have hk:=xB w h.tl hn;have m0:=h.c0;have rC:=h.lt;clear h;go_enter Tryz.func43,Tryz.ntmps43;go_wp2_with fail;refine hk.mono ?_;rintro e w1 ⟨v1,ks,hS,rfl,ho,hv,hb⟩;go_wp2;go_ret;exact⟨_,ks,hS,rfl,ho,hb⟩
def lN(c:Nat->ai->Int)(X:Nat->List ai)(i:Nat):List Th:=(List.range i).flatMap fun p=>(X p).map fun t=>((p:Int),t,c p t)
theorem xZ(c:Nat->ai->Int)(X:Nat->List ai)(i:Nat):lN c X (i+1)=lN c X i++(X i).map fun t=>((i:Int),t,c i t):=by
 unfold lN;rw[YW,List.flatMap_append];simp
theorem tT{c:Nat->ai->Int}{X Y:Nat->List ai}{i:Nat}(h:∀p,p<i->X p=Y p):lN c X i=lN c Y i:=by
 induction i with
 | zero => rfl
 | succ i ih => rw[xZ,xZ,ih fun p hp=>h p (by omega),h i (by omega)]
def Nz(c:Nat->ai->Int)(p:Nat)(l:List ai):Prop:=∃ks,qC (c p) ks/\l=jq ks
theorem Nz.same{c:Nat->ai->Int}{l m:List ai}(h:Nz c p l)(k:Nz c p m):l=m:=by
 obtain⟨ks,h1,rfl⟩:=h;obtain⟨js,k1,rfl⟩:=k;exact yN VN ZJ (h1.perm k1)
theorem Nz.mem{c:Nat->ai->Int}{l:List ai}(h:Nz c p l)(t:ai):t∈l↔c p t≠0:=by
 obtain⟨ks,h1,rfl⟩:=h;exact(show t∈jq ks↔t∈ks from jr).trans (h1.2 t)
theorem Nz.nodup{c:Nat->ai->Int}{l:List ai}(h:Nz c p l):l.Nodup:=by
 obtain⟨ks,h1,rfl⟩:=h;exact(iw A7 ks).nodup_iff.2 h1.1
theorem Nz.len{c:Nat->ai->Int}{l P:List ai}(h:Nz c p l)(hP:∀t,c p t≠0->t∈P):l.length<=P.length:=jb h.nodup fun t ht=>hP t ((h.mem t).1 ht)
theorem Om{α β:Type}(f:α->β){l:List α}{j:Nat}{x:α}(h:l[j]? =some x):(l.take (j+1)).map f=(l.take j).map f++[f x]:=by
 rw[tO,h,Option.toList_some,De,List.map_singleton]
theorem Iz(w:World)(h:Rw w t rb ar sv rv ov cv uv N L rs os ms U)(hM:∀p mb,os[p]? =some mb->Ml w t (3+N+p) mb (K p).length (c p) (O p))(hN:N<=192)(hk:∀p u,p<N->c p u≠0->u∈K p)(hT:∀p,p<N->(K p).length<=100000000):
    CL 13 #[aB rb] w fun e w'=>∃p n q X,e= .returned (.slice p n q)/\Hid ((∀p,p<N->Nz c p (X p))/\w'.ownsRow w.heap.size 49 5 (.slice p n q) (lN c X N).length (fl EC (lN c X N))/\Bw w w'):=by
 have hmx:Tryz.prog.follows .mixedOrders=true:=by kernel_rfl
 have HR:=hid h;have HM:=hid hM;have HK:=hid hk;have HKT:=hid hT;have FO:Hid (∀W,Bw w W->CL 42 #[aB rb] W fun e w'=>e= .returned (iV (N:Nat))/\w'=W):=fun W hW=>by
  have h1:=fB W ((hW.block rb (ae h.blk)).trans h.blk) (h.ow.1.below hW);rw[h.ol]at h1;exact h1
 clear h hM hk hT;go_enter Tryz.func13,Tryz.ntmps13;go_wp2_with fail;refine(FO.o w (Below.refl _ _)).mono ?_;rintro e w1 ⟨rfl,hw1⟩;have hw2:=hw1.symm;subst hw2;clear hw1;go_wp2_with fail;go_loopw [3,9] (fun s3 s9 wr=>∃(i:Nat) (p:Option Addr) (n q:Nat) (X:Nat->List ai),i<=N/\s3= .slice p n q/\s9=iV (i:Nat)/\Hid ((∀p,p<i->Nz c p (X p))/\wr.ownsRow w.heap.size 49 5 (.slice p n q) (lN c X i).length (fl EC (lN c X i))/\(lN c X i).length<=i*100000000/\Bw w wr)) (fun _ s9 _=>N-(intOf s9).toNat);case atStart=>exact⟨0,none,0,0,fun _=>[],zL _,rfl,rfl,fun p hp=>absurd hp (nW _),oN _ _ _ _,by simp[lN],Below.refl _ _⟩
 case round=>
  obtain⟨i,p,n,q,X,hi,rfl,rfl,HI⟩:=hrel;by_cases hlt:i<N
  ·have hltz:(i:Int)<(N:Int):=(by omega);have hi1:(0:Int)<=(i:Int):=(by omega);obtain⟨mb,hmb⟩:∃mb,os[i]? =some mb:=⟨os[i]'(by have:=HR.o.ol;omega),by rw[p8]⟩;have Aw:=hid hmb;obtain⟨bo,oo,co,hov,-,-⟩:=sU HR.o.ow.1 hmb;rw[HR.o.ol]at hov;have Zu:=hid hov;have uZ:Hid (∀W:World,Bw w W->aj W rb 3 (.slice (some ⟨bo,oo,none⟩) N co)/\rb<W.heap.size/\aj W bo (oo+i) (aB mb)/\bo<W.heap.size):=fun W hW=>by
    have hb:=(hW.block rb (ae HR.o.blk)).trans HR.o.blk;obtain⟨b',o',c',e',z',x'⟩:=sU (HR.o.ow.1.below hW) Aw.o;have hov:=Zu.o;rw[hov]at e';simp only[vS,oI,aI,and_true]at e';obtain⟨⟨rfl,rfl⟩,-,-⟩:=e';exact⟨by rw[<-hov];exact((aa hb).1 3).trans rfl,ae hb,x',z'⟩
   clear hmb hov;obtain⟨c0,c1,c2,c3⟩:=uZ.o wr HI.o.2.2.2;have O5:CL 43 #[aB mb] wr fun e w'=>∃(v:Value) (ks:List Tm),qC (c i) ks/\e= .returned v/\w'.ownsRow wr.heap.size 45 3 v (jq ks).length (eQ (jq ks))/\Bw wr w':=by
    obtain⟨tb,b,cb,v,hmu,_⟩:=HM.o i mb Aw.o;exact Ki wr (hmu.kp (Kp.of_below (S:=fun _=>False) HI.o.2.2.2) (fun h=>h) (fun h=>h) (fun h=>h) (fun h=>h) (fun _ _ h=>h)) (by have:=HKT.o i hlt;omega)
   go_wp2_with fail;refine O5.mono ?_;clear O5 c0 c1 c2 c3;rintro e w5 ⟨tv,ks,hks,rfl,ht,hb5⟩;obtain⟨tq,tm,tc,rfl⟩:=Df.aD ht;obtain⟨ts,hts⟩:=aF (jq ks);rw[<-hts]at ht;have HNZ:Hid (Nz c i ts/\ts.length<=100000000):=⟨⟨ks,hks,hts⟩,nT (Nz.len ⟨ks,hks,hts⟩ (fun u hu=>HK.o i u hlt hu)) (HKT.o i hlt)⟩;obtain⟨rfl,-⟩:=Df.bz ht _ _ _ rfl;obtain⟨tn,htn⟩:=aF (ts.length);have H5:Hid (wr.heap.size<=w5.heap.size/\w5.ownsRow w.heap.size 45 3 (.slice tq tn tc) tn (fl ET ts)/\tn=ts.length/\w5.ownsRow w.heap.size 49 5 (.slice p n q) (lN c X i).length (fl EC (lN c X i))/\Bw w w5):=⟨hb5.size,by rw[htn];exact aN ht HI.o.2.2.2.size,htn,ag HI.o.2.1 hb5,HI.o.2.2.2.trans (hb5.mono HI.o.2.2.2.size)⟩;rw[<-htn];have htl:tn<=100000000:=(by rw[htn];exact HNZ.o.2);have HI0:Hid ((∀p,p<i->Nz c p (X p))/\(lN c X i).length<=i*100000000):=⟨HI.o.1,HI.o.2.2.1⟩;clear hks ht hb5 hts htn HI;go_wp2_with fail;go_loopw [3,21] (fun s3 s21 wx=>∃(j:Nat) (p:Option Addr) (n q:Nat),j<=tn/\s3= .slice p n q/\s21=iV (j:Nat)/\Hid (wx.ownsRow w.heap.size 45 3 (.slice tq tn tc) tn (fl ET ts)/\wx.ownsRow w.heap.size 49 5 (.slice p n q) ((lN c X i).length+j) (fl EC (lN c X i++(ts.take j).map fun u=>((i:Int),u,c i u)))/\Bw w wx)) (fun _ s21 _=>tn-(intOf s21).toNat);case atStart=>exact⟨0,p,n,q,zL _,rfl,rfl,H5.o.2.1,by rw[List.take_zero,List.map_nil,FZ];exact H5.o.2.2.2.1,H5.o.2.2.2.2⟩
   case round=>
    obtain⟨j,p,n,q,hj,rfl,rfl,HJ⟩:=hrel;by_cases hjl:j<tn
    ·have hjz:(j:Int)<(tn:Int):=(by omega);have hj1:(0:Int)<=(j:Int):=(by omega);obtain⟨u,hu⟩:∃u,ts[j]? =some u:=⟨ts[j]'(by have:=H5.o.2.2.1;omega),by simp⟩;have HU:=hid hu;obtain⟨b1,o1,q1,gU,rY,x0,x1,x2⟩:=Ls.at3 (show Ls ET wr (.slice tq tn tc) ts by
      have h:=HJ.o.1;rw[H5.o.2.2.1]at h⊢;exact aK (E:=ET) h) hu
     simp only[vS]at gU;obtain⟨rfl,-,-⟩:=gU;clear hu;obtain⟨b6,hb6⟩:=aF (wr.heap.size);obtain⟨W5,bW⟩:=aF (wr.alloc (.cells #[uV u.1.1,uV u.1.2.1,uV u.1.2.2] 45));have P5:Hid (W5.ownsRow w.heap.size 45 3 (.slice (some ⟨b1,o1,none⟩) tn tc) tn (fl ET ts)/\W5.ownsRow w.heap.size 49 5 (.slice p n q) ((lN c X i).length+j) (fl EC (lN c X i++(ts.take j).map fun u=>((i:Int),u,c i u)))/\Bw w W5/\W5.heap[b6]? =some (.cells #[uV u.1.1,uV u.1.2.1,uV u.1.2.2] 45 (0,0))/\w.heap.size<=b6):=by
      have g5:=((Gr.refl wr).alloc (.cells #[uV u.1.1,uV u.1.2.1,uV u.1.2.2] 45)).below;rw[bW,hb6];exact⟨ag HJ.o.1 g5,ag HJ.o.2.1 g5,HJ.o.2.2.trans (g5.mono HJ.o.2.2.size),ah _ _,HJ.o.2.2.size⟩
     go_upto_region 8 with fail;rw[<-bW,<-hb6];clear bW hb6 x0 x1 x2 rY HJ;have gK:Hid (∀W:World,Kp (fun k=>w.heap.size<=k/\k≠b6) W5 W->(aj W rb 3 (.slice (some ⟨bo,oo,none⟩) N co)/\rb<W.heap.size/\aj W bo (oo+i) (aB mb)/\bo<W.heap.size)/\W.heap[b6]? =some (.cells #[uV u.1.1,uV u.1.2.1,uV u.1.2.2] 45 (0,0))):=fun W hW=>by
      have hb:=P5.o.2.2.1.trans (hW.below P5.o.2.2.1.size fun k hk=>hk.1);exact⟨uZ.o W hb,(hW.block b6 (ae P5.o.2.2.2.1) fun e=>e.2 rfl).trans P5.o.2.2.2.1⟩
     have QG:Hid (∀W:World,Gr W5 W->CL 44 #[aB mb, .agg #[uV u.1.1,uV u.1.2.1,uV u.1.2.2]] W fun e w'=>e= .returned (iV (c i u))/\Gr W w'):=fun W hW=>by
      obtain⟨tb,b,cb,v,hmu,_⟩:=HM.o i mb Aw.o;exact Go.Proofs.YtiiefcalkjeieaaGreat.dV u W (hmu.kp (Kp.of_below (S:=fun _=>False) (P5.o.2.2.1.trans (hW.below.mono P5.o.2.2.1.size))) (fun h=>h) (fun h=>h) (fun h=>h) (fun h=>h) (fun _ _ h=>h))
     obtain⟨cu,QS⟩:=aF (c i u);have HCU:=hid QS;rw[<-QS]at QG;clear QS;obtain⟨AL,hAL⟩:=aF (lN c X i++(ts.take j).map fun u=>((i:Int),u,c i u));have QI:Hid (AL.length=(lN c X i).length+j/\AL++[((i:Int),u,cu)]=lN c X i++(ts.take (j+1)).map fun u=>((i:Int),u,c i u)):=by
      refine⟨?_, ?_⟩
      ·rw[hAL,dQ,gQ,lK];have:=H5.o.2.2.1;omega
      ·rw[Om _ HU.o,<-aA,<-hAL,HCU.o]
     have HAB:Hid (AL.length<=20000000000):=by
      have h1:=QI.o.1;have h2:=HI0.o.2;have h3:i*100000000<=192*100000000:=nM _ (by omega);exact(show AL.length<=20000000000 by omega)
     have HRW:Hid (W5.ownsRow w.heap.size 49 5 (.slice p n q) AL.length (fl EC AL)):=by
      have h1:=P5.o.2.1;rw[<-hAL,<-QI.o.1]at h1;exact h1
     clear hAL;have KV:Kp (fun k=>w.heap.size<=k/\k≠b6) W5 W5.drew:=Kp.bg (Gr.refl W5).drew;refine ay (S:=fun W:World=>Kp (fun k=>w.heap.size<=k/\k≠b6) W5 W) (D:=[]) hmx ?_;refine' ak 0 KV ?_;refine' ak 1 KV ?_;refine' bD 2 KV ?h ?_;case h=>(intro W hSw;obtain⟨-,c4⟩:=gK.o W hSw;have y0:=(aa c4).1;have yz:=ae c4;go_simp;try(with_reducible rfl))
     refine' ak 3 KV ?_;refine' ak 4 KV ?_;refine' bD 5 KV ?h ?_;case h=>(intro W hSw;obtain⟨⟨c0,c1,c2,c3⟩,-⟩:=gK.o W hSw;go_simp;try(with_reducible rfl))
     refine' bD 6 KV ?h ?_;case h=>(intro W hSw;obtain⟨⟨c0,c1,c2,c3⟩,-⟩:=gK.o W hSw;go_simp;try(with_reducible rfl))
     refine' bD 7 KV ?h ?_;case h=>(intro W hSw;obtain⟨⟨c0,c1,c2,c3⟩,-⟩:=gK.o W hSw;go_simp;try(with_reducible rfl))
     refine' ak 8 KV ?_;refine' bD 9 KV ?h ?_;case h=>(intro W hSw;obtain⟨⟨c0,c1,c2,c3⟩,-⟩:=gK.o W hSw;go_simp;try(with_reducible rfl))
     refine' bD 10 KV ?h ?_;case h=>(intro W hSw;obtain⟨⟨c0,c1,c2,c3⟩,-⟩:=gK.o W hSw;go_simp;try(with_reducible rfl))
     refine' bD 11 KV ?h ?_;case h=>(intro W hSw;obtain⟨-,c4⟩:=gK.o W hSw;have y0:=(aa c4).1;have yz:=ae c4;go_simp;try(with_reducible rfl))
     refine fV 12 fun K hK=> ?_;go_simp;refine(QG.o _ (Gr.refl W5).drew).mono ?_;rintro e w7 ⟨rfl,g7⟩;have B7:Bw W5 w7:=(Gr.refl W5).drew.below.trans (g7.below.mono (Gr.refl W5).drew.below.size);have Ak:Kp (fun k=>w.heap.size<=k/\k≠b6) W5 w7:=Kp.of_below B7;clear g7;go_wp2_with fail;refine hK.o _ _ (fun hD=>Ak) ?_;clear hK K;try simp only[Act.put,qI,q0,qS]
     refine' ak 13 Ak ?_;refine fV 14 fun K hK=> ?_;go_simp;have B8:Bw W5 (w7.alloc (.cells #[iV (i:Int),uV u.1.1,uV u.1.2.1,uV u.1.2.2,iV cu] 49)):=B7.trans (((Gr.refl w7).alloc _).below.mono B7.size);have hK8:Kp (fun k=>w.heap.size<=k/\k≠b6) W5 (w7.alloc (.cells #[iV (i:Int),uV u.1.1,uV u.1.2.1,uV u.1.2.2,iV cu] 49)):=Kp.of_below B8;refine hK.o _ _ (fun hD=>hK8) ?_;clear hK K;try simp only[Act.put,qI,q0,qS]
     refine fV 15 fun K hK=> ?_;refine bT EC Tryz.underlying26 Rs.pX rfl (by decide) rfl _ _ rfl w.heap.size (.slice p n q) AL.length (fl EC AL) rfl (ag HRW.o B7) ((i:Int),u,cu) (by first|rfl|simp) (by have:=HAB.o;omega) (by have:=HAB.o;unfold maxLen;omega) (nT P5.o.2.2.1.size B7.size) #[iV (i:Int),uV u.1.1,uV u.1.2.1,uV u.1.2.2,iV cu] rfl _ ?_;intro g8 bF w8 h8 k8 n8;have Vd:Kp (fun k=>w.heap.size<=k/\k≠b6) W5 w8:=Ak.trans (Kp.grownBy (S:=fun k=>w.heap.size<=k/\k≠b6) k8.o fun k hk=>⟨(HRW.o.lt k hk).1,fun e=>Df.aJ HRW.o P5.o.2.2.2.1 (by decide) k hk e⟩) fun k _ e=>e;have ST:Hid (w8.ownsRow w.heap.size 45 3 (.slice (some ⟨b1,o1,none⟩) tn tc) tn (fl ET ts)/\w8.ownsRow w.heap.size 49 5 (sO g8 (AL.length+1) bF) (AL.length+1) (fl EC AL++EC.enc ((i:Int),u,cu))/\Bw w w8):=⟨ax (Kp.grownBy (S:=fun k=>(Value.slice p n q).ownBlock=some k) k8.o fun _ h=>h) (ag P5.o.1 B7) fun k e e2=>Df.aH (ag P5.o.1 B7) (ag HRW.o B7) (by decide) k e e2,h8.o,P5.o.2.2.1.trans (Vd.below P5.o.2.2.1.size fun k hk=>hk.1)⟩;clear h8 k8 n8;generalize hll:AL.length+1=ll at ST⊢;have uY:=hid hll;clear hll;refine hK.o _ _ (fun hD=>Vd) ?_;clear hK K;try simp only[Act.put,qI,q0,qS]
     refine' ak 16 Vd ?_;refine av (by kernel_rfl) ?_ _;have FIN:Hid (w8.ownsRow w.heap.size 45 3 (.slice (some ⟨b1,o1,none⟩) tn tc) tn (fl ET ts)/\w8.ownsRow w.heap.size 49 5 (sO g8 ll bF) ((lN c X i).length+(j+1)) (fl EC (lN c X i++(ts.take (j+1)).map fun u=>((i:Int),u,c i u)))/\Bw w w8):=by
      refine⟨ST.o.1, ?_,ST.o.2.2⟩;have h:=ST.o.2.1;refine aV h ?_ ?_
      ·have h1:=uY.o;have h2:=QI.o.1;omega
      ·rw[<-QI.o.2,aT,dM]
     clear ST KV Ak hK8 Vd B7 B8 gK QG QI HAB HRW P5 HCU HU;go_wp2_with fail;go_roundw;case rel=>exact⟨j+1,some ⟨g8,0,none⟩,ll,bF,by omega,rfl,by go_num,FIN.o⟩
     case measure=>simp[intOf];omega
    ·have hjz:¬(j:Int)<(tn:Int):=(by omega);have HN2:Hid (∃X',(∀p,p<i+1->Nz c p (X' p))/\wr.ownsRow w.heap.size 49 5 (.slice p n q) (lN c X' (i+1)).length (fl EC (lN c X' (i+1)))/\(lN c X' (i+1)).length<=(i+1)*100000000/\Bw w wr):=by
      have hjt:j=ts.length:=(by have:=H5.o.2.2.1;omega);have e1:lN c (bI X i ts) (i+1)=lN c X i++ts.map fun u=>((i:Int),u,c i u):=by
       rw[xZ,bM,tT fun p hp=>bK X ts (show p≠i by omega)]
      have h2:=HJ.o.2.1;rw[tL (by omega)]at h2;refine⟨bI X i ts,fun p hp=> ?_, ?_, ?_,HJ.o.2.2⟩
      ·by_cases e:p=i
       ·subst e;rw[bM];exact HNZ.o.1
       ·rw[bK X ts e];exact HI0.o.1 p (by omega)
      ·rw[e1];exact aV h2 (by rw[dQ,gQ];omega) rfl
      ·rw[e1,dQ,gQ,Nat.succ_mul];have h3:=HI0.o.2;have h4:=HNZ.o.2;omega
     clear HJ H5 HNZ HI0;go_wp2_with fail;go_roundw;case rel=>
      obtain⟨X',k1,k2,k3,k4⟩:=HN2.o;exact⟨i+1,p,n,q,X',by omega,rfl,by go_num,k1,k2,k3,k4⟩
     case measure=>simp[intOf];omega
  ·have hltz:¬(i:Int)<(N:Int):=(by omega);obtain rfl:i=N:=(by omega);go_wp2_with fail;go_ret;exact⟨p,n,q,rfl,X,HI.o.1,HI.o.2.1,HI.o.2.2.2⟩
theorem xn(p:Int)(u:ai)(w:World)(h:Rw w t rb ar sv rv ov cv uv N L rs os ms U)(hM:∀p mb,ms[p]? =some mb->∃n,Ml w t (3+p) mb n (C p) (F p))(hF:∀p,p<N->(F p).length*24<=140737488355328):
    CL 16 #[aB rb,iV p, .agg #[uV u.1.1,uV u.1.2.1,uV u.1.2.2]] w fun e w'=>e= .returned (.bool (bH aC (KY ms F p) u))/\Bw w w':=by
 have hmx:Tryz.prog.follows .mixedOrders=true:=by kernel_rfl
 obtain⟨W1,hW1⟩:=aF (w.alloc (.cells #[uV u.1.1,uV u.1.2.1,uV u.1.2.2] 45));obtain⟨b3,hb3⟩:=aF (w.heap.size);have H1:Hid (Bw w W1/\W1.heap[b3]? =some (.cells #[uV u.1.1,uV u.1.2.1,uV u.1.2.2] 45 (0,0))):=by
  rw[hW1,hb3];exact⟨((Gr.refl w).alloc _).below,ah _ _⟩
 have Zy:Hid (∀W,Bw w W->CL 40 #[aB rb,iV p] W fun e w'=>e= .returned (.bool (decide (0<=p)&&decide (p<(N:Int))))/\w'=W):=fun W hb=>by
  have h1:=vJ p W ((hb.block rb (ae h.blk)).trans h.blk) (h.ow.1.below hb);rw[h.ol]at h1;exact h1
 have HB:Hid (∀W,Bw W1 W->Bw w W):=fun W hb=>H1.o.1.trans (hb.mono H1.o.1.size);by_cases hp:0<=p/\p<(N:Int)
 ·have e2:(decide (0<=p)&&decide (p<(N:Int)))=true:=by simp[hp.1,hp.2]
  rw[e2]at Zy;obtain⟨q,rfl⟩:∃q:Nat,p=q:=⟨p.toNat,by omega⟩;have hq:q<N:=by omega
  have e1:KY ms F (q:Int)=F q:=by
   unfold KY;rw[if_pos (by have:=h.ml;omega),tN]
  rw[e1];obtain⟨mb,hmb⟩:∃mb,ms[q]? =some mb:=⟨ms[q]'(by have:=h.ml;omega),by rw[p8]⟩;obtain⟨bi,oi,ci,hcv,-,-⟩:=sU h.cm.1 hmb;rw[h.ml]at hcv;have uZ:Hid (∀W:World,Bw W1 W->(aj W rb 4 (.slice (some ⟨bi,oi,none⟩) N ci)/\rb<W.heap.size/\aj W bi (oi+q) (aB mb)/\bi<W.heap.size)/\W.heap[b3]? =some (.cells #[uV u.1.1,uV u.1.2.1,uV u.1.2.2] 45 (0,0))):=fun W hb=>by
   have hW:=HB.o W hb;have hbk:=(hW.block rb (ae h.blk)).trans h.blk;obtain⟨b',o',c',e',z',x'⟩:=sU (h.cm.1.below hW) hmb;rw[hcv]at e';simp only[vS,oI,aI,and_true]at e';obtain⟨⟨rfl,rfl⟩,-,-⟩:=e';exact⟨⟨by rw[<-hcv];exact((aa hbk).1 4).trans rfl,ae hbk,x',z'⟩,(hb.block b3 (ae H1.o.2)).trans H1.o.2⟩
  have HOP:Hid (∀W:World,Bw W1 W->CL 47 #[aB mb, .agg #[uV u.1.1,uV u.1.2.1,uV u.1.2.2]] W fun e w'=>e= .returned (.bool (bH aC (F q) u))/\Gr W w'):=fun W hb=>by
   obtain⟨n,tb,b,cb,v,hmu,_⟩:=hM q mb hmb;exact Go.Proofs.YtiiefcalkjeieaaGreat.xn u W (hmu.kp (Kp.of_below (S:=fun _=>False) (HB.o W hb)) (fun h=>h) (fun h=>h) (fun h=>h) (fun h=>h) (fun _ _ h=>h)) (hF q hq)
  have hqz:(0:Int)<=(q:Int):=by omega
  have hqN:(q:Int)<(N:Int):=by omega
  clear h hM hF hp hcv hmb e1 e2;generalize bH aC (F q) u=bo at HOP⊢;go_enter Tryz.func16,Tryz.ntmps16;go_upto_region 1 with fail;rw[<-hW1,<-hb3];clear hW1 hb3;have hS0:(fun W:World=>Bw W1 W) W1.drew:=(Gr.refl W1).drew.below;refine ay (S:=fun W:World=>Bw W1 W) (D:=[]) hmx ?_;refine' ak 0 hS0 ?_;refine' ak 1 hS0 ?_;refine wpC 2 (Zy.o _ (HB.o _ hS0)) ?_;rintro e w7 ⟨rfl,hw7⟩;subst hw7;refine⟨_,rfl,hS0, ?_⟩;refine' ak 3 hS0 ?_;refine' ak 4 hS0 ?_;refine' bD 5 hS0 ?h ?_;case h=>(intro W hSw;obtain⟨⟨c0,c1,c2,c3⟩,-⟩:=uZ.o W hSw;go_simp;try(with_reducible rfl))
  refine' bD 6 hS0 ?h ?_;case h=>(intro W hSw;obtain⟨⟨c0,c1,c2,c3⟩,-⟩:=uZ.o W hSw;go_simp;try(with_reducible rfl))
  refine' bD 7 hS0 ?h ?_;case h=>(intro W hSw;obtain⟨⟨c0,c1,c2,c3⟩,-⟩:=uZ.o W hSw;go_simp;try(with_reducible rfl))
  refine' ak 8 hS0 ?_;refine' bD 9 hS0 ?h ?_;case h=>(intro W hSw;obtain⟨⟨c0,c1,c2,c3⟩,-⟩:=uZ.o W hSw;go_simp;try(with_reducible rfl))
  refine' bD 10 hS0 ?h ?_;case h=>(intro W hSw;obtain⟨⟨c0,c1,c2,c3⟩,-⟩:=uZ.o W hSw;go_simp;try(with_reducible rfl))
  refine' bD 11 hS0 ?h ?_;case h=>(intro W hSw;obtain⟨-,c4⟩:=uZ.o W hSw;have y0:=(aa c4).1;have yz:=ae c4;go_simp;try(with_reducible rfl))
  refine wpC 12 (HOP.o _ hS0) ?_;rintro e w7 ⟨rfl,g7⟩;have bu:Bw W1 w7:=hS0.trans (g7.below.mono hS0.size);clear g7;refine⟨_,rfl,bu, ?_⟩;refine' ak 13 bu ?_;refine' ak 14 bu ?_;refine av (by kernel_rfl) ?_ _;go_wp2_with fail;go_ret;exact⟨rfl,HB.o _ bu⟩
 ·have e2:(decide (0<=p)&&decide (p<(N:Int)))=false:=by
    by_cases k:0<=p
    ·have k2:¬p<(N:Int):=fun h=>hp ⟨k,h⟩;simp[k2]
    ·simp[k]
  rw[e2]at Zy;have e1:KY ms F p=[]:=by
   unfold KY;rw[if_neg (by have:=h.ml;omega)]
  rw[e1];have e3:bH aC ([]:List ai) u=false:=rfl;rw[e3];clear h hM hF hp e1 e2 e3;go_enter Tryz.func16,Tryz.ntmps16;go_upto_region 1 with fail;rw[<-hW1,<-hb3];clear hW1 hb3;have hS0:(fun W:World=>Bw W1 W) W1.drew:=(Gr.refl W1).drew.below;refine ay (S:=fun W:World=>Bw W1 W) (D:=[]) hmx ?_;refine' ak 0 hS0 ?_;refine' ak 1 hS0 ?_;refine wpC 2 (Zy.o _ (HB.o _ hS0)) ?_;rintro e w7 ⟨rfl,hw7⟩;subst hw7;refine⟨_,rfl,hS0, ?_⟩;refine' ak 3 hS0 ?_;refine' eU 4 hS0 ?_;refine' eU 5 hS0 ?_;refine' eU 6 hS0 ?_;refine' eU 7 hS0 ?_;refine' eU 8 hS0 ?_;refine' eU 9 hS0 ?_;refine' eU 10 hS0 ?_;refine' eU 11 hS0 ?_;refine fV 12 fun K hK=> ?_;rw[if_neg (Bool.eq_false_iff.1 (by kernel_rfl))];refine hK.o _ _ (fun hD=>hS0) ?_;clear hK K;try simp only[Act.put,qI,q0,qS]
  refine' ak 13 hS0 ?_;refine' ak 14 hS0 ?_;refine av (by kernel_rfl) ?_ _;go_wp2_with fail;go_ret;exact⟨rfl,HB.o _ hS0⟩
end
end Go.Proofs.YtiiefcalkjeieaaGreat.Rc
