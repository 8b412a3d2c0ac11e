import Derived.Test.YtiiefcalkjeieaaGreatJ30
variable{p:Nat}{v:Go.Value}
set_option maxHeartbeats 4000000
set_option maxRecDepth 100000
namespace Go.Proofs.YtiiefcalkjeieaaGreat.Rc
open Go.RowKit Go.Sort Go.Maps Pt Hc
attribute[local go_sem ↓]wp_at_zero wp_at_succ
theorem Iw{l:List Th}(w:World)(hv:Ls EC w v l)(hl:l.length*40<=140737488355328):Calls Tryz.prog 53 #[v] w fun e w'=>∃p n c,e= .returned (.slice p n c)/\Hid (w'.ownsRow w.heap.size 49 5 (.slice p n c) l.length (fl EC l)/\Below w.heap.size w w'):=by
 rcases id hv with⟨rfl,rfl⟩|⟨b,off,c,rfl,hbs,-⟩
 ·clear hl hv;have hnil:∀W:World,Sem.run Tryz.prog (binOp BinOp.eql 26 (.slice none 0 0) (.slice none 0 0)) W= .ok (.bool true) W:=fun W=>by first|rfl|kernel_rfl
  go_enter Tryz.func53,Tryz.ntmps53;go_wp2_with fail;go_ret;exact⟨none,0,0,rfl,oN _ _ _ _,(Gr.refl w).below⟩
 ·obtain⟨n,hn⟩:=aC (l.length);rw[<-hn]at hv⊢;have HV:=hid hv;have HN:=hid hn;have vI:Hid ((0+l.length)*40<=140737488355328/\0+l.length<=maxLen):=⟨by omega,by unfold maxLen;omega⟩;clear hv hl;have hnil:∀W:World,Sem.run Tryz.prog (binOp BinOp.eql 26 (.slice (some ⟨b,off,none⟩) n c) (.slice none 0 0)) W= .ok (.bool false) W:=fun W=>by first|rfl|kernel_rfl
  clear hn hbs;go_enter Tryz.func53,Tryz.ntmps53;go_wp2_with (at_builtin;refine jV EC Tryz.underlying26 Rs.pR rfl (by decide) rfl _ _ rfl w.heap.size _ 0 [] rfl (World.ownsRow_lit w _ 0 (nR _) (zL _) rfl) _ l rfl (HV.o.below ((Gr.refl w).alloc _).below) vI.o.1 vI.o.2 (by simp) ?_);intro v2 w2 ho2 hg2;have HB2:Hid (Below w.heap.size w w2):=by
   have h1:Below w.heap.size w (w.alloc (.cells #[] 49)):=((Gr.refl w).alloc _).below;exact h1.trans ((Kp.grownBy (S:=fun k=>w.heap.size<=k) hg2 (fun k hk=>by simp[Value.ownBlock]at hk;omega)).below h1.size (fun _ h=>h))
  have Vm:Hid (w2.ownsRow w.heap.size 49 5 v2 l.length (fl EC l)):=aS ho2 (by simp) (by simp);clear ho2 hg2;obtain⟨p2,n2,c2,rfl⟩:=Df.aB Vm.o;go_wp2_with fail;go_ret;exact⟨p2,_,c2,rfl,by rw[HN.o];exact Vm.o,HB2.o⟩
section
variable {t:Nat->Nat} {rb N:Nat} {ar:Int} {sv rv ov cv uv:Value} {L:Nat->List (Nat×ai)} {rs os ms:List Nat} {c:Nat->ai->Int} {K O:Nat->List ai} {C:Nat->ai->Int} {F:Nat->List ai} {U:List Th}
theorem za(w:World)(h:Rw w t rb ar sv rv ov cv uv N L rs os ms U)(hl:U.length<=1000000000):Calls Tryz.prog 19 #[.pointer (some ⟨rb,0,none⟩)] w fun e w'=>∃p n q,e= .returned (.slice p n q)/\Hid (w'.ownsRow w.heap.size 49 5 (.slice p n q) U.length (fl EC U)/\Below w.heap.size w w'):=by
 have hc:=Iw w h.ut.1 (by omega);obtain⟨pu,cu,hu⟩:=h.ut.1.form;obtain⟨m,hm⟩:=aC (U.length);rw[<-hm]at hu;have c5:=((aa h.blk).1 5).trans rfl;rw[hu]at c5 hc;have l5:=ae h.blk;have HC:=hid hc;clear h hl hc hu hm;go_enter Tryz.func19,Tryz.ntmps19;go_wp2_with fail;refine HC.o.mono ?_;rintro e w1 ⟨p,n,q,rfl,h1⟩;go_wp2_with fail;go_ret;exact⟨p,n,q,rfl,h1.o⟩
theorem Ka{mb tb b cb n:Nat}{f:Tm->Int}{fr:List Tm}(w:World)(h:Mu w mb tb b cb n v f fr)(hn:n*24<=140737488355328):
    Calls Tryz.prog 43 #[.pointer (some ⟨mb,0,none⟩)] w fun e w'=>∃(v:Value) (ks:List Tm),qz f ks/\e= .returned v/\w'.ownsRow w.heap.size 45 3 v (jk ks).length (eO (jk ks))/\Below w.heap.size w w':=by
 have hk:=xk w h.tl hn;have m0:=h.c0;have ru:=h.lt;clear h;go_enter Tryz.func43,Tryz.ntmps43;go_wp2_with fail;refine hk.mono ?_;rintro e w1 ⟨v1,ks,hS,rfl,ho,hv,hb⟩;go_wp2;go_ret;exact⟨_,ks,hS,rfl,ho,hb⟩
def lI(c:Nat->ai->Int)(X:Nat->List ai)(i:Nat):List Th:=(List.range i).flatMap fun p=>(X p).map fun t=>((p:Int),t,c p t)
theorem xR(c:Nat->ai->Int)(X:Nat->List ai)(i:Nat):lI c X (i+1)=lI c X i++(X i).map fun t=>((i:Int),t,c i t):=by
 unfold lI;rw[YO,List.flatMap_append];simp
theorem sW{c:Nat->ai->Int}{X Y:Nat->List ai}{i:Nat}(h:∀p,p<i->X p=Y p):lI c X i=lI c Y i:=by
 induction i with
 | zero => rfl
 | succ i ih => rw[xR,xR,ih fun p hp=>h p (by omega),h i (by omega)]
def Nz(c:Nat->ai->Int)(p:Nat)(l:List ai):Prop:=∃ks,qz (c p) ks/\l=jk ks
theorem Nz.same{c:Nat->ai->Int}{l m:List ai}(h:Nz c p l)(k:Nz c p m):l=m:=by
 obtain⟨ks,h1,rfl⟩:=h;obtain⟨js,k1,rfl⟩:=k;exact yH VF ZA (h1.perm k1)
theorem Nz.mem{c:Nat->ai->Int}{l:List ai}(h:Nz c p l)(t:ai):t∈l↔c p t≠0:=by
 obtain⟨ks,h1,rfl⟩:=h;exact(show t∈jk ks↔t∈ks from jl).trans (h1.2 t)
theorem Nz.nodup{c:Nat->ai->Int}{l:List ai}(h:Nz c p l):l.Nodup:=by
 obtain⟨ks,h1,rfl⟩:=h;exact(ik AQ ks).nodup_iff.2 h1.1
theorem Nz.len{c:Nat->ai->Int}{l P:List ai}(h:Nz c p l)(hP:∀t,c p t≠0->t∈P):l.length<=P.length:=iX h.nodup fun t ht=>hP t ((h.mem t).1 ht)
theorem Ob{α β:Type}(f:α->β){l:List α}{j:Nat}{x:α}(h:l[j]? =some x):(l.take (j+1)).map f=(l.take j).map f++[f x]:=by
 rw[tO,h,Option.toList_some,CW,List.map_singleton]
theorem Ip(w:World)(h:Rw w t rb ar sv rv ov cv uv N L rs os ms U)(hM:∀p mb,os[p]? =some mb->Ml w t (3+N+p) mb (K p).length (c p) (O p))(hN:N<=192)(hk:∀p u,p<N->c p u≠0->u∈K p)(hT:∀p,p<N->(K p).length<=100000000):
    Calls Tryz.prog 13 #[.pointer (some ⟨rb,0,none⟩)] w fun e w'=>∃p n q X,e= .returned (.slice p n q)/\Hid ((∀p,p<N->Nz c p (X p))/\w'.ownsRow w.heap.size 49 5 (.slice p n q) (lI c X N).length (fl EC (lI c X N))/\Below w.heap.size w w'):=by
 have hmx:Tryz.prog.follows .mixedOrders=true:=by kernel_rfl
 have HR:=hid h;have HM:=hid hM;have HK:=hid hk;have HKT:=hid hT;have FH:Hid (∀W,Below w.heap.size w W->Calls Tryz.prog 42 #[.pointer (some ⟨rb,0,none⟩)] W fun e w'=>e= .returned (.int .i64 (N:Nat))/\w'=W):=fun W hW=>by
  have h1:=eY W ((hW.block rb (ae h.blk)).trans h.blk) (h.ow.1.below hW);rw[h.ol]at h1;exact h1
 clear h hM hk hT;go_enter Tryz.func13,Tryz.ntmps13;go_wp2_with fail;refine(FH.o w (Below.refl _ _)).mono ?_;rintro e w1 ⟨rfl,hw1⟩;have hw2:=hw1.symm;subst hw2;clear hw1;go_wp2_with fail;go_loopw [3,9] (fun s3 s9 wr=>∃(i:Nat) (p:Option Addr) (n q:Nat) (X:Nat->List ai),i<=N/\s3= .slice p n q/\s9= .int .i64 (i:Nat)/\Hid ((∀p,p<i->Nz c p (X p))/\wr.ownsRow w.heap.size 49 5 (.slice p n q) (lI c X i).length (fl EC (lI c X i))/\(lI c X i).length<=i*100000000/\Below w.heap.size w wr)) (fun _ s9 _=>N-(intOf s9).toNat);case atStart=>exact⟨0,none,0,0,fun _=>[],zL _,rfl,rfl,fun p hp=>absurd hp (nW _),oN _ _ _ _,by simp[lI],Below.refl _ _⟩
 case round=>
  obtain⟨i,p,n,q,X,hi,rfl,rfl,HI⟩:=hrel;by_cases hlt:i<N
  ·have hltz:(i:Int)<(N:Int):=(by omega);have hi1:(0:Int)<=(i:Int):=(by omega);obtain⟨mb,hmb⟩:∃mb,os[i]? =some mb:=⟨os[i]'(by have:=HR.o.ol;omega),by rw[pW]⟩;have Ao:=hid hmb;obtain⟨bo,oo,co,hov,-,-⟩:=sM HR.o.ow.1 hmb;rw[HR.o.ol]at hov;have Zl:=hid hov;have uT:Hid (∀W:World,Below w.heap.size w W->W.cell? ⟨rb,3,none⟩=some (.slice (some ⟨bo,oo,none⟩) N co)/\rb<W.heap.size/\W.cell? ⟨bo,oo+i,none⟩=some (.pointer (some ⟨mb,0,none⟩))/\bo<W.heap.size):=fun W hW=>by
    have hb:=(hW.block rb (ae HR.o.blk)).trans HR.o.blk;obtain⟨b',o',c',e',z',x'⟩:=sM (HR.o.ow.1.below hW) Ao.o;have hov:=Zl.o;rw[hov]at e';simp only[vS,oI,aI,and_true]at e';obtain⟨⟨rfl,rfl⟩,-,-⟩:=e';exact⟨by rw[<-hov];exact((aa hb).1 3).trans rfl,ae hb,x',z'⟩
   clear hmb hov;obtain⟨c0,c1,c2,c3⟩:=uT.o wr HI.o.2.2.2;have OX:Calls Tryz.prog 43 #[.pointer (some ⟨mb,0,none⟩)] wr fun e w'=>∃(v:Value) (ks:List Tm),qz (c i) ks/\e= .returned v/\w'.ownsRow wr.heap.size 45 3 v (jk ks).length (eO (jk ks))/\Below wr.heap.size wr w':=by
    obtain⟨tb,b,cb,v,hmu,_⟩:=HM.o i mb Ao.o;exact Ka wr (hmu.kp (Kp.of_below (S:=fun _=>False) HI.o.2.2.2) (fun h=>h) (fun h=>h) (fun h=>h) (fun h=>h) (fun _ _ h=>h)) (by have:=HKT.o i hlt;omega)
   go_wp2_with fail;refine OX.mono ?_;clear OX c0 c1 c2 c3;rintro e w5 ⟨tv,ks,hks,rfl,ht,hb5⟩;obtain⟨tq,tm,tc,rfl⟩:=Df.aB ht;obtain⟨ts,hts⟩:=aC (jk ks);rw[<-hts]at ht;have HNZ:Hid (Nz c i ts/\ts.length<=100000000):=⟨⟨ks,hks,hts⟩,nT (Nz.len ⟨ks,hks,hts⟩ (fun u hu=>HK.o i u hlt hu)) (HKT.o i hlt)⟩;obtain⟨rfl,-⟩:=Df.aZ ht _ _ _ rfl;obtain⟨tn,htn⟩:=aC (ts.length);have H5:Hid (wr.heap.size<=w5.heap.size/\w5.ownsRow w.heap.size 45 3 (.slice tq tn tc) tn (fl ET ts)/\tn=ts.length/\w5.ownsRow w.heap.size 49 5 (.slice p n q) (lI c X i).length (fl EC (lI c X i))/\Below w.heap.size w w5):=⟨hb5.size,by rw[htn];exact aL ht HI.o.2.2.2.size,htn,ag HI.o.2.1 hb5,HI.o.2.2.2.trans (hb5.mono HI.o.2.2.2.size)⟩;rw[<-htn];have htl:tn<=100000000:=(by rw[htn];exact HNZ.o.2);have HI0:Hid ((∀p,p<i->Nz c p (X p))/\(lI c X i).length<=i*100000000):=⟨HI.o.1,HI.o.2.2.1⟩;clear hks ht hb5 hts htn HI;go_wp2_with fail;go_loopw [3,21] (fun s3 s21 wx=>∃(j:Nat) (p:Option Addr) (n q:Nat),j<=tn/\s3= .slice p n q/\s21= .int .i64 (j:Nat)/\Hid (wx.ownsRow w.heap.size 45 3 (.slice tq tn tc) tn (fl ET ts)/\wx.ownsRow w.heap.size 49 5 (.slice p n q) ((lI c X i).length+j) (fl EC (lI c X i++(ts.take j).map fun u=>((i:Int),u,c i u)))/\Below w.heap.size w wx)) (fun _ s21 _=>tn-(intOf s21).toNat);case atStart=>exact⟨0,p,n,q,zL _,rfl,rfl,H5.o.2.1,by rw[List.take_zero,List.map_nil,FP];exact H5.o.2.2.2.1,H5.o.2.2.2.2⟩
   case round=>
    obtain⟨j,p,n,q,hj,rfl,rfl,HJ⟩:=hrel;by_cases hjl:j<tn
    ·have hjz:(j:Int)<(tn:Int):=(by omega);have hj1:(0:Int)<=(j:Int):=(by omega);obtain⟨u,hu⟩:∃u,ts[j]? =some u:=⟨ts[j]'(by have:=H5.o.2.2.1;omega),by simp⟩;have HU:=hid hu;obtain⟨b1,o1,q1,gN,rU,x0,x1,x2⟩:=Ls.at3 (show Ls ET wr (.slice tq tn tc) ts by
      have h:=HJ.o.1;rw[H5.o.2.2.1]at h⊢;exact aH (E:=ET) h) hu
     simp only[vS]at gN;obtain⟨rfl,-,-⟩:=gN;clear hu;obtain⟨b6,hb6⟩:=aC (wr.heap.size);obtain⟨W5,bU⟩:=aC (wr.alloc (.cells #[.int .u64 u.1.1, .int .u64 u.1.2.1, .int .u64 u.1.2.2] 45));have P5:Hid (W5.ownsRow w.heap.size 45 3 (.slice (some ⟨b1,o1,none⟩) tn tc) tn (fl ET ts)/\W5.ownsRow w.heap.size 49 5 (.slice p n q) ((lI c X i).length+j) (fl EC (lI c X i++(ts.take j).map fun u=>((i:Int),u,c i u)))/\Below w.heap.size w W5/\W5.heap[b6]? =some (.cells #[.int .u64 u.1.1, .int .u64 u.1.2.1, .int .u64 u.1.2.2] 45 (0,0))/\w.heap.size<=b6):=by
      have g5:=((Gr.refl wr).alloc (.cells #[.int .u64 u.1.1, .int .u64 u.1.2.1, .int .u64 u.1.2.2] 45)).below;rw[bU,hb6];exact⟨ag HJ.o.1 g5,ag HJ.o.2.1 g5,HJ.o.2.2.trans (g5.mono HJ.o.2.2.size),ah _ _,HJ.o.2.2.size⟩
     go_upto_region 8 with fail;rw[<-bU,<-hb6];clear bU hb6 x0 x1 x2 rU HJ;have gG:Hid (∀W:World,Kp (fun k=>w.heap.size<=k/\k≠b6) W5 W->(W.cell? ⟨rb,3,none⟩=some (.slice (some ⟨bo,oo,none⟩) N co)/\rb<W.heap.size/\W.cell? ⟨bo,oo+i,none⟩=some (.pointer (some ⟨mb,0,none⟩))/\bo<W.heap.size)/\W.heap[b6]? =some (.cells #[.int .u64 u.1.1, .int .u64 u.1.2.1, .int .u64 u.1.2.2] 45 (0,0))):=fun W hW=>by
      have hb:=P5.o.2.2.1.trans (hW.below P5.o.2.2.1.size fun k hk=>hk.1);exact⟨uT.o W hb,(hW.block b6 (ae P5.o.2.2.2.1) fun e=>e.2 rfl).trans P5.o.2.2.2.1⟩
     have Qy:Hid (∀W:World,Gr W5 W->Calls Tryz.prog 44 #[.pointer (some ⟨mb,0,none⟩), .agg #[.int .u64 u.1.1, .int .u64 u.1.2.1, .int .u64 u.1.2.2]] W fun e w'=>e= .returned (.int .i64 (c i u))/\Gr W w'):=fun W hW=>by
      obtain⟨tb,b,cb,v,hmu,_⟩:=HM.o i mb Ao.o;exact Go.Proofs.YtiiefcalkjeieaaGreat.dU u W (hmu.kp (Kp.of_below (S:=fun _=>False) (P5.o.2.2.1.trans (hW.below.mono P5.o.2.2.1.size))) (fun h=>h) (fun h=>h) (fun h=>h) (fun h=>h) (fun _ _ h=>h))
     obtain⟨cu,QJ⟩:=aC (c i u);have HCU:=hid QJ;rw[<-QJ]at Qy;clear QJ;obtain⟨AL,hAL⟩:=aC (lI c X i++(ts.take j).map fun u=>((i:Int),u,c i u));have QA:Hid (AL.length=(lI c X i).length+j/\AL++[((i:Int),u,cu)]=lI c X i++(ts.take (j+1)).map fun u=>((i:Int),u,c i u)):=by
      refine⟨?_, ?_⟩
      ·rw[hAL,dO,gK,lK];have:=H5.o.2.2.1;omega
      ·rw[Ob _ HU.o,<-aA,<-hAL,HCU.o]
     have HAB:Hid (AL.length<=20000000000):=by
      have h1:=QA.o.1;have h2:=HI0.o.2;have h3:i*100000000<=192*100000000:=nM _ (by omega);exact(show AL.length<=20000000000 by omega)
     have HRW:Hid (W5.ownsRow w.heap.size 49 5 (.slice p n q) AL.length (fl EC AL)):=by
      have h1:=P5.o.2.1;rw[<-hAL,<-QA.o.1]at h1;exact h1
     clear hAL;have KO:Kp (fun k=>w.heap.size<=k/\k≠b6) W5 W5.drew:=Kp.aX (Gr.refl W5).drew;refine ax (S:=fun W:World=>Kp (fun k=>w.heap.size<=k/\k≠b6) W5 W) (D:=[]) hmx ?_;refine' aj 0 KO ?_;refine' aj 1 KO ?_;refine' bu 2 KO ?h ?_;case h=>(intro W hSw;obtain⟨-,c4⟩:=gG.o W hSw;have y0:=(aa c4).1;have yz:=ae c4;go_simp;try(with_reducible rfl))
     refine' aj 3 KO ?_;refine' aj 4 KO ?_;refine' bu 5 KO ?h ?_;case h=>(intro W hSw;obtain⟨⟨c0,c1,c2,c3⟩,-⟩:=gG.o W hSw;go_simp;try(with_reducible rfl))
     refine' bu 6 KO ?h ?_;case h=>(intro W hSw;obtain⟨⟨c0,c1,c2,c3⟩,-⟩:=gG.o W hSw;go_simp;try(with_reducible rfl))
     refine' bu 7 KO ?h ?_;case h=>(intro W hSw;obtain⟨⟨c0,c1,c2,c3⟩,-⟩:=gG.o W hSw;go_simp;try(with_reducible rfl))
     refine' aj 8 KO ?_;refine' bu 9 KO ?h ?_;case h=>(intro W hSw;obtain⟨⟨c0,c1,c2,c3⟩,-⟩:=gG.o W hSw;go_simp;try(with_reducible rfl))
     refine' bu 10 KO ?h ?_;case h=>(intro W hSw;obtain⟨⟨c0,c1,c2,c3⟩,-⟩:=gG.o W hSw;go_simp;try(with_reducible rfl))
     refine' bu 11 KO ?h ?_;case h=>(intro W hSw;obtain⟨-,c4⟩:=gG.o W hSw;have y0:=(aa c4).1;have yz:=ae c4;go_simp;try(with_reducible rfl))
     refine bF 12 fun K hK=> ?_;go_simp;refine(Qy.o _ (Gr.refl W5).drew).mono ?_;rintro e w7 ⟨rfl,g7⟩;have B7:Below W5.heap.size W5 w7:=(Gr.refl W5).drew.below.trans (g7.below.mono (Gr.refl W5).drew.below.size);have Ae:Kp (fun k=>w.heap.size<=k/\k≠b6) W5 w7:=Kp.of_below B7;clear g7;go_wp2_with fail;refine hK.o _ _ (fun hD=>Ae) ?_;clear hK K;try simp only[Act.put,qI,q0,qS]
     refine' aj 13 Ae ?_;refine bF 14 fun K hK=> ?_;go_simp;have B8:Below W5.heap.size W5 (w7.alloc (.cells #[.int .i64 (i:Int), .int .u64 u.1.1, .int .u64 u.1.2.1, .int .u64 u.1.2.2, .int .i64 cu] 49)):=B7.trans (((Gr.refl w7).alloc _).below.mono B7.size);have hK8:Kp (fun k=>w.heap.size<=k/\k≠b6) W5 (w7.alloc (.cells #[.int .i64 (i:Int), .int .u64 u.1.1, .int .u64 u.1.2.1, .int .u64 u.1.2.2, .int .i64 cu] 49)):=Kp.of_below B8;refine hK.o _ _ (fun hD=>hK8) ?_;clear hK K;try simp only[Act.put,qI,q0,qS]
     refine bF 15 fun K hK=> ?_;refine bQ EC Tryz.underlying26 Rs.pR rfl (by decide) rfl _ _ rfl w.heap.size (.slice p n q) AL.length (fl EC AL) rfl (ag HRW.o B7) ((i:Int),u,cu) (by first|rfl|simp) (by have:=HAB.o;omega) (by have:=HAB.o;unfold maxLen;omega) (nT P5.o.2.2.1.size B7.size) #[.int .i64 (i:Int), .int .u64 u.1.1, .int .u64 u.1.2.1, .int .u64 u.1.2.2, .int .i64 cu] rfl _ ?_;intro g8 bB w8 h8 k8 n8;have U4:Kp (fun k=>w.heap.size<=k/\k≠b6) W5 w8:=Ae.trans (Kp.grownBy (S:=fun k=>w.heap.size<=k/\k≠b6) k8.o fun k hk=>⟨(HRW.o.lt k hk).1,fun e=>Df.aF HRW.o P5.o.2.2.2.1 (by decide) k hk e⟩) fun k _ e=>e;have ST:Hid (w8.ownsRow w.heap.size 45 3 (.slice (some ⟨b1,o1,none⟩) tn tc) tn (fl ET ts)/\w8.ownsRow w.heap.size 49 5 (.slice (some ⟨g8,0,none⟩) (AL.length+1) bB) (AL.length+1) (fl EC AL++EC.enc ((i:Int),u,cu))/\Below w.heap.size w w8):=⟨av (Kp.grownBy (S:=fun k=>(Value.slice p n q).ownBlock=some k) k8.o fun _ h=>h) (ag P5.o.1 B7) fun k e e2=>Df.aD (ag P5.o.1 B7) (ag HRW.o B7) (by decide) k e e2,h8.o,P5.o.2.2.1.trans (U4.below P5.o.2.2.1.size fun k hk=>hk.1)⟩;clear h8 k8 n8;generalize hll:AL.length+1=ll at ST⊢;have uS:=hid hll;clear hll;refine hK.o _ _ (fun hD=>U4) ?_;clear hK K;try simp only[Act.put,qI,q0,qS]
     refine' aj 16 U4 ?_;refine au (by kernel_rfl) ?_ _;have FIN:Hid (w8.ownsRow w.heap.size 45 3 (.slice (some ⟨b1,o1,none⟩) tn tc) tn (fl ET ts)/\w8.ownsRow w.heap.size 49 5 (.slice (some ⟨g8,0,none⟩) ll bB) ((lI c X i).length+(j+1)) (fl EC (lI c X i++(ts.take (j+1)).map fun u=>((i:Int),u,c i u)))/\Below w.heap.size w w8):=by
      refine⟨ST.o.1, ?_,ST.o.2.2⟩;have h:=ST.o.2.1;refine aS h ?_ ?_
      ·have h1:=uS.o;have h2:=QA.o.1;omega
      ·rw[<-QA.o.2,aQ,dK]
     clear ST KO Ae hK8 U4 B7 B8 gG Qy QA HAB HRW P5 HCU HU;go_wp2_with fail;go_roundw;case rel=>exact⟨j+1,some ⟨g8,0,none⟩,ll,bB,by omega,rfl,by go_num,FIN.o⟩
     case measure=>simp[intOf];omega
    ·have hjz:¬(j:Int)<(tn:Int):=(by omega);have HN2:Hid (∃X',(∀p,p<i+1->Nz c p (X' p))/\wr.ownsRow w.heap.size 49 5 (.slice p n q) (lI c X' (i+1)).length (fl EC (lI c X' (i+1)))/\(lI c X' (i+1)).length<=(i+1)*100000000/\Below w.heap.size w wr):=by
      have hjt:j=ts.length:=(by have:=H5.o.2.2.1;omega);have e1:lI c (bG X i ts) (i+1)=lI c X i++ts.map fun u=>((i:Int),u,c i u):=by
       rw[xR,bK,sW fun p hp=>bI X ts (show p≠i by omega)]
      have h2:=HJ.o.2.1;rw[tL (by omega)]at h2;refine⟨bG X i ts,fun p hp=> ?_, ?_, ?_,HJ.o.2.2⟩
      ·by_cases e:p=i
       ·subst e;rw[bK];exact HNZ.o.1
       ·rw[bI X ts e];exact HI0.o.1 p (by omega)
      ·rw[e1];exact aS h2 (by rw[dO,gK];omega) rfl
      ·rw[e1,dO,gK,Nat.succ_mul];have h3:=HI0.o.2;have h4:=HNZ.o.2;omega
     clear HJ H5 HNZ HI0;go_wp2_with fail;go_roundw;case rel=>
      obtain⟨X',k1,k2,k3,k4⟩:=HN2.o;exact⟨i+1,p,n,q,X',by omega,rfl,by go_num,k1,k2,k3,k4⟩
     case measure=>simp[intOf];omega
  ·have hltz:¬(i:Int)<(N:Int):=(by omega);obtain rfl:i=N:=(by omega);go_wp2_with fail;go_ret;exact⟨p,n,q,rfl,X,HI.o.1,HI.o.2.1,HI.o.2.2.2⟩
theorem wX(p:Int)(u:ai)(w:World)(h:Rw w t rb ar sv rv ov cv uv N L rs os ms U)(hM:∀p mb,ms[p]? =some mb->∃n,Ml w t (3+p) mb n (C p) (F p))(hF:∀p,p<N->(F p).length*24<=140737488355328):
    Calls Tryz.prog 16 #[.pointer (some ⟨rb,0,none⟩), .int .i64 p, .agg #[.int .u64 u.1.1, .int .u64 u.1.2.1, .int .u64 u.1.2.2]] w fun e w'=>e= .returned (.bool (bE ay (KQ ms F p) u))/\Below w.heap.size w w':=by
 have hmx:Tryz.prog.follows .mixedOrders=true:=by kernel_rfl
 obtain⟨W1,hW1⟩:=aC (w.alloc (.cells #[.int .u64 u.1.1, .int .u64 u.1.2.1, .int .u64 u.1.2.2] 45));obtain⟨b3,hb3⟩:=aC (w.heap.size);have H1:Hid (Below w.heap.size w W1/\W1.heap[b3]? =some (.cells #[.int .u64 u.1.1, .int .u64 u.1.2.1, .int .u64 u.1.2.2] 45 (0,0))):=by
  rw[hW1,hb3];exact⟨((Gr.refl w).alloc _).below,ah _ _⟩
 have Zp:Hid (∀W,Below w.heap.size w W->Calls Tryz.prog 40 #[.pointer (some ⟨rb,0,none⟩), .int .i64 p] W fun e w'=>e= .returned (.bool (decide (0<=p)&&decide (p<(N:Int))))/\w'=W):=fun W hb=>by
  have h1:=vD p W ((hb.block rb (ae h.blk)).trans h.blk) (h.ow.1.below hb);rw[h.ol]at h1;exact h1
 have HB:Hid (∀W,Below W1.heap.size W1 W->Below w.heap.size w W):=fun W hb=>H1.o.1.trans (hb.mono H1.o.1.size);by_cases hp:0<=p/\p<(N:Int)
 ·have e2:(decide (0<=p)&&decide (p<(N:Int)))=true:=by simp[hp.1,hp.2]
  rw[e2]at Zp;obtain⟨q,rfl⟩:∃q:Nat,p=q:=⟨p.toNat,by omega⟩;have hq:q<N:=by omega
  have e1:KQ ms F (q:Int)=F q:=by
   unfold KQ;rw[if_pos (by have:=h.ml;omega),tN]
  rw[e1];obtain⟨mb,hmb⟩:∃mb,ms[q]? =some mb:=⟨ms[q]'(by have:=h.ml;omega),by rw[pW]⟩;obtain⟨bi,oi,ci,hcv,-,-⟩:=sM h.cm.1 hmb;rw[h.ml]at hcv;have uT:Hid (∀W:World,Below W1.heap.size W1 W->(W.cell? ⟨rb,4,none⟩=some (.slice (some ⟨bi,oi,none⟩) N ci)/\rb<W.heap.size/\W.cell? ⟨bi,oi+q,none⟩=some (.pointer (some ⟨mb,0,none⟩))/\bi<W.heap.size)/\W.heap[b3]? =some (.cells #[.int .u64 u.1.1, .int .u64 u.1.2.1, .int .u64 u.1.2.2] 45 (0,0))):=fun W hb=>by
   have hW:=HB.o W hb;have hbk:=(hW.block rb (ae h.blk)).trans h.blk;obtain⟨b',o',c',e',z',x'⟩:=sM (h.cm.1.below hW) hmb;rw[hcv]at e';simp only[vS,oI,aI,and_true]at e';obtain⟨⟨rfl,rfl⟩,-,-⟩:=e';exact⟨⟨by rw[<-hcv];exact((aa hbk).1 4).trans rfl,ae hbk,x',z'⟩,(hb.block b3 (ae H1.o.2)).trans H1.o.2⟩
  have HOP:Hid (∀W:World,Below W1.heap.size W1 W->Calls Tryz.prog 47 #[.pointer (some ⟨mb,0,none⟩), .agg #[.int .u64 u.1.1, .int .u64 u.1.2.1, .int .u64 u.1.2.2]] W fun e w'=>e= .returned (.bool (bE ay (F q) u))/\Gr W w'):=fun W hb=>by
   obtain⟨n,tb,b,cb,v,hmu,_⟩:=hM q mb hmb;exact Go.Proofs.YtiiefcalkjeieaaGreat.wX u W (hmu.kp (Kp.of_below (S:=fun _=>False) (HB.o W hb)) (fun h=>h) (fun h=>h) (fun h=>h) (fun h=>h) (fun _ _ h=>h)) (hF q hq)
  have hqz:(0:Int)<=(q:Int):=by omega
  have hqN:(q:Int)<(N:Int):=by omega
  clear h hM hF hp hcv hmb e1 e2;generalize bE ay (F q) u=bo at HOP⊢;go_enter Tryz.func16,Tryz.ntmps16;go_upto_region 1 with fail;rw[<-hW1,<-hb3];clear hW1 hb3;have hS0:(fun W:World=>Below W1.heap.size W1 W) W1.drew:=(Gr.refl W1).drew.below;refine ax (S:=fun W:World=>Below W1.heap.size W1 W) (D:=[]) hmx ?_;refine' aj 0 hS0 ?_;refine' aj 1 hS0 ?_;refine bF 2 fun K hK=> ?_;go_simp;refine(Zp.o _ (HB.o _ hS0)).mono ?_;rintro e w7 ⟨rfl,hw7⟩;subst hw7;go_wp2_with fail;refine hK.o _ _ (fun hD=>hS0) ?_;clear hK K;try simp only[Act.put,qI,q0,qS]
  refine' aj 3 hS0 ?_;refine' aj 4 hS0 ?_;refine' bu 5 hS0 ?h ?_;case h=>(intro W hSw;obtain⟨⟨c0,c1,c2,c3⟩,-⟩:=uT.o W hSw;go_simp;try(with_reducible rfl))
  refine' bu 6 hS0 ?h ?_;case h=>(intro W hSw;obtain⟨⟨c0,c1,c2,c3⟩,-⟩:=uT.o W hSw;go_simp;try(with_reducible rfl))
  refine' bu 7 hS0 ?h ?_;case h=>(intro W hSw;obtain⟨⟨c0,c1,c2,c3⟩,-⟩:=uT.o W hSw;go_simp;try(with_reducible rfl))
  refine' aj 8 hS0 ?_;refine' bu 9 hS0 ?h ?_;case h=>(intro W hSw;obtain⟨⟨c0,c1,c2,c3⟩,-⟩:=uT.o W hSw;go_simp;try(with_reducible rfl))
  refine' bu 10 hS0 ?h ?_;case h=>(intro W hSw;obtain⟨⟨c0,c1,c2,c3⟩,-⟩:=uT.o W hSw;go_simp;try(with_reducible rfl))
  refine' bu 11 hS0 ?h ?_;case h=>(intro W hSw;obtain⟨-,c4⟩:=uT.o W hSw;have y0:=(aa c4).1;have yz:=ae c4;go_simp;try(with_reducible rfl))
  refine bF 12 fun K hK=> ?_;rw[if_pos (by kernel_rfl)];go_simp;refine(HOP.o _ hS0).mono ?_;rintro e w7 ⟨rfl,g7⟩;have aY:Below W1.heap.size W1 w7:=hS0.trans (g7.below.mono hS0.size);clear g7;go_wp2_with fail;refine hK.o _ _ (fun hD=>aY) ?_;clear hK K;try simp only[Act.put,qI,q0,qS]
  refine' aj 13 aY ?_;refine' aj 14 aY ?_;refine au (by kernel_rfl) ?_ _;go_wp2_with fail;go_ret;exact⟨rfl,HB.o _ aY⟩
 ·have e2:(decide (0<=p)&&decide (p<(N:Int)))=false:=by
    by_cases k:0<=p
    ·have k2:¬p<(N:Int):=fun h=>hp ⟨k,h⟩;simp[k2]
    ·simp[k]
  rw[e2]at Zp;have e1:KQ ms F p=[]:=by
   unfold KQ;rw[if_neg (by have:=h.ml;omega)]
  rw[e1];have e3:bE ay ([]:List ai) u=false:=rfl;rw[e3];clear h hM hF hp e1 e2 e3;go_enter Tryz.func16,Tryz.ntmps16;go_upto_region 1 with fail;rw[<-hW1,<-hb3];clear hW1 hb3;have hS0:(fun W:World=>Below W1.heap.size W1 W) W1.drew:=(Gr.refl W1).drew.below;refine ax (S:=fun W:World=>Below W1.heap.size W1 W) (D:=[]) hmx ?_;refine' aj 0 hS0 ?_;refine' aj 1 hS0 ?_;refine bF 2 fun K hK=> ?_;go_simp;refine(Zp.o _ (HB.o _ hS0)).mono ?_;rintro e w7 ⟨rfl,hw7⟩;subst hw7;go_wp2_with fail;refine hK.o _ _ (fun hD=>hS0) ?_;clear hK K;try simp only[Act.put,qI,q0,qS]
  refine' aj 3 hS0 ?_;refine' eP 4 hS0 ?_;refine' eP 5 hS0 ?_;refine' eP 6 hS0 ?_;refine' eP 7 hS0 ?_;refine' eP 8 hS0 ?_;refine' eP 9 hS0 ?_;refine' eP 10 hS0 ?_;refine' eP 11 hS0 ?_;refine bF 12 fun K hK=> ?_;rw[if_neg (Bool.eq_false_iff.1 (by kernel_rfl))];refine hK.o _ _ (fun hD=>hS0) ?_;clear hK K;try simp only[Act.put,qI,q0,qS]
  refine' aj 13 hS0 ?_;refine' aj 14 hS0 ?_;refine au (by kernel_rfl) ?_ _;go_wp2_with fail;go_ret;exact⟨rfl,HB.o _ hS0⟩
end
end Go.Proofs.YtiiefcalkjeieaaGreat.Rc
