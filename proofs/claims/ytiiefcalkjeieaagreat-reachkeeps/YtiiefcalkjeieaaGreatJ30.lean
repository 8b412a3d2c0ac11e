import Derived.Test.YtiiefcalkjeieaaGreatRcAdd
variable{N k rb j:Nat}{t:Nat->Nat}{ar:Int}{sv rv ov cv uv:Go.Value}{os:List Nat}
set_option maxHeartbeats 8000000
set_option maxRecDepth 100000
namespace Go.Proofs.YtiiefcalkjeieaaGreat
namespace Rc
open Go.RowKit Go.Sort Go.Maps Pt Hc
open Tt (dW dK)
attribute[local go_sem ↓]wp_at_zero wp_at_succ
def ky(x:Th):Rs.Sm:=sk x.1.toNat x.2.1
theorem Z7{x:Th}(hN:N<=192)(h:Vp N x):(ky x).1=(x.1,x.2.1.1):=by
 obtain⟨p,hp,hl⟩:=h;unfold ky;rw[hp,tN,kE (by omega)]
def qR(l:List Th):Rs.Sm->Int:=l.foldl (fun g x=>upd g (ky x) (wrap64 (g (ky x)+x.2.2))) (fun _=>0)
theorem Nf{l:List Th}{x:Th}(h:l[k]? =some x):qR (l.take (k+1))=upd (qR (l.take k)) (ky x) (wrap64 (qR (l.take k) (ky x)+x.2.2)):=by
 unfold qR;rw[tO,h,List.foldl_append];rfl
theorem Ng(l:List Th)(x:Th):qR (l++[x])=upd (qR l) (ky x) (wrap64 (qR l (ky x)+x.2.2)):=by
 unfold qR;rw[List.foldl_append];rfl
theorem Nh(hN:N<=192){l:List Th}(hl:∀x∈l,Vp N x){p:Nat}(hp:p<N)(t:ai):qR l (sk p t)=Go.Proofs.YtiiefcalkjeieaaGreat.sm (prt l p) t:=by
 induction h:l.length generalizing l with
 | zero=>
  have:l=[]:=List.length_eq_zero_iff.1 h;subst this;rfl
 | succ n ih=>
  obtain⟨m,x,rfl⟩:∃m c,l=m++[c]:=by
   have hne:l≠[]:=fun e=>(by rw[e]at h;cases h);exact⟨l.dropLast,l.getLast hne,(List.dropLast_concat_getLast hne).symm⟩
  have hm:∀x∈m,Vp N x:=fun y hy=>hl y (List.mem_append_left _ hy);have ih':=ih hm (by rw[dQ]at h;simpa using h);obtain⟨q,hq,Y5⟩:=hl x (List.mem_append_right _ (List.mem_singleton_self _));rw[Ng,DR m x q p hq];have hk:ky x=sk q x.2.1:=by unfold ky;rw[hq,tN]
  rw[hk];by_cases e:p=q
  ·subst e;rw[if_pos rfl];have e2:Go.Proofs.YtiiefcalkjeieaaGreat.sm (prt m p++[(x.2.1,x.2.2)])=upd (Go.Proofs.YtiiefcalkjeieaaGreat.sm (prt m p)) x.2.1 (wrap64 (Go.Proofs.YtiiefcalkjeieaaGreat.sm (prt m p) x.2.1+x.2.2)):=by
    unfold Go.Proofs.YtiiefcalkjeieaaGreat.sm;rw[List.foldl_append];rfl
   rw[e2];by_cases et:t=x.2.1
   ·subst et;rw[upd_same,upd_same,ih']
   ·have hne:sk p t≠sk p x.2.1:=fun k=>et (((lq (p:=p) (by omega)).1 k).2.symm.trans (by
      exact((lq (p:=p) (t:=t) (by omega)).1 rfl).2)|>.symm)
    rw[cK _ _ hne,cK _ _ et,ih']
  ·rw[if_neg e];have hne:sk p t≠sk q x.2.1:=fun k=>by
    have h1:=((lq (p:=q) (by omega)).1 k).1;rw[kE (by omega)]at h1;simp only at h1;omega
   rw[cK _ _ hne,ih']
def CY(c:Nat->ai->Int)(l:List Th):Bool:=l.all (fun x=> !dW x.2.2)&&l.all fun x=> !dW (bS (c x.1.toNat) (prt l x.1.toNat) x.2.1)
theorem Jr{c:Nat->ai->Int}{l:List Th}(hl:∀x∈l,Vp N x):CY c l=true↔∀p,p<N->bad (c p) (prt l p)=false:=by
 unfold CY;rw[bA,List.all_eq_true,List.all_eq_true];constructor
 ·rintro⟨h1,h2⟩ p hp;unfold bad;rw[Bool.or_eq_false_iff,List.any_eq_false,List.any_eq_false];refine⟨fun d hd=> ?_,fun d hd=> ?_⟩
  ·have:=h1 _ (vE.1 hd);simpa using this
  ·have:=h2 _ (vE.1 hd);simp only[tN]at this;simpa using this
 ·intro h;refine⟨fun x hx=> ?_,fun x hx=> ?_⟩
  ·obtain⟨p,hp,hpl⟩:=hl x hx;have h1:=h p hpl;unfold bad at h1;rw[Bool.or_eq_false_iff,List.any_eq_false]at h1;have hm:(x.2.1,x.2.2)∈prt l p:=vE.2 (by rw[<-hp];exact hx);have:=h1.1 _ hm;simpa using this
  ·obtain⟨p,hp,hpl⟩:=hl x hx;have h1:=h p hpl;unfold bad at h1;rw[Bool.or_eq_false_iff,List.any_eq_false,List.any_eq_false]at h1;have hm:(x.2.1,x.2.2)∈prt l p:=vE.2 (by rw[<-hp];exact hx);have:=h1.2 _ hm;rw[hp,tN];simpa using this
theorem Ym(n:Int):Rs.Tt.dW n=dW n:=rfl
theorem uE(n:Int)(w:World):CL 135 #[iV n] w fun e w'=>e= .returned (.bool (dW n))/\w'=w:=by
 rw[<-Ym];exact gI n w
theorem WB{key:Value}{kl:Lit}(h:keyOf Tryz.prog 47 key=some kl):∃x,key=Rs.mv x:=by
 obtain⟨x,hx,_⟩:=Rs.ZM.inv _ _ h;exact⟨x,hx⟩
theorem Ec{c:Nat->ai->Int}(l:List Th)(v:Value)(w:World)(hN:N<=192)(hol:os.length=N)(hR:w.heap[rb]? =some (.cells #[iV ar,sv,rv,ov,cv,uv] 102 (0,0)))(ho:Ls EA w ov os)(hM:∀q mb,os[q]? =some mb->∃tb b cb n v fr,Mu w mb tb b cb n v (c q) fr)(hv:Ls EC w v l)(hl:l.length<=100000000000)(hp:∀x∈l,Vp N x):
    CL 76 #[aB rb,v] w fun e w'=>e= .returned (.bool (CY c l))/\Bw w w':=by
 have hmx:Tryz.prog.follows .mixedOrders=true:=by kernel_rfl
 have hmm:=@run_makeMap Tryz.prog;obtain⟨pl,cl,rfl⟩:=hv.form;obtain⟨W1,hW1⟩:=aF (w.alloc (.map #[] 0));have G1:Gr w W1:=by rw[hW1];exact(Gr.refl _).alloc _
 obtain⟨mb,hmb⟩:=aF (w.heap.size);have QB:Hid (Mq Rs.ZM 2 W1 mb 0 (fun _=>0) []):=by
  have:=Mq.made (Z:=Rs.ZM) (e:=2) w;rw[hW1,hmb];simpa[Hid]using this
 have HL:Hid (Ls EC W1 (.slice pl l.length cl) l):=hv.below G1.below;have HLB:Hid (∀k,(Value.slice pl l.length cl).ownBlock=some k->k<w.heap.size):=hv.blk;have HC:Hid (∀(p:Int) (t:ai) (W:World),Bw w W->CL 36 #[aB rb, .agg #[iV p,uV t.1.1,uV t.1.2.1,uV t.1.2.2]] W fun e w'=>e= .returned (iV (CZ os c p t))/\Gr W w'):=fun p t W hb=>by
  refine dV p t W ((hb.block rb (ae hR)).trans hR) (ho.below hb) fun q m hq=> ?_;obtain⟨tb,b,cb,n,v,fr,h⟩:=hM q m hq;exact⟨tb,b,cb,n,v,fr,h.below hb⟩
 have HG:Hid (Gr w W1):=G1;have Aw:=hid hmb;have HP:=hid hp;have HOL:=hid hol;clear hv G1 hR ho hM hp hol;go_enter Tryz.func76,Tryz.ntmps76;go_wp2_with fail;rw[<-hW1,<-hmb];clear hW1 hmb;go_loopw [7,13] (fun _ s13 wr=>∃k:Nat,k<=l.length/\s13=iV k/\Hid (Mq Rs.ZM 2 wr mb k (qR (l.take k)) ((l.take k).map ky)/\Kp (fun j=>j=mb) W1 wr/\∀x∈l.take k,dW x.2.2=false)) (fun _ s13 _=>l.length-(intOf s13).toNat);case atStart=>exact⟨0,zL _,rfl,by simpa[qR]using QB.o,Kp.refl _ _,by simp⟩
 case round=>
  obtain⟨k,hk,rfl,HI⟩:=hrel;have jK:Hid (Bw w wr):=HG.o.below.trans (HI.o.2.1.below HG.o.size (fun j hj=>by rw[hj,Aw.o];exact nR _));by_cases hlt:k<l.length
  ·have hltz:(k:Int)<(l.length:Int):=(by omega);obtain⟨x,hx⟩:∃x,l[k]? =some x:=⟨l[k],by simp⟩;have hxm:x∈l:=lM hx;obtain⟨b1,o1,c1,e1,z1,x0,x1,x2,x3,x4⟩:=D6 (HI.o.2.1.ls HL.o (fun j hj hs=>by have:=HLB.o j hj;have:=Aw.o;omega)) hx;simp only[vS]at e1;obtain⟨rfl,-,rfl⟩:=e1;have HS:Hid (qR (l.take (k+1))=upd (qR (l.take k)) (ky x) (wrap64 (qR (l.take k) (ky x)+x.2.2))):=Nf hx;have si:Hid (l.take (k+1)=l.take k++[x]):=(by rw[tO,hx];rfl);have hbe:=uE x.2.2;have HD:Hid (l[k]? =some x):=hx;have HDM:Hid (x∈l):=hxm;have HKY:Hid ((ky x).1=(x.1,x.2.1.1)):=Z7 hN (HP.o x hxm);clear hx hxm;cases hq:dW x.2.2 with
   | true=>
    rw[hq]at hbe;go_wp2_with (go_at_call 135;refine(hbe _).mono ?_;rintro e w2 ⟨rfl,rfl⟩);go_ret;refine⟨?_,jK.o.trans (((Gr.refl _).alloc _).below.mono jK.o.size)⟩;have:CY c l=false:=by
     unfold CY;rw[Bool.and_eq_false_iff];refine Or.inl (List.all_eq_false.2 ⟨x,HDM.o,by simp[hq]⟩)
    rw[this];rfl
   | false=>
    rw[hq]at hbe;obtain⟨W2,hW2⟩:=aF (wr.alloc (.cells #[iV x.1,uV x.2.1.1.1,uV x.2.1.1.2.1,uV x.2.1.1.2.2,iV x.2.2] 49));obtain⟨nb,hnb⟩:=aF (wr.heap.size);have G2:Gr wr W2:=(by rw[hW2];exact(Gr.refl _).alloc _);have Xe:mb<wr.heap.size:=HI.o.1.lt;have hM2:Mq Rs.ZM 2 W2.drew mb k (qR (l.take k)) ((l.take k).map ky):=HI.o.1.kept (G2.drew.below.block mb Xe);obtain⟨v0,st,w1,w2,hL0,hE,hL1,hSt,hM3,hg1,hg2⟩:=hM2.bump (t:=235) Rs.OA Tryz.underlying235 Tryz.underlying2 Rs.Tt.zeroE (by unfold maxLen;omega) (ky x) (wrap64 (qR (l.take k) (ky x)+x.2.2)) (wf_wrap _);have HW2:Hid (Mq Rs.ZM 2 w2 mb (k+1) (qR (l.take (k+1))) ((l.take (k+1)).map ky)/\Kp (fun j=>j=mb) W1 w2/\∀d∈l.take (k+1),dW d.2.2=false):=by
     refine⟨?_,HI.o.2.1.trans ((Kp.bg (S:=fun j=>j=mb) G2.drew).tr (Kp.grownBy (S:=fun j=>j=mb) hg2 (fun j hj=>by simpa using hj.symm))) (fun _ _ h=>h), ?_⟩
     ·rw[HS.o,si.o];simpa using hM3
     ·rw[si.o];intro e he;rcases kr.1 he with he|he
      ·exact HI.o.2.2 e he
      ·simp at he;subst he;exact hq
    have hblk:W2.heap[nb]? =some (.cells #[iV x.1,uV x.2.1.1.1,uV x.2.1.1.2.1,uV x.2.1.1.2.2,iV x.2.2] 49 (0,0)):=(by rw[hW2,hnb];exact ah _ _);have hnl:nb<W2.drew.heap.size:=(aG.1 hblk).1;have y0:∀q,w1.cell? ⟨nb,q,none⟩=W2.drew.cell? ⟨nb,q,none⟩:=fun q=>zh (a:=⟨nb,q,none⟩) (hg1.block nb hnl (by simp;omega));have q0:W2.cell? ⟨nb,0,none⟩=some (iV x.1):=(by simp only[World.cell?];rw[hblk];rfl);have q1:W2.cell? ⟨nb,1,none⟩=some (uV x.2.1.1.1):=(by simp only[World.cell?];rw[hblk];rfl);have q2:W2.cell? ⟨nb,2,none⟩=some (uV x.2.1.1.2.1):=(by simp only[World.cell?];rw[hblk];rfl);have q3:W2.cell? ⟨nb,3,none⟩=some (uV x.2.1.1.2.2):=(by simp only[World.cell?];rw[hblk];rfl);have q4:W2.cell? ⟨nb,4,none⟩=some (iV x.2.2):=(by simp only[World.cell?];rw[hblk];rfl);have r0:=(y0 0).trans q0;have r1:=(y0 1).trans q1;have r2:=(y0 2).trans q2;have r3:=(y0 3).trans q3;have r4:=(y0 4).trans q4;have eK:Rs.ZM.enc (ky x)= .agg #[iV x.1,uV x.2.1.1.1,uV x.2.1.1.2.1,uV x.2.1.1.2.2]:=by
     show Rs.mv (ky x)=_;unfold Rs.mv;rw[HKY.o]
    rw[eK]at hL0 hL1 hE;have hE:(Instr.mapEntry 235 (.map (some mb)) (.agg #[iV x.1,uV x.2.1.1.1,uV x.2.1.1.2.1,uV x.2.1.1.2.2])).run Tryz.prog W2.drew= .ok (.tuple #[v0,iV st]) w1:=hE;have hSt:(Instr.entryStore 235 (.map (some mb)) (iV st) (iV (wrap64 (qR (l.take k) (ky x)+x.2.2)))).run Tryz.prog w1= .ok () w2:=hSt;clear eK;generalize qR (l.take k) (ky x)=cx at hL0 hL1 hSt;go_wp2_with (go_at_call 135;refine(hbe _).mono ?_;rintro e w2 ⟨rfl,rfl⟩);rw[<-hW2,<-hnb];clear hW2 hnb x0 x1 x2 x3 x4 hblk y0 hM2 hM3 hg1 hg2 G2;go_region;all_goals go_wp2
    all_goals exact⟨⟨k+1,by omega,by go_num,HW2.o⟩,by simp[intOf];omega⟩
  ·have hltz:¬(k:Int)<(l.length:Int):=(by omega);have hk':k=l.length:=(by omega);subst hk';have hD:=HI.o.1;have vQ:Hid (∀x∈l,dW x.2.2=false):=(by have:=HI.o.2.2;rw[tK]at this;exact this);rw[tK]at hD;obtain⟨D,hown,h1,h2⟩:=hD;have h1':Hid (∀s,D.atKey (Rs.ZM.lit s) (nd 0)=nd (qR l s)):=h1;have H2:Hid (∀s,Maps.has D (Rs.ZM.lit s)=true↔s∈l.map ky):=h2;have hbl:mb<wr.heap.size:=hown.lt;clear HI h1 h2 hltz hlt hk QB HL HLB HG;obtain⟨wL,hwL⟩:∃x,x=wr:=⟨wr,rfl⟩;subst hwL;go_wp2_with (first
    | (at_range;refine wpList_range_own _ rfl _ 235 rfl 47 2 Rs.ZM.law Tryz.underlying235 _ mb l.length _ rfl hown ?_;intro w0 hrg0 hg0 hs0)
    | go_in)
   go_frame;go_loopw [8,9] (fun _ _ wr=>∃(left:Lit->Bool) (cnt:Nat) (ss:List Rs.Sm),wr.ranges Tryz.prog 47 (plainElem Tryz.prog 2) mb wL.heap.size l.length D left cnt/\oD Rs.ZM D left ss/\Bw wL wr/\Hid (∀s∈ss,dW (wrap64 (qR l s+CZ os c s.1.1 (j3 s)))=false))
    (fun _ _ wr=>wr.rangeLeft mb wL.heap.size)
   case atStart=>
    exact⟨_,_,[],hrg0,oD.start D,(Below.refl _ _).grown hg0 (nR _) (fun j hj=>by cases hj),by simp[Hid]⟩
   case round=>
    obtain⟨left,cnt,ss,hrg,hC,hnx,HB⟩:=hrel;have iP:Hid (ss.Nodup->(∀s,s∈ss↔s∈l.map ky)->CY c l=true):=fun _ hA=>by
     unfold CY;rw[bA,List.all_eq_true,List.all_eq_true];refine⟨fun x hx=>by rw[vQ.o x hx];rfl,fun x hx=> ?_⟩;have h1:=HB.o (ky x) ((hA (ky x)).2 (List.mem_map_of_mem hx));obtain⟨p,hp,hpl⟩:=HP.o x hx;have hk:ky x=sk p x.2.1:=(by unfold ky;rw[hp,tN]);have ht:j3 (sk p x.2.1)=x.2.1:=((lq (p:=p) (t:=x.2.1) (by omega)).1 rfl).2;have ha:(sk p x.2.1).1.1=(p:Int):=(by rw[kE (by omega)]);have hcn:CZ os c (p:Int) x.2.1=c p x.2.1:=by
      unfold CZ;rw[if_pos (by have:=HOL.o;omega),tN]
     rw[hk,ht,ha,hcn,Nh hN HP.o hpl]at h1;rw[hp,tN];show(!dW (bS (c p) (prt l p) x.2.1))=true;unfold bS;rw[h1];rfl
    go_wp2_with (first
     | (at_next; refine wpList_next_ranges _ rfl _ rfl 47 Rs.ZM.law (plainElem Tryz.prog 2) Rs.mv (Value.int .i64) (fun key kl hk => WB hk) (fun v y hv=>by obtain⟨c,rfl,_⟩:=plainElem_int_inv Tryz.underlying2 hv;exact⟨c,rfl⟩) mb wL.heap.size l.length _ _ _ rfl hrg ?_ ?_)
     | go_in)
    ·intro hc0 hl0;have hA:=hC.all H2.o hl0;go_wp2;go_ret;refine⟨?_,jK.o.trans (hnx.mono jK.o.size)⟩;rw[iP.o hA.1 hA.2];rfl
    ·intro s0 s1 s2 s3 sp cz kl yd yp w2 cnt2 hkey hlk hv hat hrg2 hlt2 hg2 hs2 hen;obtain⟨x,hx⟩:∃x:Rs.Sm,x=⟨(s0,s1,s2,s3),sp⟩:=⟨_,rfl⟩;have hX:Hid (s0=x.1.1/\s1=(j3 x).1.1/\s2=(j3 x).1.2.1/\s3=(j3 x).1.2.2):=(by rw[hx];exact⟨rfl,rfl,rfl,rfl⟩);rw[<-hx]at hkey hen⊢;clear hx sp s0 s1 s2 s3 hX;obtain rfl:kl=Rs.ZM.lit x:=by
      have h7:=(Rs.ZM.key x).symm.trans hkey;exact(oJ h7).symm
     obtain rfl:cz=qR l x:=by
      obtain⟨c',e1,e2,_⟩:=plainElem_int_inv Tryz.underlying2 hv;have e3:=(h1'.o x).symm.trans (hat _);cases e1;cases e2;simpa using e3.symm
     have HXM:Hid (x∈l.map ky):=(H2.o x).1 (has_true_of_atKey hat);have B2:Bw wL w2:=hnx.grown hg2 hnx.size (fun j hj=>by cases hj;exact nR _);have IZ:=hid (hC.step hlk hat);obtain⟨W3,hW3⟩:=aF (w2.alloc (.cells #[iV x.1.1,uV x.1.2.1,uV x.1.2.2.1,uV x.1.2.2.2] 47));obtain⟨nb,hnb⟩:=aF (w2.heap.size);have G3:Gr w2 W3:=(by rw[hW3];exact(Gr.refl _).alloc _);have B3:Bw wL W3:=B2.trans (G3.below.mono B2.size);have hco:=HC.o x.1.1 (j3 x) W3 (jK.o.trans (B3.mono jK.o.size));have hco:CL 36 #[aB rb, .agg #[iV x.1.1,uV x.1.2.1,uV x.1.2.2.1,uV x.1.2.2.2]] W3 fun e w'=>e= .returned (iV (CZ os c x.1.1 (j3 x)))/\Gr W3 w':=hco;have hblk:W3.heap[nb]? =some (.cells #[iV x.1.1,uV x.1.2.1,uV x.1.2.2.1,uV x.1.2.2.2] 47 (0,0)):=(by rw[hW3,hnb];exact ah _ _);have hnl:nb<W3.heap.size:=(aG.1 hblk).1;have q0:W3.cell? ⟨nb,0,none⟩=some (iV x.1.1):=(by simp only[World.cell?];rw[hblk];rfl);have q1:W3.cell? ⟨nb,1,none⟩=some (uV x.1.2.1):=(by simp only[World.cell?];rw[hblk];rfl);have q2:W3.cell? ⟨nb,2,none⟩=some (uV x.1.2.2.1):=(by simp only[World.cell?];rw[hblk];rfl);have q3:W3.cell? ⟨nb,3,none⟩=some (uV x.1.2.2.2):=(by simp only[World.cell?];rw[hblk];rfl);have hrg3:=hrg2.kept (row:=none) ⟨G3.below.os,G3.below.tape,G3.below.output,G3.below.size,fun k hk _=>G3.below.block k hk⟩ (by simp) (by simp);have Vz:Hid (dW (wrap64 (CZ os c x.1.1 (j3 x)+qR l x))=dW (wrap64 (qR l x+CZ os c x.1.1 (j3 x)))):=congrArg (fun z=>dW (wrap64 z)) (Int.add_comm _ _);have hbe:=uE (wrap64 (CZ os c x.1.1 (j3 x)+qR l x));have UB:Hid (dW (wrap64 (CZ os c x.1.1 (j3 x)+qR l x))=true->CY c l=false):=fun hq=>by
      rw[Vz.o]at hq;obtain⟨y,hy,hyx⟩:=mM.1 HXM.o;obtain⟨p,hp,hpl⟩:=HP.o y hy;have hk:x=sk p y.2.1:=(by rw[<-hyx];unfold ky;rw[hp,tN]);have ht:j3 (sk p y.2.1)=y.2.1:=((lq (p:=p) (t:=y.2.1) (by omega)).1 rfl).2;have ha:(sk p y.2.1).1.1=(p:Int):=(by rw[kE (by omega)]);have hcn:CZ os c (p:Int) y.2.1=c p y.2.1:=by
       unfold CZ;rw[if_pos (by have:=HOL.o;omega),tN]
      rw[hk,ht,ha,hcn,Nh hN HP.o hpl]at hq;unfold CY;rw[Bool.and_eq_false_iff];refine Or.inr (List.all_eq_false.2 ⟨y,hy, ?_⟩);rw[hp,tN];have:dW (bS (c p) (prt l p) y.2.1)=true:=hq;simp[this]
     have sj:Hid (dW (wrap64 (CZ os c x.1.1 (j3 x)+qR l x))=false->∀s∈ss++[x],dW (wrap64 (qR l s+CZ os c s.1.1 (j3 s)))=false):=fun hq s hs=>by
      rcases kr.1 hs with h|h
      ·exact HB.o s h
      ·rw[yM]at h;rw[h,<-Vz.o];exact hq
     generalize qR l x=sx at *;generalize CZ os c x.1.1 (j3 x)=fx at *;clear hs2 hblk hrg2 hv hat hkey hlk;cases hq:dW (wrap64 (fx+sx))with
     | true=>
      rw[hq]at hbe;have HF:=hid (UB.o hq);go_wp2_with fail;rw[<-hW3];refine hco.mono ?_;rintro e w4 ⟨rfl,hg4⟩;go_wp2_with (go_at_call 135;refine(hbe _).mono ?_;rintro e w5 ⟨rfl,rfl⟩);go_ret;refine⟨?_,jK.o.trans ((B3.trans (hg4.below.mono B3.size)).mono jK.o.size)⟩;rw[HF.o];rfl
     | false=>
      rw[hq]at hbe;have HF:=hid (sj.o hq);go_wp2_with fail;rw[<-hW3];refine hco.mono ?_;rintro e w4 ⟨rfl,hg4⟩;have B4:Bw wL w4:=B3.trans (hg4.below.mono B3.size);have O9:=hrg3.kept (row:=none) ⟨hg4.below.os,hg4.below.tape,hg4.below.output,hg4.below.size,fun k hk _=>hg4.below.block k hk⟩ (by simp) (by simp);clear q0 q1 q2 q3 hrg3 hco hg4;go_wp2_with (go_at_call 135;refine(hbe _).mono ?_;rintro e w5 ⟨rfl,rfl⟩);go_roundw;case rel=>exact⟨_,cnt2,ss++[x],O9,IZ.o,B4,HF.o⟩
      case measure=>rw[O9.left_eq,hrg.left_eq];exact hlt2
end Rc
namespace Rc
open Go.RowKit Go.Sort Go.Maps Pt Hc
attribute[local go_sem ↓]wp_at_zero wp_at_succ
def gu(N:Nat)(ar:Int):List Th->Int
 | [] => 0
 | x::l => if ¬(0<=x.1/\x.1<(N:Int))then 42 else if bN x.2.1.1.1 x.2.1.1.2.1 x.2.1.1.2.2 ar≠0 then bN x.2.1.1.1 x.2.1.1.2.1 x.2.1.1.2.2 ar else gu N ar l
theorem Ey:∀{l:List Th},gu N ar l=0->∀x∈l,Vp N x/\bN x.2.1.1.1 x.2.1.1.2.1 x.2.1.1.2.2 ar=0:=by
 intro l
 induction l with
 | nil => intro _ x hx;cases hx
 | cons y l ih=>
  intro h x hx;unfold gu at h;by_cases h1:0<=y.1/\y.1<(N:Int)
  ·rw[if_neg (by simpa using h1)]at h;by_cases h2:bN y.2.1.1.1 y.2.1.1.2.1 y.2.1.1.2.2 ar=0
   ·rw[if_neg (by simpa using h2)]at h;rcases gq.1 hx with rfl|hx
    ·exact⟨⟨x.1.toNat,by omega,by omega⟩,h2⟩
    ·exact ih h x hx
   ·rw[if_pos h2]at h;exact absurd h h2
  ·rw[if_pos h1]at h;cases h
theorem Ez:∀{l:List Th},(∀x∈l,Vp N x/\bN x.2.1.1.1 x.2.1.1.2.1 x.2.1.1.2.2 ar=0)->gu N ar l=0:=by
 intro l
 induction l with
 | nil => intro _;rfl
 | cons y l ih=>
  intro h;obtain⟨⟨p,hp,hl⟩,h2⟩:=h y mX;unfold gu;rw[if_neg (by simpa using(show 0<=y.1/\y.1<(N:Int)by omega)),if_neg (by simpa using h2)];exact ih fun x hx=>h x (mO _ hx)
def iO(N:Nat)(ar:Int)(c:Nat->ai->Int)(l:List Th):Int:=if gu N ar l≠0 then gu N ar l else if CY c l=true then 0 else 12
theorem PO{c:Nat->ai->Int}(l:List Th)(v:Value)(w:World)(hN:N<=192)(hol:os.length=N)(hR:w.heap[rb]? =some (.cells #[iV ar,sv,rv,ov,cv,uv] 102 (0,0)))(ho:Ls EA w ov os)(hM:∀q mb,os[q]? =some mb->∃tb b cb n v fr,Mu w mb tb b cb n v (c q) fr)(hv:Ls EC w v l)(hl:l.length<=100000000000):
    CL 37 #[aB rb,v] w fun e w'=>e= .returned (iV (iO N ar c l))/\Bw w w':=by
 have hmx:Tryz.prog.follows .mixedOrders=true:=by kernel_rfl
 obtain⟨pl,cl,rfl⟩:=hv.form;obtain⟨n,hn⟩:=aF (l.length);rw[<-hn]at hv⊢;have HN:=hid hn;have HL:Hid (Ls EC w (.slice pl n cl) l):=hv;have Zy:Hid (∀(p:Int) (W:World),Bw w W->CL 40 #[aB rb,iV p] W fun e w'=>e= .returned (.bool (decide (0<=p)&&decide (p<(N:Int))))/\w'=W):=fun p W hb=>by
  have h:=vJ p W ((hb.block rb (ae hR)).trans hR) (ho.below hb);rw[hol]at h;exact h
 have HIR:Hid (∀W:World,Bw w W->(∀x∈l,Vp N x)->CL 76 #[aB rb, .slice pl n cl] W fun e w'=>e= .returned (.bool (CY c l))/\Bw W w'):=fun W hb hp=>by
  refine Ec l _ W hN hol ((hb.block rb (ae hR)).trans hR) (ho.below hb) (fun q m hq=> ?_) (hv.below hb) hl hp;obtain⟨tb,b,cb,n,v,fr,h⟩:=hM q m hq;exact⟨tb,b,cb,n,v,fr,h.below hb⟩
 have HR:=hid hR;have hnb:n<=100000000000:=by omega
 clear hv ho hM hn hR hol hl;go_enter Tryz.func37,Tryz.ntmps37;go_wp2_with fail;go_loopw [10] (fun s10 wr=>∃k:Nat,k<=n/\s10=iV (k:Nat)/\Hid (Bw w wr/\gu N ar l=gu N ar (l.drop k)/\∀x∈l.take k,Vp N x)) (fun s10 _=>n-(intOf s10).toNat);case atStart=>exact⟨0,zL _,rfl,Below.refl _ _,rfl,fun x hx=>by simp at hx⟩
 case round=>
  obtain⟨k,hk,rfl,HI⟩:=hrel;by_cases hlt:k<n
  ·have hltz:(k:Int)<(n:Int):=(by omega);have hk0:(0:Int)<=(k:Int):=(by omega);obtain⟨x,hx⟩:∃x,l[k]? =some x:=⟨l[k]'(by have:=HN.o;omega),by simp⟩;obtain⟨b1,o1,c1,e1,z1,x0,x1,x2,x3,x4⟩:=D6 (HL.o.below HI.o.1) hx;simp only[vS]at e1;obtain⟨rfl,-,-⟩:=e1;have HDR:Hid (gu N ar l=(if ¬(0<=x.1/\x.1<(N:Int))then 42 else if bN x.2.1.1.1 x.2.1.1.2.1 x.2.1.1.2.2 ar≠0 then bN x.2.1.1.1 x.2.1.1.2.1 x.2.1.1.2.2 ar else gu N ar (l.drop (k+1)))/\l.take (k+1)=l.take k++[x]):=by
    have h1:=HI.o.2.1;have h2:l.drop k=x::l.drop (k+1):=by
     obtain⟨hk,rfl⟩:=lG.1 hx;exact List.drop_eq_getElem_cons hk
    rw[h2]at h1;exact⟨h1,by rw[tO,hx];rfl⟩
   clear hx;obtain⟨yb,hyb⟩:=aF (wr.heap.size);obtain⟨W5,bW⟩:=aF (wr.alloc (.cells (cc x) 49));have P5:Hid (Bw w W5/\W5.heap[yb]? =some (.cells (cc x) 49 (0,0))):=by
    have g5:=((Gr.refl wr).alloc (.cells (cc x) 49)).below;rw[bW,hyb];exact⟨HI.o.1.trans (g5.mono HI.o.1.size),ah _ _⟩
   have ig:Hid (wr.alloc (.cells #[iV x.1,uV x.2.1.1.1,uV x.2.1.1.2.1,uV x.2.1.1.2.2,iV x.2.2] 49)=W5/\wr.heap.size=yb):=⟨bW.symm,hyb.symm⟩;have si:=hid HI.o.2.2;clear bW hyb HI;go_upto_region 4 with fail;rw[ig.o.1,ig.o.2];clear ig x0 x1 x2 x3 x4 z1;obtain⟨y0,y1,y2,y3,y4,yz⟩:=vN P5.o.2;have hha:=Zy.o x.1 W5 P5.o.1;by_cases hp:0<=x.1/\x.1<(N:Int)
   ·have hpb:(decide (0<=x.1)&&decide (x.1<(N:Int)))=true:=(by simp[hp.1,hp.2]);rw[hpb]at hha;go_wp2_with fail;refine hha.mono ?_;rintro e W6 ⟨rfl,hw6⟩;have abz:=hw6.symm;subst abz;clear hw6 hha y0 y1 y2 y3 y4 yz hpb;go_upto_region 6 with fail;have hS0:(fun W:World=>Bw W5 W) W5.drew:=(Gr.refl W5).drew.below;have gK:Hid (∀W,Bw W5 W->W.heap[yb]? =some (.cells (cc x) 49 (0,0))/\W.heap[rb]? =some (.cells #[iV ar,sv,rv,ov,cv,uv] 102 (0,0))):=fun W hb=>⟨(hb.block _ (ae P5.o.2)).trans P5.o.2,((P5.o.1.trans (hb.mono P5.o.1.size)).block rb (ae HR.o)).trans HR.o⟩;refine ay (S:=fun W:World=>Bw W5 W) (D:=[]) hmx ?_;refine' ak 0 hS0 ?_;refine' ak 1 hS0 ?_;refine' bD 2 hS0 ?h ?_;case h=>(intro W hSw;obtain⟨y0,y1,y2,y3,y4,yz⟩:=vN (gK.o W hSw).1;go_simp;try(with_reducible rfl))
    refine' ak 3 hS0 ?_;refine' bD 4 hS0 ?h ?_;case h=>(intro W hSw;have cr:=(aa (gK.o W hSw).2).1;have lr:=ae (gK.o W hSw).2;go_simp;try(with_reducible rfl))
    refine' bD 5 hS0 ?h ?_;case h=>(intro W hSw;have cr:=(aa (gK.o W hSw).2).1;have lr:=ae (gK.o W hSw).2;go_simp;try(with_reducible rfl))
    refine' bD 6 hS0 ?h ?_;case h=>(intro W hSw;have cr:=(aa (gK.o W hSw).2).1;have lr:=ae (gK.o W hSw).2;go_simp;try(with_reducible rfl))
    refine' bD 7 hS0 ?h ?_;case h=>(intro W hSw;have cr:=(aa (gK.o W hSw).2).1;have lr:=ae (gK.o W hSw).2;go_simp;try(with_reducible rfl))
    refine fV 8 fun K hK=> ?_;go_simp;refine(FE _ _ _ _ _).mono ?_;rintro e w7 ⟨rfl,g7⟩;have bu:Bw W5 w7:=hS0.trans (g7.below.mono hS0.size);clear g7;go_wp2_with fail;refine hK.o _ _ (fun hD=>bu) ?_;clear hK K;try simp only[Act.put,qI,q0,qS]
    refine' ak 9 bu ?_;refine av (by kernel_rfl) ?_ _;have B7:=hid (P5.o.1.trans (bu.mono P5.o.1.size));have HFT:Hid ((bN x.2.1.1.1 x.2.1.1.2.1 x.2.1.1.2.2 ar≠0->iO N ar c l=bN x.2.1.1.1 x.2.1.1.2.1 x.2.1.1.2.2 ar)/\(bN x.2.1.1.1 x.2.1.1.2.1 x.2.1.1.2.2 ar=0->gu N ar l=gu N ar (l.drop (k+1)))):=by
     have h1:=HDR.o.1;rw[if_neg (by simpa using hp)]at h1;refine⟨fun h=> ?_,fun h=> ?_⟩
     ·rw[if_pos h]at h1;unfold iO;rw[h1,if_pos h]
     ·rw[if_neg (by simpa using h)]at h1;exact h1
    have HVP:Hid (∀y∈l.take (k+1),Vp N y):=fun y hy=>by
     rw[HDR.o.2]at hy;rcases kr.1 hy with h|h
     ·exact si.o y h
     ·rw[yM]at h;rw[h];exact⟨x.1.toNat,by omega,by omega⟩
    generalize bN x.2.1.1.1 x.2.1.1.2.1 x.2.1.1.2.2 ar=ft at HFT⊢;clear hS0 bu gK HDR si P5 hp;by_cases hf:ft=0
    ·subst hf;have UD:=hid (HFT.o.2 rfl);clear HFT;go_wp2_with fail;go_roundw;case rel=>exact⟨k+1,by omega,by go_num,B7.o,UD.o,HVP.o⟩
     case measure=>simp[intOf];omega
    ·have UD:=hid (HFT.o.1 hf);have hfb:(ft==0)=false:=(by rw[beq_eq_false_iff_ne];exact hf);clear HFT;go_wp2_with fail;go_ret;refine⟨?_,B7.o⟩;rw[UD.o];rfl
   ·have hpb:(decide (0<=x.1)&&decide (x.1<(N:Int)))=false:=by
      by_cases k1:0<=x.1
      ·have k2:¬x.1<(N:Int):=fun h=>hp ⟨k1,h⟩;simp[k2]
      ·simp[k1]
    rw[hpb]at hha;have UD:Hid (iO N ar c l=42):=by
     have h1:=HDR.o.1;rw[if_pos hp]at h1;unfold iO;rw[h1,if_pos (by decide)];exact rfl
    have B7:=hid P5.o.1;clear hp hpb HDR P5;go_wp2_with fail;refine hha.mono ?_;rintro e W6 ⟨rfl,hw6⟩;subst hw6;go_wp2_with fail;go_ret;refine⟨?_,B7.o⟩;rw[UD.o];rfl
  ·have hltz:¬(k:Int)<(n:Int):=(by omega);have HE:Hid (Bw w wr/\gu N ar l=0/\∀x∈l,Vp N x):=by
    obtain⟨h1,h2,h3⟩:=HI.o;have e:l.length<=k:=(by have:=HN.o;omega);rw[List.drop_eq_nil_of_le e]at h2;rw[tL e]at h3;exact⟨h1,h2,h3⟩
   have hir:=HIR.o wr HE.o.1 HE.o.2.2;have FU:Hid (iO N ar c l=if CY c l=true then 0 else 12):=by
    unfold iO;rw[HE.o.2.1,if_neg (by decide)];exact rfl
   generalize CY c l=ok at hir FU;clear HI;cases ok with
   | true=>
    go_wp2_with fail;refine hir.mono ?_;rintro e w9 ⟨rfl,h9⟩;have B9:=hid (HE.o.1.trans (h9.mono HE.o.1.size));clear h9;go_wp2_with fail;go_ret;refine⟨?_,B9.o⟩;rw[FU.o];rfl
   | false=>
    go_wp2_with fail;refine hir.mono ?_;rintro e w9 ⟨rfl,h9⟩;have B9:=hid (HE.o.1.trans (h9.mono HE.o.1.size));clear h9;go_wp2_with fail;go_ret;refine⟨?_,B9.o⟩;rw[FU.o];rfl
def cA(N:Nat)(t:Nat->Nat)(k:Nat):Nat:=if 3<=t k/\t k<3+2*N then t k else 0
theorem Yl(h:t k<3):cA N t k=0:=by unfold cA;rw[if_neg (by omega)]
theorem Vi(h:t k=j)(h1:3<=j)(h2:j<3+2*N):cA N t k=j:=by unfold cA;rw[if_pos (by omega),h]
theorem Ar(h:cA N t k≠0):3<=t k/\t k<3+2*N/\cA N t k=t k:=by
 unfold cA at h⊢;split at h
 ·rename_i k;rw[if_pos k];exact⟨k.1,k.2,rfl⟩
 ·exact absurd rfl h
def cS(N:Nat)(t:Nat->Nat)(k:Nat):Nat:=if 3+N<=t k then 0 else t k
theorem Qo(h:t k=j)(h2:j<3+N):cS N t k=j:=by unfold cS;rw[if_neg (by omega),h]
theorem Qn(h:cS N t k≠0):t k≠0/\t k<3+N/\cS N t k=t k:=by
 unfold cS at h⊢;split at h
 ·exact absurd rfl h
 ·rename_i k;rw[if_neg k];exact⟨h,by omega,rfl⟩
def Chn(w:World)(t:Nat->Nat)(rb:Nat)(ar:Int)(N:Nat)(L:Nat->List (Nat×ai))(R:Nat->Nat->List ai)(rs:List Nat)(c:Nat->ai->Int)(K F:Nat->List ai)(l:List Th)(w':World):Prop:=
 ∃On Cn Fn t',Ev N L R (lW c l) (BP K l) On Cn Fn/\Rq w' t' rb ar N L rs (lW c l) (BP K l) On Cn Fn (MK N F Fn)/\Kp (fun k=>t k=2\/(3<=t k/\t k<3+2*N)) w w'/\∀k,k<w.heap.size->t' k=t k
def Chg(w:World)(t:Nat->Nat)(rb:Nat)(ar:Int)(N:Nat)(L:Nat->List (Nat×ai))(R:Nat->Nat->List ai)(rs:List Nat)(c:Nat->ai->Int)(K F:Nat->List ai)(l:List Th)(e:Ending)(w':World):Prop:=
 e= .returned (iV (iO N ar c l))/\((iO N ar c l≠0/\Bw w w')\/(iO N ar c l=0/\Chn w t rb ar N L R rs c K F l w'))
theorem IG{L:Nat->List (Nat×ai)}{St:Nat->Nat->ai->Prop}{R:Nat->Nat->List ai}{rs:List Nat}{c:Nat->ai->Int}{K O:Nat->List ai}{C:Nat->ai->Int}{F:Nat->List ai}{U:List Th}{T E Z B:Nat}(l:List Th)(v:Value)(w:World)(hQ:Rq w t rb ar N L rs c K O C F U)(Ik:Ev N L R c K O C F)(ht:C8 N L St R)(xK:rV N L (nk N (mi rs)))(hr:∀x∈rs,x<=N)(hv:Ls EC w v l)(hm:Rm N L T E Z B)
    (hK:sN (fun p=>(K p).length) (List.range N)+l.length<=T):CL 10 #[aB rb,v] w fun e w'=>Hid (Chg w t rb ar N L R rs c K F l e w'):=by
 obtain⟨sv,rv,ov,cv,uv,os,ms,h1,h2,h3⟩:=hQ;have hN:=hm.hN;have htt:=hm.t;have hll:l.length<=100000000000:=by omega
 have Zz:=hid (PO (c:=c) l v w hN h1.ol h1.blk h1.ow.1 (fun q m hq=>by
  obtain⟨tb,b,cb,v,k1,_⟩:=h2 q m hq;exact⟨tb,b,cb,_,v,_,k1⟩) hv hll)
 by_cases hz:iO N ar c l=0
 ·have hfl:gu N ar l=0/\CY c l=true:=by
    unfold iO at hz;by_cases k:gu N ar l=0
    ·rw[if_neg (by simpa using k)]at hz;refine⟨k, ?_⟩;by_cases k2:CY c l=true
     ·exact k2
     ·rw[if_neg k2]at hz;cases hz
    ·rw[if_pos k]at hz;exact absurd hz k
  have hvp:∀x∈l,Vp N x:=fun x hx=>(Ey hfl.1 x hx).1;have hbad:=(Jr (c:=c) hvp).1 hfl.2;have aai:∀p,p<N->(K p).length+(prt l p).length<=T:=fun p hp=>by
   have e1:=kF (f:=fun q=>(K q).length) (mR.2 hp);have e2:=qX l p;omega
  have hK2:sN (fun p=>(BP K l p).length) (List.range N)<=T:=by
   have e1:(fun p=>(BP K l p).length)=fun p=>(K p).length+(prt l p).length:=by
    funext p
    unfold BP;rw[dQ,gQ]
   rw[e1,mZ];have e2:=ji l (fun x=>x.1.toNat) N;have e3:sN (fun p=>(prt l p).length) (List.range N)<=sN (fun q=>(l.filter fun s=>decide (s.1.toNat=q)).length) (List.range N):=kG fun p _=>by
    unfold prt;rw[gQ,<-List.countP_eq_length_filter,<-List.countP_eq_length_filter];refine List.countP_mono_left fun x _ hx=> ?_;have:x.1=(p:Int):=(by simpa using hx);simp[this]
   omega
  obtain⟨On,Cn,Fn,XF,TJ,hwl,hFl,hSp⟩:=Yg ht xK h1.rl hr Ik l hbad hm (by omega) hK2;have abh:Adp N rs os ms l (fun p=>(K p).length) c O On (2*T):=⟨hN,h1.ol,h1.ml,h1.rl,hr,hll,hvp,hbad,fun p hp=>by have:=aai p hp;omega,XF,Ik.own,Ik.bd,hwl,by omega⟩;have HAD:Hid (∀W,Bw w W->CL 39 #[aB rb,v] W fun e w'=>Hid (Adn W (tg (cA N t) w 0) rb ar sv rv ov cv uv N L rs os ms l (fun p=>(K p).length) c O On C F e w')):=fun W hb=>by
   have hK:=Kp.of_below (S:=fun _=>False) hb;have hT:∀k,k<w.heap.size->tg (cA N t) w 0 k=cA N t k:=fun k hk=>au hk;refine pz W abh (hv.below hb) ((h1.rd (fun k e=>Yl (by omega)) (fun k e=>Yl (by omega))).keep hK (fun _ _ h=>h.elim) hT) ((h1.ow.retag fun k e=>Yl (by omega)).keep hK (fun _ _ h=>h.elim) hT) (fun p mb hp=> ?_) (fun p mb hp=> ?_)
   ·have hpl:=(lG.1 hp).1;have:=h1.ol;exact((h2 p mb hp).retag fun k e=>Vi e (by omega) (by omega)).keep hK (fun _ _ h=>h.elim) hT
   ·have hpl:=(lG.1 hp).1;have:=h1.ml;exact(h3 p mb hp).imp fun n hn=>(hn.retag fun k e=>Vi e (by omega) (by omega)).keep hK (fun _ _ h=>h.elim) hT
  have J8:Hid (∀(W:World) (hb:Nat) (tag:Nat->Nat) (Q:List It),Rd W tag rb ar sv rv ov cv uv N L rs ms->Hm W tag hb (wv ar sv rv) (kU N rs) Q Q.length->(wq Q).Perm (oF (zM O On) (List.range N))->(∀y∈Q,Vq N y)->(∀p mb,ms[p]? =some mb->∃n,Ml W tag (3+p) mb n (C p) (F p))->
      CL 38 #[aB rb,aB hb] W fun e w'=>Hid (Spn W (cS N tag) rb ar sv rv ov cv uv N L rs ms (M7 N L O F On Fn) F Cn Fn e w')):=fun W hb tag Q k1 k2 k3 k4 k5=>by
   have hsp:=hSp ms Q h1.ml k3 k4;have hrd:Rd W (cS N tag) rb ar sv rv ov cv uv N L rs ms:=by
    obtain⟨us,u1,u2,u3⟩:=k1.st;have z:∀k,tag k=0->cS N tag k=0:=fun k e=>Qo e (by omega);exact⟨k1.blk,⟨us,u1,u2,fun p x hx=>⟨(u3 p x hx).1,fun k hk=>z k ((u3 p x hx).2 k hk)⟩⟩,k1.rk,k1.cm,z _ k1.tb,fun k hk=>z k (k1.ts k hk),fun k hk=>z k (k1.tr k hk),fun k hk=>z k (k1.tc k hk)⟩
   refine Gn Z6 W hsp hrd (k2.retag fun k e=>Qo e (by omega)) fun p mb hp=> ?_;have hpl:=(lG.1 hp).1;have rC:=h1.ml;obtain⟨n,hn⟩:=k5 p mb hp;refine(hn.retag fun k e=>Qo (N:=N) e (by omega)).tight fun u hu=>hsp.sup p u (by omega) (.inl ?_);have:=hsp.bo p u (by omega);omega
  have H1:=hid h1;have H2:=hid h2;have HEV:=hid Ik;have abg:=hid TJ;have Zv:Hid (∀p,p<N->(F p).Nodup/\(Fn p).Nodup):=fun p hp=>⟨(Ik.yO.fr p hp).nodup,(TJ.yO.fr p hp).nodup⟩;have HTI:Hid (∀p mb W tag n,os[p]? =some mb->Ml W tag (3+N+p) mb n (lW c l p) (On p)->Ml W tag (3+N+p) mb (BP K l p).length (lW c l p) (On p)):=fun p mb W tag n hp h=>by
   have hpl:=(lG.1 hp).1;have:=h1.ol;exact h.tight fun u hu=>TJ.kp p u (by omega) hu
  have HZ:=hid hz;rw[hz]at Zz;clear h1 h2 h3 Ik TJ hv hvp hbad aai hK2 XF hwl hFl hSp abh hz hfl ht xK hr hm hK htt hll;go_enter Tryz.func10,Tryz.ntmps10;go_wp2_with fail;refine Zz.o.mono ?_;rintro e w2 ⟨rfl,hb2⟩;have HB2:=hid hb2;have had:=HAD.o w2 hb2;clear hb2 Zz HAD;go_wp2_with fail;refine had.mono ?_;clear had;rintro e w4 h4;obtain⟨hb,sF,Q,rfl,a1,a2,a3,a4,a5,a6,a7,a8⟩:=h4.o;have hsp:=J8.o w4 hb sF Q a1 a2 a3 a4 a6;have H4:Hid ((∀p mb,os[p]? =some mb->Ml w4 sF (3+N+p) mb (BP K l p).length (lW c l p) (On p))/\Kp (fun k=>tg (cA N t) w 0 k≠0) w2 w4/\∀k,k<w2.heap.size->sF k=tg (cA N t) w 0 k):=⟨fun p mb hp=>HTI.o p mb _ _ _ hp (a5 p mb hp),a7,a8⟩;clear h4 a1 a2 a3 a4 a5 a6 a7 a8 J8;go_wp2_with fail;refine hsp.mono ?_;clear hsp;rintro e w5 h5;obtain⟨vl,ks,mH,he5,s1,s2,s3,s4,s5,s6,s7⟩:=h5.o;obtain⟨vq,vm,vc,hvl⟩:=Df.aD s2;rw[hvl]at he5;subst he5;rw[hvl]at s2 s7;clear hvl;have H5:Hid (∃t',Rw w5 t' rb ar sv rv ov cv uv N L rs os ms U/\Lm EC w5 t' 0 (.slice vq vm vc) (MK N F Fn)/\(∀p mb,os[p]? =some mb->Ml w5 t' (3+N+p) mb (BP K l p).length (lW c l p) (On p))/\(∀p mb,ms[p]? =some mb->∃n,Ml w5 t' (3+p) mb n (Cn p) (Fn p))/\Kp (fun k=>3<=t k/\t k<3+2*N) w w5/\∀k,k<w.heap.size->t' k=t k):=by
   rw[Yf hN (fun p hp=>(Zv.o p hp).1) (fun p hp=>(Zv.o p hp).2) s1]at s2;have z2:w.heap.size<=w2.heap.size:=HB2.o.size;have z24:w2.heap.size<=w4.heap.size:=H4.o.2.1.size;have z45:w4.heap.size<=w5.heap.size:=s5.size;have t4:∀k,k<w.heap.size->sF k=cA N t k:=fun k hk=>(by rw[H4.o.2.2 k (by omega),au hk]);have K5:Kp (fun k=>3<=t k/\t k<3+2*N) w w5:=by
    refine((Kp.of_below (S:=fun k=>3<=t k/\t k<3+2*N) HB2.o).trans H4.o.2.1 fun k hk e=> ?_).trans s5 fun k hk e=> ?_
    ·rw[au hk]at e;exact⟨(Ar e).1,(Ar e).2.1⟩
    ·have e2:=(Qn e).1;rw[t4 k hk]at e2;exact⟨(Ar e2).1,(Ar e2).2.1⟩
   refine⟨fun k=>if k<w.heap.size then t k else if k<w4.heap.size then sF k else mH k, ?_, ?_,fun p mb hp=> ?_,fun p mb hp=> ?_,K5,fun k hk=>if_pos hk⟩
   ·exact H1.o.keep K5 (fun k hk e=>⟨by omega,by omega⟩) (fun k hk=>if_pos hk)
   ·refine⟨aK (E:=EC) s2,fun k hk=> ?_⟩;have hge:=je s2 hk;show(if k<w.heap.size then t k else if k<w4.heap.size then sF k else mH k)=0;rw[if_neg (by omega),if_neg (by omega)];exact s7 k hk
   ·have hpl:=(lG.1 hp).1;have hol:=H1.o.ol;have hm:=(H4.o.1 p mb hp).keep (tag':=fun k=>if k<w4.heap.size then sF k else mH k) s5 (fun k hk e=>by have:=(Qn e).2.1;omega) (fun k hk=>if_pos hk);refine hm.retag fun k e=> ?_;show(if k<w.heap.size then t k else if k<w4.heap.size then sF k else mH k)=3+N+p;by_cases hk:k<w.heap.size
    ·rw[if_pos hk];have e':(if k<w4.heap.size then sF k else mH k)=3+N+p:=e;rw[if_pos (by omega),t4 k hk]at e';have:=(Ar (N:=N) (t:=t) (k:=k) (by omega)).2.2;omega
    ·rw[if_neg hk];exact e
   ·have hpl:=(lG.1 hp).1;have rC:=H1.o.ml;refine⟨_,(s4 p mb hp).retag fun k e=> ?_⟩;show(if k<w.heap.size then t k else if k<w4.heap.size then sF k else mH k)=3+p;by_cases hk4:k<w4.heap.size
    ·rw[s6 k hk4]at e;have e4:=(Qn (N:=N) (t:=sF) (k:=k) (by omega)).2.2;by_cases hk:k<w.heap.size
     ·rw[if_pos hk];have e5:=t4 k hk;have:=(Ar (N:=N) (t:=t) (k:=k) (by omega)).2.2;omega
     ·rw[if_neg hk,if_pos hk4];omega
    ·rw[if_neg (by omega),if_neg hk4];exact e
  clear h5 s1 s2 s3 s4 s5 s6 s7 H4 HB2 Zv HTI H1 H2;obtain⟨t',r1,r2,r3,r4,r5,r6⟩:=H5.o;obtain⟨q1,q2⟩:=r1.turn r2;have HE:Hid (Chg w t rb ar N L R rs c K F l (.returned (iV 0)) (w5.setCell ⟨rb,5,none⟩ (.slice vq vm vc))):=by
   have hz:=HZ.o;have htb:t' rb=2:=r1.tb;have h0:∀j,j≠2->∀k,k<w5.heap.size->k=rb->t' k≠j:=fun j hj k _ e e2=>(by rw[e,htb]at e2;exact hj e2.symm);refine⟨by rw[hz], .inr ⟨hz,On,Cn,Fn,t',abg.o,⟨sv,rv,ov,cv,_,os,ms,q1,fun p mb hp=>(r3 p mb hp).keep q2 (h0 _ (by omega)) (fun _ _=>rfl),fun p mb hp=>(r4 p mb hp).imp fun n hn=>hn.keep q2 (h0 _ (by omega)) (fun _ _=>rfl)⟩, ?_,r6⟩⟩;refine(r5.mono fun k hk=> .inr hk).trans q2 fun k hk e=> .inl ?_;rw[<-r6 k hk,e];exact htb
  have c5:=(aa r1.blk).1;have f5:=(aa r1.blk).2;have l5:=ae r1.blk;clear r1 r2 r3 r4 r5 r6 q1 q2 H5 HEV abg HZ;go_wp2_with fail;go_ret;exact HE
 ·have HE:Hid (∀w',Bw w w'->Chg w t rb ar N L R rs c K F l (.returned (iV (iO N ar c l))) w'):=fun w' hb=>⟨rfl, .inl ⟨hz,hb⟩⟩;clear h1 h2 h3 Ik hv ht xK hr hm hK htt hll;generalize iO N ar c l=z at hz Zz HE;have hzb:(z==0)=false:=by rw[beq_eq_false_iff_ne];exact hz
  go_enter Tryz.func10,Tryz.ntmps10;go_wp2_with fail;refine Zz.o.mono ?_;rintro e w2 ⟨rfl,hb2⟩;have HB2:=hid hb2;clear hb2 Zz;go_wp2_with fail;go_ret;exact HE.o _ HB2.o
end Rc
end Go.Proofs.YtiiefcalkjeieaaGreat
