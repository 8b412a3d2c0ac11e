import Derived.Test.YtiiefcalkjeieaaGreatRcAdd
variable{N k rb j:Nat}{t:Nat->Nat}{ar:Int}{sv rv ov cv uv:Go.Value}{os:List Nat}
set_option maxHeartbeats 8000000
set_option maxRecDepth 100000
namespace Go.Proofs.YtiiefcalkjeieaaGreat
namespace Rc
open Go.RowKit Go.Sort Go.Maps Pt Hc
open Tt (dV dH)
attribute[local go_sem ↓]wp_at_zero wp_at_succ
def ky(x:Th):Rs.Sm:=sk x.1.toNat x.2.1
theorem ZW{x:Th}(hN:N<=192)(h:Vp N x):(ky x).1=(x.1,x.2.1.1):=by
 obtain⟨p,hp,hl⟩:=h;unfold ky;rw[hp,tN,kv (by omega)]
def qN(l:List Th):Rs.Sm->Int:=l.foldl (fun g x=>upd g (ky x) (wrap64 (g (ky x)+x.2.2))) (fun _=>0)
theorem M6{l:List Th}{x:Th}(h:l[k]? =some x):qN (l.take (k+1))=upd (qN (l.take k)) (ky x) (wrap64 (qN (l.take k) (ky x)+x.2.2)):=by
 unfold qN;rw[tO,h,List.foldl_append];rfl
theorem M7(l:List Th)(x:Th):qN (l++[x])=upd (qN l) (ky x) (wrap64 (qN l (ky x)+x.2.2)):=by
 unfold qN;rw[List.foldl_append];rfl
theorem M8(hN:N<=192){l:List Th}(hl:∀x∈l,Vp N x){p:Nat}(hp:p<N)(t:ai):qN l (sk p t)=Go.Proofs.YtiiefcalkjeieaaGreat.sm (prt l p) t:=by
 induction h:l.length generalizing l with
 | zero=>
  have:l=[]:=List.length_eq_zero_iff.1 h;subst this;rfl
 | succ n ih=>
  obtain⟨m,x,rfl⟩:∃m c,l=m++[c]:=by
   have hne:l≠[]:=fun e=>(by rw[e]at h;cases h);exact⟨l.dropLast,l.getLast hne,(List.dropLast_concat_getLast hne).symm⟩
  have hm:∀x∈m,Vp N x:=fun y hy=>hl y (List.mem_append_left _ hy);have ih':=ih hm (by rw[dO]at h;simpa using h);obtain⟨q,hq,YU⟩:=hl x (List.mem_append_right _ (List.mem_singleton_self _));rw[M7,Dz m x q p hq];have hk:ky x=sk q x.2.1:=by unfold ky;rw[hq,tN]
  rw[hk];by_cases e:p=q
  ·subst e;rw[if_pos rfl];have e2:Go.Proofs.YtiiefcalkjeieaaGreat.sm (prt m p++[(x.2.1,x.2.2)])=upd (Go.Proofs.YtiiefcalkjeieaaGreat.sm (prt m p)) x.2.1 (wrap64 (Go.Proofs.YtiiefcalkjeieaaGreat.sm (prt m p) x.2.1+x.2.2)):=by
    unfold Go.Proofs.YtiiefcalkjeieaaGreat.sm;rw[List.foldl_append];rfl
   rw[e2];by_cases et:t=x.2.1
   ·subst et;rw[upd_same,upd_same,ih']
   ·have hne:sk p t≠sk p x.2.1:=fun k=>et (((kY (p:=p) (by omega)).1 k).2.symm.trans (by
      exact((kY (p:=p) (t:=t) (by omega)).1 rfl).2)|>.symm)
    rw[bY _ _ hne,bY _ _ et,ih']
  ·rw[if_neg e];have hne:sk p t≠sk q x.2.1:=fun k=>by
    have h1:=((kY (p:=q) (by omega)).1 k).1;rw[kv (by omega)]at h1;simp only at h1;omega
   rw[bY _ _ hne,ih']
def CO(c:Nat->ai->Int)(l:List Th):Bool:=l.all (fun x=> !dV x.2.2)&&l.all fun x=> !dV (bP (c x.1.toNat) (prt l x.1.toNat) x.2.1)
theorem Jl{c:Nat->ai->Int}{l:List Th}(hl:∀x∈l,Vp N x):CO c l=true↔∀p,p<N->bad (c p) (prt l p)=false:=by
 unfold CO;rw[bA,List.all_eq_true,List.all_eq_true];constructor
 ·rintro⟨h1,h2⟩ p hp;unfold bad;rw[Bool.or_eq_false_iff,List.any_eq_false,List.any_eq_false];refine⟨fun d hd=> ?_,fun d hd=> ?_⟩
  ·have:=h1 _ (ve.1 hd);simpa using this
  ·have:=h2 _ (ve.1 hd);simp only[tN]at this;simpa using this
 ·intro h;refine⟨fun x hx=> ?_,fun x hx=> ?_⟩
  ·obtain⟨p,hp,hpl⟩:=hl x hx;have h1:=h p hpl;unfold bad at h1;rw[Bool.or_eq_false_iff,List.any_eq_false]at h1;have hm:(x.2.1,x.2.2)∈prt l p:=ve.2 (by rw[<-hp];exact hx);have:=h1.1 _ hm;simpa using this
  ·obtain⟨p,hp,hpl⟩:=hl x hx;have h1:=h p hpl;unfold bad at h1;rw[Bool.or_eq_false_iff,List.any_eq_false,List.any_eq_false]at h1;have hm:(x.2.1,x.2.2)∈prt l p:=ve.2 (by rw[<-hp];exact hx);have:=h1.2 _ hm;rw[hp,tN];simpa using this
theorem Ye(n:Int):Rs.Tt.dV n=dV n:=rfl
theorem uz(n:Int)(w:World):Calls Tryz.prog 135 #[.int .i64 n] w fun e w'=>e= .returned (.bool (dV n))/\w'=w:=by
 rw[<-Ye];exact gF n w
theorem Wq{key:Value}{kl:Lit}(h:keyOf Tryz.prog 47 key=some kl):∃x,key=Rs.mv x:=by
 obtain⟨x,hx,_⟩:=Rs.ZM.inv _ _ h;exact⟨x,hx⟩
theorem DY{c:Nat->ai->Int}(l:List Th)(v:Value)(w:World)(hN:N<=192)(hol:os.length=N)(hR:w.heap[rb]? =some (.cells #[.int .i64 ar,sv,rv,ov,cv,uv] 102 (0,0)))(ho:Ls EA w ov os)(hM:∀q mb,os[q]? =some mb->∃tb b cb n v fr,Mu w mb tb b cb n v (c q) fr)(hv:Ls EC w v l)(hl:l.length<=100000000000)(hp:∀x∈l,Vp N x):
    Calls Tryz.prog 76 #[.pointer (some ⟨rb,0,none⟩),v] w fun e w'=>e= .returned (.bool (CO c l))/\Below w.heap.size w w':=by
 have hmx:Tryz.prog.follows .mixedOrders=true:=by kernel_rfl
 have hmm:=@run_makeMap Tryz.prog;obtain⟨pl,cl,rfl⟩:=hv.form;obtain⟨W1,hW1⟩:=aC (w.alloc (.map #[] 0));have G1:Gr w W1:=by rw[hW1];exact(Gr.refl _).alloc _
 obtain⟨mb,hmb⟩:=aC (w.heap.size);have Qu:Hid (Mq Rs.ZM 2 W1 mb 0 (fun _=>0) []):=by
  have:=Mq.made (Z:=Rs.ZM) (e:=2) w;rw[hW1,hmb];simpa[Hid]using this
 have HL:Hid (Ls EC W1 (.slice pl l.length cl) l):=hv.below G1.below;have HLB:Hid (∀k,(Value.slice pl l.length cl).ownBlock=some k->k<w.heap.size):=hv.blk;have HC:Hid (∀(p:Int) (t:ai) (W:World),Below w.heap.size w W->Calls Tryz.prog 36 #[.pointer (some ⟨rb,0,none⟩), .agg #[.int .i64 p, .int .u64 t.1.1, .int .u64 t.1.2.1, .int .u64 t.1.2.2]] W fun e w'=>e= .returned (.int .i64 (CP os c p t))/\Gr W w'):=fun p t W hb=>by
  refine dU p t W ((hb.block rb (ae hR)).trans hR) (ho.below hb) fun q m hq=> ?_;obtain⟨tb,b,cb,n,v,fr,h⟩:=hM q m hq;exact⟨tb,b,cb,n,v,fr,h.below hb⟩
 have HG:Hid (Gr w W1):=G1;have Ao:=hid hmb;have HP:=hid hp;have HOL:=hid hol;clear hv G1 hR ho hM hp hol;go_enter Tryz.func76,Tryz.ntmps76;go_wp2_with fail;rw[<-hW1,<-hmb];clear hW1 hmb;go_loopw [7,13] (fun _ s13 wr=>∃k:Nat,k<=l.length/\s13= .int .i64 k/\Hid (Mq Rs.ZM 2 wr mb k (qN (l.take k)) ((l.take k).map ky)/\Kp (fun j=>j=mb) W1 wr/\∀x∈l.take k,dV x.2.2=false)) (fun _ s13 _=>l.length-(intOf s13).toNat);case atStart=>exact⟨0,zL _,rfl,by simpa[qN]using Qu.o,Kp.refl _ _,by simp⟩
 case round=>
  obtain⟨k,hk,rfl,HI⟩:=hrel;have jG:Hid (Below w.heap.size w wr):=HG.o.below.trans (HI.o.2.1.below HG.o.size (fun j hj=>by rw[hj,Ao.o];exact nR _));by_cases hlt:k<l.length
  ·have hltz:(k:Int)<(l.length:Int):=(by omega);obtain⟨x,hx⟩:∃x,l[k]? =some x:=⟨l[k],by simp⟩;have hxm:x∈l:=lM hx;obtain⟨b1,o1,c1,e1,z1,x0,x1,x2,x3,x4⟩:=DR (HI.o.2.1.ls HL.o (fun j hj hs=>by have:=HLB.o j hj;have:=Ao.o;omega)) hx;simp only[vS]at e1;obtain⟨rfl,-,rfl⟩:=e1;have HS:Hid (qN (l.take (k+1))=upd (qN (l.take k)) (ky x) (wrap64 (qN (l.take k) (ky x)+x.2.2))):=M6 hx;have rX:Hid (l.take (k+1)=l.take k++[x]):=(by rw[tO,hx];rfl);have hbe:=uz x.2.2;have HD:Hid (l[k]? =some x):=hx;have HDM:Hid (x∈l):=hxm;have HKY:Hid ((ky x).1=(x.1,x.2.1.1)):=ZW hN (HP.o x hxm);clear hx hxm;cases hq:dV x.2.2 with
   | true=>
    rw[hq]at hbe;go_wp2_with (go_at_call 135;refine(hbe _).mono ?_;rintro e w2 ⟨rfl,rfl⟩);go_ret;refine⟨?_,jG.o.trans (((Gr.refl _).alloc _).below.mono jG.o.size)⟩;have:CO c l=false:=by
     unfold CO;rw[Bool.and_eq_false_iff];refine Or.inl (List.all_eq_false.2 ⟨x,HDM.o,by simp[hq]⟩)
    rw[this];rfl
   | false=>
    rw[hq]at hbe;obtain⟨W2,hW2⟩:=aC (wr.alloc (.cells #[.int .i64 x.1, .int .u64 x.2.1.1.1, .int .u64 x.2.1.1.2.1, .int .u64 x.2.1.1.2.2, .int .i64 x.2.2] 49));obtain⟨nb,hnb⟩:=aC (wr.heap.size);have G2:Gr wr W2:=(by rw[hW2];exact(Gr.refl _).alloc _);have WW:mb<wr.heap.size:=HI.o.1.lt;have hM2:Mq Rs.ZM 2 W2.drew mb k (qN (l.take k)) ((l.take k).map ky):=HI.o.1.kept (G2.drew.below.block mb WW);obtain⟨v0,st,w1,w2,hL0,hE,hL1,hSt,hM3,hg1,hg2⟩:=hM2.bump (t:=235) Rs.Ot Tryz.underlying235 Tryz.underlying2 Rs.Tt.zeroE (by unfold maxLen;omega) (ky x) (wrap64 (qN (l.take k) (ky x)+x.2.2)) (wf_wrap _);have HW2:Hid (Mq Rs.ZM 2 w2 mb (k+1) (qN (l.take (k+1))) ((l.take (k+1)).map ky)/\Kp (fun j=>j=mb) W1 w2/\∀d∈l.take (k+1),dV d.2.2=false):=by
     refine⟨?_,HI.o.2.1.trans ((Kp.aX (S:=fun j=>j=mb) G2.drew).trans (Kp.grownBy (S:=fun j=>j=mb) hg2 (fun j hj=>by simpa using hj.symm)) (fun _ _ h=>h)) (fun _ _ h=>h), ?_⟩
     ·rw[HS.o,rX.o];simpa using hM3
     ·rw[rX.o];intro e he;rcases j4.1 he with he|he
      ·exact HI.o.2.2 e he
      ·simp at he;subst he;exact hq
    have hblk:W2.heap[nb]? =some (.cells #[.int .i64 x.1, .int .u64 x.2.1.1.1, .int .u64 x.2.1.1.2.1, .int .u64 x.2.1.1.2.2, .int .i64 x.2.2] 49 (0,0)):=(by rw[hW2,hnb];exact ah _ _);have hnl:nb<W2.drew.heap.size:=(aG.1 hblk).1;have y0:∀q,w1.cell? ⟨nb,q,none⟩=W2.drew.cell? ⟨nb,q,none⟩:=fun q=>yY (a:=⟨nb,q,none⟩) (hg1.block nb hnl (by simp;omega));have q0:W2.cell? ⟨nb,0,none⟩=some (.int .i64 x.1):=(by simp only[World.cell?];rw[hblk];rfl);have q1:W2.cell? ⟨nb,1,none⟩=some (.int .u64 x.2.1.1.1):=(by simp only[World.cell?];rw[hblk];rfl);have q2:W2.cell? ⟨nb,2,none⟩=some (.int .u64 x.2.1.1.2.1):=(by simp only[World.cell?];rw[hblk];rfl);have q3:W2.cell? ⟨nb,3,none⟩=some (.int .u64 x.2.1.1.2.2):=(by simp only[World.cell?];rw[hblk];rfl);have q4:W2.cell? ⟨nb,4,none⟩=some (.int .i64 x.2.2):=(by simp only[World.cell?];rw[hblk];rfl);have r0:=(y0 0).trans q0;have r1:=(y0 1).trans q1;have r2:=(y0 2).trans q2;have r3:=(y0 3).trans q3;have r4:=(y0 4).trans q4;have eK:Rs.ZM.enc (ky x)= .agg #[.int .i64 x.1, .int .u64 x.2.1.1.1, .int .u64 x.2.1.1.2.1, .int .u64 x.2.1.1.2.2]:=by
     show Rs.mv (ky x)=_;unfold Rs.mv;rw[HKY.o]
    rw[eK]at hL0 hL1 hE;have hE:(Instr.mapEntry 235 (.map (some mb)) (.agg #[.int .i64 x.1, .int .u64 x.2.1.1.1, .int .u64 x.2.1.1.2.1, .int .u64 x.2.1.1.2.2])).run Tryz.prog W2.drew= .ok (.tuple #[v0, .int .i64 st]) w1:=hE;have hSt:(Instr.entryStore 235 (.map (some mb)) (.int .i64 st) (.int .i64 (wrap64 (qN (l.take k) (ky x)+x.2.2)))).run Tryz.prog w1= .ok () w2:=hSt;clear eK;generalize qN (l.take k) (ky x)=cx at hL0 hL1 hSt;go_wp2_with (go_at_call 135;refine(hbe _).mono ?_;rintro e w2 ⟨rfl,rfl⟩);rw[<-hW2,<-hnb];clear hW2 hnb x0 x1 x2 x3 x4 hblk y0 hM2 hM3 hg1 hg2 G2;go_region;all_goals go_wp2
    all_goals exact⟨⟨k+1,by omega,by go_num,HW2.o⟩,by simp[intOf];omega⟩
  ·have hltz:¬(k:Int)<(l.length:Int):=(by omega);have hk':k=l.length:=(by omega);subst hk';have hD:=HI.o.1;have vK:Hid (∀x∈l,dV x.2.2=false):=(by have:=HI.o.2.2;rw[tK]at this;exact this);rw[tK]at hD;obtain⟨D,hown,h1,h2⟩:=hD;have h1':Hid (∀s,D.atKey (Rs.ZM.lit s) (nd 0)=nd (qN l s)):=h1;have H2:Hid (∀s,Maps.has D (Rs.ZM.lit s)=true↔s∈l.map ky):=h2;have hbl:mb<wr.heap.size:=hown.lt;clear HI h1 h2 hltz hlt hk Qu HL HLB HG;obtain⟨wL,hwL⟩:∃x,x=wr:=⟨wr,rfl⟩;subst hwL;go_wp2_with (first
    | (at_range;refine wpList_range_own _ rfl _ 235 rfl 47 2 Rs.ZM.law Tryz.underlying235 _ mb l.length _ rfl hown ?_;intro w0 hrg0 hg0 hs0)
    | go_in)
   go_frame;go_loopw [8,9] (fun _ _ wr=>∃(left:Lit->Bool) (cnt:Nat) (ss:List Rs.Sm),wr.ranges Tryz.prog 47 (plainElem Tryz.prog 2) mb wL.heap.size l.length D left cnt/\ou Rs.ZM D left ss/\Below wL.heap.size wL wr/\Hid (∀s∈ss,dV (wrap64 (qN l s+CP os c s.1.1 (jW s)))=false))
    (fun _ _ wr=>wr.rangeLeft mb wL.heap.size)
   case atStart=>
    exact⟨_,_,[],hrg0,ou.start D,(Below.refl _ _).grown hg0 (nR _) (fun j hj=>by cases hj),by simp[Hid]⟩
   case round=>
    obtain⟨left,cnt,ss,hrg,hC,hnx,HB⟩:=hrel;have iM:Hid (ss.Nodup->(∀s,s∈ss↔s∈l.map ky)->CO c l=true):=fun _ hA=>by
     unfold CO;rw[bA,List.all_eq_true,List.all_eq_true];refine⟨fun x hx=>by rw[vK.o x hx];rfl,fun x hx=> ?_⟩;have h1:=HB.o (ky x) ((hA (ky x)).2 (List.mem_map_of_mem hx));obtain⟨p,hp,hpl⟩:=HP.o x hx;have hk:ky x=sk p x.2.1:=(by unfold ky;rw[hp,tN]);have ht:jW (sk p x.2.1)=x.2.1:=((kY (p:=p) (t:=x.2.1) (by omega)).1 rfl).2;have ha:(sk p x.2.1).1.1=(p:Int):=(by rw[kv (by omega)]);have hcn:CP os c (p:Int) x.2.1=c p x.2.1:=by
      unfold CP;rw[if_pos (by have:=HOL.o;omega),tN]
     rw[hk,ht,ha,hcn,M8 hN HP.o hpl]at h1;rw[hp,tN];show(!dV (bP (c p) (prt l p) x.2.1))=true;unfold bP;rw[h1];rfl
    go_wp2_with (first
     | (at_next; refine wpList_next_ranges _ rfl _ rfl 47 Rs.ZM.law (plainElem Tryz.prog 2) Rs.mv (Value.int .i64) (fun key kl hk => Wq hk) (fun v y hv=>by obtain⟨c,rfl,_⟩:=plainElem_int_inv Tryz.underlying2 hv;exact⟨c,rfl⟩) mb wL.heap.size l.length _ _ _ rfl hrg ?_ ?_)
     | go_in)
    ·intro hc0 hl0;have hA:=hC.all H2.o hl0;go_wp2;go_ret;refine⟨?_,jG.o.trans (hnx.mono jG.o.size)⟩;rw[iM.o hA.1 hA.2];rfl
    ·intro s0 s1 s2 s3 sp cz kl yd yp w2 cnt2 hkey hlk hv hat hrg2 hlt2 hg2 hs2 hen;obtain⟨x,hx⟩:∃x:Rs.Sm,x=⟨(s0,s1,s2,s3),sp⟩:=⟨_,rfl⟩;have hX:Hid (s0=x.1.1/\s1=(jW x).1.1/\s2=(jW x).1.2.1/\s3=(jW x).1.2.2):=(by rw[hx];exact⟨rfl,rfl,rfl,rfl⟩);rw[<-hx]at hkey hen⊢;clear hx sp s0 s1 s2 s3 hX;obtain rfl:kl=Rs.ZM.lit x:=by
      have h7:=(Rs.ZM.key x).symm.trans hkey;exact(oJ h7).symm
     obtain rfl:cz=qN l x:=by
      obtain⟨c',e1,e2,_⟩:=plainElem_int_inv Tryz.underlying2 hv;have e3:=(h1'.o x).symm.trans (hat _);cases e1;cases e2;simpa using e3.symm
     have HXM:Hid (x∈l.map ky):=(H2.o x).1 (has_true_of_atKey hat);have B2:Below wL.heap.size wL w2:=hnx.grown hg2 hnx.size (fun j hj=>by cases hj;exact nR _);have IQ:=hid (hC.step hlk hat);obtain⟨W3,hW3⟩:=aC (w2.alloc (.cells #[.int .i64 x.1.1, .int .u64 x.1.2.1, .int .u64 x.1.2.2.1, .int .u64 x.1.2.2.2] 47));obtain⟨nb,hnb⟩:=aC (w2.heap.size);have G3:Gr w2 W3:=(by rw[hW3];exact(Gr.refl _).alloc _);have B3:Below wL.heap.size wL W3:=B2.trans (G3.below.mono B2.size);have hco:=HC.o x.1.1 (jW x) W3 (jG.o.trans (B3.mono jG.o.size));have hco:Calls Tryz.prog 36 #[.pointer (some ⟨rb,0,none⟩), .agg #[.int .i64 x.1.1, .int .u64 x.1.2.1, .int .u64 x.1.2.2.1, .int .u64 x.1.2.2.2]] W3 fun e w'=>e= .returned (.int .i64 (CP os c x.1.1 (jW x)))/\Gr W3 w':=hco;have hblk:W3.heap[nb]? =some (.cells #[.int .i64 x.1.1, .int .u64 x.1.2.1, .int .u64 x.1.2.2.1, .int .u64 x.1.2.2.2] 47 (0,0)):=(by rw[hW3,hnb];exact ah _ _);have hnl:nb<W3.heap.size:=(aG.1 hblk).1;have q0:W3.cell? ⟨nb,0,none⟩=some (.int .i64 x.1.1):=(by simp only[World.cell?];rw[hblk];rfl);have q1:W3.cell? ⟨nb,1,none⟩=some (.int .u64 x.1.2.1):=(by simp only[World.cell?];rw[hblk];rfl);have q2:W3.cell? ⟨nb,2,none⟩=some (.int .u64 x.1.2.2.1):=(by simp only[World.cell?];rw[hblk];rfl);have q3:W3.cell? ⟨nb,3,none⟩=some (.int .u64 x.1.2.2.2):=(by simp only[World.cell?];rw[hblk];rfl);have hrg3:=hrg2.kept (row:=none) ⟨G3.below.os,G3.below.tape,G3.below.output,G3.below.size,fun k hk _=>G3.below.block k hk⟩ (by simp) (by simp);have Vo:Hid (dV (wrap64 (CP os c x.1.1 (jW x)+qN l x))=dV (wrap64 (qN l x+CP os c x.1.1 (jW x)))):=congrArg (fun z=>dV (wrap64 z)) (Int.add_comm _ _);have hbe:=uz (wrap64 (CP os c x.1.1 (jW x)+qN l x));have Us:Hid (dV (wrap64 (CP os c x.1.1 (jW x)+qN l x))=true->CO c l=false):=fun hq=>by
      rw[Vo.o]at hq;obtain⟨y,hy,hyx⟩:=mM.1 HXM.o;obtain⟨p,hp,hpl⟩:=HP.o y hy;have hk:x=sk p y.2.1:=(by rw[<-hyx];unfold ky;rw[hp,tN]);have ht:jW (sk p y.2.1)=y.2.1:=((kY (p:=p) (t:=y.2.1) (by omega)).1 rfl).2;have ha:(sk p y.2.1).1.1=(p:Int):=(by rw[kv (by omega)]);have hcn:CP os c (p:Int) y.2.1=c p y.2.1:=by
       unfold CP;rw[if_pos (by have:=HOL.o;omega),tN]
      rw[hk,ht,ha,hcn,M8 hN HP.o hpl]at hq;unfold CO;rw[Bool.and_eq_false_iff];refine Or.inr (List.all_eq_false.2 ⟨y,hy, ?_⟩);rw[hp,tN];have:dV (bP (c p) (prt l p) y.2.1)=true:=hq;simp[this]
     have rY:Hid (dV (wrap64 (CP os c x.1.1 (jW x)+qN l x))=false->∀s∈ss++[x],dV (wrap64 (qN l s+CP os c s.1.1 (jW s)))=false):=fun hq s hs=>by
      rcases j4.1 hs with h|h
      ·exact HB.o s h
      ·rw[yF]at h;rw[h,<-Vo.o];exact hq
     generalize qN l x=sx at *;generalize CP os c x.1.1 (jW x)=fx at *;clear hs2 hblk hrg2 hv hat hkey hlk;cases hq:dV (wrap64 (fx+sx))with
     | true=>
      rw[hq]at hbe;have HF:=hid (Us.o hq);go_wp2_with fail;rw[<-hW3];refine hco.mono ?_;rintro e w4 ⟨rfl,hg4⟩;go_wp2_with (go_at_call 135;refine(hbe _).mono ?_;rintro e w5 ⟨rfl,rfl⟩);go_ret;refine⟨?_,jG.o.trans ((B3.trans (hg4.below.mono B3.size)).mono jG.o.size)⟩;rw[HF.o];rfl
     | false=>
      rw[hq]at hbe;have HF:=hid (rY.o hq);go_wp2_with fail;rw[<-hW3];refine hco.mono ?_;rintro e w4 ⟨rfl,hg4⟩;have B4:Below wL.heap.size wL w4:=B3.trans (hg4.below.mono B3.size);have OZ:=hrg3.kept (row:=none) ⟨hg4.below.os,hg4.below.tape,hg4.below.output,hg4.below.size,fun k hk _=>hg4.below.block k hk⟩ (by simp) (by simp);clear q0 q1 q2 q3 hrg3 hco hg4;go_wp2_with (go_at_call 135;refine(hbe _).mono ?_;rintro e w5 ⟨rfl,rfl⟩);go_roundw;case rel=>exact⟨_,cnt2,ss++[x],OZ,IQ.o,B4,HF.o⟩
      case measure=>rw[OZ.left_eq,hrg.left_eq];exact hlt2
end Rc
namespace Rc
open Go.RowKit Go.Sort Go.Maps Pt Hc
attribute[local go_sem ↓]wp_at_zero wp_at_succ
def fV(N:Nat)(ar:Int):List Th->Int
 | [] => 0
 | x::l => if ¬(0<=x.1/\x.1<(N:Int))then 42 else if bL x.2.1.1.1 x.2.1.1.2.1 x.2.1.1.2.2 ar≠0 then bL x.2.1.1.1 x.2.1.1.2.1 x.2.1.1.2.2 ar else fV N ar l
theorem En:∀{l:List Th},fV N ar l=0->∀x∈l,Vp N x/\bL x.2.1.1.1 x.2.1.1.2.1 x.2.1.1.2.2 ar=0:=by
 intro l
 induction l with
 | nil => intro _ x hx;cases hx
 | cons y l ih=>
  intro h x hx;unfold fV at h;by_cases h1:0<=y.1/\y.1<(N:Int)
  ·rw[if_neg (by simpa using h1)]at h;by_cases h2:bL y.2.1.1.1 y.2.1.1.2.1 y.2.1.1.2.2 ar=0
   ·rw[if_neg (by simpa using h2)]at h;rcases fU.1 hx with rfl|hx
    ·exact⟨⟨x.1.toNat,by omega,by omega⟩,h2⟩
    ·exact ih h x hx
   ·rw[if_pos h2]at h;exact absurd h h2
  ·rw[if_pos h1]at h;cases h
theorem Eo:∀{l:List Th},(∀x∈l,Vp N x/\bL x.2.1.1.1 x.2.1.1.2.1 x.2.1.1.2.2 ar=0)->fV N ar l=0:=by
 intro l
 induction l with
 | nil => intro _;rfl
 | cons y l ih=>
  intro h;obtain⟨⟨p,hp,hl⟩,h2⟩:=h y mX;unfold fV;rw[if_neg (by simpa using(show 0<=y.1/\y.1<(N:Int)by omega)),if_neg (by simpa using h2)];exact ih fun x hx=>h x (mO _ hx)
def iL(N:Nat)(ar:Int)(c:Nat->ai->Int)(l:List Th):Int:=if fV N ar l≠0 then fV N ar l else if CO c l=true then 0 else 12
theorem PG{c:Nat->ai->Int}(l:List Th)(v:Value)(w:World)(hN:N<=192)(hol:os.length=N)(hR:w.heap[rb]? =some (.cells #[.int .i64 ar,sv,rv,ov,cv,uv] 102 (0,0)))(ho:Ls EA w ov os)(hM:∀q mb,os[q]? =some mb->∃tb b cb n v fr,Mu w mb tb b cb n v (c q) fr)(hv:Ls EC w v l)(hl:l.length<=100000000000):
    Calls Tryz.prog 37 #[.pointer (some ⟨rb,0,none⟩),v] w fun e w'=>e= .returned (.int .i64 (iL N ar c l))/\Below w.heap.size w w':=by
 have hmx:Tryz.prog.follows .mixedOrders=true:=by kernel_rfl
 obtain⟨pl,cl,rfl⟩:=hv.form;obtain⟨n,hn⟩:=aC (l.length);rw[<-hn]at hv⊢;have HN:=hid hn;have HL:Hid (Ls EC w (.slice pl n cl) l):=hv;have Zp:Hid (∀(p:Int) (W:World),Below w.heap.size w W->Calls Tryz.prog 40 #[.pointer (some ⟨rb,0,none⟩), .int .i64 p] W fun e w'=>e= .returned (.bool (decide (0<=p)&&decide (p<(N:Int))))/\w'=W):=fun p W hb=>by
  have h:=vD p W ((hb.block rb (ae hR)).trans hR) (ho.below hb);rw[hol]at h;exact h
 have HIR:Hid (∀W:World,Below w.heap.size w W->(∀x∈l,Vp N x)->Calls Tryz.prog 76 #[.pointer (some ⟨rb,0,none⟩), .slice pl n cl] W fun e w'=>e= .returned (.bool (CO c l))/\Below W.heap.size W w'):=fun W hb hp=>by
  refine DY l _ W hN hol ((hb.block rb (ae hR)).trans hR) (ho.below hb) (fun q m hq=> ?_) (hv.below hb) hl hp;obtain⟨tb,b,cb,n,v,fr,h⟩:=hM q m hq;exact⟨tb,b,cb,n,v,fr,h.below hb⟩
 have HR:=hid hR;have hnb:n<=100000000000:=by omega
 clear hv ho hM hn hR hol hl;go_enter Tryz.func37,Tryz.ntmps37;go_wp2_with fail;go_loopw [10] (fun s10 wr=>∃k:Nat,k<=n/\s10= .int .i64 (k:Nat)/\Hid (Below w.heap.size w wr/\fV N ar l=fV N ar (l.drop k)/\∀x∈l.take k,Vp N x)) (fun s10 _=>n-(intOf s10).toNat);case atStart=>exact⟨0,zL _,rfl,Below.refl _ _,rfl,fun x hx=>by simp at hx⟩
 case round=>
  obtain⟨k,hk,rfl,HI⟩:=hrel;by_cases hlt:k<n
  ·have hltz:(k:Int)<(n:Int):=(by omega);have hk0:(0:Int)<=(k:Int):=(by omega);obtain⟨x,hx⟩:∃x,l[k]? =some x:=⟨l[k]'(by have:=HN.o;omega),by simp⟩;obtain⟨b1,o1,c1,e1,z1,x0,x1,x2,x3,x4⟩:=DR (HL.o.below HI.o.1) hx;simp only[vS]at e1;obtain⟨rfl,-,-⟩:=e1;have HDR:Hid (fV N ar l=(if ¬(0<=x.1/\x.1<(N:Int))then 42 else if bL x.2.1.1.1 x.2.1.1.2.1 x.2.1.1.2.2 ar≠0 then bL x.2.1.1.1 x.2.1.1.2.1 x.2.1.1.2.2 ar else fV N ar (l.drop (k+1)))/\l.take (k+1)=l.take k++[x]):=by
    have h1:=HI.o.2.1;have h2:l.drop k=x::l.drop (k+1):=by
     obtain⟨hk,rfl⟩:=lG.1 hx;exact List.drop_eq_getElem_cons hk
    rw[h2]at h1;exact⟨h1,by rw[tO,hx];rfl⟩
   clear hx;obtain⟨yb,hyb⟩:=aC (wr.heap.size);obtain⟨W5,bU⟩:=aC (wr.alloc (.cells (cc x) 49));have P5:Hid (Below w.heap.size w W5/\W5.heap[yb]? =some (.cells (cc x) 49 (0,0))):=by
    have g5:=((Gr.refl wr).alloc (.cells (cc x) 49)).below;rw[bU,hyb];exact⟨HI.o.1.trans (g5.mono HI.o.1.size),ah _ _⟩
   have gZ:Hid (wr.alloc (.cells #[.int .i64 x.1, .int .u64 x.2.1.1.1, .int .u64 x.2.1.1.2.1, .int .u64 x.2.1.1.2.2, .int .i64 x.2.2] 49)=W5/\wr.heap.size=yb):=⟨bU.symm,hyb.symm⟩;have rX:=hid HI.o.2.2;clear bU hyb HI;go_upto_region 4 with fail;rw[gZ.o.1,gZ.o.2];clear gZ x0 x1 x2 x3 x4 z1;obtain⟨y0,y1,y2,y3,y4,yz⟩:=vH P5.o.2;have hha:=Zp.o x.1 W5 P5.o.1;by_cases hp:0<=x.1/\x.1<(N:Int)
   ·have hpb:(decide (0<=x.1)&&decide (x.1<(N:Int)))=true:=(by simp[hp.1,hp.2]);rw[hpb]at hha;go_wp2_with fail;refine hha.mono ?_;rintro e W6 ⟨rfl,hw6⟩;have abv:=hw6.symm;subst abv;clear hw6 hha y0 y1 y2 y3 y4 yz hpb;go_upto_region 6 with fail;have hS0:(fun W:World=>Below W5.heap.size W5 W) W5.drew:=(Gr.refl W5).drew.below;have gG:Hid (∀W,Below W5.heap.size W5 W->W.heap[yb]? =some (.cells (cc x) 49 (0,0))/\W.heap[rb]? =some (.cells #[.int .i64 ar,sv,rv,ov,cv,uv] 102 (0,0))):=fun W hb=>⟨(hb.block _ (ae P5.o.2)).trans P5.o.2,((P5.o.1.trans (hb.mono P5.o.1.size)).block rb (ae HR.o)).trans HR.o⟩;refine ax (S:=fun W:World=>Below W5.heap.size W5 W) (D:=[]) hmx ?_;refine' aj 0 hS0 ?_;refine' aj 1 hS0 ?_;refine' bu 2 hS0 ?h ?_;case h=>(intro W hSw;obtain⟨y0,y1,y2,y3,y4,yz⟩:=vH (gG.o W hSw).1;go_simp;try(with_reducible rfl))
    refine' aj 3 hS0 ?_;refine' bu 4 hS0 ?h ?_;case h=>(intro W hSw;have cr:=(aa (gG.o W hSw).2).1;have lr:=ae (gG.o W hSw).2;go_simp;try(with_reducible rfl))
    refine' bu 5 hS0 ?h ?_;case h=>(intro W hSw;have cr:=(aa (gG.o W hSw).2).1;have lr:=ae (gG.o W hSw).2;go_simp;try(with_reducible rfl))
    refine' bu 6 hS0 ?h ?_;case h=>(intro W hSw;have cr:=(aa (gG.o W hSw).2).1;have lr:=ae (gG.o W hSw).2;go_simp;try(with_reducible rfl))
    refine' bu 7 hS0 ?h ?_;case h=>(intro W hSw;have cr:=(aa (gG.o W hSw).2).1;have lr:=ae (gG.o W hSw).2;go_simp;try(with_reducible rfl))
    refine bF 8 fun K hK=> ?_;go_simp;refine(Fp _ _ _ _ _).mono ?_;rintro e w7 ⟨rfl,g7⟩;have aY:Below W5.heap.size W5 w7:=hS0.trans (g7.below.mono hS0.size);clear g7;go_wp2_with fail;refine hK.o _ _ (fun hD=>aY) ?_;clear hK K;try simp only[Act.put,qI,q0,qS]
    refine' aj 9 aY ?_;refine au (by kernel_rfl) ?_ _;have B7:=hid (P5.o.1.trans (aY.mono P5.o.1.size));have HFT:Hid ((bL x.2.1.1.1 x.2.1.1.2.1 x.2.1.1.2.2 ar≠0->iL N ar c l=bL x.2.1.1.1 x.2.1.1.2.1 x.2.1.1.2.2 ar)/\(bL x.2.1.1.1 x.2.1.1.2.1 x.2.1.1.2.2 ar=0->fV N ar l=fV N ar (l.drop (k+1)))):=by
     have h1:=HDR.o.1;rw[if_neg (by simpa using hp)]at h1;refine⟨fun h=> ?_,fun h=> ?_⟩
     ·rw[if_pos h]at h1;unfold iL;rw[h1,if_pos h]
     ·rw[if_neg (by simpa using h)]at h1;exact h1
    have HVP:Hid (∀y∈l.take (k+1),Vp N y):=fun y hy=>by
     rw[HDR.o.2]at hy;rcases j4.1 hy with h|h
     ·exact rX.o y h
     ·rw[yF]at h;rw[h];exact⟨x.1.toNat,by omega,by omega⟩
    generalize bL x.2.1.1.1 x.2.1.1.2.1 x.2.1.1.2.2 ar=ft at HFT⊢;clear hS0 aY gG HDR rX P5 hp;by_cases hf:ft=0
    ·subst hf;have Uu:=hid (HFT.o.2 rfl);clear HFT;go_wp2_with fail;go_roundw;case rel=>exact⟨k+1,by omega,by go_num,B7.o,Uu.o,HVP.o⟩
     case measure=>simp[intOf];omega
    ·have Uu:=hid (HFT.o.1 hf);have hfb:(ft==0)=false:=(by rw[beq_eq_false_iff_ne];exact hf);clear HFT;go_wp2_with fail;go_ret;refine⟨?_,B7.o⟩;rw[Uu.o];rfl
   ·have hpb:(decide (0<=x.1)&&decide (x.1<(N:Int)))=false:=by
      by_cases k1:0<=x.1
      ·have k2:¬x.1<(N:Int):=fun h=>hp ⟨k1,h⟩;simp[k2]
      ·simp[k1]
    rw[hpb]at hha;have Uu:Hid (iL N ar c l=42):=by
     have h1:=HDR.o.1;rw[if_pos hp]at h1;unfold iL;rw[h1,if_pos (by decide)];exact rfl
    have B7:=hid P5.o.1;clear hp hpb HDR P5;go_wp2_with fail;refine hha.mono ?_;rintro e W6 ⟨rfl,hw6⟩;subst hw6;go_wp2_with fail;go_ret;refine⟨?_,B7.o⟩;rw[Uu.o];rfl
  ·have hltz:¬(k:Int)<(n:Int):=(by omega);have HE:Hid (Below w.heap.size w wr/\fV N ar l=0/\∀x∈l,Vp N x):=by
    obtain⟨h1,h2,h3⟩:=HI.o;have e:l.length<=k:=(by have:=HN.o;omega);rw[List.drop_eq_nil_of_le e]at h2;rw[tL e]at h3;exact⟨h1,h2,h3⟩
   have hir:=HIR.o wr HE.o.1 HE.o.2.2;have FL:Hid (iL N ar c l=if CO c l=true then 0 else 12):=by
    unfold iL;rw[HE.o.2.1,if_neg (by decide)];exact rfl
   generalize CO c l=ok at hir FL;clear HI;cases ok with
   | true=>
    go_wp2_with fail;refine hir.mono ?_;rintro e w9 ⟨rfl,h9⟩;have B9:=hid (HE.o.1.trans (h9.mono HE.o.1.size));clear h9;go_wp2_with fail;go_ret;refine⟨?_,B9.o⟩;rw[FL.o];rfl
   | false=>
    go_wp2_with fail;refine hir.mono ?_;rintro e w9 ⟨rfl,h9⟩;have B9:=hid (HE.o.1.trans (h9.mono HE.o.1.size));clear h9;go_wp2_with fail;go_ret;refine⟨?_,B9.o⟩;rw[FL.o];rfl
def cA(N:Nat)(t:Nat->Nat)(k:Nat):Nat:=if 3<=t k/\t k<3+2*N then t k else 0
theorem Yd(h:t k<3):cA N t k=0:=by unfold cA;rw[if_neg (by omega)]
theorem U9(h:t k=j)(h1:3<=j)(h2:j<3+2*N):cA N t k=j:=by unfold cA;rw[if_pos (by omega),h]
theorem Ak(h:cA N t k≠0):3<=t k/\t k<3+2*N/\cA N t k=t k:=by
 unfold cA at h⊢;split at h
 ·rename_i k;rw[if_pos k];exact⟨k.1,k.2,rfl⟩
 ·exact absurd rfl h
def cS(N:Nat)(t:Nat->Nat)(k:Nat):Nat:=if 3+N<=t k then 0 else t k
theorem Qf(h:t k=j)(h2:j<3+N):cS N t k=j:=by unfold cS;rw[if_neg (by omega),h]
theorem Qe(h:cS N t k≠0):t k≠0/\t k<3+N/\cS N t k=t k:=by
 unfold cS at h⊢;split at h
 ·exact absurd rfl h
 ·rename_i k;rw[if_neg k];exact⟨h,by omega,rfl⟩
def Chn(w:World)(t:Nat->Nat)(rb:Nat)(ar:Int)(N:Nat)(L:Nat->List (Nat×ai))(R:Nat->Nat->List ai)(rs:List Nat)(c:Nat->ai->Int)(K F:Nat->List ai)(l:List Th)(w':World):Prop:=
 ∃On Cn Fn t',Ev N L R (lL c l) (BG K l) On Cn Fn/\Rq w' t' rb ar N L rs (lL c l) (BG K l) On Cn Fn (MC N F Fn)/\Kp (fun k=>t k=2\/(3<=t k/\t k<3+2*N)) w w'/\∀k,k<w.heap.size->t' k=t k
def Chg(w:World)(t:Nat->Nat)(rb:Nat)(ar:Int)(N:Nat)(L:Nat->List (Nat×ai))(R:Nat->Nat->List ai)(rs:List Nat)(c:Nat->ai->Int)(K F:Nat->List ai)(l:List Th)(e:Ending)(w':World):Prop:=
 e= .returned (.int .i64 (iL N ar c l))/\((iL N ar c l≠0/\Below w.heap.size w w')\/(iL N ar c l=0/\Chn w t rb ar N L R rs c K F l w'))
theorem Iy{L:Nat->List (Nat×ai)}{St:Nat->Nat->ai->Prop}{R:Nat->Nat->List ai}{rs:List Nat}{c:Nat->ai->Int}{K O:Nat->List ai}{C:Nat->ai->Int}{F:Nat->List ai}{U:List Th}{T E Z B:Nat}(l:List Th)(v:Value)(w:World)(hQ:Rq w t rb ar N L rs c K O C F U)(Ic:Ev N L R c K O C F)(ht:CQ N L St R)(xC:rQ N L (mW N (mf rs)))(hr:∀x∈rs,x<=N)(hv:Ls EC w v l)(hm:Rm N L T E Z B)
    (hK:sN (fun p=>(K p).length) (List.range N)+l.length<=T):Calls Tryz.prog 10 #[.pointer (some ⟨rb,0,none⟩),v] w fun e w'=>Hid (Chg w t rb ar N L R rs c K F l e w'):=by
 obtain⟨sv,rv,ov,cv,uv,os,ms,h1,h2,h3⟩:=hQ;have hN:=hm.hN;have htt:=hm.t;have hll:l.length<=100000000000:=by omega
 have Zq:=hid (PG (c:=c) l v w hN h1.ol h1.blk h1.ow.1 (fun q m hq=>by
  obtain⟨tb,b,cb,v,k1,_⟩:=h2 q m hq;exact⟨tb,b,cb,_,v,_,k1⟩) hv hll)
 by_cases hz:iL N ar c l=0
 ·have hfl:fV N ar l=0/\CO c l=true:=by
    unfold iL at hz;by_cases k:fV N ar l=0
    ·rw[if_neg (by simpa using k)]at hz;refine⟨k, ?_⟩;by_cases k2:CO c l=true
     ·exact k2
     ·rw[if_neg k2]at hz;cases hz
    ·rw[if_pos k]at hz;exact absurd hz k
  have hvp:∀x∈l,Vp N x:=fun x hx=>(En hfl.1 x hx).1;have hbad:=(Jl (c:=c) hvp).1 hfl.2;have aae:∀p,p<N->(K p).length+(prt l p).length<=T:=fun p hp=>by
   have e1:=kz (f:=fun q=>(K q).length) (mR.2 hp);have e2:=qR l p;omega
  have hK2:sN (fun p=>(BG K l p).length) (List.range N)<=T:=by
   have e1:(fun p=>(BG K l p).length)=fun p=>(K p).length+(prt l p).length:=by
    funext p
    unfold BG;rw[dO,gK]
   rw[e1,mV];have e2:=je l (fun x=>x.1.toNat) N;have e3:sN (fun p=>(prt l p).length) (List.range N)<=sN (fun q=>(l.filter fun s=>decide (s.1.toNat=q)).length) (List.range N):=kC fun p _=>by
    unfold prt;rw[gK,<-List.countP_eq_length_filter,<-List.countP_eq_length_filter];refine List.countP_mono_left fun x _ hx=> ?_;have:x.1=(p:Int):=(by simpa using hx);simp[this]
   omega
  obtain⟨On,Cn,Fn,Xv,TB,hwl,hFl,hSp⟩:=X8 ht xC h1.rl hr Ic l hbad hm (by omega) hK2;have abd:Adp N rs os ms l (fun p=>(K p).length) c O On (2*T):=⟨hN,h1.ol,h1.ml,h1.rl,hr,hll,hvp,hbad,fun p hp=>by have:=aae p hp;omega,Xv,Ic.own,Ic.bd,hwl,by omega⟩;have HAD:Hid (∀W,Below w.heap.size w W->Calls Tryz.prog 39 #[.pointer (some ⟨rb,0,none⟩),v] W fun e w'=>Hid (Adn W (tg (cA N t) w 0) rb ar sv rv ov cv uv N L rs os ms l (fun p=>(K p).length) c O On C F e w')):=fun W hb=>by
   have hK:=Kp.of_below (S:=fun _=>False) hb;have hT:∀k,k<w.heap.size->tg (cA N t) w 0 k=cA N t k:=fun k hk=>ak hk;refine oV W abd (hv.below hb) ((h1.rd (fun k e=>Yd (by omega)) (fun k e=>Yd (by omega))).keep hK (fun _ _ h=>h.elim) hT) ((h1.ow.retag fun k e=>Yd (by omega)).keep hK (fun _ _ h=>h.elim) hT) (fun p mb hp=> ?_) (fun p mb hp=> ?_)
   ·have hpl:=(lG.1 hp).1;have:=h1.ol;exact((h2 p mb hp).retag fun k e=>U9 e (by omega) (by omega)).keep hK (fun _ _ h=>h.elim) hT
   ·have hpl:=(lG.1 hp).1;have:=h1.ml;exact(h3 p mb hp).imp fun n hn=>(hn.retag fun k e=>U9 e (by omega) (by omega)).keep hK (fun _ _ h=>h.elim) hT
  have J2:Hid (∀(W:World) (hb:Nat) (tag:Nat->Nat) (Q:List It),Rd W tag rb ar sv rv ov cv uv N L rs ms->Hm W tag hb (wv ar sv rv) (kR N rs) Q Q.length->(wq Q).Perm (oz (zF O On) (List.range N))->(∀y∈Q,Vq N y)->(∀p mb,ms[p]? =some mb->∃n,Ml W tag (3+p) mb n (C p) (F p))->
      Calls Tryz.prog 38 #[.pointer (some ⟨rb,0,none⟩), .pointer (some ⟨hb,0,none⟩)] W fun e w'=>Hid (Spn W (cS N tag) rb ar sv rv ov cv uv N L rs ms (MW N L O F On Fn) F Cn Fn e w')):=fun W hb tag Q k1 k2 k3 k4 k5=>by
   have hsp:=hSp ms Q h1.ml k3 k4;have hrd:Rd W (cS N tag) rb ar sv rv ov cv uv N L rs ms:=by
    obtain⟨us,u1,u2,u3⟩:=k1.st;have z:∀k,tag k=0->cS N tag k=0:=fun k e=>Qf e (by omega);exact⟨k1.blk,⟨us,u1,u2,fun p x hx=>⟨(u3 p x hx).1,fun k hk=>z k ((u3 p x hx).2 k hk)⟩⟩,k1.rk,k1.cm,z _ k1.tb,fun k hk=>z k (k1.ts k hk),fun k hk=>z k (k1.tr k hk),fun k hk=>z k (k1.tc k hk)⟩
   refine Gf ZV W hsp hrd (k2.retag fun k e=>Qf e (by omega)) fun p mb hp=> ?_;have hpl:=(lG.1 hp).1;have ru:=h1.ml;obtain⟨n,hn⟩:=k5 p mb hp;refine(hn.retag fun k e=>Qf (N:=N) e (by omega)).tight fun u hu=>hsp.sup p u (by omega) (.inl ?_);have:=hsp.bo p u (by omega);omega
  have H1:=hid h1;have H2:=hid h2;have HEV:=hid Ic;have abb:=hid TB;have Zm:Hid (∀p,p<N->(F p).Nodup/\(Fn p).Nodup):=fun p hp=>⟨(Ic.yI.fr p hp).nodup,(TB.yI.fr p hp).nodup⟩;have HTI:Hid (∀p mb W tag n,os[p]? =some mb->Ml W tag (3+N+p) mb n (lL c l p) (On p)->Ml W tag (3+N+p) mb (BG K l p).length (lL c l p) (On p)):=fun p mb W tag n hp h=>by
   have hpl:=(lG.1 hp).1;have:=h1.ol;exact h.tight fun u hu=>TB.kp p u (by omega) hu
  have HZ:=hid hz;rw[hz]at Zq;clear h1 h2 h3 Ic TB hv hvp hbad aae hK2 Xv hwl hFl hSp abd hz hfl ht xC hr hm hK htt hll;go_enter Tryz.func10,Tryz.ntmps10;go_wp2_with fail;refine Zq.o.mono ?_;rintro e w2 ⟨rfl,hb2⟩;have HB2:=hid hb2;have had:=HAD.o w2 hb2;clear hb2 Zq HAD;go_wp2_with fail;refine had.mono ?_;clear had;rintro e w4 h4;obtain⟨hb,si,Q,rfl,a1,a2,a3,a4,a5,a6,a7,a8⟩:=h4.o;have hsp:=J2.o w4 hb si Q a1 a2 a3 a4 a6;have H4:Hid ((∀p mb,os[p]? =some mb->Ml w4 si (3+N+p) mb (BG K l p).length (lL c l p) (On p))/\Kp (fun k=>tg (cA N t) w 0 k≠0) w2 w4/\∀k,k<w2.heap.size->si k=tg (cA N t) w 0 k):=⟨fun p mb hp=>HTI.o p mb _ _ _ hp (a5 p mb hp),a7,a8⟩;clear h4 a1 a2 a3 a4 a5 a6 a7 a8 J2;go_wp2_with fail;refine hsp.mono ?_;clear hsp;rintro e w5 h5;obtain⟨vl,ks,mD,he5,s1,s2,s3,s4,s5,s6,s7⟩:=h5.o;obtain⟨vq,vm,vc,hvl⟩:=Df.aB s2;rw[hvl]at he5;subst he5;rw[hvl]at s2 s7;clear hvl;have H5:Hid (∃t',Rw w5 t' rb ar sv rv ov cv uv N L rs os ms U/\Lm EC w5 t' 0 (.slice vq vm vc) (MC N F Fn)/\(∀p mb,os[p]? =some mb->Ml w5 t' (3+N+p) mb (BG K l p).length (lL c l p) (On p))/\(∀p mb,ms[p]? =some mb->∃n,Ml w5 t' (3+p) mb n (Cn p) (Fn p))/\Kp (fun k=>3<=t k/\t k<3+2*N) w w5/\∀k,k<w.heap.size->t' k=t k):=by
   rw[X7 hN (fun p hp=>(Zm.o p hp).1) (fun p hp=>(Zm.o p hp).2) s1]at s2;have z2:w.heap.size<=w2.heap.size:=HB2.o.size;have z24:w2.heap.size<=w4.heap.size:=H4.o.2.1.size;have z45:w4.heap.size<=w5.heap.size:=s5.size;have t4:∀k,k<w.heap.size->si k=cA N t k:=fun k hk=>(by rw[H4.o.2.2 k (by omega),ak hk]);have K5:Kp (fun k=>3<=t k/\t k<3+2*N) w w5:=by
    refine((Kp.of_below (S:=fun k=>3<=t k/\t k<3+2*N) HB2.o).trans H4.o.2.1 fun k hk e=> ?_).trans s5 fun k hk e=> ?_
    ·rw[ak hk]at e;exact⟨(Ak e).1,(Ak e).2.1⟩
    ·have e2:=(Qe e).1;rw[t4 k hk]at e2;exact⟨(Ak e2).1,(Ak e2).2.1⟩
   refine⟨fun k=>if k<w.heap.size then t k else if k<w4.heap.size then si k else mD k, ?_, ?_,fun p mb hp=> ?_,fun p mb hp=> ?_,K5,fun k hk=>if_pos hk⟩
   ·exact H1.o.keep K5 (fun k hk e=>⟨by omega,by omega⟩) (fun k hk=>if_pos hk)
   ·refine⟨aH (E:=EC) s2,fun k hk=> ?_⟩;have hge:=ja s2 hk;show(if k<w.heap.size then t k else if k<w4.heap.size then si k else mD k)=0;rw[if_neg (by omega),if_neg (by omega)];exact s7 k hk
   ·have hpl:=(lG.1 hp).1;have hol:=H1.o.ol;have hm:=(H4.o.1 p mb hp).keep (tag':=fun k=>if k<w4.heap.size then si k else mD k) s5 (fun k hk e=>by have:=(Qe e).2.1;omega) (fun k hk=>if_pos hk);refine hm.retag fun k e=> ?_;show(if k<w.heap.size then t k else if k<w4.heap.size then si k else mD k)=3+N+p;by_cases hk:k<w.heap.size
    ·rw[if_pos hk];have e':(if k<w4.heap.size then si k else mD k)=3+N+p:=e;rw[if_pos (by omega),t4 k hk]at e';have:=(Ak (N:=N) (t:=t) (k:=k) (by omega)).2.2;omega
    ·rw[if_neg hk];exact e
   ·have hpl:=(lG.1 hp).1;have ru:=H1.o.ml;refine⟨_,(s4 p mb hp).retag fun k e=> ?_⟩;show(if k<w.heap.size then t k else if k<w4.heap.size then si k else mD k)=3+p;by_cases hk4:k<w4.heap.size
    ·rw[s6 k hk4]at e;have e4:=(Qe (N:=N) (t:=si) (k:=k) (by omega)).2.2;by_cases hk:k<w.heap.size
     ·rw[if_pos hk];have e5:=t4 k hk;have:=(Ak (N:=N) (t:=t) (k:=k) (by omega)).2.2;omega
     ·rw[if_neg hk,if_pos hk4];omega
    ·rw[if_neg (by omega),if_neg hk4];exact e
  clear h5 s1 s2 s3 s4 s5 s6 s7 H4 HB2 Zm HTI H1 H2;obtain⟨t',r1,r2,r3,r4,r5,r6⟩:=H5.o;obtain⟨q1,q2⟩:=r1.turn r2;have HE:Hid (Chg w t rb ar N L R rs c K F l (.returned (.int .i64 0)) (w5.setCell ⟨rb,5,none⟩ (.slice vq vm vc))):=by
   have hz:=HZ.o;have htb:t' rb=2:=r1.tb;have h0:∀j,j≠2->∀k,k<w5.heap.size->k=rb->t' k≠j:=fun j hj k _ e e2=>(by rw[e,htb]at e2;exact hj e2.symm);refine⟨by rw[hz], .inr ⟨hz,On,Cn,Fn,t',abb.o,⟨sv,rv,ov,cv,_,os,ms,q1,fun p mb hp=>(r3 p mb hp).keep q2 (h0 _ (by omega)) (fun _ _=>rfl),fun p mb hp=>(r4 p mb hp).imp fun n hn=>hn.keep q2 (h0 _ (by omega)) (fun _ _=>rfl)⟩, ?_,r6⟩⟩;refine(r5.mono fun k hk=> .inr hk).trans q2 fun k hk e=> .inl ?_;rw[<-r6 k hk,e];exact htb
  have c5:=(aa r1.blk).1;have f5:=(aa r1.blk).2;have l5:=ae r1.blk;clear r1 r2 r3 r4 r5 r6 q1 q2 H5 HEV abb HZ;go_wp2_with fail;go_ret;exact HE
 ·have HE:Hid (∀w',Below w.heap.size w w'->Chg w t rb ar N L R rs c K F l (.returned (.int .i64 (iL N ar c l))) w'):=fun w' hb=>⟨rfl, .inl ⟨hz,hb⟩⟩;clear h1 h2 h3 Ic hv ht xC hr hm hK htt hll;generalize iL N ar c l=z at hz Zq HE;have hzb:(z==0)=false:=by rw[beq_eq_false_iff_ne];exact hz
  go_enter Tryz.func10,Tryz.ntmps10;go_wp2_with fail;refine Zq.o.mono ?_;rintro e w2 ⟨rfl,hb2⟩;have HB2:=hid hb2;clear hb2 Zq;go_wp2_with fail;go_ret;exact HE.o _ HB2.o
end Rc
end Go.Proofs.YtiiefcalkjeieaaGreat
