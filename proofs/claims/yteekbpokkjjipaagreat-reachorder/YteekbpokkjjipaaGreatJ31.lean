import Derived.Test.YteekbpokkjjipaaGreatJ29
variable{N k rb T j:Nat}{t:Nat->Nat}{ar:Int}{sv rv ov cv uv:Go.Value}{rs os:List Nat}
set_option maxHeartbeats 16000000
set_option maxRecDepth 100000
namespace Go.Proofs.YteekbpokkjjipaaGreat
namespace Rc
open Go.RowKit Go.Sort Go.Maps Pt Hc
open Lf (Fw)
open Df (LV EL aF aH)
attribute[local go_sem ↓]wp_at_zero wp_at_succ
def Gd(nn:Nat->Nat)(l:List Th)(p:Nat):Nat:=nn p+2*(prt l p).length
def Adn(w:World)(aK:Nat->Nat)(rb:Nat)(ar:Int)(sv rv ov cv uv:Value)(N:Nat)(L:Nat->List (Nat×ah))(rs os ms:List Nat)(l:List Th)(nn:Nat->Nat)(c:Nat->ah->Int)(O On:Nat->List ah)(C:Nat->ah->Int)(F:Nat->List ah)(e:Ending)(w':World):Prop:=
 ∃hb tag Q,e= .returned (.pointer (some ⟨hb,0,none⟩))/\Rd w' tag rb ar sv rv ov cv uv N L rs ms/\Hm w' tag hb (wv ar sv rv) (kL N rs) Q Q.length/\(wq Q).Perm (nQ (za O On) (List.range N))/\(∀y∈Q,Vq N y)/\
  (∀p mb,os[p]? =some mb->Ml w' tag (3+N+p) mb (Gd nn l p) (lH c l p) (On p))/\(∀p mb,ms[p]? =some mb->∃n,Ml w' tag (3+p) mb n (C p) (F p))/\Kp (fun k=>aK k≠0) w w'/\∀k,k<w.heap.size->tag k=aK k
structure Adp(N:Nat)(rs os ms:List Nat)(l:List Th)(nn:Nat->Nat)(c:Nat->ah->Int)(O On:Nat->List ah)(T:Nat):Prop where
 hN:N<=192
 ol:os.length=N
 ml:ms.length=N
 rl:rs.length=N
 hr:∀x∈rs,x<=N
 ll:l.length<=100000000000
 pl:∀x∈l,Vp N x
 bad:∀p,p<N->bad (c p) (prt l p)=false
 nb:∀p,p<N->nn p+2*(prt l p).length+1<=2199023255552
 on:∀p,p<N->fJ (lH c l p) (On p)
 ofr:∀p,p<N->fJ (c p) (O p)
 bd:∀p t,p<N->-2147483647<=c p t/\c p t<=2147483647
 wl:(nQ (za O On) (List.range N)).length<=T
 ht:T<=1099511627776
theorem oM{aK:Nat->Nat}{lv:Value}{L:Nat->List (Nat×ah)}{ms:List Nat}{l:List Th}{nn:Nat->Nat}{c C:Nat->ah->Int}{O On F:Nat->List ah}(w:World)(hP:Adp N rs os ms l nn c O On T)(hl:Ls EC w lv l)
    (hR:Rd w aK rb ar sv rv ov cv uv N L rs ms) (hO:Lm EA w aK 0 ov os) (hM:∀p mb,os[p]? =some mb->Ml w aK (3+N+p) mb (nn p) (c p) (O p)) (hC:∀p mb,ms[p]? =some mb->∃n,Ml w aK (3+p) mb n (C p) (F p)) :
    Calls Tryz.prog 39 #[.pointer (some ⟨rb,0,none⟩),lv] w fun e w'=>Hid (Adn w aK rb ar sv rv ov cv uv N L rs os ms l nn c O On C F e w'):=by
 have hmx:Tryz.prog.follows .mixedOrders=true:=by kernel_rfl
 have HP:=hid hP;have HR:=hid hR;have HO:=hid hO;have HM:=hid hM;have HC:=hid hC;have BU:Hid (∀W,Below w.heap.size w W->Calls Tryz.prog 42 #[.pointer (some ⟨rb,0,none⟩)] W fun e w'=>e= .returned (.int .i64 (N:Nat))/\w'=W):=fun W hW=>by
  have h:=dU W ((hW.block rb (ae hR.blk)).trans hR.blk) (hO.1.below hW);rw[hP.ol]at h;exact h
 obtain⟨lp,lc,rfl⟩:=hl.form;obtain⟨n,hn⟩:=aD (l.length);rw[<-hn]at hl⊢;have vD:Hid (Ls EC w (.slice lp n lc) l):=hl;have HN:=hid hn;have hN:=hP.hN;have hnb:n<=100000000000:=by have:=hP.ll;omega
 clear hP hR hO hM hC hl hn;obtain⟨i0,hi0,hz0,hz1,hz2⟩:=info_parts RV;go_enter Tryz.func39,Tryz.ntmps39;go_wp2_with fail;refine(BU.o w (Below.refl _ _)).mono ?_;rintro e w1 ⟨rfl,hw1⟩;have hw2:=hw1.symm;subst hw2;clear hw1;go_upto_region 2 with(at_make;refine wpList_make_full _ rfl _ _ 171 rfl w.heap.size 159 i0 (.slice none 0 0) 1 Tryz.underlying171 hi0 hz0 hz1 _ _ _ _ N rfl rfl rfl rfl (by rw[hz2];omega) (by unfold maxLen;omega) (nR _) ?_;intro w2 hrow hg1);have hb2:Below w.heap.size w w2:=(Kp.grownBy (S:=fun _=>False) hg1 (fun _ h=>by cases h)).below (nR _) (fun _ h=>h.elim);have S2:Hid (Ad w N w.heap.size [] w2):=⟨_,(Fw.made ED 163 159 hrow).re (fun k _=>rfl),by simp,hb2⟩;obtain⟨gg,hgg⟩:=aD (w.heap.size);rw[<-hgg]at S2⊢;clear hrow hg1 hi0 hz0 hz1 hz2 hb2;have HGG:=hid hgg;clear hgg;go_wp2_with fail;go_loopw [19] (fun s19 wr=>∃i:Nat,i<=n/\s19= .int .i64 (i:Nat)/\Hid (Ad w N gg (l.take i) wr)) (fun s19 _=>n-(intOf s19).toNat);case atStart=>exact⟨0,zL _,rfl,S2.o⟩
 case round=>
  clear S2;obtain⟨i,hi,rfl,HI⟩:=hrel;by_cases hlt:i<n
  ·have hltz:(i:Int)<(n:Int):=(by omega);have hi1:(0:Int)<=(i:Int):=(by omega);obtain⟨y,hy⟩:∃y,l[i]? =some y:=⟨l[i]'(by have:=HN.o;omega),by simp⟩;have HY:=hid hy;obtain⟨fr,aab,hfn⟩:=HP.o.pl y (lM hy);have BV:=hid aab;have hb3:Below w.heap.size w wr:=(by obtain⟨_,_,_,h⟩:=HI.o;exact h);obtain⟨b1,o1,q1,fO,rP,x0,x1,x2,x3,x4⟩:=sw (vD.o.below hb3) hy;simp only[vS]at fO;obtain⟨rfl,-,-⟩:=fO;clear hy aab hb3;obtain⟨yb,hyb⟩:=aD (wr.heap.size);obtain⟨W5,bV⟩:=aD (wr.alloc (.cells (cc y) 49));have P5:Hid (Ad w N gg (l.take i) W5/\W5.heap[yb]? =some (.cells (cc y) 49 (0,0))):=by
    have g5:=((Gr.refl wr).alloc (.cells (cc y) 49)).below;rw[bV,hyb];exact⟨HI.o.below g5,ai _ _⟩
   have gU:Hid (wr.alloc (.cells #[.int .i64 y.1, .int .u64 y.2.1.1.1, .int .u64 y.2.1.1.2.1, .int .u64 y.2.1.1.2.2, .int .i64 y.2.2] 49)=W5/\wr.heap.size=yb):=⟨bV.symm,hyb.symm⟩;clear bV hyb HI;go_upto_region 5 with fail;rw[gU.o.1,gU.o.2];clear gU x0 x1 x2 x3 x4 rP;obtain⟨pl,hpl⟩:=aD (l.take i);have uu:Hid (pl++[y]=l.take (i+1)):=(by rw[hpl,tO,HY.o];rfl);have hpn:pl.length<=100000000000:=by
    have:=HP.o.ll;rw[hpl,lK];omega
   rw[<-hpl]at P5;clear hpl;obtain⟨vs,⟨xq,xm,xc⟩,f1,f2,f3,f4,f5,f6,f7⟩:=P5.o.1.cell hfn;have HF:Hid (Fw ED 163 159 w.heap.size W5 (.slice (some ⟨gg,0,none⟩) N N) vs (prt pl)/\vs.length=N/\vs[fr]? =some ⟨xq,xm,xc⟩):=⟨f1,f2,f4⟩;have BZ:=hid f3;have jd:=hid f3.size;have K3:Hid (W5.cell? ⟨gg,fr,none⟩=some (.slice xq xm xc)/\gg<W5.heap.size):=⟨f5,f6⟩;have HD:=hid P5.o.2;obtain⟨LL,mg⟩:=aD (prt pl fr);have hll:=qP pl fr;rw[<-mg]at f7 hll;have HRW:=hid f7;have uM:Hid (LL=prt pl fr/\LL.length<=100000000000):=⟨mg,nT hll hpn⟩;have hf0:(0:Int)<=(fr:Int):=(by omega);have hfz:(fr:Int)<(N:Int):=(by omega);clear f1 f2 f3 f4 f5 f6 f7 mg hll hpn P5;have hB0:Below W5.heap.size W5 W5.drew:=(Gr.refl W5).drew.below;have gz:Hid (∀W,Below W5.heap.size W5 W->W.cell? ⟨gg,fr,none⟩=some (.slice xq xm xc)/\gg<W.heap.size/\W.heap[yb]? =some (.cells (cc y) 49 (0,0))):=fun W hb=>⟨(hb.cell (p:=⟨gg,fr,none⟩) K3.o.2).trans K3.o.1,nL K3.o.2 hb.size,(hb.block _ (ae HD.o)).trans HD.o⟩;have hS0:=gz.o _ hB0;refine ay (S:=fun W=>W.cell? ⟨gg,fr,none⟩=some (.slice xq xm xc)/\gg<W.heap.size/\W.heap[yb]? =some (.cells (cc y) 49 (0,0))) (D:=[19]) hmx ?_;refine' av 0 hS0 ?_;refine' av 1 hS0 ?_;refine' av 2 hS0 ?_;refine' bB 3 hS0 ?h ?_;case h=>(intro W hSw;obtain⟨y0,y1,y2,y3,y4,yz⟩:=vz hSw.2.2;rw[BV.o]at y0;go_simp;try(with_reducible rfl))
   refine' av 4 hS0 ?_;refine' av 5 hS0 ?_;refine' av 6 hS0 ?_;refine' bB 7 hS0 ?h ?_;case h=>(intro W hSw;obtain⟨y0,y1,y2,y3,y4,yz⟩:=vz hSw.2.2;rw[BV.o]at y0;go_simp;try(with_reducible rfl))
   refine' av 8 hS0 ?_;refine' bB 9 hS0 ?h ?_;case h=>(intro W hSw;have hc:=hSw.1;have hl:=hSw.2.1;go_simp;try(with_reducible rfl))
   refine' av 10 hS0 ?_;refine' av 11 hS0 ?_;refine' bB 12 hS0 ?h ?_;case h=>(intro W hSw;obtain⟨y0,y1,y2,y3,y4,yz⟩:=vz hSw.2.2;rw[BV.o]at y0;go_simp;try(with_reducible rfl))
   refine' av 13 hS0 ?_;refine' bB 14 hS0 ?h ?_;case h=>(intro W hSw;obtain⟨y0,y1,y2,y3,y4,yz⟩:=vz hSw.2.2;rw[BV.o]at y0;go_simp;try(with_reducible rfl))
   refine' av 15 hS0 ?_;refine bN 16 fun K hK=> ?_;go_simp;have iP:Below W5.heap.size W5 (W5.drew.alloc (.cells #[.int .u64 y.2.1.1.1, .int .u64 y.2.1.1.2.1, .int .u64 y.2.1.1.2.2, .int .i64 y.2.2] 163)):=hB0.trans (((Gr.refl W5.drew).alloc _).below.mono hB0.size);refine hK.o _ _ (fun hD=>(gz.o _ iP)) ?_;clear hK K;try simp only[Act.put,qI,q0,qS]
   refine bN 17 fun K hK=> ?_;refine bQ ED Tryz.underlying159 Gq rfl (by decide) rfl _ _ rfl w.heap.size (.slice xq xm xc) LL.length (fl ED LL) rfl (ag HRW.o hB0) (y.2.1,y.2.2) (by first|rfl|simp) (by have:=uM.o.2;omega) (by have:=uM.o.2;unfold maxLen;omega) (nT jd.o hB0.size) #[.int .u64 y.2.1.1.1, .int .u64 y.2.1.1.2.1, .int .u64 y.2.1.1.2.2, .int .i64 y.2.2] rfl _ ?_;intro g8 bC w8 h8 k8 n8;have ST:Hid (Ad w N gg (pl++[y]) (w8.setCell ⟨gg,fr,none⟩ (.slice (some ⟨g8,0,none⟩) (LL.length+1) bC))):=by
    have hf:=HF.o.1.below hB0;rw[uM.o.1]at h8⊢;obtain⟨h1,h2⟩:=hf.step (by decide) HF.o.2.2 (by rw[HF.o.2.1]) h8.o k8.o n8.o;exact⟨_,h1.re (fun k _=>(Dc pl y fr k BV.o).symm),by rw[lZ];exact HF.o.2.1,(BZ.o.trans (hB0.mono BZ.o.size)).trans (h2.below (nT BZ.o.size hB0.size) (hf.blocks HF.o.2.2))⟩
   have dM:=(Kp.grownBy (S:=fun k=>(Value.slice xq xm xc).ownBlock=some k) k8.o (fun _ h=>h));have F8:Hid (w8.frozen? ⟨gg,fr,none⟩=false/\gg<w8.heap.size/\w8.cell? ⟨gg,fr,none⟩=some (.slice xq xm xc)/\w8.heap[yb]? =some (.cells (cc y) 49 (0,0))):=by
    have hf:=HF.o.1.below hB0;have hne:=aF hf.row (hf.each fr _ HF.o.2.2) (by decide);have Jm:=ax dM hf.row (fun j e e2=>hne j e e2);rw[HF.o.2.1]at Jm;exact⟨Jm.frozenAt _,nL K3.o.2 (nT hB0.size dM.size),(dM.cell (nL K3.o.2 hB0.size) (fun e=>hne gg rfl e)).trans ((hB0.cell (p:=⟨gg,fr,none⟩) K3.o.2).trans K3.o.1),(dM.block _ (nL (ae HD.o) hB0.size) (fun e=>aH (ag HRW.o hB0) (gz.o _ hB0).2.2 (by decide) yb e rfl)).trans (gz.o _ hB0).2.2⟩
   clear h8 k8 n8 dM;generalize LL.length+1=ll at ST⊢;refine hK.o _ _ (fun hD=>⟨F8.o.2.2.1,F8.o.2.1,F8.o.2.2.2⟩) ?_;clear hK K;try simp only[Act.put,qI,q0,qS]
   refine' av 18 ⟨F8.o.2.2.1,F8.o.2.1,F8.o.2.2.2⟩ ?_;refine bN 19 fun K hK=> ?_;have c8:=F8.o.2.2.1;have f8:=F8.o.1;have l8:=F8.o.2.1;go_simp;generalize (w8.setCell ⟨gg,fr,none⟩ (.slice (some ⟨g8,0,none⟩) ll bC))=w9 at ST⊢;clear c8 f8 l8;refine hK.o _ _ (fun hD=>absurd (by decide) hD) ?_;clear hK K;try simp only[Act.put,qI,q0,qS]
   refine ak (by kernel_rfl) ?_ _;have FIN:Hid (Ad w N gg (l.take (i+1)) w9):=(by rw[<-uu.o];exact ST.o);clear ST uu hS0 hB0 gz iP;go_upto_region 6 with fail;go_wp2_with fail;go_roundw;case rel=>exact⟨i+1,by omega,by go_num,FIN.o⟩
   case measure=>simp[intOf];omega
  ·have hltz:¬(i:Int)<(n:Int):=(by omega);have S3:Hid (Ad w N gg l wr):=by
    have h:=HI.o;rw[tL (by have:=HN.o;omega)]at h;exact h
   clear HI;have hb3:Below w.heap.size w wr:=(by obtain⟨_,_,_,h⟩:=S3.o;exact h);obtain⟨r0,r1,r2⟩:wr.cell? ⟨rb,0,none⟩=some (.int .i64 ar)/\wr.cell? ⟨rb,1,none⟩=some sv/\wr.cell? ⟨rb,2,none⟩=some rv:=by
    have hb:=(hb3.block rb (ae HR.o.blk)).trans HR.o.blk;exact⟨((aa hb).1 0).trans rfl,((aa hb).1 1).trans rfl,((aa hb).1 2).trans rfl⟩
   have rl:rb<wr.heap.size:=nL (ae HR.o.blk) hb3.size;have HNW:=hid (wN (wv ar sv rv) (kL N rs) wr);have HB3:=hid hb3;clear hb3;go_wp2_with fail;refine HNW.o.mono ?_;rintro e w4 ⟨hb,rfl,h1,h2,h3⟩;clear HNW r0 r1 r2 rl;have H4:Hid (As w aK w4 (tg (tg aK w 4294967296) wr 1) hb rb ar sv rv ov cv uv (.slice (some ⟨gg,0,none⟩) N N) N L rs os ms (prt l) [] 0 (kQ 0 nn (Gd nn l)) (kQ 0 c (lH c l)) (kQ 0 O On) C F/\Wa N O On 0 0 [] 0):=by
    have hg:=h3.below;have hB:=HB3.o.trans (hg.mono HB3.o.size);have hK:=Kp.of_below (S:=fun _=>False) hB;refine⟨?_,Wa.init N O On⟩;rw[vK,vK,vK];have hT:∀k,k<w.heap.size->tg (tg aK w 4294967296) wr 1 k=aK k:=fun k hk=>(by rw[aj (nL hk HB3.o.size),aj hk]);refine⟨HR.o.keep hK (fun _ _ h=>h.elim) hT,HO.o.keep hK (fun _ _ h=>h.elim) hT, ?_,⟨_,h2,aR h1,fun k hk=>by simp[Value.ownBlock]at hk⟩,fun p mb hp=>(HM.o p mb hp).keep hK (fun _ _ h=>h.elim) hT,fun p mb hp=>(HC.o p mb hp).imp fun n hn=>hn.keep hK (fun _ _ h=>h.elim) hT,hK.mono (fun _ h=>h.elim),hT⟩;exact((S3.o.rws aK 4294967296).keep (Kp.of_below (S:=fun _=>False) hg) (fun _ _ h=>h.elim) (fun k hk=>aj hk))
   have aaO:=hid (BU.o w4 (HB3.o.trans (h3.below.mono HB3.o.size)));clear h1 h2 h3 S3 HM HC HO HR HB3;generalize tg (tg aK w 4294967296) wr 1=rX at H4;go_wp2_with fail;refine aaO.o.mono ?_;rintro e w5 ⟨rfl,ZG⟩;subst ZG;clear aaO;go_wp2_with fail;go_loopw [51] (fun Vv wx=>∃(i:Nat) (tag:Nat->Nat) (Q:List It) (np:Nat),i<=N/\Vv= .int .i64 (i:Nat)/\Hid (As w aK wx tag hb rb ar sv rv ov cv uv (.slice (some ⟨gg,0,none⟩) N N) N L rs os ms (prt l) Q np (kQ i nn (Gd nn l)) (kQ i c (lH c l)) (kQ i O On) C F/\Wa N O On i 0 Q np)) (fun Vv _=>N-(intOf Vv).toNat);case atStart=>exact⟨0,rX,[],0,zL _,rfl,H4.o⟩
   case round=>
    clear H4;obtain⟨i,tag,Q,np,hi,rfl,HI⟩:=hrel;by_cases hlt:i<N
    ·have hiz:(i:Int)<(N:Int):=(by omega);have hi0:(0:Int)<=(i:Int):=(by omega);obtain⟨bi,oi,ci,px,cx,hpv,hLm,p1,p2⟩:=HI.o.1.pt.at hlt;simp only[vS,oI,aI,and_true]at hpv;obtain⟨⟨rfl,rfl⟩,-⟩:=hpv;rw[nZ]at p1;obtain⟨k,hk⟩:=aD ((prt l i).length);rw[<-hk]at hLm p1;have Yg:Hid (Lm ED wr tag 4294967296 (.slice px k cx) (prt l i)/\wr.cell? ⟨gg,i,none⟩=some (.slice px k cx)/\gg<wr.heap.size/\k=(prt l i).length):=⟨hLm,p1,p2,hk⟩;clear hLm hk;by_cases hk0:k=0
     ·have hkb:((k:Int)==0)=true:=(by rw[hk0];rfl);have uu:Hid (As w aK wr tag hb rb ar sv rv ov cv uv (.slice (some ⟨gg,0,none⟩) N N) N L rs os ms (prt l) Q np (kQ (i+1) nn (Gd nn l)) (kQ (i+1) c (lH c l)) (kQ (i+1) O On) C F/\Wa N O On (i+1) 0 Q np):=by
       have e0:prt l i=[]:=List.length_eq_zero_iff.1 (by have:=Yg.o.2.2.2;omega);have e1:lH c l i=c i:=(by unfold lH;rw[e0];exact zh (HP.o.bd i · hlt));have e2:On i=O i:=by
        have h:=HP.o.on i hlt;rw[e1]at h;exact h.same (HP.o.ofr i hlt)
       have e3:Gd nn l i=nn i:=(by unfold Gd;rw[e0];rfl);rw[<-vL e3.symm,<-vL e1.symm,<-vL e2.symm];refine⟨HI.o.1,HI.o.2.next ?_⟩;unfold za;rw[e2,Ph];exact nR _
      clear HI Yg hk0;go_wp2_with fail;go_roundw;case rel=>exact⟨i+1,tag,Q,np,by omega,by go_num,uu.o⟩
      case measure=>simp[intOf];omega
     ·have hkb:((k:Int)==0)=false:=by
        rw[beq_eq_false_iff_ne];omega
      go_upto_region 12 with fail;clear hkb p1 p2;obtain⟨mb,hmb⟩:∃mb,os[i]? =some mb:=⟨os[i]'(by have:=HP.o.ol;omega),by rw[qw]⟩;have zT:=hid hmb;obtain⟨bo,oo,co,hov,-,-⟩:=sG HI.o.1.po.1 hmb;rw[HP.o.ol]at hov;have YR:=hid hov;clear hmb hov;have uN:Hid (∀W:World,Kp (fun k=>tag k=3+N+i) wr W->(W.cell? ⟨rb,3,none⟩=some (.slice (some ⟨bo,oo,none⟩) N co)/\rb<W.heap.size/\W.cell? ⟨bo,oo+i,none⟩=some (.pointer (some ⟨mb,0,none⟩))/\bo<W.heap.size)/\W.cell? ⟨gg,i,none⟩=some (.slice px k cx)/\gg<W.heap.size):=fun W hW=>by
       have hr:=HI.o.1.rd.keep (tag':=tag) hW (fun k _ e=>by omega) (fun k _=>rfl);have ho:=HI.o.1.po.keep (tag':=tag) hW (fun k _ e=>by omega) (fun k _=>rfl);obtain⟨b',o',c',e',z',x'⟩:=sG ho.1 zT.o;have hov:=YR.o;rw[hov]at e';simp only[vS,oI,aI,and_true]at e';obtain⟨⟨rfl,rfl⟩,-,-⟩:=e';refine⟨⟨by rw[<-hov];exact((aa hr.blk).1 3).trans rfl,ae hr.blk,x',z'⟩, ?_,nL Yg.o.2.2.1 hW.size⟩;refine(hW.cell Yg.o.2.2.1 fun e=> ?_).trans Yg.o.2.1;obtain⟨us,u1,u2,u3⟩:=HI.o.1.pt;have:=u1.2 gg rfl;omega
      have Qu:Hid (∀W:World,Gr wr W->Calls Tryz.prog 80 #[.pointer (some ⟨mb,0,none⟩), .slice px k cx] W fun e w'=>∃(vo:Value),e= .returned (.tuple #[vo, .int .i64 0])/\Hid (∃tag',As w aK w' tag' hb rb ar sv rv ov cv uv (.slice (some ⟨gg,0,none⟩) N N) N L rs os ms (prt l) Q np (kQ (i+1) nn (Gd nn l)) (kQ (i+1) c (lH c l)) (kQ (i+1) O On) C F/\Lm ED w' tag' (3+N+i) vo (za O On i))/\Hid (Kp (fun k=>tag k=3+N+i) wr w')):=by
       intro W hW;have hg:=hW.below;have hS1:=HI.o.1.grow 0 hg;have hls:=Yg.o.1.1.below hg;have hm:=hS1.ow i mb zT.o;rw[Fy,Fy,Fy]at hm;refine(hm.XX (prt l i) _ hls (HP.o.bad i hlt) (HP.o.nb i hlt) (HP.o.on i hlt)).mono ?_;rintro e w' ⟨vo,rfl,h7⟩;obtain⟨h1,h2,h3⟩:=h7.o;have hS2:=hS1.Nj hN HP.o.ol HP.o.ml zT.o h1 h3;have e1:=zZ i nn (Gd nn l);have e2:=zZ i c (lH c l);have e3:=zZ i O On;rw[show Gd nn l i=nn i+2*(prt l i).length from rfl]at e1;rw[show lH c l i=bP (c i) (prt l i)from rfl]at e2;rw[e1,e2,e3]at hS2;refine⟨vo,rfl,⟨_,hS2,aJ (E:=ED) h2,fun k hk=>aR (iX h2 hk)⟩, ?_⟩;exact((Kp.of_below (S:=fun k=>tag k=3+N+i) hg).trans h3 fun k hk e=>by
        rw[aj hk]at e;exact e)
      have hS0:(fun W:World=>Kp (fun k=>tag k=3+N+i) wr W) wr.drew:=Kp.aZ (Gr.refl wr).drew;refine ay (S:=fun W:World=>Kp (fun k=>tag k=3+N+i) wr W) (D:=[]) hmx ?_;refine' av 0 hS0 ?_;refine' av 1 hS0 ?_;refine' av 2 hS0 ?_;refine' bB 3 hS0 ?h ?_;case h=>(intro W hSw;obtain⟨⟨c0,c1,c2,c3⟩,c4,c5⟩:=uN.o W hSw;go_simp;try(with_reducible rfl))
      refine' av 4 hS0 ?_;refine' av 5 hS0 ?_;refine' bB 6 hS0 ?h ?_;case h=>(intro W hSw;obtain⟨⟨c0,c1,c2,c3⟩,c4,c5⟩:=uN.o W hSw;go_simp;try(with_reducible rfl))
      refine' av 7 hS0 ?_;refine' av 8 hS0 ?_;refine' av 9 hS0 ?_;refine' bB 10 hS0 ?h ?_;case h=>(intro W hSw;obtain⟨⟨c0,c1,c2,c3⟩,c4,c5⟩:=uN.o W hSw;go_simp;try(with_reducible rfl))
      refine bN 11 fun K hK=> ?_;go_simp;refine(Qu.o wr.drew (Gr.refl wr).drew).mono ?_;rintro e w7 ⟨vo,rfl,hA7,zJ⟩;go_wp2_with fail;refine hK.o _ _ (fun hD=>zJ.o) ?_;clear hK K;try simp only[Act.put,qI,q0,qS]
      refine' av 12 zJ.o ?_;refine' av 13 zJ.o ?_;refine' av 14 zJ.o ?_;refine' av 15 zJ.o ?_;refine' av 16 zJ.o ?_;refine ak (by kernel_rfl) ?_ _;clear hS0 uN Qu zJ Yg;obtain⟨vQ,h71,h72⟩:=hA7.o;obtain⟨ds,hds⟩:=aD (za O On i);rw[<-hds]at h72;obtain⟨pv,cw,rfl⟩:=h72.1.form;obtain⟨dn,hdn⟩:=aD (ds.length);rw[<-hdn]at h72⊢;have YX:Hid (ds=za O On i/\dn=ds.length/\dn<=T/\∀d∈ds,-1<=d.2/\d.2<=1):=by
       refine⟨hds,hdn, ?_,fun d hd=> ?_⟩
       ·rw[hdn,hds];have h1:=HP.o.wl;have h2:=Cy (za O On) (show i+1<=N by omega);rw[vI,dK,fQ]at h2;omega
       ·rw[hds]at hd;have h1:=jT (HP.o.ofr i hlt).nodup (HP.o.on i hlt).nodup;rcases h1.sign hd with e|e<;>omega
      have HW0:Hid (As w aK w7 vQ hb rb ar sv rv ov cv uv (.slice (some ⟨gg,0,none⟩) N N) N L rs os ms (prt l) Q np (kQ (i+1) nn (Gd nn l)) (kQ (i+1) c (lH c l)) (kQ (i+1) O On) C F/\Lm ED w7 vQ (3+N+i) (.slice pv dn cw) ds/\Wa N O On i 0 Q np):=⟨h71,h72,HI.o.2⟩;have hdb:dn<=1099511627776:=nT YX.o.2.2.1 HP.o.ht;clear h71 h72 hdn hds hA7 HI zT YR;go_wp2_with fail;go_loopw [77] (fun s77 wx=>∃(j:Nat) (tag:Nat->Nat) (Q:List It) (np:Nat),j<=dn/\s77= .int .i64 (j:Nat)/\Hid (As w aK wx tag hb rb ar sv rv ov cv uv (.slice (some ⟨gg,0,none⟩) N N) N L rs os ms (prt l) Q np (kQ (i+1) nn (Gd nn l)) (kQ (i+1) c (lH c l)) (kQ (i+1) O On) C F/\Lm ED wx tag (3+N+i) (.slice pv dn cw) ds/\Wa N O On i j Q np)) (fun s77 _=>dn-(intOf s77).toNat);case atStart=>exact⟨0,vQ,Q,np,zL _,rfl,HW0.o⟩
      case round=>
       clear HW0;obtain⟨j,qG,Qj,Nh,hj,rfl,HJ⟩:=hrel;by_cases hjl:j<dn
       ·have hjz:(j:Int)<(dn:Int):=(by omega);have hj0:(0:Int)<=(j:Int):=(by omega);obtain⟨⟨u,m⟩,hd⟩:∃d,ds[j]? =some d:=⟨ds[j]'(by have:=YX.o.2.1;omega),by simp⟩;have UZ:=hid hd;obtain⟨b1,o1,c1,hv1,hb1,u0,u1,u2,u3⟩:=HJ.o.2.1.1.at4 hd;simp only[vS]at hv1;obtain⟨hv1,-,-⟩:=hv1;subst hv1;simp only at u0 u1 u2 u3;clear hd;obtain⟨W9,OJ⟩:=aD (wr.alloc (.cells #[.int .u64 u.1.1, .int .u64 u.1.2.1, .int .u64 u.1.2.2, .int .i64 m] 163));obtain⟨b12,jv⟩:=aD (wr.heap.size);have H9:Hid ((As w aK W9 (tg qG wr 4294967296) hb rb ar sv rv ov cv uv (.slice (some ⟨gg,0,none⟩) N N) N L rs os ms (prt l) Qj Nh (kQ (i+1) nn (Gd nn l)) (kQ (i+1) c (lH c l)) (kQ (i+1) O On) C F/\Lm ED W9 (tg qG wr 4294967296) (3+N+i) (.slice (some ⟨b1,o1,none⟩) dn cw) ds/\Wa N O On i j Qj Nh)/\W9.heap[b12]? =some (.cells #[.int .u64 u.1.1, .int .u64 u.1.2.1, .int .u64 u.1.2.2, .int .i64 m] 163 (0,0))):=by
         rw[OJ,jv];have hg:=((Gr.refl wr).alloc (.cells #[.int .u64 u.1.1, .int .u64 u.1.2.1, .int .u64 u.1.2.2, .int .i64 m] 163)).below;have hK:=Kp.of_below (S:=fun _=>False) hg;exact⟨⟨HJ.o.1.grow _ hg,HJ.o.2.1.keep hK (fun _ _ h=>h.elim) (fun k hk=>aj hk),HJ.o.2.2⟩,ai _ _⟩
        go_upto_region 16 with fail;rw[<-OJ,<-jv];clear OJ jv u0 u1 u2 u3 hb1 HJ;generalize tg qG wr 4294967296=tag9 at H9;have c12:=(aa H9.o.2).1;have Je:=ae H9.o.2;have uA:=hid (rG (i:Nat) u.1.1 u.1.2.1 u.1.2.2 m W9);go_wp2_with fail;refine uA.o.mono ?_;rintro e w16 ⟨rfl,GI⟩;clear uA c12 Je;have ym:Hid (As w aK w16 (tg tag9 W9 4294967296) hb rb ar sv rv ov cv uv (.slice (some ⟨gg,0,none⟩) N N) N L rs os ms (prt l) Qj Nh (kQ (i+1) nn (Gd nn l)) (kQ (i+1) c (lH c l)) (kQ (i+1) O On) C F/\Lm ED w16 (tg tag9 W9 4294967296) (3+N+i) (.slice (some ⟨b1,o1,none⟩) dn cw) ds/\Wa N O On i j Qj Nh):=by
         have hK:=Kp.of_below (S:=fun _=>False) GI;exact⟨H9.o.1.1.grow _ GI,H9.o.1.2.1.keep hK (fun _ _ h=>h.elim) (fun k hk=>aj hk),H9.o.1.2.2⟩
        clear GI H9;generalize tg tag9 W9 4294967296=tag16 at ym;have TK:Hid ((-1<=m/\m<=1)/\Qj.length<=T/\Nh<=T):=by
         have h1:=ym.o.2.2.len hlt HP.o.wl;have h2:=ym.o.2.2.np;exact⟨YX.o.2.2.2 (u,m) (lM UZ.o),h1,by omega⟩
        have PM:=hid (ym.o.1.hm.push ((i:Int),u,m) (by have h1:=TK.o.2.1;have h2:=HP.o.ht;omega) (by have h1:=TK.o.2.2;have h2:=HP.o.ht;omega) (D8 (ar:=ar) (sv:=sv) (rv:=rv) HP.o.hr HP.o.rl) ym.o.1.rd.rk (fun y hy=>(ym.o.2.2.vs y hy).1) ⟨i,rfl,hlt⟩);go_wp2_with fail;refine PM.o.mono ?_;rintro e TW ⟨X4,rfl,Ld,Oq⟩;have H17:Hid (As w aK TW (tg tag16 w16 1) hb rb ar sv rv ov cv uv (.slice (some ⟨gg,0,none⟩) N N) N L rs os ms (prt l) X4 (Nh+1) (kQ (i+1) nn (Gd nn l)) (kQ (i+1) c (lH c l)) (kQ (i+1) O On) C F/\Lm ED TW (tg tag16 w16 1) (3+N+i) (.slice (some ⟨b1,o1,none⟩) dn cw) ds/\Wa N O On i (j+1) X4 (Nh+1)):=by
         refine⟨ym.o.1.heap Ld.o.1 Ld.o.2,ym.o.2.1.keep Ld.o.2 (fun k _ e=>by omega) (fun k hk=>aj hk),ym.o.2.2.push (d:=(u,m)) (by rw[<-YX.o.1];exact UZ.o) hlt TK.o.1 Oq.o⟩
        clear PM Ld Oq ym;generalize tg tag16 w16 1=Mi at H17;go_wp2_with fail;go_roundw;case rel=>exact⟨j+1,Mi,X4,Nh+1,by omega,by go_num,H17.o⟩
        case measure=>simp[intOf];omega
       ·have hjz:¬(j:Int)<(dn:Int):=(by omega);have uu:Hid (As w aK wr qG hb rb ar sv rv ov cv uv (.slice (some ⟨gg,0,none⟩) N N) N L rs os ms (prt l) Qj Nh (kQ (i+1) nn (Gd nn l)) (kQ (i+1) c (lH c l)) (kQ (i+1) O On) C F/\Wa N O On (i+1) 0 Qj Nh):=⟨HJ.o.1,HJ.o.2.2.next (by rw[<-YX.o.1];have:=YX.o.2.1;omega)⟩;clear HJ;go_wp2_with fail;go_roundw;case rel=>exact⟨i+1,qG,Qj,Nh,by omega,by go_num,uu.o⟩
        case measure=>simp[intOf];omega
    ·have hiz:¬(i:Int)<(N:Int):=(by omega);obtain rfl:i=N:=(by omega);have HE:Hid (Adn w aK rb ar sv rv ov cv uv i L rs os ms l nn c O On C F (.returned (.pointer (some ⟨hb,0,none⟩))) wr):=by
      obtain⟨h1,h2⟩:=HI.o;have Kk:=h2.perm;rw[tZ,List.map_nil,EN]at Kk;have hq:=h1.hm;rw[h2.np]at hq;refine⟨hb,tag,Q,rfl,h1.rd,hq,Kk,h2.vs,fun p mb hp=> ?_,h1.cm,h1.kp,h1.old⟩;have hpl:=(lG.1 hp).1;have h3:=h1.ow p mb hp;have R4:p<i:=(by have:=HP.o.ol;omega);rw[Fv _ _ R4,Fv _ _ R4,Fv _ _ R4]at h3;exact h3
     clear HI;go_wp2_with fail;refine bR (v:= .pointer (some ⟨hb,0,none⟩)) (by simp[results,Tryz.results39,go_sem]) rfl HE
end Rc
namespace Rc
open Go.RowKit Go.Sort Go.Maps Pt Hc
attribute[local go_sem ↓]wp_at_zero wp_at_succ
def gB(N:Nat)(ar:Int):List Th->Int
 | [] => 0
 | x::l => if ¬(0<=x.1/\x.1<(N:Int))then 42 else if bL x.2.1.1.1 x.2.1.1.2.1 x.2.1.1.2.2 ar≠0 then bL x.2.1.1.1 x.2.1.1.2.1 x.2.1.1.2.2 ar else gB N ar l
theorem DW:∀{l:List Th},gB N ar l=0->∀x∈l,Vp N x/\bL x.2.1.1.1 x.2.1.1.2.1 x.2.1.1.2.2 ar=0:=by
 intro l
 induction l with
 | nil => intro _ x hx;cases hx
 | cons y l ih=>
  intro h x hx;unfold gB at h;by_cases h1:0<=y.1/\y.1<(N:Int)
  ·rw[if_neg (by simpa using h1)]at h;by_cases h2:bL y.2.1.1.1 y.2.1.1.2.1 y.2.1.1.2.2 ar=0
   ·rw[if_neg (by simpa using h2)]at h;rcases eO.1 hx with rfl|hx
    ·exact⟨⟨x.1.toNat,by omega,by omega⟩,h2⟩
    ·exact ih h x hx
   ·rw[if_pos h2]at h;exact absurd h h2
  ·rw[if_pos h1]at h;cases h
theorem DX:∀{l:List Th},(∀x∈l,Vp N x/\bL x.2.1.1.1 x.2.1.1.2.1 x.2.1.1.2.2 ar=0)->gB N ar l=0:=by
 intro l
 induction l with
 | nil => intro _;rfl
 | cons y l ih=>
  intro h;obtain⟨⟨p,hp,hl⟩,h2⟩:=h y mX;unfold gB;rw[if_neg (by simpa using(show 0<=y.1/\y.1<(N:Int)by omega)),if_neg (by simpa using h2)];exact ih fun x hx=>h x (mO _ hx)
def jb(N:Nat)(ar:Int)(c:Nat->ah->Int)(l:List Th):Int:=if gB N ar l≠0 then gB N ar l else if Cc c l=true then 0 else 12
theorem O3{c:Nat->ah->Int}(l:List Th)(v:Value)(w:World)(hN:N<=192)(hol:os.length=N)(hR:w.heap[rb]? =some (.cells #[.int .i64 ar,sv,rv,ov,cv,uv] 102 (0,0)))(ho:Ls EA w ov os)(hM:∀q mb,os[q]? =some mb->∃tb b cb n v fr,Mu w mb tb b cb n v (c q) fr)(hv:Ls EC w v l)(hl:l.length<=100000000000):
    Calls Tryz.prog 37 #[.pointer (some ⟨rb,0,none⟩),v] w fun e w'=>e= .returned (.int .i64 (jb N ar c l))/\Below w.heap.size w w':=by
 have hmx:Tryz.prog.follows .mixedOrders=true:=by kernel_rfl
 obtain⟨pl,cl,rfl⟩:=hv.form;obtain⟨n,hn⟩:=aD (l.length);rw[<-hn]at hv⊢;have HN:=hid hn;have HL:Hid (Ls EC w (.slice pl n cl) l):=hv;have YV:Hid (∀(p:Int) (W:World),Below w.heap.size w W->Calls Tryz.prog 40 #[.pointer (some ⟨rb,0,none⟩), .int .i64 p] W fun e w'=>e= .returned (.bool (decide (0<=p)&&decide (p<(N:Int))))/\w'=W):=fun p W hb=>by
  have h:=ve p W ((hb.block rb (ae hR)).trans hR) (ho.below hb);rw[hol]at h;exact h
 have HIR:Hid (∀W:World,Below w.heap.size w W->(∀x∈l,Vp N x)->Calls Tryz.prog 76 #[.pointer (some ⟨rb,0,none⟩), .slice pl n cl] W fun e w'=>e= .returned (.bool (Cc c l))/\Below W.heap.size W w'):=fun W hb hp=>by
  refine Dv l _ W hN hol ((hb.block rb (ae hR)).trans hR) (ho.below hb) (fun q m hq=> ?_) (hv.below hb) hl hp;obtain⟨tb,b,cb,n,v,fr,h⟩:=hM q m hq;exact⟨tb,b,cb,n,v,fr,h.below hb⟩
 have HR:=hid hR;have hnb:n<=100000000000:=by omega
 clear hv ho hM hn hR hol hl;go_enter Tryz.func37,Tryz.ntmps37;go_wp2_with fail;go_loopw [10] (fun s10 wr=>∃k:Nat,k<=n/\s10= .int .i64 (k:Nat)/\Hid (Below w.heap.size w wr/\gB N ar l=gB N ar (l.drop k)/\∀x∈l.take k,Vp N x)) (fun s10 _=>n-(intOf s10).toNat);case atStart=>exact⟨0,zL _,rfl,Below.refl _ _,rfl,fun x hx=>by simp at hx⟩
 case round=>
  obtain⟨k,hk,rfl,HI⟩:=hrel;by_cases hlt:k<n
  ·have hltz:(k:Int)<(n:Int):=(by omega);have hk0:(0:Int)<=(k:Int):=(by omega);obtain⟨x,hx⟩:∃x,l[k]? =some x:=⟨l[k]'(by have:=HN.o;omega),by simp⟩;obtain⟨b1,o1,c1,e1,z1,x0,x1,x2,x3,x4⟩:=sw (HL.o.below HI.o.1) hx;simp only[vS]at e1;obtain⟨rfl,-,-⟩:=e1;have HDR:Hid (gB N ar l=(if ¬(0<=x.1/\x.1<(N:Int))then 42 else if bL x.2.1.1.1 x.2.1.1.2.1 x.2.1.1.2.2 ar≠0 then bL x.2.1.1.1 x.2.1.1.2.1 x.2.1.1.2.2 ar else gB N ar (l.drop (k+1)))/\l.take (k+1)=l.take k++[x]):=by
    have h1:=HI.o.2.1;have h2:l.drop k=x::l.drop (k+1):=by
     obtain⟨hk,rfl⟩:=lG.1 hx;exact List.drop_eq_getElem_cons hk
    rw[h2]at h1;exact⟨h1,by rw[tO,hx];rfl⟩
   clear hx;obtain⟨yb,hyb⟩:=aD (wr.heap.size);obtain⟨W5,bV⟩:=aD (wr.alloc (.cells (cc x) 49));have P5:Hid (Below w.heap.size w W5/\W5.heap[yb]? =some (.cells (cc x) 49 (0,0))):=by
    have g5:=((Gr.refl wr).alloc (.cells (cc x) 49)).below;rw[bV,hyb];exact⟨HI.o.1.trans (g5.mono HI.o.1.size),ai _ _⟩
   have gU:Hid (wr.alloc (.cells #[.int .i64 x.1, .int .u64 x.2.1.1.1, .int .u64 x.2.1.1.2.1, .int .u64 x.2.1.1.2.2, .int .i64 x.2.2] 49)=W5/\wr.heap.size=yb):=⟨bV.symm,hyb.symm⟩;have rT:=hid HI.o.2.2;clear bV hyb HI;go_upto_region 4 with fail;rw[gU.o.1,gU.o.2];clear gU x0 x1 x2 x3 x4 z1;obtain⟨y0,y1,y2,y3,y4,yz⟩:=vz P5.o.2;have hha:=YV.o x.1 W5 P5.o.1;by_cases hp:0<=x.1/\x.1<(N:Int)
   ·have hpb:(decide (0<=x.1)&&decide (x.1<(N:Int)))=true:=(by simp[hp.1,hp.2]);rw[hpb]at hha;go_wp2_with fail;refine hha.mono ?_;rintro e W6 ⟨rfl,hw6⟩;have aa7:=hw6.symm;subst aa7;clear hw6 hha y0 y1 y2 y3 y4 yz hpb;go_upto_region 6 with fail;have hS0:(fun W:World=>Below W5.heap.size W5 W) W5.drew:=(Gr.refl W5).drew.below;have gz:Hid (∀W,Below W5.heap.size W5 W->W.heap[yb]? =some (.cells (cc x) 49 (0,0))/\W.heap[rb]? =some (.cells #[.int .i64 ar,sv,rv,ov,cv,uv] 102 (0,0))):=fun W hb=>⟨(hb.block _ (ae P5.o.2)).trans P5.o.2,((P5.o.1.trans (hb.mono P5.o.1.size)).block rb (ae HR.o)).trans HR.o⟩;refine ay (S:=fun W:World=>Below W5.heap.size W5 W) (D:=[]) hmx ?_;refine' av 0 hS0 ?_;refine' av 1 hS0 ?_;refine' bB 2 hS0 ?h ?_;case h=>(intro W hSw;obtain⟨y0,y1,y2,y3,y4,yz⟩:=vz (gz.o W hSw).1;go_simp;try(with_reducible rfl))
    refine' av 3 hS0 ?_;refine' bB 4 hS0 ?h ?_;case h=>(intro W hSw;have cr:=(aa (gz.o W hSw).2).1;have lr:=ae (gz.o W hSw).2;go_simp;try(with_reducible rfl))
    refine' bB 5 hS0 ?h ?_;case h=>(intro W hSw;have cr:=(aa (gz.o W hSw).2).1;have lr:=ae (gz.o W hSw).2;go_simp;try(with_reducible rfl))
    refine' bB 6 hS0 ?h ?_;case h=>(intro W hSw;have cr:=(aa (gz.o W hSw).2).1;have lr:=ae (gz.o W hSw).2;go_simp;try(with_reducible rfl))
    refine' bB 7 hS0 ?h ?_;case h=>(intro W hSw;have cr:=(aa (gz.o W hSw).2).1;have lr:=ae (gz.o W hSw).2;go_simp;try(with_reducible rfl))
    refine bN 8 fun K hK=> ?_;go_simp;refine(EJ _ _ _ _ _).mono ?_;rintro e w7 ⟨rfl,g7⟩;have bf:Below W5.heap.size W5 w7:=hS0.trans (g7.below.mono hS0.size);clear g7;go_wp2_with fail;refine hK.o _ _ (fun hD=>bf) ?_;clear hK K;try simp only[Act.put,qI,q0,qS]
    refine' av 9 bf ?_;refine ak (by kernel_rfl) ?_ _;have B7:=hid (P5.o.1.trans (bf.mono P5.o.1.size));have HFT:Hid ((bL x.2.1.1.1 x.2.1.1.2.1 x.2.1.1.2.2 ar≠0->jb N ar c l=bL x.2.1.1.1 x.2.1.1.2.1 x.2.1.1.2.2 ar)/\(bL x.2.1.1.1 x.2.1.1.2.1 x.2.1.1.2.2 ar=0->gB N ar l=gB N ar (l.drop (k+1)))):=by
     have h1:=HDR.o.1;rw[if_neg (by simpa using hp)]at h1;refine⟨fun h=> ?_,fun h=> ?_⟩
     ·rw[if_pos h]at h1;unfold jb;rw[h1,if_pos h]
     ·rw[if_neg (by simpa using h)]at h1;exact h1
    have HVP:Hid (∀y∈l.take (k+1),Vp N y):=fun y hy=>by
     rw[HDR.o.2]at hy;rcases j3.1 hy with h|h
     ·exact rT.o y h
     ·rw[vF]at h;rw[h];exact⟨x.1.toNat,by omega,by omega⟩
    generalize bL x.2.1.1.1 x.2.1.1.2.1 x.2.1.1.2.2 ar=ft at HFT⊢;clear hS0 bf gz HDR rT P5 hp;by_cases hf:ft=0
    ·subst hf;have HFL:=hid (HFT.o.2 rfl);clear HFT;go_wp2_with fail;go_roundw;case rel=>exact⟨k+1,by omega,by go_num,B7.o,HFL.o,HVP.o⟩
     case measure=>simp[intOf];omega
    ·have HFL:=hid (HFT.o.1 hf);have Uw:(ft==0)=false:=(by rw[beq_eq_false_iff_ne];exact hf);clear HFT;go_wp2_with fail;go_ret;refine⟨?_,B7.o⟩;rw[HFL.o];rfl
   ·have hpb:(decide (0<=x.1)&&decide (x.1<(N:Int)))=false:=by
      by_cases k1:0<=x.1
      ·have k2:¬x.1<(N:Int):=fun h=>hp ⟨k1,h⟩;simp[k2]
      ·simp[k1]
    rw[hpb]at hha;have HFL:Hid (jb N ar c l=42):=by
     have h1:=HDR.o.1;rw[if_pos hp]at h1;unfold jb;rw[h1,if_pos (by decide)];exact rfl
    have B7:=hid P5.o.1;clear hp hpb HDR P5;go_wp2_with fail;refine hha.mono ?_;rintro e W6 ⟨rfl,hw6⟩;subst hw6;go_wp2_with fail;go_ret;refine⟨?_,B7.o⟩;rw[HFL.o];rfl
  ·have hltz:¬(k:Int)<(n:Int):=(by omega);have HE:Hid (Below w.heap.size w wr/\gB N ar l=0/\∀x∈l,Vp N x):=by
    obtain⟨h1,h2,h3⟩:=HI.o;have e:l.length<=k:=(by have:=HN.o;omega);rw[List.drop_eq_nil_of_le e]at h2;rw[tL e]at h3;exact⟨h1,h2,h3⟩
   have hir:=HIR.o wr HE.o.1 HE.o.2.2;have U0:Hid (jb N ar c l=if Cc c l=true then 0 else 12):=by
    unfold jb;rw[HE.o.2.1,if_neg (by decide)];exact rfl
   generalize Cc c l=ok at hir U0;clear HI;cases ok with
   | true=>
    go_wp2_with fail;refine hir.mono ?_;rintro e w9 ⟨rfl,h9⟩;have B9:=hid (HE.o.1.trans (h9.mono HE.o.1.size));clear h9;go_wp2_with fail;go_ret;refine⟨?_,B9.o⟩;rw[U0.o];rfl
   | false=>
    go_wp2_with fail;refine hir.mono ?_;rintro e w9 ⟨rfl,h9⟩;have B9:=hid (HE.o.1.trans (h9.mono HE.o.1.size));clear h9;go_wp2_with fail;go_ret;refine⟨?_,B9.o⟩;rw[U0.o];rfl
def cA(N:Nat)(t:Nat->Nat)(k:Nat):Nat:=if 3<=t k/\t k<3+2*N then t k else 0
theorem XT(h:t k<3):cA N t k=0:=by unfold cA;rw[if_neg (by omega)]
theorem UF(h:t k=j)(h1:3<=j)(h2:j<3+2*N):cA N t k=j:=by unfold cA;rw[if_pos (by omega),h]
theorem zQ(h:cA N t k≠0):3<=t k/\t k<3+2*N/\cA N t k=t k:=by
 unfold cA at h⊢;split at h
 ·rename_i k;rw[if_pos k];exact⟨k.1,k.2,rfl⟩
 ·exact absurd rfl h
def cS(N:Nat)(t:Nat->Nat)(k:Nat):Nat:=if 3+N<=t k then 0 else t k
theorem Pz(h:t k=j)(h2:j<3+N):cS N t k=j:=by unfold cS;rw[if_neg (by omega),h]
theorem Py(h:cS N t k≠0):t k≠0/\t k<3+N/\cS N t k=t k:=by
 unfold cS at h⊢;split at h
 ·exact absurd rfl h
 ·rename_i k;rw[if_neg k];exact⟨h,by omega,rfl⟩
def Chn(w:World)(t:Nat->Nat)(rb:Nat)(ar:Int)(N:Nat)(L:Nat->List (Nat×ah))(R:Nat->Nat->List ah)(rs:List Nat)(c:Nat->ah->Int)(K F:Nat->List ah)(l:List Th)(w':World):Prop:=
 ∃On Cn Fn t',Ev N L R (lH c l) (Bf K l) On Cn Fn/\Rq w' t' rb ar N L rs (lH c l) (Bf K l) On Cn Fn (nV N F Fn)/\Kp (fun k=>t k=2\/(3<=t k/\t k<3+2*N)) w w'/\∀k,k<w.heap.size->t' k=t k
def Chg(w:World)(t:Nat->Nat)(rb:Nat)(ar:Int)(N:Nat)(L:Nat->List (Nat×ah))(R:Nat->Nat->List ah)(rs:List Nat)(c:Nat->ah->Int)(K F:Nat->List ah)(l:List Th)(e:Ending)(w':World):Prop:=
 e= .returned (.int .i64 (jb N ar c l))/\((jb N ar c l≠0/\Below w.heap.size w w')\/(jb N ar c l=0/\Chn w t rb ar N L R rs c K F l w'))
theorem Hw{L:Nat->List (Nat×ah)}{St:Nat->Nat->ah->Prop}{R:Nat->Nat->List ah}{c:Nat->ah->Int}{K O:Nat->List ah}{C:Nat->ah->Int}{F:Nat->List ah}{U:List Th}{E Z B:Nat}(l:List Th)(v:Value)(w:World)(hQ:Rq w t rb ar N L rs c K O C F U)(GN:Ev N L R c K O C F)(ht:Ci N L St R)(wZ:rJ N L (mI N (lT rs)))(hr:∀x∈rs,x<=N)(hv:Ls EC w v l)(hm:Rm N L T E Z B)
    (hK:sN (fun p=>(K p).length) (List.range N)+l.length<=T):Calls Tryz.prog 10 #[.pointer (some ⟨rb,0,none⟩),v] w fun e w'=>Hid (Chg w t rb ar N L R rs c K F l e w'):=by
 obtain⟨sv,rv,ov,cv,uv,os,ms,h1,h2,h3⟩:=hQ;have hN:=hm.hN;have htt:=hm.t;have hll:l.length<=100000000000:=by omega
 have YW:=hid (O3 (c:=c) l v w hN h1.ol h1.blk h1.ow.1 (fun q m hq=>by
  obtain⟨tb,b,cb,v,k1,_⟩:=h2 q m hq;exact⟨tb,b,cb,_,v,_,k1⟩) hv hll)
 by_cases hz:jb N ar c l=0
 ·have hfl:gB N ar l=0/\Cc c l=true:=by
    unfold jb at hz;by_cases k:gB N ar l=0
    ·rw[if_neg (by simpa using k)]at hz;refine⟨k, ?_⟩;by_cases k2:Cc c l=true
     ·exact k2
     ·rw[if_neg k2]at hz;cases hz
    ·rw[if_pos k]at hz;exact absurd hz k
  have hvp:∀x∈l,Vp N x:=fun x hx=>(DW hfl.1 x hx).1;have hbad:=(I4 (c:=c) hvp).1 hfl.2;have ZQ:∀p,p<N->(K p).length+(prt l p).length<=T:=fun p hp=>by
   have e1:=ko (f:=fun q=>(K q).length) (mR.2 hp);have e2:=qP l p;omega
  have hK2:sN (fun p=>(Bf K l p).length) (List.range N)<=T:=by
   have e1:(fun p=>(Bf K l p).length)=fun p=>(K p).length+(prt l p).length:=by
    funext p
    unfold Bf;rw[dK,fQ]
   rw[e1,mH];have e2:=iZ l (fun x=>x.1.toNat) N;have e3:sN (fun p=>(prt l p).length) (List.range N)<=sN (fun q=>(l.filter fun s=>decide (s.1.toNat=q)).length) (List.range N):=kr fun p _=>by
    unfold prt;rw[fQ,<-List.countP_eq_length_filter,<-List.countP_eq_length_filter];refine List.countP_mono_left fun x _ hx=> ?_;have:x.1=(p:Int):=(by simpa using hx);simp[this]
   omega
  obtain⟨On,Cn,Fn,Xc,Sr,hwl,hFl,hSp⟩:=XN ht wZ h1.rl hr GN l hbad hm (by omega) hK2;have aaS:Adp N rs os ms l (fun p=>(K p).length) c O On (2*T):=⟨hN,h1.ol,h1.ml,h1.rl,hr,hll,hvp,hbad,fun p hp=>by have:=ZQ p hp;omega,Xc,GN.own,GN.bd,hwl,by omega⟩;have HAD:Hid (∀W,Below w.heap.size w W->Calls Tryz.prog 39 #[.pointer (some ⟨rb,0,none⟩),v] W fun e w'=>Hid (Adn W (tg (cA N t) w 0) rb ar sv rv ov cv uv N L rs os ms l (fun p=>(K p).length) c O On C F e w')):=fun W hb=>by
   have hK:=Kp.of_below (S:=fun _=>False) hb;have hT:∀k,k<w.heap.size->tg (cA N t) w 0 k=cA N t k:=fun k hk=>aj hk;refine oM W aaS (hv.below hb) ((h1.rd (fun k e=>XT (by omega)) (fun k e=>XT (by omega))).keep hK (fun _ _ h=>h.elim) hT) ((h1.ow.retag fun k e=>XT (by omega)).keep hK (fun _ _ h=>h.elim) hT) (fun p mb hp=> ?_) (fun p mb hp=> ?_)
   ·have hpl:=(lG.1 hp).1;have:=h1.ol;exact((h2 p mb hp).retag fun k e=>UF e (by omega) (by omega)).keep hK (fun _ _ h=>h.elim) hT
   ·have hpl:=(lG.1 hp).1;have:=h1.ml;exact(h3 p mb hp).imp fun n hn=>(hn.retag fun k e=>UF e (by omega) (by omega)).keep hK (fun _ _ h=>h.elim) hT
  have JG:Hid (∀(W:World) (hb:Nat) (tag:Nat->Nat) (Q:List It),Rd W tag rb ar sv rv ov cv uv N L rs ms->Hm W tag hb (wv ar sv rv) (kL N rs) Q Q.length->(wq Q).Perm (nQ (za O On) (List.range N))->(∀y∈Q,Vq N y)->(∀p mb,ms[p]? =some mb->∃n,Ml W tag (3+p) mb n (C p) (F p))->
      Calls Tryz.prog 38 #[.pointer (some ⟨rb,0,none⟩), .pointer (some ⟨hb,0,none⟩)] W fun e w'=>Hid (Spn W (cS N tag) rb ar sv rv ov cv uv N L rs ms (Ms N L O F On Fn) F Cn Fn e w')):=fun W hb tag Q k1 k2 k3 k4 k5=>by
   have hsp:=hSp ms Q h1.ml k3 k4;have hrd:Rd W (cS N tag) rb ar sv rv ov cv uv N L rs ms:=by
    obtain⟨us,u1,u2,u3⟩:=k1.st;have z:∀k,tag k=0->cS N tag k=0:=fun k e=>Pz e (by omega);exact⟨k1.blk,⟨us,u1,u2,fun p x hx=>⟨(u3 p x hx).1,fun k hk=>z k ((u3 p x hx).2 k hk)⟩⟩,k1.rk,k1.cm,z _ k1.tb,fun k hk=>z k (k1.ts k hk),fun k hk=>z k (k1.tr k hk),fun k hk=>z k (k1.tc k hk)⟩
   refine FN Zu W hsp hrd (k2.retag fun k e=>Pz e (by omega)) fun p mb hp=> ?_;have hpl:=(lG.1 hp).1;have q8:=h1.ml;obtain⟨n,hn⟩:=k5 p mb hp;refine(hn.retag fun k e=>Pz (N:=N) e (by omega)).tight fun u hu=>hsp.sup p u (by omega) (.inl ?_);have:=hsp.bo p u (by omega);omega
  have H1:=hid h1;have H2:=hid h2;have HEV:=hid GN;have aaR:=hid Sr;have YS:Hid (∀p,p<N->(F p).Nodup/\(Fn p).Nodup):=fun p hp=>⟨(GN.yc.fr p hp).nodup,(Sr.yc.fr p hp).nodup⟩;have HTI:Hid (∀p mb W tag n,os[p]? =some mb->Ml W tag (3+N+p) mb n (lH c l p) (On p)->Ml W tag (3+N+p) mb (Bf K l p).length (lH c l p) (On p)):=fun p mb W tag n hp h=>by
   have hpl:=(lG.1 hp).1;have:=h1.ol;exact h.tight fun u hu=>Sr.kp p u (by omega) hu
  have HZ:=hid hz;rw[hz]at YW;clear h1 h2 h3 GN Sr hv hvp hbad ZQ hK2 Xc hwl hFl hSp aaS hz hfl ht wZ hr hm hK htt hll;go_enter Tryz.func10,Tryz.ntmps10;go_wp2_with fail;refine YW.o.mono ?_;rintro e w2 ⟨rfl,hb2⟩;have HB2:=hid hb2;have had:=HAD.o w2 hb2;clear hb2 YW HAD;go_wp2_with fail;refine had.mono ?_;clear had;rintro e w4 h4;obtain⟨hb,rX,Q,rfl,a1,a2,a3,a4,a5,a6,a7,a8⟩:=h4.o;have hsp:=JG.o w4 hb rX Q a1 a2 a3 a4 a6;have H4:Hid ((∀p mb,os[p]? =some mb->Ml w4 rX (3+N+p) mb (Bf K l p).length (lH c l p) (On p))/\Kp (fun k=>tg (cA N t) w 0 k≠0) w2 w4/\∀k,k<w2.heap.size->rX k=tg (cA N t) w 0 k):=⟨fun p mb hp=>HTI.o p mb _ _ _ hp (a5 p mb hp),a7,a8⟩;clear h4 a1 a2 a3 a4 a5 a6 a7 a8 JG;go_wp2_with fail;refine hsp.mono ?_;clear hsp;rintro e w5 h5;obtain⟨vl,ks,lX,he5,s1,s2,s3,s4,s5,s6,s7⟩:=h5.o;obtain⟨vq,vm,vc,hvl⟩:=Df.aB s2;rw[hvl]at he5;subst he5;rw[hvl]at s2 s7;clear hvl;have H5:Hid (∃t',Rw w5 t' rb ar sv rv ov cv uv N L rs os ms U/\Lm EC w5 t' 0 (.slice vq vm vc) (nV N F Fn)/\(∀p mb,os[p]? =some mb->Ml w5 t' (3+N+p) mb (Bf K l p).length (lH c l p) (On p))/\(∀p mb,ms[p]? =some mb->∃n,Ml w5 t' (3+p) mb n (Cn p) (Fn p))/\Kp (fun k=>3<=t k/\t k<3+2*N) w w5/\∀k,k<w.heap.size->t' k=t k):=by
   rw[XM hN (fun p hp=>(YS.o p hp).1) (fun p hp=>(YS.o p hp).2) s1]at s2;have z2:w.heap.size<=w2.heap.size:=HB2.o.size;have z24:w2.heap.size<=w4.heap.size:=H4.o.2.1.size;have z45:w4.heap.size<=w5.heap.size:=s5.size;have t4:∀k,k<w.heap.size->rX k=cA N t k:=fun k hk=>(by rw[H4.o.2.2 k (by omega),aj hk]);have K5:Kp (fun k=>3<=t k/\t k<3+2*N) w w5:=by
    refine((Kp.of_below (S:=fun k=>3<=t k/\t k<3+2*N) HB2.o).trans H4.o.2.1 fun k hk e=> ?_).trans s5 fun k hk e=> ?_
    ·rw[aj hk]at e;exact⟨(zQ e).1,(zQ e).2.1⟩
    ·have e2:=(Py e).1;rw[t4 k hk]at e2;exact⟨(zQ e2).1,(zQ e2).2.1⟩
   refine⟨fun k=>if k<w.heap.size then t k else if k<w4.heap.size then rX k else lX k, ?_, ?_,fun p mb hp=> ?_,fun p mb hp=> ?_,K5,fun k hk=>if_pos hk⟩
   ·exact H1.o.keep K5 (fun k hk e=>⟨by omega,by omega⟩) (fun k hk=>if_pos hk)
   ·refine⟨aJ (E:=EC) s2,fun k hk=> ?_⟩;have hge:=iX s2 hk;show(if k<w.heap.size then t k else if k<w4.heap.size then rX k else lX k)=0;rw[if_neg (by omega),if_neg (by omega)];exact s7 k hk
   ·have hpl:=(lG.1 hp).1;have hol:=H1.o.ol;have hm:=(H4.o.1 p mb hp).keep (tag':=fun k=>if k<w4.heap.size then rX k else lX k) s5 (fun k hk e=>by have:=(Py e).2.1;omega) (fun k hk=>if_pos hk);refine hm.retag fun k e=> ?_;show(if k<w.heap.size then t k else if k<w4.heap.size then rX k else lX k)=3+N+p;by_cases hk:k<w.heap.size
    ·rw[if_pos hk];have e':(if k<w4.heap.size then rX k else lX k)=3+N+p:=e;rw[if_pos (by omega),t4 k hk]at e';have:=(zQ (N:=N) (t:=t) (k:=k) (by omega)).2.2;omega
    ·rw[if_neg hk];exact e
   ·have hpl:=(lG.1 hp).1;have q8:=H1.o.ml;refine⟨_,(s4 p mb hp).retag fun k e=> ?_⟩;show(if k<w.heap.size then t k else if k<w4.heap.size then rX k else lX k)=3+p;by_cases hk4:k<w4.heap.size
    ·rw[s6 k hk4]at e;have e4:=(Py (N:=N) (t:=rX) (k:=k) (by omega)).2.2;by_cases hk:k<w.heap.size
     ·rw[if_pos hk];have e5:=t4 k hk;have:=(zQ (N:=N) (t:=t) (k:=k) (by omega)).2.2;omega
     ·rw[if_neg hk,if_pos hk4];omega
    ·rw[if_neg (by omega),if_neg hk4];exact e
  clear h5 s1 s2 s3 s4 s5 s6 s7 H4 HB2 YS HTI H1 H2;obtain⟨t',r1,r2,r3,r4,r5,r6⟩:=H5.o;obtain⟨q1,q2⟩:=r1.turn r2;have HE:Hid (Chg w t rb ar N L R rs c K F l (.returned (.int .i64 0)) (w5.setCell ⟨rb,5,none⟩ (.slice vq vm vc))):=by
   have hz:=HZ.o;have htb:t' rb=2:=r1.tb;have h0:∀j,j≠2->∀k,k<w5.heap.size->k=rb->t' k≠j:=fun j hj k _ e e2=>(by rw[e,htb]at e2;exact hj e2.symm);refine⟨by rw[hz], .inr ⟨hz,On,Cn,Fn,t',aaR.o,⟨sv,rv,ov,cv,_,os,ms,q1,fun p mb hp=>(r3 p mb hp).keep q2 (h0 _ (by omega)) (fun _ _=>rfl),fun p mb hp=>(r4 p mb hp).imp fun n hn=>hn.keep q2 (h0 _ (by omega)) (fun _ _=>rfl)⟩, ?_,r6⟩⟩;refine(r5.mono fun k hk=> .inr hk).trans q2 fun k hk e=> .inl ?_;rw[<-r6 k hk,e];exact htb
  have c5:=(aa r1.blk).1;have f5:=(aa r1.blk).2;have l5:=ae r1.blk;clear r1 r2 r3 r4 r5 r6 q1 q2 H5 HEV aaR HZ;go_wp2_with fail;go_ret;exact HE
 ·have HE:Hid (∀w',Below w.heap.size w w'->Chg w t rb ar N L R rs c K F l (.returned (.int .i64 (jb N ar c l))) w'):=fun w' hb=>⟨rfl, .inl ⟨hz,hb⟩⟩;clear h1 h2 h3 GN hv ht wZ hr hm hK htt hll;generalize jb N ar c l=z at hz YW HE;have hzb:(z==0)=false:=by rw[beq_eq_false_iff_ne];exact hz
  go_enter Tryz.func10,Tryz.ntmps10;go_wp2_with fail;refine YW.o.mono ?_;rintro e w2 ⟨rfl,hb2⟩;have HB2:=hid hb2;clear hb2 YW;go_wp2_with fail;go_ret;exact HE.o _ HB2.o
end Rc
end Go.Proofs.YteekbpokkjjipaaGreat
