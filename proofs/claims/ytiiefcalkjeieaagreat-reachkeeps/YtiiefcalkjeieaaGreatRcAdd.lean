import Derived.Test.YtiiefcalkjeieaaGreatJ28
set_option maxHeartbeats 16000000
set_option maxRecDepth 100000
namespace Go.Proofs.YtiiefcalkjeieaaGreat.Rc
open Go.RowKit Go.Sort Go.Maps Pt Hc
open Lf (Fw)
open Df (LV EL aH aJ)
attribute[local go_sem ↓]wp_at_zero wp_at_succ
def GN(nn:Nat->Nat)(l:List Th)(p:Nat):Nat:=nn p+2*(prt l p).length
def Adn(w:World)(aL:Nat->Nat)(rb:Nat)(ar:Int)(sv rv ov cv uv:Value)(N:Nat)(L:Nat->List (Nat×ai))(rs os ms:List Nat)(l:List Th)(nn:Nat->Nat)(c:Nat->ai->Int)(O On:Nat->List ai)(C:Nat->ai->Int)(F:Nat->List ai)(e:Ending)(w':World):Prop:=
 ∃hb tag Q,e= .returned (aB hb)/\Rd w' tag rb ar sv rv ov cv uv N L rs ms/\Hm w' tag hb (wv ar sv rv) (kU N rs) Q Q.length/\(wq Q).Perm (oF (zM O On) (List.range N))/\(∀y∈Q,Vq N y)/\
  (∀p mb,os[p]? =some mb->Ml w' tag (3+N+p) mb (GN nn l p) (lW c l p) (On p))/\(∀p mb,ms[p]? =some mb->∃n,Ml w' tag (3+p) mb n (C p) (F p))/\Kp (fun k=>aL k≠0) w w'/\∀k,k<w.heap.size->tag k=aL k
structure Adp(N:Nat)(rs os ms:List Nat)(l:List Th)(nn:Nat->Nat)(c:Nat->ai->Int)(O On:Nat->List ai)(T:Nat):Prop where
 hN:N<=192
 ol:os.length=N
 ml:ms.length=N
 rl:rs.length=N
 hr:∀x∈rs,x<=N
 ll:l.length<=100000000000
 pl:∀x∈l,Vp N x
 bad:∀p,p<N->bad (c p) (prt l p)=false
 nb:∀p,p<N->nn p+2*(prt l p).length+1<=2199023255552
 on:∀p,p<N->fU (lW c l p) (On p)
 ofr:∀p,p<N->fU (c p) (O p)
 bd:∀p t,p<N->-2147483647<=c p t/\c p t<=2147483647
 wl:(oF (zM O On) (List.range N)).length<=T
 ht:T<=1099511627776
theorem pz{aL:Nat->Nat}{rb:Nat}{ar:Int}{sv rv ov cv uv lv:Value}{N:Nat}{L:Nat->List (Nat×ai)}{rs os ms:List Nat}{l:List Th}{nn:Nat->Nat}{c C:Nat->ai->Int}{O On F:Nat->List ai}{T:Nat}(w:World)(hP:Adp N rs os ms l nn c O On T)(hl:Ls EC w lv l)
    (hR:Rd w aL rb ar sv rv ov cv uv N L rs ms) (hO:Lm EA w aL 0 ov os) (hM:∀p mb,os[p]? =some mb->Ml w aL (3+N+p) mb (nn p) (c p) (O p)) (hC:∀p mb,ms[p]? =some mb->∃n,Ml w aL (3+p) mb n (C p) (F p)) :
    CL 39 #[aB rb,lv] w fun e w'=>Hid (Adn w aL rb ar sv rv ov cv uv N L rs os ms l nn c O On C F e w'):=by
 have hmx:Tryz.prog.follows .mixedOrders=true:=by kernel_rfl
 have HP:=hid hP;have HR:=hid hR;have HO:=hid hO;have HM:=hid hM;have HC:=hid hC;have FO:Hid (∀W,Bw w W->CL 42 #[aB rb] W fun e w'=>e= .returned (iV (N:Nat))/\w'=W):=fun W hW=>by
  have h:=fB W ((hW.block rb (ae hR.blk)).trans hR.blk) (hO.1.below hW);rw[hP.ol]at h;exact h
 obtain⟨lp,lc,rfl⟩:=hl.form;obtain⟨n,hn⟩:=aF (l.length);rw[<-hn]at hl⊢;have vO:Hid (Ls EC w (.slice lp n lc) l):=hl;have HN:=hid hn;have hN:=hP.hN;have hnb:n<=100000000000:=by have:=hP.ll;omega
 clear hP hR hO hM hC hl hn;obtain⟨i0,hi0,hz0,hz1,hz2⟩:=info_parts Tj;go_enter Tryz.func39,Tryz.ntmps39;go_wp2_with fail;refine(FO.o w (Below.refl _ _)).mono ?_;rintro e w1 ⟨rfl,hw1⟩;have hw2:=hw1.symm;subst hw2;clear hw1;go_upto_region 2 with(at_make;refine wpList_make_full _ rfl _ _ 171 rfl w.heap.size 159 i0 (.slice none 0 0) 1 Tryz.underlying171 hi0 hz0 hz1 _ _ _ _ N rfl rfl rfl rfl (by rw[hz2];omega) (by unfold maxLen;omega) (nR _) ?_;intro w2 hrow hg1);have hb2:Bw w w2:=(Kp.grownBy (S:=fun _=>False) hg1 (fun _ h=>by cases h)).below (nR _) (fun _ h=>h.elim);have S2:Hid (Ad w N w.heap.size [] w2):=⟨_,(Fw.made ED 163 159 hrow).re (fun k _=>rfl),by simp,hb2⟩;obtain⟨gg,hgg⟩:=aF (w.heap.size);rw[<-hgg]at S2⊢;clear hrow hg1 hi0 hz0 hz1 hz2 hb2;have HGG:=hid hgg;clear hgg;go_wp2_with fail;go_loopw [19] (fun s19 wr=>∃i:Nat,i<=n/\s19=iV (i:Nat)/\Hid (Ad w N gg (l.take i) wr)) (fun s19 _=>n-(intOf s19).toNat);case atStart=>exact⟨0,zL _,rfl,S2.o⟩
 case round=>
  clear S2;obtain⟨i,hi,rfl,HI⟩:=hrel;by_cases hlt:i<n
  ·have hltz:(i:Int)<(n:Int):=(by omega);have hi1:(0:Int)<=(i:Int):=(by omega);obtain⟨y,hy⟩:∃y,l[i]? =some y:=⟨l[i]'(by have:=HN.o;omega),by simp⟩;have HY:=hid hy;obtain⟨fr,aax,hfn⟩:=HP.o.pl y (lM hy);have Kb:=hid aax;have hb3:Bw w wr:=(by obtain⟨_,_,_,h⟩:=HI.o;exact h);obtain⟨b1,o1,q1,gU,rY,x0,x1,x2,x3,x4⟩:=D6 (vO.o.below hb3) hy;simp only[vS]at gU;obtain⟨rfl,-,-⟩:=gU;clear hy aax hb3;obtain⟨yb,hyb⟩:=aF (wr.heap.size);obtain⟨W5,bW⟩:=aF (wr.alloc (.cells (cc y) 49));have P5:Hid (Ad w N gg (l.take i) W5/\W5.heap[yb]? =some (.cells (cc y) 49 (0,0))):=by
    have g5:=((Gr.refl wr).alloc (.cells (cc y) 49)).below;rw[bW,hyb];exact⟨HI.o.below g5,ah _ _⟩
   have ig:Hid (wr.alloc (.cells #[iV y.1,uV y.2.1.1.1,uV y.2.1.1.2.1,uV y.2.1.1.2.2,iV y.2.2] 49)=W5/\wr.heap.size=yb):=⟨bW.symm,hyb.symm⟩;clear bW hyb HI;go_upto_region 5 with fail;rw[ig.o.1,ig.o.2];clear ig x0 x1 x2 x3 x4 rY;obtain⟨pl,hpl⟩:=aF (l.take i);have uG:Hid (pl++[y]=l.take (i+1)):=(by rw[hpl,tO,HY.o];rfl);have hpn:pl.length<=100000000000:=by
    have:=HP.o.ll;rw[hpl,lK];omega
   rw[<-hpl]at P5;clear hpl;obtain⟨vs,⟨xq,xm,xc⟩,f1,f2,f3,f4,f5,f6,f7⟩:=P5.o.1.cell hfn;have HF:Hid (Fw ED 163 159 w.heap.size W5 (sO gg N N) vs (prt pl)/\vs.length=N/\vs[fr]? =some ⟨xq,xm,xc⟩):=⟨f1,f2,f4⟩;have vP:=hid f3;have jK:=hid f3.size;have Me:Hid (aj W5 gg fr (.slice xq xm xc)/\gg<W5.heap.size):=⟨f5,f6⟩;have HD:=hid P5.o.2;obtain⟨LL,mU⟩:=aF (prt pl fr);have hll:=qX pl fr;rw[<-mU]at f7 hll;have HRW:=hid f7;have uY:Hid (LL=prt pl fr/\LL.length<=100000000000):=⟨mU,nT hll hpn⟩;have hf0:(0:Int)<=(fr:Int):=(by omega);have hfz:(fr:Int)<(N:Int):=(by omega);clear f1 f2 f3 f4 f5 f6 f7 mU hll hpn P5;have hB0:Bw W5 W5.drew:=(Gr.refl W5).drew.below;have gK:Hid (∀W,Bw W5 W->aj W gg fr (.slice xq xm xc)/\gg<W.heap.size/\W.heap[yb]? =some (.cells (cc y) 49 (0,0))):=fun W hb=>⟨(hb.cell (p:=⟨gg,fr,none⟩) Me.o.2).trans Me.o.1,nL Me.o.2 hb.size,(hb.block _ (ae HD.o)).trans HD.o⟩;have hS0:=gK.o _ hB0;refine ay (S:=fun W=>aj W gg fr (.slice xq xm xc)/\gg<W.heap.size/\W.heap[yb]? =some (.cells (cc y) 49 (0,0))) (D:=[19]) hmx ?_;refine' ak 0 hS0 ?_;refine' ak 1 hS0 ?_;refine' ak 2 hS0 ?_;refine' bD 3 hS0 ?h ?_;case h=>(intro W hSw;obtain⟨y0,y1,y2,y3,y4,yz⟩:=vN hSw.2.2;rw[Kb.o]at y0;go_simp;try(with_reducible rfl))
   refine' ak 4 hS0 ?_;refine' ak 5 hS0 ?_;refine' ak 6 hS0 ?_;refine' bD 7 hS0 ?h ?_;case h=>(intro W hSw;obtain⟨y0,y1,y2,y3,y4,yz⟩:=vN hSw.2.2;rw[Kb.o]at y0;go_simp;try(with_reducible rfl))
   refine' ak 8 hS0 ?_;refine' bD 9 hS0 ?h ?_;case h=>(intro W hSw;have hc:=hSw.1;have hl:=hSw.2.1;go_simp;try(with_reducible rfl))
   refine' ak 10 hS0 ?_;refine' ak 11 hS0 ?_;refine' bD 12 hS0 ?h ?_;case h=>(intro W hSw;obtain⟨y0,y1,y2,y3,y4,yz⟩:=vN hSw.2.2;rw[Kb.o]at y0;go_simp;try(with_reducible rfl))
   refine' ak 13 hS0 ?_;refine' bD 14 hS0 ?h ?_;case h=>(intro W hSw;obtain⟨y0,y1,y2,y3,y4,yz⟩:=vN hSw.2.2;rw[Kb.o]at y0;go_simp;try(with_reducible rfl))
   refine' ak 15 hS0 ?_;refine fV 16 fun K hK=> ?_;go_simp;have iZ:Bw W5 (W5.drew.alloc (.cells #[uV y.2.1.1.1,uV y.2.1.1.2.1,uV y.2.1.1.2.2,iV y.2.2] 163)):=hB0.trans (((Gr.refl W5.drew).alloc _).below.mono hB0.size);refine hK.o _ _ (fun hD=>(gK.o _ iZ)) ?_;clear hK K;try simp only[Act.put,qI,q0,qS]
   refine fV 17 fun K hK=> ?_;refine bT ED Tryz.underlying159 Ha rfl (by decide) rfl _ _ rfl w.heap.size (.slice xq xm xc) LL.length (fl ED LL) rfl (ag HRW.o hB0) (y.2.1,y.2.2) (by first|rfl|simp) (by have:=uY.o.2;omega) (by have:=uY.o.2;unfold maxLen;omega) (nT jK.o hB0.size) #[uV y.2.1.1.1,uV y.2.1.1.2.1,uV y.2.1.1.2.2,iV y.2.2] rfl _ ?_;intro g8 bF w8 h8 k8 n8;have ST:Hid (Ad w N gg (pl++[y]) (w8.setCell ⟨gg,fr,none⟩ (sO g8 (LL.length+1) bF))):=by
    have hf:=HF.o.1.below hB0;rw[uY.o.1]at h8⊢;obtain⟨h1,h2⟩:=hf.step (by decide) HF.o.2.2 (by rw[HF.o.2.1]) h8.o k8.o n8.o;exact⟨_,h1.re (fun k _=>(DR pl y fr k Kb.o).symm),by rw[lZ];exact HF.o.2.1,(vP.o.trans (hB0.mono vP.o.size)).trans (h2.below (nT vP.o.size hB0.size) (hf.blocks HF.o.2.2))⟩
   have dP:=(Kp.grownBy (S:=fun k=>(Value.slice xq xm xc).ownBlock=some k) k8.o (fun _ h=>h));have F8:Hid (w8.frozen? ⟨gg,fr,none⟩=false/\gg<w8.heap.size/\aj w8 gg fr (.slice xq xm xc)/\w8.heap[yb]? =some (.cells (cc y) 49 (0,0))):=by
    have hf:=HF.o.1.below hB0;have hne:=aH hf.row (hf.each fr _ HF.o.2.2) (by decide);have JK:=ax dP hf.row (fun j e e2=>hne j e e2);rw[HF.o.2.1]at JK;exact⟨JK.frozenAt _,nL Me.o.2 (nT hB0.size dP.size),(dP.cell (nL Me.o.2 hB0.size) (fun e=>hne gg rfl e)).trans ((hB0.cell (p:=⟨gg,fr,none⟩) Me.o.2).trans Me.o.1),(dP.block _ (nL (ae HD.o) hB0.size) (fun e=>aJ (ag HRW.o hB0) (gK.o _ hB0).2.2 (by decide) yb e rfl)).trans (gK.o _ hB0).2.2⟩
   clear h8 k8 n8 dP;generalize LL.length+1=ll at ST⊢;refine hK.o _ _ (fun hD=>⟨F8.o.2.2.1,F8.o.2.1,F8.o.2.2.2⟩) ?_;clear hK K;try simp only[Act.put,qI,q0,qS]
   refine' ak 18 ⟨F8.o.2.2.1,F8.o.2.1,F8.o.2.2.2⟩ ?_;refine fV 19 fun K hK=> ?_;have c8:=F8.o.2.2.1;have f8:=F8.o.1;have l8:=F8.o.2.1;go_simp;generalize (w8.setCell ⟨gg,fr,none⟩ (sO g8 ll bF))=w9 at ST⊢;clear c8 f8 l8;refine hK.o _ _ (fun hD=>absurd (by decide) hD) ?_;clear hK K;try simp only[Act.put,qI,q0,qS]
   refine av (by kernel_rfl) ?_ _;have FIN:Hid (Ad w N gg (l.take (i+1)) w9):=(by rw[<-uG.o];exact ST.o);clear ST uG hS0 hB0 gK iZ;go_upto_region 6 with fail;go_wp2_with fail;go_roundw;case rel=>exact⟨i+1,by omega,by go_num,FIN.o⟩
   case measure=>simp[intOf];omega
  ·have hltz:¬(i:Int)<(n:Int):=(by omega);have S3:Hid (Ad w N gg l wr):=by
    have h:=HI.o;rw[tL (by have:=HN.o;omega)]at h;exact h
   clear HI;have hb3:Bw w wr:=(by obtain⟨_,_,_,h⟩:=S3.o;exact h);obtain⟨r0,r1,r2⟩:aj wr rb 0 (iV ar)/\wr.cell? ⟨rb,1,none⟩=some sv/\wr.cell? ⟨rb,2,none⟩=some rv:=by
    have hb:=(hb3.block rb (ae HR.o.blk)).trans HR.o.blk;exact⟨((aa hb).1 0).trans rfl,((aa hb).1 1).trans rfl,((aa hb).1 2).trans rfl⟩
   have rl:rb<wr.heap.size:=nL (ae HR.o.blk) hb3.size;have HNW:=hid (xx (wv ar sv rv) (kU N rs) wr);have HB3:=hid hb3;clear hb3;go_wp2_with fail;refine HNW.o.mono ?_;rintro e w4 ⟨hb,rfl,h1,h2,h3⟩;clear HNW r0 r1 r2 rl;have H4:Hid (As w aL w4 (tg (tg aL w 4294967296) wr 1) hb rb ar sv rv ov cv uv (sO gg N N) N L rs os ms (prt l) [] 0 (kW 0 nn (GN nn l)) (kW 0 c (lW c l)) (kW 0 O On) C F/\Wa N O On 0 0 [] 0):=by
    have hg:=h3.below;have hB:=HB3.o.trans (hg.mono HB3.o.size);have hK:=Kp.of_below (S:=fun _=>False) hB;refine⟨?_,Wa.init N O On⟩;rw[vZ,vZ,vZ];have hT:∀k,k<w.heap.size->tg (tg aL w 4294967296) wr 1 k=aL k:=fun k hk=>(by rw[au (nL hk HB3.o.size),au hk]);refine⟨HR.o.keep hK (fun _ _ h=>h.elim) hT,HO.o.keep hK (fun _ _ h=>h.elim) hT, ?_,⟨_,h2,aU h1,fun k hk=>by simp[Value.ownBlock]at hk⟩,fun p mb hp=>(HM.o p mb hp).keep hK (fun _ _ h=>h.elim) hT,fun p mb hp=>(HC.o p mb hp).imp fun n hn=>hn.keep hK (fun _ _ h=>h.elim) hT,hK.mono (fun _ h=>h.elim),hT⟩;exact((S3.o.rws aL 4294967296).keep (Kp.of_below (S:=fun _=>False) hg) (fun _ _ h=>h.elim) (fun k hk=>au hk))
   have abd:=hid (FO.o w4 (HB3.o.trans (h3.below.mono HB3.o.size)));clear h1 h2 h3 S3 HM HC HO HR HB3;generalize tg (tg aL w 4294967296) wr 1=sF at H4;go_wp2_with fail;refine abd.o.mono ?_;rintro e w5 ⟨rfl,Hr⟩;subst Hr;clear abd;go_wp2_with fail;go_loopw [51] (fun V7 wx=>∃(i:Nat) (tag:Nat->Nat) (Q:List It) (np:Nat),i<=N/\V7=iV (i:Nat)/\Hid (As w aL wx tag hb rb ar sv rv ov cv uv (sO gg N N) N L rs os ms (prt l) Q np (kW i nn (GN nn l)) (kW i c (lW c l)) (kW i O On) C F/\Wa N O On i 0 Q np)) (fun V7 _=>N-(intOf V7).toNat);case atStart=>exact⟨0,sF,[],0,zL _,rfl,H4.o⟩
   case round=>
    clear H4;obtain⟨i,tag,Q,np,hi,rfl,HI⟩:=hrel;by_cases hlt:i<N
    ·have hiz:(i:Int)<(N:Int):=(by omega);have hi0:(0:Int)<=(i:Int):=(by omega);obtain⟨bi,oi,ci,px,cx,hpv,hLm,p1,p2⟩:=HI.o.1.pt.at hlt;simp only[vS,oI,aI,and_true]at hpv;obtain⟨⟨rfl,rfl⟩,-⟩:=hpv;rw[nZ]at p1;obtain⟨k,hk⟩:=aF ((prt l i).length);rw[<-hk]at hLm p1;have YI:Hid (Lm ED wr tag 4294967296 (.slice px k cx) (prt l i)/\aj wr gg i (.slice px k cx)/\gg<wr.heap.size/\k=(prt l i).length):=⟨hLm,p1,p2,hk⟩;clear hLm hk;by_cases hk0:k=0
     ·have hkb:((k:Int)==0)=true:=(by rw[hk0];rfl);have uG:Hid (As w aL wr tag hb rb ar sv rv ov cv uv (sO gg N N) N L rs os ms (prt l) Q np (kW (i+1) nn (GN nn l)) (kW (i+1) c (lW c l)) (kW (i+1) O On) C F/\Wa N O On (i+1) 0 Q np):=by
       have e0:prt l i=[]:=List.length_eq_zero_iff.1 (by have:=YI.o.2.2.2;omega);have e1:lW c l i=c i:=(by unfold lW;rw[e0];exact zQ (HP.o.bd i · hlt));have e2:On i=O i:=by
        have h:=HP.o.on i hlt;rw[e1]at h;exact h.same (HP.o.ofr i hlt)
       have e3:GN nn l i=nn i:=(by unfold GN;rw[e0];rfl);rw[<-wh e3.symm,<-wh e1.symm,<-wh e2.symm];refine⟨HI.o.1,HI.o.2.next ?_⟩;unfold zM;rw[e2,P8];exact nR _
      clear HI YI hk0;go_wp2_with fail;go_roundw;case rel=>exact⟨i+1,tag,Q,np,by omega,by go_num,uG.o⟩
      case measure=>simp[intOf];omega
     ·have hkb:((k:Int)==0)=false:=by
        rw[beq_eq_false_iff_ne];omega
      go_upto_region 12 with fail;clear hkb p1 p2;obtain⟨mb,hmb⟩:∃mb,os[i]? =some mb:=⟨os[i]'(by have:=HP.o.ol;omega),by rw[p8]⟩;have Aw:=hid hmb;obtain⟨bo,oo,co,hov,-,-⟩:=sU HI.o.1.po.1 hmb;rw[HP.o.ol]at hov;have Zu:=hid hov;clear hmb hov;have uZ:Hid (∀W:World,Kp (fun k=>tag k=3+N+i) wr W->(aj W rb 3 (.slice (some ⟨bo,oo,none⟩) N co)/\rb<W.heap.size/\aj W bo (oo+i) (aB mb)/\bo<W.heap.size)/\aj W gg i (.slice px k cx)/\gg<W.heap.size):=fun W hW=>by
       have hr:=HI.o.1.rd.keep (tag':=tag) hW (fun k _ e=>by omega) (fun k _=>rfl);have ho:=HI.o.1.po.keep (tag':=tag) hW (fun k _ e=>by omega) (fun k _=>rfl);obtain⟨b',o',c',e',z',x'⟩:=sU ho.1 Aw.o;have hov:=Zu.o;rw[hov]at e';simp only[vS,oI,aI,and_true]at e';obtain⟨⟨rfl,rfl⟩,-,-⟩:=e';refine⟨⟨by rw[<-hov];exact((aa hr.blk).1 3).trans rfl,ae hr.blk,x',z'⟩, ?_,nL YI.o.2.2.1 hW.size⟩;refine(hW.cell YI.o.2.2.1 fun e=> ?_).trans YI.o.2.1;obtain⟨us,u1,u2,u3⟩:=HI.o.1.pt;have:=u1.2 gg rfl;omega
      have Re:Hid (∀W:World,Gr wr W->CL 80 #[aB mb, .slice px k cx] W fun e w'=>∃(vo:Value),e= .returned (.tuple #[vo,iV 0])/\Hid (∃tag',As w aL w' tag' hb rb ar sv rv ov cv uv (sO gg N N) N L rs os ms (prt l) Q np (kW (i+1) nn (GN nn l)) (kW (i+1) c (lW c l)) (kW (i+1) O On) C F/\Lm ED w' tag' (3+N+i) vo (zM O On i))/\Hid (Kp (fun k=>tag k=3+N+i) wr w')):=by
       intro W hW;have hg:=hW.below;have hS1:=HI.o.1.grow 0 hg;have hls:=YI.o.1.1.below hg;have hm:=hS1.ow i mb Aw.o;rw[F9,F9,F9]at hm;refine(hm.Yp (prt l i) _ hls (HP.o.bad i hlt) (HP.o.nb i hlt) (HP.o.on i hlt)).mono ?_;rintro e w' ⟨vo,rfl,h7⟩;obtain⟨h1,h2,h3⟩:=h7.o;have hS2:=hS1.N9 hN HP.o.ol HP.o.ml Aw.o h1 h3;have e1:=AQ i nn (GN nn l);have e2:=AQ i c (lW c l);have e3:=AQ i O On;rw[show GN nn l i=nn i+2*(prt l i).length from rfl]at e1;rw[show lW c l i=bS (c i) (prt l i)from rfl]at e2;rw[e1,e2,e3]at hS2;refine⟨vo,rfl,⟨_,hS2,aK (E:=ED) h2,fun k hk=>aU (je h2 hk)⟩, ?_⟩;exact((Kp.of_below (S:=fun k=>tag k=3+N+i) hg).trans h3 fun k hk e=>by
        rw[au hk]at e;exact e)
      have hS0:(fun W:World=>Kp (fun k=>tag k=3+N+i) wr W) wr.drew:=Kp.bg (Gr.refl wr).drew;refine ay (S:=fun W:World=>Kp (fun k=>tag k=3+N+i) wr W) (D:=[]) hmx ?_;refine' ak 0 hS0 ?_;refine' ak 1 hS0 ?_;refine' ak 2 hS0 ?_;refine' bD 3 hS0 ?h ?_;case h=>(intro W hSw;obtain⟨⟨c0,c1,c2,c3⟩,c4,c5⟩:=uZ.o W hSw;go_simp;try(with_reducible rfl))
      refine' ak 4 hS0 ?_;refine' ak 5 hS0 ?_;refine' bD 6 hS0 ?h ?_;case h=>(intro W hSw;obtain⟨⟨c0,c1,c2,c3⟩,c4,c5⟩:=uZ.o W hSw;go_simp;try(with_reducible rfl))
      refine' ak 7 hS0 ?_;refine' ak 8 hS0 ?_;refine' ak 9 hS0 ?_;refine' bD 10 hS0 ?h ?_;case h=>(intro W hSw;obtain⟨⟨c0,c1,c2,c3⟩,c4,c5⟩:=uZ.o W hSw;go_simp;try(with_reducible rfl))
      refine fV 11 fun K hK=> ?_;go_simp;refine(Re.o wr.drew (Gr.refl wr).drew).mono ?_;rintro e w7 ⟨vo,rfl,hA7,Ak⟩;go_wp2_with fail;refine hK.o _ _ (fun hD=>Ak.o) ?_;clear hK K;try simp only[Act.put,qI,q0,qS]
      refine' ak 12 Ak.o ?_;refine' ak 13 Ak.o ?_;refine' ak 14 Ak.o ?_;refine' ak 15 Ak.o ?_;refine' ak 16 Ak.o ?_;refine av (by kernel_rfl) ?_ _;clear hS0 uZ Re Ak YI;obtain⟨wz,h71,h72⟩:=hA7.o;obtain⟨ds,hds⟩:=aF (zM O On i);rw[<-hds]at h72;obtain⟨pv,cw,rfl⟩:=h72.1.form;obtain⟨dn,hdn⟩:=aF (ds.length);rw[<-hdn]at h72⊢;have ZA:Hid (ds=zM O On i/\dn=ds.length/\dn<=T/\∀d∈ds,-1<=d.2/\d.2<=1):=by
       refine⟨hds,hdn, ?_,fun d hd=> ?_⟩
       ·rw[hdn,hds];have h1:=HP.o.wl;have h2:=Dj (zM O On) (show i+1<=N by omega);rw[vX,dQ,gQ]at h2;omega
       ·rw[hds]at hd;have h1:=rP (HP.o.ofr i hlt).nodup (HP.o.on i hlt).nodup;rcases h1.sign hd with e|e<;>omega
      have HW0:Hid (As w aL w7 wz hb rb ar sv rv ov cv uv (sO gg N N) N L rs os ms (prt l) Q np (kW (i+1) nn (GN nn l)) (kW (i+1) c (lW c l)) (kW (i+1) O On) C F/\Lm ED w7 wz (3+N+i) (.slice pv dn cw) ds/\Wa N O On i 0 Q np):=⟨h71,h72,HI.o.2⟩;have hdb:dn<=1099511627776:=nT ZA.o.2.2.1 HP.o.ht;clear h71 h72 hdn hds hA7 HI Aw Zu;go_wp2_with fail;go_loopw [77] (fun s77 wx=>∃(j:Nat) (tag:Nat->Nat) (Q:List It) (np:Nat),j<=dn/\s77=iV (j:Nat)/\Hid (As w aL wx tag hb rb ar sv rv ov cv uv (sO gg N N) N L rs os ms (prt l) Q np (kW (i+1) nn (GN nn l)) (kW (i+1) c (lW c l)) (kW (i+1) O On) C F/\Lm ED wx tag (3+N+i) (.slice pv dn cw) ds/\Wa N O On i j Q np)) (fun s77 _=>dn-(intOf s77).toNat);case atStart=>exact⟨0,wz,Q,np,zL _,rfl,HW0.o⟩
      case round=>
       clear HW0;obtain⟨j,qO,Qj,NW,hj,rfl,HJ⟩:=hrel;by_cases hjl:j<dn
       ·have hjz:(j:Int)<(dn:Int):=(by omega);have hj0:(0:Int)<=(j:Int):=(by omega);obtain⟨⟨u,m⟩,hd⟩:∃d,ds[j]? =some d:=⟨ds[j]'(by have:=ZA.o.2.1;omega),by simp⟩;have VB:=hid hd;obtain⟨b1,o1,c1,hv1,hb1,u0,u1,u2,u3⟩:=HJ.o.2.1.1.at4 hd;simp only[vS]at hv1;obtain⟨hv1,-,-⟩:=hv1;subst hv1;simp only at u0 u1 u2 u3;clear hd;obtain⟨W9,Xx⟩:=aF (wr.alloc (.cells #[uV u.1.1,uV u.1.2.1,uV u.1.2.2,iV m] 163));obtain⟨b12,Ie⟩:=aF (wr.heap.size);have H9:Hid ((As w aL W9 (tg qO wr 4294967296) hb rb ar sv rv ov cv uv (sO gg N N) N L rs os ms (prt l) Qj NW (kW (i+1) nn (GN nn l)) (kW (i+1) c (lW c l)) (kW (i+1) O On) C F/\Lm ED W9 (tg qO wr 4294967296) (3+N+i) (.slice (some ⟨b1,o1,none⟩) dn cw) ds/\Wa N O On i j Qj NW)/\W9.heap[b12]? =some (.cells #[uV u.1.1,uV u.1.2.1,uV u.1.2.2,iV m] 163 (0,0))):=by
         rw[Xx,Ie];have hg:=((Gr.refl wr).alloc (.cells #[uV u.1.1,uV u.1.2.1,uV u.1.2.2,iV m] 163)).below;have hK:=Kp.of_below (S:=fun _=>False) hg;exact⟨⟨HJ.o.1.grow _ hg,HJ.o.2.1.keep hK (fun _ _ h=>h.elim) (fun k hk=>au hk),HJ.o.2.2⟩,ah _ _⟩
        go_upto_region 16 with fail;rw[<-Xx,<-Ie];clear Xx Ie u0 u1 u2 u3 hb1 HJ;generalize tg qO wr 4294967296=tag9 at H9;have c12:=(aa H9.o.2).1;have WH:=ae H9.o.2;have yB:=hid (rT (i:Nat) u.1.1 u.1.2.1 u.1.2.2 m W9);go_wp2_with fail;refine yB.o.mono ?_;rintro e w16 ⟨rfl,Ic⟩;clear yB c12 WH;have yL:Hid (As w aL w16 (tg tag9 W9 4294967296) hb rb ar sv rv ov cv uv (sO gg N N) N L rs os ms (prt l) Qj NW (kW (i+1) nn (GN nn l)) (kW (i+1) c (lW c l)) (kW (i+1) O On) C F/\Lm ED w16 (tg tag9 W9 4294967296) (3+N+i) (.slice (some ⟨b1,o1,none⟩) dn cw) ds/\Wa N O On i j Qj NW):=by
         have hK:=Kp.of_below (S:=fun _=>False) Ic;exact⟨H9.o.1.1.grow _ Ic,H9.o.1.2.1.keep hK (fun _ _ h=>h.elim) (fun k hk=>au hk),H9.o.1.2.2⟩
        clear Ic H9;generalize tg tag9 W9 4294967296=tag16 at yL;have Uz:Hid ((-1<=m/\m<=1)/\Qj.length<=T/\NW<=T):=by
         have h1:=yL.o.2.2.len hlt HP.o.wl;have h2:=yL.o.2.2.np;exact⟨ZA.o.2.2.2 (u,m) (lM VB.o),h1,by omega⟩
        have Qw:=hid (yL.o.1.hm.push ((i:Int),u,m) (by have h1:=Uz.o.2.1;have h2:=HP.o.ht;omega) (by have h1:=Uz.o.2.2;have h2:=HP.o.ht;omega) (EM (ar:=ar) (sv:=sv) (rv:=rv) HP.o.hr HP.o.rl) yL.o.1.rd.rk (fun y hy=>(yL.o.2.2.vs y hy).1) ⟨i,rfl,hlt⟩);go_wp2_with fail;refine Qw.o.mono ?_;rintro e MH ⟨Yv,rfl,Mm,Pb⟩;have H17:Hid (As w aL MH (tg tag16 w16 1) hb rb ar sv rv ov cv uv (sO gg N N) N L rs os ms (prt l) Yv (NW+1) (kW (i+1) nn (GN nn l)) (kW (i+1) c (lW c l)) (kW (i+1) O On) C F/\Lm ED MH (tg tag16 w16 1) (3+N+i) (.slice (some ⟨b1,o1,none⟩) dn cw) ds/\Wa N O On i (j+1) Yv (NW+1)):=by
         refine⟨yL.o.1.heap Mm.o.1 Mm.o.2,yL.o.2.1.keep Mm.o.2 (fun k _ e=>by omega) (fun k hk=>au hk),yL.o.2.2.push (d:=(u,m)) (by rw[<-ZA.o.1];exact VB.o) hlt Uz.o.1 Pb.o⟩
        clear Qw Mm Pb yL;generalize tg tag16 w16 1=MX at H17;go_wp2_with fail;go_roundw;case rel=>exact⟨j+1,MX,Yv,NW+1,by omega,by go_num,H17.o⟩
        case measure=>simp[intOf];omega
       ·have hjz:¬(j:Int)<(dn:Int):=(by omega);have uG:Hid (As w aL wr qO hb rb ar sv rv ov cv uv (sO gg N N) N L rs os ms (prt l) Qj NW (kW (i+1) nn (GN nn l)) (kW (i+1) c (lW c l)) (kW (i+1) O On) C F/\Wa N O On (i+1) 0 Qj NW):=⟨HJ.o.1,HJ.o.2.2.next (by rw[<-ZA.o.1];have:=ZA.o.2.1;omega)⟩;clear HJ;go_wp2_with fail;go_roundw;case rel=>exact⟨i+1,qO,Qj,NW,by omega,by go_num,uG.o⟩
        case measure=>simp[intOf];omega
    ·have hiz:¬(i:Int)<(N:Int):=(by omega);obtain rfl:i=N:=(by omega);have HE:Hid (Adn w aL rb ar sv rv ov cv uv i L rs os ms l nn c O On C F (.returned (aB hb)) wr):=by
      obtain⟨h1,h2⟩:=HI.o;have KR:=h2.perm;rw[List.take_zero,List.map_nil,FZ]at KR;have hq:=h1.hm;rw[h2.np]at hq;refine⟨hb,tag,Q,rfl,h1.rd,hq,KR,h2.vs,fun p mb hp=> ?_,h1.cm,h1.kp,h1.old⟩;have hpl:=(lG.1 hp).1;have h3:=h1.ow p mb hp;have Tw:p<i:=(by have:=HP.o.ol;omega);rw[F7 _ _ Tw,F7 _ _ Tw,F7 _ _ Tw]at h3;exact h3
     clear HI;go_wp2_with fail;refine bR (v:=aB hb) (by simp[results,Tryz.results39,go_sem]) rfl HE
end Go.Proofs.YtiiefcalkjeieaaGreat.Rc
