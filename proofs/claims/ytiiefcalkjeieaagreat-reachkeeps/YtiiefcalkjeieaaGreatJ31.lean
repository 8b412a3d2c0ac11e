import Derived.Test.YtiiefcalkjeieaaGreatMCl
import Derived.Test.YtiiefcalkjeieaaGreatJ29
import Derived.Test.YtiiefcalkjeieaaGreatRcTl
variable{tb b n g cb:Nat}{v:Go.Value}
set_option maxHeartbeats 8000000
set_option maxRecDepth 100000
namespace Go.Proofs.YtiiefcalkjeieaaGreat
section
namespace Cn
open Cz
open Go.RowKit Go.Sort Go.Maps
attribute[local go_sem ↓]wp_at_zero wp_at_succ
theorem yg{fb ff:Nat}{l:List Tm}(w:World)(hc:Ch true w cb fb ff v l)(hl:l.length*24<=140737488355328):
    CL 94 #[aB cb] w fun e w'=>∃cb' v',e= .returned (aB cb')/\w.heap.size<=cb'/\Ch true w' cb' fb ff v' l/\Bw w w'/\∀g,v'.ownBlock=some g->w.heap.size<=g:=by
 have hmx:Tryz.prog.follows .mixedOrders=true:=by kernel_rfl
 have HC:Hid (Ch true w cb fb ff v l):=hc;have S0:aj w cb 0 (fv fb)/\aj w cb 1 (fv ff)/\cb<w.heap.size:=⟨hc.c0,hc.c1,hc.lt⟩;have kN:∀W W':World,(aj W cb 0 (fv fb)/\aj W cb 1 (fv ff)/\cb<W.heap.size)->Bw W W'->(aj W' cb 0 (fv fb)/\aj W' cb 1 (fv ff)/\cb<W'.heap.size):=fun W W' h hb=>
  ⟨(hb.cell (p:=⟨cb,0,none⟩) h.2.2).trans h.1,(hb.cell (p:=⟨cb,1,none⟩) h.2.2).trans h.2.1,nL h.2.2 hb.size⟩
 have C1:Ch true w.drew cb fb ff v l:=hc.below (Gr.refl _).drew.below;have FL:CL 87 #[aB cb] w.drew fun e w'=>∃p5 c5,e= .returned (.slice p5 l.length c5)/\w'.ownsRow w.drew.heap.size 45 3 (.slice p5 l.length c5) l.length (eQ l)/\Below w.drew.heap.size w.drew w':=by
  refine(kM w.drew C1 hl).mono ?_;rintro e w1 ⟨v1,rfl,h1,h2⟩;obtain⟨p,c,rfl⟩:=(aK (E:=ET) h1).form;exact⟨p,c,rfl,h1,h2⟩
 clear hc;go_enter Tryz.func94,Tryz.ntmps94;go_wp2_with fail;go_region_held3 (fun w'=>aj w' cb 0 (fv fb)/\aj w' cb 1 (fv ff)/\cb<w'.heap.size)
  (first|exact S0|exact kN _ _ (by assumption) (Gr.refl _).drew.below|exact kN _ _ (by assumption) (by assumption)|exact kN _ _ (by assumption) ((Gr.refl _).alloc _).below)
  (first|(go_at_call 87;refine FL.mono ?_;rintro e w5 ⟨p5,c5,rfl,Em,hb5⟩))
 go_wp2;go_ret;have b5:Bw w w5:=(Gr.refl w).drew.below.trans hb5;refine⟨_,_,rfl,b5.size,⟨ah _ _,ag (aN Em (zL _)) ((Gr.refl _).alloc _).below,fun h=>by have:=(Em.lt _ h).2;omega⟩,b5.trans (((Gr.refl _).alloc _).below.mono b5.size),fun g hg=>(Em.lt g hg).1⟩
end Cn
open Go.RowKit Go.Sort Go.Maps
open Tt (Tl dW dK)
attribute[local go_sem ↓]wp_at_zero wp_at_succ
theorem heap_alloc2_new(w:World)(o p:Obj):(((w.alloc o).alloc p)).heap[w.heap.size+1]? =some p:=by
 have:=ah (w.alloc o) p;simpa using this
theorem heap_alloc2_old(w:World)(o p:Obj):(((w.alloc o).alloc p)).heap[w.heap.size]? =some o:=by
 rw[Below.heap_alloc _ _ _ (by simp)];exact ah _ _
theorem Kk{f:Tm->Int}(w:World)(h:Tl w tb b g n f):
    CL 155 #[aB tb] w fun e w'=>e= .returned (.pointer (some ⟨w.heap.size+1,0,none⟩))/\Tl w' (w.heap.size+1) w.heap.size g n f/\Gr w w':=by
 have hmx:Tryz.prog.follows .mixedOrders=true:=by kernel_rfl
 have HC:Hid (Tl w tb b g n f):=h;obtain⟨D,hown,h1,h2⟩:=h.ta;obtain⟨es,clock,hb,F,hs,hD⟩:=hown;have hbl:=(aG.1 hb).1;have S0:aj w tb 0 (fv g)/\aj w tb 1 (.map (some b))/\tb<w.heap.size:=⟨h.c0,h.c1,h.lt⟩;have kN:∀W W':World,(aj W tb 0 (fv g)/\aj W tb 1 (.map (some b))/\tb<W.heap.size)->Bw W W'->(aj W' tb 0 (fv g)/\aj W' tb 1 (.map (some b))/\tb<W'.heap.size):=fun W W' h hb=>
  ⟨(hb.cell (p:=⟨tb,0,none⟩) h.2.2).trans h.1,(hb.cell (p:=⟨tb,1,none⟩) h.2.2).trans h.2.1,nL h.2.2 hb.size⟩
 have hcl:=AnyW.maps_Clone Tryz.lClone b es clock w.drew hb;have hdr:∀o:Obj,Below w.drew.heap.size w.drew (w.drew.alloc o):=fun o=>((Gr.refl w.drew).alloc o).below;clear h;go_enter Tryz.func155,Tryz.ntmps155;go_wp2_with fail;go_region_held3 (fun w'=>aj w' tb 0 (fv g)/\aj w' tb 1 (.map (some b))/\tb<w'.heap.size)
  (first|exact S0|exact kN _ _ (by assumption) (Gr.refl _).drew.below|exact kN _ _ (by assumption) (by assumption)|exact kN _ _ (by assumption) ((Gr.refl _).alloc _).below)
  (first|(go_at_call 214;refine hcl.mono ?_;rintro e w5 ⟨rfl,rfl⟩))
 go_wp2;go_ret;refine⟨rfl,⟨heap_alloc2_new _ _ _,⟨D,⟨es,clock,heap_alloc2_old _ _ _,F,hs,hD⟩,h1,h2⟩,HC.o.bd⟩,(((Gr.refl _).alloc _).alloc _).drew⟩
theorem MS{f:Tm->Int}(w:World)(h:Tl w tb b g n f):
    CL 155 #[aB tb] w fun e w'=>∃mG b',e= .returned (aB mG)/\Hid (w.heap.size<=mG/\w.heap.size<=b'/\Tl w' mG b' g n f/\Gr w w'):=
 (Kk w h).mono fun _ _ ⟨h1,h2,h3⟩=>⟨_,_,h1,Nat.le_succ _,nR _,h2,h3⟩
theorem lT{f:Tm->Int}(w:World)(h:Tl w tb b g n f):
    CL 93 #[cv tb] w fun e w'=>∃mG b',e= .returned (cv mG)/\Hid (w.heap.size<=mG/\w.heap.size<=b'/\Tl w' mG b' g n f/\Bw w w'):=by
 obtain⟨W2,hW2⟩:=aF ((w.alloc (.cells #[aB tb] 176)).alloc (.cells #[.pointer none] 176));have G2:Gr w W2:=by rw[hW2];exact((Gr.refl _).alloc _).alloc _
 have hco:=MS W2 (h.gr G2);have HG2:Hid (Gr w W2):=G2;have HB:Hid (W2.heap[w.heap.size+1]? =some (.cells #[.pointer none] 176 (0,0))):=by rw[hW2];exact heap_alloc2_new _ _ _
 have HZ:Hid (w.heap.size+1<W2.heap.size):=by rw[hW2];simp[Hid]
 clear h G2;go_enter Tryz.func93,Tryz.ntmps93;go_wp2_with fail;rw[<-hW2];clear hW2;refine hco.mono ?_;rintro e w5 ⟨mG,b',rfl,H5⟩;have hb5:w5.heap[w.heap.size+1]? =some (.cells #[.pointer none] 176 (0,0)):=(H5.o.2.2.2.below.block _ HZ.o).trans HB.o;have q0:w5.cell? ⟨w.heap.size+1,0,none⟩=some (.pointer none):=by simp[World.cell?,hb5]
 have q0f:w5.frozen? ⟨w.heap.size+1,0,none⟩=false:=by simp[World.frozen?,hb5]
 have Da:Hid (w5.heap[w.heap.size+1]? =some (.cells #[.pointer none] 176 (0,0))):=hb5;clear hco hb5;go_wp2;have e:=setCell_eq_setRow w5 (w.heap.size+1) 0 _ _ _ (aB mG) Da.o;have hk:Kp (fun k=>k=w.heap.size+1) w5 (w5.setCell ⟨w.heap.size+1,0,none⟩ (aB mG)):=by
  rw[e];exact⟨rfl,rfl,rfl,by simp[World.setRow],fun k _ hne=>setRow_other _ _ k _ (by omega)⟩
 have hb':(w5.setCell ⟨w.heap.size+1,0,none⟩ (aB mG)).heap[w.heap.size+1]? =some (.cells #[aB mG] 176 (0,0)):=by
  rw[e,setRow_heap _ _ _ _ _ _ Da.o];simp
 have q1:(w5.setCell ⟨w.heap.size+1,0,none⟩ (aB mG)).cell? ⟨w.heap.size+1,0,none⟩=some (aB mG):=by simp[World.cell?,hb']
 refine bR (v:=cv mG) (by simp[results,Tryz.results93,go_sem,q1]) rfl ?_;obtain⟨h1,h2,h3,h4⟩:=H5.o;have hz:=HZ.o;have hg:=HG2.o.trans h4;exact⟨mG,b',rfl,by omega,by omega,h3.kp hk (by omega) (by omega),hg.below.trans (hk.below hg.size (fun k hk=>by omega))⟩
theorem zS{mb:Nat}{f:Tm->Int}{fr:List Tm}(w:World)(h:Mu w mb tb b cb n v f fr)(hl:fr.length*24<=140737488355328):
    CL 54 #[aB mb] w fun e w'=>∃mb' mG b' cb' v',e= .returned (aB mb')/\Hid (Mu w' mb' mG b' cb' n v' f fr/\Bw w w'/\w.heap.size<=mb'/\w.heap.size<=mG/\w.heap.size<=b'/\w.heap.size<=cb'/\∀g,v'.ownBlock=some g->w.heap.size<=g):=by
 have hmx:Tryz.prog.follows .mixedOrders=true:=by kernel_rfl
 have HM:Hid (Mu w mb tb b cb n v f fr):=h;have S0:w.drew.cell? ⟨mb,0,none⟩=some (aB tb)/\w.drew.cell? ⟨mb,1,none⟩=some (aB cb)/\mb<w.drew.heap.size:=⟨h.c0,h.c1,h.lt⟩;have kN:∀W W':World,(aj W mb 0 (aB tb)/\aj W mb 1 (aB cb)/\mb<W.heap.size)->Bw W W'->(aj W' mb 0 (aB tb)/\aj W' mb 1 (aB cb)/\mb<W'.heap.size):=fun W W' h hb=>
  ⟨(hb.cell (p:=⟨mb,0,none⟩) h.2.2).trans h.1,(hb.cell (p:=⟨mb,1,none⟩) h.2.2).trans h.2.1,nL h.2.2 hb.size⟩
 have hM1:=h.below (Gr.refl w).drew.below;have hc1:=(lT w.drew hM1.tl).mono fun e w' ⟨mG,b',h1,h2⟩=>(⟨mG,b',h1,h2,h2.o.2.2.2⟩:∃mG b',e=Ending.returned (cv mG)/\Hid (w.drew.heap.size<=mG/\w.drew.heap.size<=b'/\Tl w' mG b' _ n f/\Below w.drew.heap.size w.drew w')/\Below w.drew.heap.size w.drew w');have hc2:∀W,Below w.drew.heap.size w.drew W->CL 94 #[aB cb] W fun e w'=>∃cb' v',e= .returned (aB cb')/\Hid (W.heap.size<=cb'/\Cz.Ch true w' cb' fA fN v' fr/\(∀g,v'.ownBlock=some g->W.heap.size<=g))/\Bw W w':=fun W hW=>
  (Cn.yg W (hM1.below hW).ch hl).mono fun _ _ ⟨cb',v',h1,h2,h3,h4,h5⟩=>⟨cb',v',h1,⟨h2,h3,h5⟩,h4⟩
 clear h hM1;go_enter Tryz.func54,Tryz.ntmps54;go_wp2_with fail;go_region_held3 (fun w'=>aj w' mb 0 (aB tb)/\aj w' mb 1 (aB cb)/\mb<w'.heap.size)
  (first|exact S0|exact kN _ _ (by assumption) (by assumption)|exact kN _ _ (by assumption) ((Gr.refl _).alloc _).below)
  (first|(go_at_call 93;refine hc1.mono ?_;rintro e w5 ⟨mG,b',rfl,H5,hb5⟩)|(go_at_call 94;refine(hc2 _ hb5).mono ?_;rintro e w6 ⟨cb',v',rfl,H6,hb6⟩))
 go_wp2;go_ret;obtain⟨h1,h2,h3,h4⟩:=H5.o;obtain⟨h5,h6,h7⟩:=H6.o;have hal:∀o,Bw w6 (w6.alloc o):=fun o=>((Gr.refl w6).alloc o).below;have hz:w.heap.size<=w5.heap.size:=hb5.size;have hz6:=hb6.size;have Hr:Bw w w5:=(Gr.refl w).drew.below.trans hb5;have h56:∀o,Bw w5 (w6.alloc o):=fun o=>hb6.trans ((hal o).mono hb6.size);have h1':w.heap.size<=mG:=h1;have h2':w.heap.size<=b':=h2;exact⟨w6.heap.size,mG,b',cb',v',rfl,⟨ah _ _,h3.below (h56 _),h6.below (hal _)⟩,Hr.trans ((h56 _).mono hz),by omega,h1',h2',by omega,fun g hg=>nT hz (h7 g hg)⟩
end
namespace Rc
open Go.RowKit Go.Sort Go.Maps Pt Hc
attribute[local go_sem ↓]wp_at_zero wp_at_succ
def CpR(w:World)(t:Nat->Nat)(iQ:Nat)(ar:Int)(N:Nat)(L:Nat->List (Nat×ai))(rs:List Nat)(c:Nat->ai->Int)(K O:Nat->List ai)(C:Nat->ai->Int)(F:Nat->List ai)(U:List Th)(w':World):Prop:=
 ∃t',w.heap.size<=iQ/\(∀k,k<w.heap.size->t' k=if t k=0 then 0 else 4294967299)/\(∀k,w.heap.size<=k->t' k<3+2*N)/\Rq w' t' iQ ar N L rs c K O C F U/\Bw w w'
theorem yg{t:Nat->Nat}{rb N:Nat}{ar:Int}{L:Nat->List (Nat×ai)}{rs:List Nat}{c:Nat->ai->Int}{Kt O:Nat->List ai}{C:Nat->ai->Int}{F:Nat->List ai}{U:List Th}(w0:World)(h:Rq w0 t rb ar N L rs c Kt O C F U)(hN:N<=192)(hO:∀p,p<N->(O p).length*24<=140737488355328)(hF:∀p,p<N->(F p).length*24<=140737488355328)(hU:U.length<=1000000000):
    CL 22 #[aB rb] w0 fun e w'=>∃iQ,e= .returned (aB iQ)/\Hid (CpR w0 t iQ ar N L rs c Kt O C F U w'):=by
 have hmx:Tryz.prog.follows .mixedOrders=true:=by kernel_rfl
 obtain⟨sv,rv,ov,cv,uv,os0,ms0,h1,h2,h3⟩:=h;obtain⟨us,u1,u2,u3⟩:=h1.st;obtain⟨sq,sc,hsv⟩:=u1.1.form;obtain⟨rq,rc,U5⟩:=h1.rk.1.form;obtain⟨uq,uc,huv⟩:=h1.ut.1.form;obtain⟨wK,hsm⟩:=aF (us.length);obtain⟨rm,hrm⟩:=aF (rs.length);rw[<-hsm]at hsv;rw[<-hrm]at U5;clear u1 u2 u3 hsm hrm huv;subst hsv U5;obtain⟨nm,hnm⟩:∃nm:Nat->Nat,∀p mb,ms0[p]? =some mb->Ml w0 t (3+p) mb (nm p) (C p) (F p):=by
  have hx:∀p,∃n,∀mb,ms0[p]? =some mb->Ml w0 t (3+p) mb n (C p) (F p):=fun p=>by
   cases e:ms0[p]? with
   | none => exact⟨0,fun mb hm=>by cases hm⟩
   | some m=>
    obtain⟨n,hn⟩:=h3 p m e;exact⟨n,fun mb hm=>by cases hm;exact hn⟩
  exact Classical.axiomOfChoice hx
 obtain⟨aL,Eh⟩:∃g:Nat->Nat,g=fun k=>if t k=0 then 0 else 4294967299:=⟨_,rfl⟩
 have HT0:Hid (∀k,(t k=0->aL k=0)/\(aL k=0\/aL k=4294967299)/\aL k=if t k=0 then 0 else 4294967299):=fun k=>by
  rw[Eh];refine⟨fun e=>by simp[e], ?_,rfl⟩;by_cases e:t k=0
  ·exact .inl (by simp[e])
  ·exact .inr (by simp[e])
 clear Eh;have HR:=hid h1;have HM:=hid h2;have HMC:=hid hnm;have HO:=hid hO;have HF:=hid hF;have HTU:Hid (∀W,Bw w0 W->CL 19 #[aB rb] W fun e w'=>∃p n q,e= .returned (.slice p n q)/\Hid (w'.ownsRow W.heap.size 49 5 (.slice p n q) U.length (fl EC U)/\Bw W w')):=fun W hb=>zo W (h1.keep (t':=t) (Kp.of_below (S:=fun _=>False) hb) (fun _ _ e=>e.elim) (fun _ _=>rfl)) hU;have FO:Hid (∀W,Bw w0 W->CL 42 #[aB rb] W fun e w'=>e= .returned (iV (N:Nat))/\w'=W):=fun W hW=>by
  have k1:=fB W ((hW.block rb (ae h1.blk)).trans h1.blk) (h1.ow.1.below hW);rw[h1.ol]at k1;exact k1
 have HSR:Hid (∀W,Bw w0 W->aj W rb 0 (iV ar)/\aj W rb 1 (.slice sq wK sc)/\aj W rb 2 (.slice rq rm rc)/\W.cell? ⟨rb,3,none⟩=some ov/\W.cell? ⟨rb,4,none⟩=some cv/\rb<W.heap.size):=fun W hW=>by
  have hb:=(hW.block rb (ae h1.blk)).trans h1.blk;exact⟨((aa hb).1 0).trans rfl,((aa hb).1 1).trans rfl,((aa hb).1 2).trans rfl,((aa hb).1 3).trans rfl,((aa hb).1 4).trans rfl,ae hb⟩
 clear h1 h2 h3 hnm hO hF hU;go_enter Tryz.func22,Tryz.ntmps22;go_upto_region 3 with fail;have hS0:(fun W:World=>Bw w0 W) w0.drew:=(Gr.refl w0).drew.below;refine ay (S:=fun W:World=>Bw w0 W) (D:=[]) hmx ?_;refine' ak 0 hS0 ?_;refine' bD 1 hS0 ?h ?_;case h=>(intro W hSw;obtain⟨c0,c1,c2,c3,c4,c5⟩:=HSR.o W hSw;go_simp;try(with_reducible rfl))
 refine' bD 2 hS0 ?h ?_;case h=>(intro W hSw;obtain⟨c0,c1,c2,c3,c4,c5⟩:=HSR.o W hSw;go_simp;try(with_reducible rfl))
 refine' bD 3 hS0 ?h ?_;case h=>(intro W hSw;obtain⟨c0,c1,c2,c3,c4,c5⟩:=HSR.o W hSw;go_simp;try(with_reducible rfl))
 refine' ak 4 hS0 ?_;refine wpC 5 (HTU.o _ hS0) ?_;rintro e w1 ⟨uq,um,uc,rfl,h1⟩;have hS1:Bw w0 w1:=hS0.trans (h1.o.2.mono hS0.size);refine⟨_,rfl,hS1, ?_⟩;refine' ak 6 hS1 ?_;have g2:Bw w0 (w1.alloc (.cells #[iV ar, .slice sq wK sc, .slice rq rm rc, .slice none 0 0, .slice none 0 0, .slice uq um uc] 102)):=hS1.trans (((Gr.refl w1).alloc _).below.mono hS1.size);refine fV 7 fun K hK=> ?_;go_simp;refine hK.o _ _ (fun hD=>g2) ?_;clear hK K;try simp only[Act.put,qI,q0,qS]
 refine' ak 8 g2 ?_;refine av (by kernel_rfl) ?_ _;obtain⟨iQ,WX⟩:=aF (w1.heap.size);obtain⟨W3,hW3⟩:=aF (w1.alloc (.cells #[iV ar, .slice sq wK sc, .slice rq rm rc, .slice none 0 0, .slice none 0 0, .slice uq um uc] 102));have H3:Hid (tY w0 aL W3 (tg (tg aL w0 0) w1 2) iQ ar (.slice sq wK sc) (.slice rq rm rc) (.slice none 0 0) (.slice none 0 0) N L rs [] [] (.slice uq um uc) U (fun p=>(Kt p).length) c O nm C F/\w0.heap.size<=iQ):=by
  rw[hW3,WX];have g3:=((Gr.refl w1).alloc (.cells #[iV ar, .slice sq wK sc, .slice rq rm rc, .slice none 0 0, .slice none 0 0, .slice uq um uc] 102)).below;have hK:=Kp.of_below (S:=fun _=>False) g2;have hK3:=Kp.of_below (S:=fun _=>False) g3;have hT:∀k,k<w0.heap.size->tg (tg aL w0 0) w1 2 k=aL k:=fun k hk=>by rw[au (nL hk hS1.size),au hk]
  have hT1:∀k,k<w1.heap.size->tg (tg aL w0 0) w1 2 k=tg aL w0 0 k:=fun k hk=>au hk;have z0:∀k,t k=0->aL k=0:=fun k e=>(HT0.o k).1 e;have hu:Lm EC w1 (tg aL w0 0) 0 (.slice uq um uc) U:=by
   have h:=h1.o.1;exact⟨aK (E:=EC) h,fun k hk=>aU (nT hS0.size (je h hk))⟩
  exact⟨⟨ah _ _,aU (nR _),(HR.o.st.retag z0).keep hK (fun _ _ e=>e.elim) hT,(HR.o.rk.retag z0).keep hK (fun _ _ e=>e.elim) hT,oN _ _ _ _,fun k hk=>by simp[Value.ownBlock]at hk,oN _ _ _ _,fun k hk=>by simp[Value.ownBlock]at hk,hu.keep hK3 (fun _ _ e=>e.elim) hT1,fun p mb hp=>by simp at hp,fun p mb hp=>by simp at hp,g2,hT⟩,hS1.size⟩
 rw[<-hW3,<-WX];clear hW3 WX hS0 hS1 h1 g2 HTU;generalize tg (tg aL w0 0) w1 2=uN at H3;have hpl:=FO.o W3 H3.o.1.hb;go_wp2_with fail;refine hpl.mono ?_;clear hpl;rintro e w4 ⟨rfl,hw4⟩;subst hw4;go_wp2_with fail;go_loopw [17] (fun s17 wr=>∃(i:Nat) (tag:Nat->Nat) (oq:Option Addr) (om oc:Nat) (cq:Option Addr) (cm cc:Nat) (os ms:List Nat),i<=N/\s17=iV (i:Nat)/\Hid (tY w0 aL wr tag iQ ar (.slice sq wK sc) (.slice rq rm rc) (.slice oq om oc) (.slice cq cm cc) N L rs os ms (.slice uq um uc) U (fun p=>(Kt p).length) c O nm C F/\os.length=i/\ms.length=i/\w0.heap.size<=iQ)) (fun s17 _=>N-(intOf s17).toNat);case atStart=>exact⟨0,uN,none,0,0,none,0,0,[],[],zL _,rfl,H3.o.1,rfl,rfl,H3.o.2⟩
 case round=>
  clear H3;obtain⟨i,tag,oq,om,oc,cq,cm,cc,os,ms,hi,rfl,HI⟩:=hrel;by_cases hlt:i<N
  ·have hltz:(i:Int)<(N:Int):=(by omega);have hi0:(0:Int)<=(i:Int):=(by omega);obtain⟨ma,Y6⟩:∃mb,os0[i]? =some mb:=⟨os0[i]'(by have:=HR.o.ol;omega),by rw[p8]⟩;obtain⟨mc,hmc⟩:∃mb,ms0[i]? =some mb:=⟨ms0[i]'(by have:=HR.o.ml;omega),by rw[p8]⟩;obtain⟨bo,oo,co,hov,-,-⟩:=sU HR.o.ow.1 Y6;obtain⟨be,oe,ce,hcv,-,-⟩:=sU HR.o.cm.1 hmc;rw[HR.o.ol]at hov;rw[HR.o.ml]at hcv;have Ma:Hid (∀W:World,Bw w0 W->aj W rb 3 (.slice (some ⟨bo,oo,none⟩) N co)/\aj W rb 4 (.slice (some ⟨be,oe,none⟩) N ce)/\rb<W.heap.size/\aj W bo (oo+i) (aB ma)/\bo<W.heap.size/\aj W be (oe+i) (aB mc)/\be<W.heap.size):=fun W hW=>by
    obtain⟨c0,c1,c2,c3,c4,c5⟩:=HSR.o W hW;obtain⟨b',o',c',e',z',x'⟩:=sU (HR.o.ow.1.below hW) Y6;rw[hov]at e';simp only[vS,oI,aI,and_true]at e';obtain⟨⟨rfl,rfl⟩,-,-⟩:=e';obtain⟨b',o',c',e',z2,x2⟩:=sU (HR.o.cm.1.below hW) hmc;rw[hcv]at e';simp only[vS,oI,aI,and_true]at e';obtain⟨⟨rfl,rfl⟩,-,-⟩:=e';exact⟨by rw[<-hov];exact c3,by rw[<-hcv];exact c4,c5,x',z',x2,z2⟩
   have HCO:Hid (∀(W:World),Bw w0 W->CL 54 #[aB ma] W fun e w'=>∃mb,e= .returned (aB mb)/\Hid ((∀tag:Nat->Nat,Ml w' (tg tag W (3+N+i)) (3+N+i) mb (Kt i).length (c i) (O i))/\Bw W w')):=fun W hW=>by
    obtain⟨tb,b,cb,v,hmu,hfr,_⟩:=HM.o i ma Y6;refine(zS W (hmu.kp (Kp.of_below (S:=fun _=>False) hW) (fun h=>h) (fun h=>h) (fun h=>h) (fun h=>h) (fun _ _ h=>h)) (HO.o i hlt)).mono ?_;rintro e w' ⟨m',t',b',c',v',rfl,hm⟩;obtain⟨k1,k2,k3,k4,k5,k6,k7⟩:=hm.o;exact⟨m',rfl,fun tag=>⟨t',b',c',v',k1,hfr,aU k3,aU k4,aU k5,aU k6,fun k hk=>aU (k7 k hk)⟩,k2⟩
   have FU:Hid (∀(W:World),Bw w0 W->CL 54 #[aB mc] W fun e w'=>∃mb,e= .returned (aB mb)/\Hid ((∀tag:Nat->Nat,Ml w' (tg tag W (3+i)) (3+i) mb (nm i) (C i) (F i))/\Bw W w')):=fun W hW=>by
    obtain⟨tb,b,cb,v,hmu,hfr,_⟩:=HMC.o i mc hmc;refine(zS W (hmu.kp (Kp.of_below (S:=fun _=>False) hW) (fun h=>h) (fun h=>h) (fun h=>h) (fun h=>h) (fun _ _ h=>h)) (HF.o i hlt)).mono ?_;rintro e w' ⟨m',t',b',c',v',rfl,hm⟩;obtain⟨k1,k2,k3,k4,k5,k6,k7⟩:=hm.o;exact⟨m',rfl,fun tag=>⟨t',b',c',v',k1,hfr,aU k3,aU k4,aU k5,aU k6,fun k hk=>aU (k7 k hk)⟩,k2⟩
   clear Y6 hmc hov hcv;go_upto_region 7 with fail;have CS:Hid (∀W,Bw wr W->(aj W iQ 3 (.slice oq om oc)/\iQ<W.heap.size)/\Bw w0 W):=fun W hb=>by
    have hbk:=(hb.block iQ (ae HI.o.1.blk)).trans HI.o.1.blk;exact⟨⟨((aa hbk).1 3).trans rfl,ae hbk⟩,HI.o.1.hb.trans (hb.mono HI.o.1.hb.size)⟩
   have hB0:Bw wr wr.drew:=(Gr.refl wr).drew.below;have hS0:=CS.o _ hB0;refine ay (S:=fun W:World=>(aj W iQ 3 (.slice oq om oc)/\iQ<W.heap.size)/\Bw w0 W) (D:=[16,17]) hmx ?_;refine' ak 0 hS0 ?_;refine' ak 1 hS0 ?_;refine' bD 2 hS0 ?h ?_;case h=>(intro W hSw;have hc:=hSw.1.1;have hl:=hSw.1.2;go_simp;try(with_reducible rfl))
   refine' bD 3 hS0 ?h ?_;case h=>(intro W hSw;have hc:=hSw.1.1;have hl:=hSw.1.2;go_simp;try(with_reducible rfl))
   refine' bD 4 hS0 ?h ?_;case h=>(intro W hSw;have hc:=hSw.1.1;have hl:=hSw.1.2;go_simp;try(with_reducible rfl))
   refine' ak 5 hS0 ?_;refine' bD 6 hS0 ?h ?_;case h=>(intro W hSw;obtain⟨c3,c4,c5,x1,z1,x2,z2⟩:=Ma.o W hSw.2;go_simp;try(with_reducible rfl))
   refine' bD 7 hS0 ?h ?_;case h=>(intro W hSw;obtain⟨c3,c4,c5,x1,z1,x2,z2⟩:=Ma.o W hSw.2;go_simp;try(with_reducible rfl))
   refine' bD 8 hS0 ?h ?_;case h=>(intro W hSw;obtain⟨c3,c4,c5,x1,z1,x2,z2⟩:=Ma.o W hSw.2;go_simp;try(with_reducible rfl))
   refine' ak 9 hS0 ?_;refine' bD 10 hS0 ?h ?_;case h=>(intro W hSw;obtain⟨c3,c4,c5,x1,z1,x2,z2⟩:=Ma.o W hSw.2;go_simp;try(with_reducible rfl))
   refine' bD 11 hS0 ?h ?_;case h=>(intro W hSw;obtain⟨c3,c4,c5,x1,z1,x2,z2⟩:=Ma.o W hSw.2;go_simp;try(with_reducible rfl))
   refine wpC 12 (HCO.o _ hS0.2) ?_;rintro e w7 ⟨mb,rfl,h7⟩;have bu:Bw wr w7:=hB0.trans (h7.o.2.mono hB0.size);have N7:Hid (tY w0 aL w7 (tg tag wr (3+N+i)) iQ ar (.slice sq wK sc) (.slice rq rm rc) (.slice oq om oc) (.slice cq cm cc) N L rs os ms (.slice uq um uc) U (fun p=>(Kt p).length) c O nm C F/\Ml w7 (tg tag wr (3+N+i)) (3+N+i) mb (Kt i).length (c i) (O i)):=⟨HI.o.1.grow _ bu,h7.o.1 tag⟩;refine⟨_,rfl,CS.o _ bu, ?_⟩;refine fV 13 fun K hK=> ?_;go_simp;have iZ:Bw wr (w7.alloc (.cells #[aB mb] 107)):=bu.trans (((Gr.refl w7).alloc _).below.mono bu.size);refine hK.o _ _ (fun hD=>CS.o _ iZ) ?_;clear hK K;try simp only[Act.put,qI,q0,qS]
   refine fV 14 fun K hK=> ?_;refine bT EA Tryz.underlying100 BR rfl (by decide) rfl _ _ rfl w0.heap.size (.slice oq om oc) os.length (fl EA os) rfl (ag HI.o.1.ow bu) mb (by first|rfl|simp) (by have:=HI.o.2;omega) (by have:=HI.o.2;unfold maxLen;omega) (nT HI.o.1.hb.size bu.size) #[aB mb] rfl _ ?_;intro g8 bF w8 h8 k8 n8;have FL:os.length=i:=(by have:=HI.o.2;omega);have LX:Hid (tY w0 aL (w8.setCell ⟨iQ,3,none⟩ (.slice (some ⟨g8,0,none⟩) (os.length+1) bF)) (tg (tg tag wr (3+N+i)) w7 4294967297) iQ ar (.slice sq wK sc) (.slice rq rm rc) (.slice (some ⟨g8,0,none⟩) (os.length+1) bF) (.slice cq cm cc) N L rs (os++[mb]) ms (.slice uq um uc) U (fun p=>(Kt p).length) c O nm C F):=N7.o.1.own hN (by have:=HI.o.2;omega) (by have:=HI.o.2;omega) (by omega) HI.o.2.2.2 (by rw[FL];exact N7.o.2) h8.o k8.o n8.o;have F8:Hid (w8.frozen? ⟨iQ,3,none⟩=false/\(aj w8 iQ 3 (.slice oq om oc)/\iQ<w8.heap.size)/\Bw w0 w8):=by
    have hbk:=N7.o.1.blk;have K8:Kp (fun k=>(.slice oq om oc:Value).ownBlock=some k) w7 w8:=Kp.grownBy k8.o fun _ h=>h;have dP:=(K8.block iQ (ae hbk) fun e=>by have e2:=N7.o.1.ot iQ e;rw[N7.o.1.tb]at e2;cases e2).trans hbk;exact⟨(aa dP).2 _,⟨((aa dP).1 3).trans rfl,ae dP⟩,N7.o.1.hb.trans (K8.below N7.o.1.hb.size fun k hk=>(N7.o.1.ow.lt k hk).1)⟩
   clear h8 k8 n8 FL;generalize os.length+1=ll at LX⊢;refine hK.o _ _ (fun hD=>F8.o.2) ?_;clear hK K;try simp only[Act.put,qI,q0,qS]
   refine' bD 15 F8.o.2 ?h ?_;case h=>(intro W hSw;have hc:=hSw.1.1;have hl:=hSw.1.2;go_simp;try(with_reducible rfl))
   refine fV 16 fun K hK=> ?_;go_simp;refine hK.o _ _ (fun hD=>absurd (by decide) hD) ?_;clear hK K;try simp only[Act.put,qI,q0,qS]
   refine fV 17 fun K hK=> ?_;have c8:=F8.o.2.1.1;have f8:=F8.o.1;have l8:=F8.o.2.1.2;go_simp;generalize (w8.setCell ⟨iQ,3,none⟩ (.slice (some ⟨g8,0,none⟩) ll bF))=w9 at LX⊢;clear c8 f8 l8 F8;refine hK.o _ _ (fun hD=>absurd (by decide) hD) ?_;clear hK K;try simp only[Act.put,qI,q0,qS]
   refine av (by kernel_rfl) ?_ _;obtain⟨GH,GJ,GK,os2,Xb⟩:∃(GH:Option Addr) (GJ GK:Nat) (os2:List Nat),GH=some ⟨g8,0,none⟩/\GJ=ll/\GK=bF/\os2=os++[mb]:=⟨_,_,_,_,rfl,rfl,rfl,rfl⟩;obtain⟨e1,e2,e3,e4⟩:=Xb;rw[<-e1,<-e2,<-e3,<-e4]at LX;obtain⟨mH,Eg⟩:=aF (tg (tg tag wr (3+N+i)) w7 4294967297);rw[<-Eg]at LX;have HJ:Hid (tY w0 aL w9 mH iQ ar (.slice sq wK sc) (.slice rq rm rc) (.slice GH GJ GK) (.slice cq cm cc) N L rs os2 ms (.slice uq um uc) U (fun p=>(Kt p).length) c O nm C F/\os2.length=i+1/\ms.length=i/\w0.heap.size<=iQ):=⟨LX.o,by rw[e4,dQ,vR];have:=HI.o.2.1;omega,HI.o.2.2.1,HI.o.2.2.2⟩;clear LX HI hS0 hB0 CS bu iZ N7 Eg e1 e2 e3 e4 h7;go_upto_region 8 with fail;generalize w9=eF at HJ⊢;have CR:Hid (∀W,Bw eF W->(aj W iQ 4 (.slice cq cm cc)/\iQ<W.heap.size)/\Bw w0 W):=fun W hb=>by
    have hbk:=(hb.block iQ (ae HJ.o.1.blk)).trans HJ.o.1.blk;exact⟨⟨((aa hbk).1 4).trans rfl,ae hbk⟩,HJ.o.1.hb.trans (hb.mono HJ.o.1.hb.size)⟩
   have hB0:Bw eF eF.drew:=(Gr.refl eF).drew.below;have hS0:=CR.o _ hB0;refine ay (S:=fun W:World=>(aj W iQ 4 (.slice cq cm cc)/\iQ<W.heap.size)/\Bw w0 W) (D:=[16,17]) hmx ?_;refine' ak 0 hS0 ?_;refine' ak 1 hS0 ?_;refine' bD 2 hS0 ?h ?_;case h=>(intro W hSw;have hc:=hSw.1.1;have hl:=hSw.1.2;go_simp;try(with_reducible rfl))
   refine' bD 3 hS0 ?h ?_;case h=>(intro W hSw;have hc:=hSw.1.1;have hl:=hSw.1.2;go_simp;try(with_reducible rfl))
   refine' bD 4 hS0 ?h ?_;case h=>(intro W hSw;have hc:=hSw.1.1;have hl:=hSw.1.2;go_simp;try(with_reducible rfl))
   refine' ak 5 hS0 ?_;refine' bD 6 hS0 ?h ?_;case h=>(intro W hSw;obtain⟨c3,c4,c5,x1,z1,x2,z2⟩:=Ma.o W hSw.2;go_simp;try(with_reducible rfl))
   refine' bD 7 hS0 ?h ?_;case h=>(intro W hSw;obtain⟨c3,c4,c5,x1,z1,x2,z2⟩:=Ma.o W hSw.2;go_simp;try(with_reducible rfl))
   refine' bD 8 hS0 ?h ?_;case h=>(intro W hSw;obtain⟨c3,c4,c5,x1,z1,x2,z2⟩:=Ma.o W hSw.2;go_simp;try(with_reducible rfl))
   refine' ak 9 hS0 ?_;refine' bD 10 hS0 ?h ?_;case h=>(intro W hSw;obtain⟨c3,c4,c5,x1,z1,x2,z2⟩:=Ma.o W hSw.2;go_simp;try(with_reducible rfl))
   refine' bD 11 hS0 ?h ?_;case h=>(intro W hSw;obtain⟨c3,c4,c5,x1,z1,x2,z2⟩:=Ma.o W hSw.2;go_simp;try(with_reducible rfl))
   refine wpC 12 (FU.o _ hS0.2) ?_;rintro e w7 ⟨mb,rfl,h7⟩;have bu:Bw eF w7:=hB0.trans (h7.o.2.mono hB0.size);have N7:Hid (tY w0 aL w7 (tg mH eF (3+i)) iQ ar (.slice sq wK sc) (.slice rq rm rc) (.slice GH GJ GK) (.slice cq cm cc) N L rs os2 ms (.slice uq um uc) U (fun p=>(Kt p).length) c O nm C F/\Ml w7 (tg mH eF (3+i)) (3+i) mb (nm i) (C i) (F i)):=⟨HJ.o.1.grow _ bu,h7.o.1 mH⟩;refine⟨_,rfl,CR.o _ bu, ?_⟩;refine fV 13 fun K hK=> ?_;go_simp;have iZ:Bw eF (w7.alloc (.cells #[aB mb] 107)):=bu.trans (((Gr.refl w7).alloc _).below.mono bu.size);refine hK.o _ _ (fun hD=>CR.o _ iZ) ?_;clear hK K;try simp only[Act.put,qI,q0,qS]
   refine fV 14 fun K hK=> ?_;refine bT EA Tryz.underlying100 BR rfl (by decide) rfl _ _ rfl w0.heap.size (.slice cq cm cc) ms.length (fl EA ms) rfl (ag HJ.o.1.cm bu) mb (by first|rfl|simp) (by have:=HJ.o.2;omega) (by have:=HJ.o.2;unfold maxLen;omega) (nT HJ.o.1.hb.size bu.size) #[aB mb] rfl _ ?_;intro g8 bF w8 h8 k8 n8;have FL:ms.length=i:=(by have:=HJ.o.2;omega);have Uu:Hid (tY w0 aL (w8.setCell ⟨iQ,4,none⟩ (.slice (some ⟨g8,0,none⟩) (ms.length+1) bF)) (tg (tg mH eF (3+i)) w7 4294967298) iQ ar (.slice sq wK sc) (.slice rq rm rc) (.slice GH GJ GK) (.slice (some ⟨g8,0,none⟩) (ms.length+1) bF) N L rs os2 (ms++[mb]) (.slice uq um uc) U (fun p=>(Kt p).length) c O nm C F):=N7.o.1.come hN (by have:=HJ.o.2;omega) (by have:=HJ.o.2;omega) (by omega) HJ.o.2.2.2 (by rw[FL];exact N7.o.2) h8.o k8.o n8.o;have F8:Hid (w8.frozen? ⟨iQ,4,none⟩=false/\(aj w8 iQ 4 (.slice cq cm cc)/\iQ<w8.heap.size)/\Bw w0 w8):=by
    have hbk:=N7.o.1.blk;have K8:Kp (fun k=>(.slice cq cm cc:Value).ownBlock=some k) w7 w8:=Kp.grownBy k8.o fun _ h=>h;have dP:=(K8.block iQ (ae hbk) fun e=>by have e2:=N7.o.1.ct iQ e;rw[N7.o.1.tb]at e2;cases e2).trans hbk;exact⟨(aa dP).2 _,⟨((aa dP).1 4).trans rfl,ae dP⟩,N7.o.1.hb.trans (K8.below N7.o.1.hb.size fun k hk=>(N7.o.1.cm.lt k hk).1)⟩
   clear h8 k8 n8 FL;generalize ms.length+1=ll at Uu⊢;refine hK.o _ _ (fun hD=>F8.o.2) ?_;clear hK K;try simp only[Act.put,qI,q0,qS]
   refine' bD 15 F8.o.2 ?h ?_;case h=>(intro W hSw;have hc:=hSw.1.1;have hl:=hSw.1.2;go_simp;try(with_reducible rfl))
   refine fV 16 fun K hK=> ?_;go_simp;refine hK.o _ _ (fun hD=>absurd (by decide) hD) ?_;clear hK K;try simp only[Act.put,qI,q0,qS]
   refine fV 17 fun K hK=> ?_;have c8:=F8.o.2.1.1;have f8:=F8.o.1;have l8:=F8.o.2.1.2;go_simp;generalize (w8.setCell ⟨iQ,4,none⟩ (.slice (some ⟨g8,0,none⟩) ll bF))=w9 at Uu⊢;clear c8 f8 l8 F8;refine hK.o _ _ (fun hD=>absurd (by decide) hD) ?_;clear hK K;try simp only[Act.put,qI,q0,qS]
   refine av (by kernel_rfl) ?_ _;have HK:Hid (∃(X9:Option Addr) (Ye Yj:Nat) (SG:List Nat) (Gi:Nat->Nat),tY w0 aL w9 Gi iQ ar (.slice sq wK sc) (.slice rq rm rc) (.slice GH GJ GK) (.slice X9 Ye Yj) N L rs os2 SG (.slice uq um uc) U (fun p=>(Kt p).length) c O nm C F/\os2.length=i+1/\SG.length=i+1/\w0.heap.size<=iQ):=⟨_,_,_,_,_,Uu.o,HJ.o.2.1,by rw[dQ,vR];have:=HJ.o.2.2.1;omega,HJ.o.2.2.2⟩;clear Uu HJ hS0 hB0 CR bu iZ N7 h7 Ma HCO FU;go_upto_region 9 with fail;go_wp2_with fail;go_roundw;case rel=>
    obtain⟨X9,Ye,Yj,SG,Gi,k1,k2,k3,k4⟩:=HK.o;exact⟨i+1,Gi,GH,GJ,GK,X9,Ye,Yj,os2,SG,by omega,by go_num,k1,k2,k3,k4⟩
   case measure=>simp[intOf];omega
  ·have hltz:¬(i:Int)<(N:Int):=(by omega);obtain rfl:i=N:=(by omega);have HE:Hid (CpR w0 t iQ ar i L rs c Kt O C F U wr):=by
    obtain⟨h1,h2,h3,h4⟩:=HI.o;have hd:=h1.done h2 h3 HR.o.rl hN (fun k _=>(HT0.o k).2.1) (K:=Kt) (fun _ _=>rfl);refine⟨NT w0 aL tag i,h4,fun k hk=> ?_,fun k hk=> ?_,hd,h1.hb⟩
    ·have e:=(HT0.o k).2.2;unfold NT;rw[if_pos hk,e];by_cases z:t k=0
     ·simp[z]
     ·simp[z]
    ·unfold NT;rw[if_neg (by omega)];split<;>omega
   clear HI;go_wp2_with fail;go_ret;exact⟨iQ,rfl,HE.o⟩
end Rc
end Go.Proofs.YtiiefcalkjeieaaGreat
