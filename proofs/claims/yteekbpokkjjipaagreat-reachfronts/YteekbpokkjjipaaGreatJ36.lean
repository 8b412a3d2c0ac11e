import Derived.Test.YteekbpokkjjipaaGreatMCl
import Derived.Test.YteekbpokkjjipaaGreatJ34
import Derived.Test.YteekbpokkjjipaaGreatRcTl
variable{tb b n g cb:Nat}{v:Go.Value}
set_option maxHeartbeats 8000000
set_option maxRecDepth 100000
namespace Go.Proofs.YteekbpokkjjipaaGreat
section
namespace Cn
open Cz
open Go.RowKit Go.Sort Go.Maps
attribute [local go_sem ↓] Go.wp_at_zero Go.wp_at_succ
theorem wB{fb ff:Nat}{l:List Tm}(w:World)(hc:Ch true w cb fb ff v l)(hl:l.length*24<=140737488355328):
    Calls Tryz.prog 94 #[.pointer (some ⟨cb,0,none⟩)] w fun e w'=>∃cb' v',e= .returned (.pointer (some ⟨cb',0,none⟩))/\w.heap.size<=cb'/\Ch true w' cb' fb ff v' l/\Below w.heap.size w w'/\∀g,v'.ownBlock=some g->w.heap.size<=g:=by
 have hmx:Tryz.prog.follows .mixedOrders=true:=by kernel_rfl
 have HC:Hid (Ch true w cb fb ff v l):=hc;have S0:w.cell? ⟨cb,0,none⟩=some (fv fb)/\w.cell? ⟨cb,1,none⟩=some (fv ff)/\cb<w.heap.size:=⟨hc.c0,hc.c1,hc.lt⟩;have j5:∀W W':World,(W.cell? ⟨cb,0,none⟩=some (fv fb)/\W.cell? ⟨cb,1,none⟩=some (fv ff)/\cb<W.heap.size)->Below W.heap.size W W'->(W'.cell? ⟨cb,0,none⟩=some (fv fb)/\W'.cell? ⟨cb,1,none⟩=some (fv ff)/\cb<W'.heap.size):=fun W W' h hb=>
  ⟨(hb.cell (p:=⟨cb,0,none⟩) h.2.2).trans h.1,(hb.cell (p:=⟨cb,1,none⟩) h.2.2).trans h.2.1,nL h.2.2 hb.size⟩
 have C1:Ch true w.drew cb fb ff v l:=hc.below (Gr.refl _).drew.below;have DT:Calls Tryz.prog 87 #[.pointer (some ⟨cb,0,none⟩)] w.drew fun e w'=>∃p5 c5,e= .returned (.slice p5 l.length c5)/\w'.ownsRow w.drew.heap.size 45 3 (.slice p5 l.length c5) l.length (eu l)/\Below w.drew.heap.size w.drew w':=by
  refine(j4 w.drew C1 hl).mono ?_;rintro e w1 ⟨v1,rfl,h1,h2⟩;obtain⟨p,c,rfl⟩:=(aJ (E:=ET) h1).form;exact⟨p,c,rfl,h1,h2⟩
 clear hc;go_enter Tryz.func94,Tryz.ntmps94;go_wp2_with fail;go_region_held3 (fun w'=>w'.cell? ⟨cb,0,none⟩=some (fv fb)/\w'.cell? ⟨cb,1,none⟩=some (fv ff)/\cb<w'.heap.size)
  (first|exact S0|exact j5 _ _ (by assumption) (Gr.refl _).drew.below|exact j5 _ _ (by assumption) (by assumption)|exact j5 _ _ (by assumption) ((Gr.refl _).alloc _).below)
  (first|(go_at_call 87;refine DT.mono ?_;rintro e w5 ⟨p5,c5,rfl,Cu,hb5⟩))
 go_wp2;go_ret;have b5:Below w.heap.size w w5:=(Gr.refl w).drew.below.trans hb5;refine⟨_,_,rfl,b5.size,⟨ai _ _,ag (aK Cu (Nat.zero_le _)) ((Gr.refl _).alloc _).below,fun h=>by have:=(Cu.lt _ h).2;omega⟩,b5.trans (((Gr.refl _).alloc _).below.mono b5.size),fun g hg=>(Cu.lt g hg).1⟩
end Cn
open Go.RowKit Go.Sort Go.Maps
open Tt (Tl dQ dP)
attribute [local go_sem ↓] Go.wp_at_zero Go.wp_at_succ
theorem heap_alloc2_new(w:World)(o p:Obj):(((w.alloc o).alloc p)).heap[w.heap.size+1]? =some p:=by
 have:=ai (w.alloc o) p;simpa using this
theorem heap_alloc2_old(w:World)(o p:Obj):(((w.alloc o).alloc p)).heap[w.heap.size]? =some o:=by
 rw[Below.heap_alloc _ _ _ (by simp)];exact ai _ _
theorem I1{f:Tm->Int}(w:World)(h:Tl w tb b g n f):
    Calls Tryz.prog 155 #[.pointer (some ⟨tb,0,none⟩)] w fun e w'=>e= .returned (.pointer (some ⟨w.heap.size+1,0,none⟩))/\Tl w' (w.heap.size+1) w.heap.size g n f/\Gr w w':=by
 have hmx:Tryz.prog.follows .mixedOrders=true:=by kernel_rfl
 have HC:Hid (Tl w tb b g n f):=h;obtain⟨D,hown,h1,h2⟩:=h.ta;obtain⟨es,clock,hb,F,hs,hD⟩:=hown;have hbl:=(aG.1 hb).1;have S0:w.cell? ⟨tb,0,none⟩=some (fv g)/\w.cell? ⟨tb,1,none⟩=some (.map (some b))/\tb<w.heap.size:=⟨h.c0,h.c1,h.lt⟩;have j5:∀W W':World,(W.cell? ⟨tb,0,none⟩=some (fv g)/\W.cell? ⟨tb,1,none⟩=some (.map (some b))/\tb<W.heap.size)->Below W.heap.size W W'->(W'.cell? ⟨tb,0,none⟩=some (fv g)/\W'.cell? ⟨tb,1,none⟩=some (.map (some b))/\tb<W'.heap.size):=fun W W' h hb=>
  ⟨(hb.cell (p:=⟨tb,0,none⟩) h.2.2).trans h.1,(hb.cell (p:=⟨tb,1,none⟩) h.2.2).trans h.2.1,nL h.2.2 hb.size⟩
 have hcl:=AnyW.maps_Clone Tryz.lClone b es clock w.drew hb;have hdr:∀o:Obj,Below w.drew.heap.size w.drew (w.drew.alloc o):=fun o=>((Gr.refl w.drew).alloc o).below;clear h;go_enter Tryz.func155,Tryz.ntmps155;go_wp2_with fail;go_region_held3 (fun w'=>w'.cell? ⟨tb,0,none⟩=some (fv g)/\w'.cell? ⟨tb,1,none⟩=some (.map (some b))/\tb<w'.heap.size)
  (first|exact S0|exact j5 _ _ (by assumption) (Gr.refl _).drew.below|exact j5 _ _ (by assumption) (by assumption)|exact j5 _ _ (by assumption) ((Gr.refl _).alloc _).below)
  (first|(go_at_call 214;refine hcl.mono ?_;rintro e w5 ⟨rfl,rfl⟩))
 go_wp2;go_ret;refine⟨rfl,⟨heap_alloc2_new _ _ _,⟨D,⟨es,clock,heap_alloc2_old _ _ _,F,hs,hD⟩,h1,h2⟩,HC.o.bd⟩,(((Gr.refl _).alloc _).alloc _).drew⟩
theorem KH{f:Tm->Int}(w:World)(h:Tl w tb b g n f):
    Calls Tryz.prog 155 #[.pointer (some ⟨tb,0,none⟩)] w fun e w'=>∃lF b',e= .returned (.pointer (some ⟨lF,0,none⟩))/\Hid (w.heap.size<=lF/\w.heap.size<=b'/\Tl w' lF b' g n f/\Gr w w'):=
 (I1 w h).mono fun _ _ ⟨h1,h2,h3⟩=>⟨_,_,h1,Nat.le_succ _,nR _,h2,h3⟩
theorem kX{f:Tm->Int}(w:World)(h:Tl w tb b g n f):
    Calls Tryz.prog 93 #[cv tb] w fun e w'=>∃lF b',e= .returned (cv lF)/\Hid (w.heap.size<=lF/\w.heap.size<=b'/\Tl w' lF b' g n f/\Below w.heap.size w w'):=by
 obtain⟨W2,hW2⟩:=aB ((w.alloc (.cells #[.pointer (some ⟨tb,0,none⟩)] 176)).alloc (.cells #[.pointer none] 176));have G2:Gr w W2:=by rw[hW2];exact((Gr.refl _).alloc _).alloc _
 have hco:=KH W2 (h.gr G2);have HG2:Hid (Gr w W2):=G2;have HB:Hid (W2.heap[w.heap.size+1]? =some (.cells #[.pointer none] 176 (0,0))):=by rw[hW2];exact heap_alloc2_new _ _ _
 have HZ:Hid (w.heap.size+1<W2.heap.size):=by rw[hW2];simp[Hid]
 clear h G2;go_enter Tryz.func93,Tryz.ntmps93;go_wp2_with fail;rw[<-hW2];clear hW2;refine hco.mono ?_;rintro e w5 ⟨lF,b',rfl,H5⟩;have hb5:w5.heap[w.heap.size+1]? =some (.cells #[.pointer none] 176 (0,0)):=(H5.o.2.2.2.below.block _ HZ.o).trans HB.o;have q0:w5.cell? ⟨w.heap.size+1,0,none⟩=some (.pointer none):=by simp[World.cell?,hb5]
 have q0f:w5.frozen? ⟨w.heap.size+1,0,none⟩=false:=by simp[World.frozen?,hb5]
 have Bc:Hid (w5.heap[w.heap.size+1]? =some (.cells #[.pointer none] 176 (0,0))):=hb5;clear hco hb5;go_wp2;have e:=setCell_eq_setRow w5 (w.heap.size+1) 0 _ _ _ (.pointer (some ⟨lF,0,none⟩)) Bc.o;have hk:Kp (fun k=>k=w.heap.size+1) w5 (w5.setCell ⟨w.heap.size+1,0,none⟩ (.pointer (some ⟨lF,0,none⟩))):=by
  rw[e];exact⟨rfl,rfl,rfl,by simp[World.setRow],fun k _ hne=>setRow_other _ _ k _ (by omega)⟩
 have hb':(w5.setCell ⟨w.heap.size+1,0,none⟩ (.pointer (some ⟨lF,0,none⟩))).heap[w.heap.size+1]? =some (.cells #[.pointer (some ⟨lF,0,none⟩)] 176 (0,0)):=by
  rw[e,setRow_heap _ _ _ _ _ _ Bc.o];simp
 have q1:(w5.setCell ⟨w.heap.size+1,0,none⟩ (.pointer (some ⟨lF,0,none⟩))).cell? ⟨w.heap.size+1,0,none⟩=some (.pointer (some ⟨lF,0,none⟩)):=by simp[World.cell?,hb']
 refine bodyPost_ret (v:=cv lF) (by simp[results,Tryz.results93,go_sem,q1]) rfl ?_;obtain⟨h1,h2,h3,h4⟩:=H5.o;have hz:=HZ.o;have hg:=HG2.o.trans h4;exact⟨lF,b',rfl,by omega,by omega,h3.kp hk (by omega) (by omega),hg.below.trans (hk.below hg.size (fun k hk=>by omega))⟩
theorem yl{mb:Nat}{f:Tm->Int}{fr:List Tm}(w:World)(h:Mu w mb tb b cb n v f fr)(hl:fr.length*24<=140737488355328):
    Calls Tryz.prog 54 #[.pointer (some ⟨mb,0,none⟩)] w fun e w'=>∃mb' lF b' cb' v',e= .returned (.pointer (some ⟨mb',0,none⟩))/\Hid (Mu w' mb' lF b' cb' n v' f fr/\Below w.heap.size w w'/\w.heap.size<=mb'/\w.heap.size<=lF/\w.heap.size<=b'/\w.heap.size<=cb'/\∀g,v'.ownBlock=some g->w.heap.size<=g):=by
 have hmx:Tryz.prog.follows .mixedOrders=true:=by kernel_rfl
 have HM:Hid (Mu w mb tb b cb n v f fr):=h;have S0:w.drew.cell? ⟨mb,0,none⟩=some (.pointer (some ⟨tb,0,none⟩))/\w.drew.cell? ⟨mb,1,none⟩=some (.pointer (some ⟨cb,0,none⟩))/\mb<w.drew.heap.size:=⟨h.c0,h.c1,h.lt⟩;have j5:∀W W':World,(W.cell? ⟨mb,0,none⟩=some (.pointer (some ⟨tb,0,none⟩))/\W.cell? ⟨mb,1,none⟩=some (.pointer (some ⟨cb,0,none⟩))/\mb<W.heap.size)->Below W.heap.size W W'->(W'.cell? ⟨mb,0,none⟩=some (.pointer (some ⟨tb,0,none⟩))/\W'.cell? ⟨mb,1,none⟩=some (.pointer (some ⟨cb,0,none⟩))/\mb<W'.heap.size):=fun W W' h hb=>
  ⟨(hb.cell (p:=⟨mb,0,none⟩) h.2.2).trans h.1,(hb.cell (p:=⟨mb,1,none⟩) h.2.2).trans h.2.1,nL h.2.2 hb.size⟩
 have hM1:=h.below (Gr.refl w).drew.below;have hc1:=(kX w.drew hM1.tl).mono fun e w' ⟨lF,b',h1,h2⟩=>(⟨lF,b',h1,h2,h2.o.2.2.2⟩:∃lF b',e=Ending.returned (cv lF)/\Hid (w.drew.heap.size<=lF/\w.drew.heap.size<=b'/\Tl w' lF b' _ n f/\Below w.drew.heap.size w.drew w')/\Below w.drew.heap.size w.drew w');have hc2:∀W,Below w.drew.heap.size w.drew W->Calls Tryz.prog 94 #[.pointer (some ⟨cb,0,none⟩)] W fun e w'=>∃cb' v',e= .returned (.pointer (some ⟨cb',0,none⟩))/\Hid (W.heap.size<=cb'/\Cz.Ch true w' cb' fA fN v' fr/\(∀g,v'.ownBlock=some g->W.heap.size<=g))/\Below W.heap.size W w':=fun W hW=>
  (Cn.wB W (hM1.below hW).ch hl).mono fun _ _ ⟨cb',v',h1,h2,h3,h4,h5⟩=>⟨cb',v',h1,⟨h2,h3,h5⟩,h4⟩
 clear h hM1;go_enter Tryz.func54,Tryz.ntmps54;go_wp2_with fail;go_region_held3 (fun w'=>w'.cell? ⟨mb,0,none⟩=some (.pointer (some ⟨tb,0,none⟩))/\w'.cell? ⟨mb,1,none⟩=some (.pointer (some ⟨cb,0,none⟩))/\mb<w'.heap.size)
  (first|exact S0|exact j5 _ _ (by assumption) (by assumption)|exact j5 _ _ (by assumption) ((Gr.refl _).alloc _).below)
  (first|(go_at_call 93;refine hc1.mono ?_;rintro e w5 ⟨lF,b',rfl,H5,hb5⟩)|(go_at_call 94;refine(hc2 _ hb5).mono ?_;rintro e w6 ⟨cb',v',rfl,H6,hb6⟩))
 go_wp2;go_ret;obtain⟨h1,h2,h3,h4⟩:=H5.o;obtain⟨h5,h6,h7⟩:=H6.o;have hal:∀o,Below w6.heap.size w6 (w6.alloc o):=fun o=>((Gr.refl w6).alloc o).below;have hz:w.heap.size<=w5.heap.size:=hb5.size;have hz6:=hb6.size;have Yd:Below w.heap.size w w5:=(Gr.refl w).drew.below.trans hb5;have h56:∀o,Below w5.heap.size w5 (w6.alloc o):=fun o=>hb6.trans ((hal o).mono hb6.size);have h1':w.heap.size<=lF:=h1;have h2':w.heap.size<=b':=h2;exact⟨w6.heap.size,lF,b',cb',v',rfl,⟨ai _ _,h3.below (h56 _),h6.below (hal _)⟩,Yd.trans ((h56 _).mono hz),by omega,h1',h2',by omega,fun g hg=>nT hz (h7 g hg)⟩
end
namespace Rc
open Go.RowKit Go.Sort Go.Maps Pt Hc
attribute [local go_sem ↓] Go.wp_at_zero Go.wp_at_succ
def CpR(w:World)(t:Nat->Nat)(iA:Nat)(ar:Int)(N:Nat)(L:Nat->List (Nat×ah))(rs:List Nat)(c:Nat->ah->Int)(K O:Nat->List ah)(C:Nat->ah->Int)(F:Nat->List ah)(U:List Th)(w':World):Prop:=
 ∃t',w.heap.size<=iA/\(∀k,k<w.heap.size->t' k=if t k=0 then 0 else 4294967299)/\(∀k,w.heap.size<=k->t' k<3+2*N)/\Rq w' t' iA ar N L rs c K O C F U/\Below w.heap.size w w'
theorem wB{t:Nat->Nat}{rb N:Nat}{ar:Int}{L:Nat->List (Nat×ah)}{rs:List Nat}{c:Nat->ah->Int}{Kt O:Nat->List ah}{C:Nat->ah->Int}{F:Nat->List ah}{U:List Th}(w0:World)(h:Rq w0 t rb ar N L rs c Kt O C F U)(hN:N<=192)(hO:∀p,p<N->(O p).length*24<=140737488355328)(hF:∀p,p<N->(F p).length*24<=140737488355328)(hU:U.length<=1000000000):
    Calls Tryz.prog 22 #[.pointer (some ⟨rb,0,none⟩)] w0 fun e w'=>∃iA,e= .returned (.pointer (some ⟨iA,0,none⟩))/\Hid (CpR w0 t iA ar N L rs c Kt O C F U w'):=by
 have hmx:Tryz.prog.follows .mixedOrders=true:=by kernel_rfl
 obtain⟨sv,rv,ov,cv,uv,os0,ms0,h1,h2,h3⟩:=h;obtain⟨us,u1,u2,u3⟩:=h1.st;obtain⟨sq,sc,hsv⟩:=u1.1.form;obtain⟨rq,rc,Sq⟩:=h1.rk.1.form;obtain⟨uq,uc,huv⟩:=h1.ut.1.form;obtain⟨uJ,hsm⟩:=aB (us.length);obtain⟨rm,hrm⟩:=aB (rs.length);rw[<-hsm]at hsv;rw[<-hrm]at Sq;clear u1 u2 u3 hsm hrm huv;subst hsv Sq;obtain⟨nm,hnm⟩:∃nm:Nat->Nat,∀p mb,ms0[p]? =some mb->Ml w0 t (3+p) mb (nm p) (C p) (F p):=by
  have hx:∀p,∃n,∀mb,ms0[p]? =some mb->Ml w0 t (3+p) mb n (C p) (F p):=fun p=>by
   cases e:ms0[p]? with
   | none => exact⟨0,fun mb hm=>by cases hm⟩
   | some m=>
    obtain⟨n,hn⟩:=h3 p m e;exact⟨n,fun mb hm=>by cases hm;exact hn⟩
  exact Classical.axiomOfChoice hx
 obtain⟨aF,Cr⟩:∃g:Nat->Nat,g=fun k=>if t k=0 then 0 else 4294967299:=⟨_,rfl⟩
 have HT0:Hid (∀k,(t k=0->aF k=0)/\(aF k=0\/aF k=4294967299)/\aF k=if t k=0 then 0 else 4294967299):=fun k=>by
  rw[Cr];refine⟨fun e=>by simp[e], ?_,rfl⟩;by_cases e:t k=0
  ·exact .inl (by simp[e])
  ·exact .inr (by simp[e])
 clear Cr;have HR:=hid h1;have HM:=hid h2;have HMC:=hid hnm;have HO:=hid hO;have HF:=hid hF;have HTU:Hid (∀W,Below w0.heap.size w0 W->Calls Tryz.prog 19 #[.pointer (some ⟨rb,0,none⟩)] W fun e w'=>∃p n q,e= .returned (.slice p n q)/\Hid (w'.ownsRow W.heap.size 49 5 (.slice p n q) U.length (fl EC U)/\Below W.heap.size W w')):=fun W hb=>xJ W (h1.keep (t':=t) (Kp.of_below (S:=fun _=>False) hb) (fun _ _ e=>e.elim) (fun _ _=>rfl)) hU;have IU:Hid (∀W,Below w0.heap.size w0 W->Calls Tryz.prog 42 #[.pointer (some ⟨rb,0,none⟩)] W fun e w'=>e= .returned (.int .i64 (N:Nat))/\w'=W):=fun W hW=>by
  have k1:=eG W ((hW.block rb (ae h1.blk)).trans h1.blk) (h1.ow.1.below hW);rw[h1.ol]at k1;exact k1
 have HSR:Hid (∀W,Below w0.heap.size w0 W->W.cell? ⟨rb,0,none⟩=some (.int .i64 ar)/\W.cell? ⟨rb,1,none⟩=some (.slice sq uJ sc)/\W.cell? ⟨rb,2,none⟩=some (.slice rq rm rc)/\W.cell? ⟨rb,3,none⟩=some ov/\W.cell? ⟨rb,4,none⟩=some cv/\rb<W.heap.size):=fun W hW=>by
  have hb:=(hW.block rb (ae h1.blk)).trans h1.blk;exact⟨((aa hb).1 0).trans rfl,((aa hb).1 1).trans rfl,((aa hb).1 2).trans rfl,((aa hb).1 3).trans rfl,((aa hb).1 4).trans rfl,ae hb⟩
 clear h1 h2 h3 hnm hO hF hU;go_enter Tryz.func22,Tryz.ntmps22;go_upto_region 3 with fail;have hS0:(fun W:World=>Below w0.heap.size w0 W) w0.drew:=(Gr.refl w0).drew.below;refine av (S:=fun W:World=>Below w0.heap.size w0 W) (D:=[]) hmx ?_;refine' au 0 hS0 ?_;refine' aR 1 hS0 ?h ?_;case h=>(intro W hSw;obtain⟨c0,c1,c2,c3,c4,c5⟩:=HSR.o W hSw;go_simp;try(with_reducible rfl))
 refine' aR 2 hS0 ?h ?_;case h=>(intro W hSw;obtain⟨c0,c1,c2,c3,c4,c5⟩:=HSR.o W hSw;go_simp;try(with_reducible rfl))
 refine' aR 3 hS0 ?h ?_;case h=>(intro W hSw;obtain⟨c0,c1,c2,c3,c4,c5⟩:=HSR.o W hSw;go_simp;try(with_reducible rfl))
 refine' au 4 hS0 ?_;refine bF 5 fun K hK=> ?_;go_simp;refine(HTU.o _ hS0).mono ?_;rintro e w1 ⟨uq,um,uc,rfl,h1⟩;have hS1:Below w0.heap.size w0 w1:=hS0.trans (h1.o.2.mono hS0.size);go_wp2_with fail;refine hK.o _ _ (fun hD=>hS1) ?_;clear hK K;try simp only[Act.put,qI,q0,qS]
 refine' au 6 hS1 ?_;have g2:Below w0.heap.size w0 (w1.alloc (.cells #[.int .i64 ar, .slice sq uJ sc, .slice rq rm rc, .slice none 0 0, .slice none 0 0, .slice uq um uc] 102)):=hS1.trans (((Gr.refl w1).alloc _).below.mono hS1.size);refine bF 7 fun K hK=> ?_;go_simp;refine hK.o _ _ (fun hD=>g2) ?_;clear hK K;try simp only[Act.put,qI,q0,qS]
 refine' au 8 g2 ?_;refine aj (by kernel_rfl) ?_ _;obtain⟨iA,UU⟩:=aB (w1.heap.size);obtain⟨W3,hW3⟩:=aB (w1.alloc (.cells #[.int .i64 ar, .slice sq uJ sc, .slice rq rm rc, .slice none 0 0, .slice none 0 0, .slice uq um uc] 102));have H3:Hid (rC w0 aF W3 (tg (tg aF w0 0) w1 2) iA ar (.slice sq uJ sc) (.slice rq rm rc) (.slice none 0 0) (.slice none 0 0) N L rs [] [] (.slice uq um uc) U (fun p=>(Kt p).length) c O nm C F/\w0.heap.size<=iA):=by
  rw[hW3,UU];have g3:=((Gr.refl w1).alloc (.cells #[.int .i64 ar, .slice sq uJ sc, .slice rq rm rc, .slice none 0 0, .slice none 0 0, .slice uq um uc] 102)).below;have hK:=Kp.of_below (S:=fun _=>False) g2;have hK3:=Kp.of_below (S:=fun _=>False) g3;have hT:∀k,k<w0.heap.size->tg (tg aF w0 0) w1 2 k=aF k:=fun k hk=>by rw[ak (nL hk hS1.size),ak hk]
  have hT1:∀k,k<w1.heap.size->tg (tg aF w0 0) w1 2 k=tg aF w0 0 k:=fun k hk=>ak hk;have z0:∀k,t k=0->aF k=0:=fun k e=>(HT0.o k).1 e;have hu:Lm EC w1 (tg aF w0 0) 0 (.slice uq um uc) U:=by
   have h:=h1.o.1;exact⟨aJ (E:=EC) h,fun k hk=>aO (nT hS0.size (iN h hk))⟩
  exact⟨⟨ai _ _,aO (nR _),(HR.o.st.retag z0).keep hK (fun _ _ e=>e.elim) hT,(HR.o.rk.retag z0).keep hK (fun _ _ e=>e.elim) hT,World.ownsRow_nil _ _ _ _,fun k hk=>by simp[Value.ownBlock]at hk,World.ownsRow_nil _ _ _ _,fun k hk=>by simp[Value.ownBlock]at hk,hu.keep hK3 (fun _ _ e=>e.elim) hT1,fun p mb hp=>by simp at hp,fun p mb hp=>by simp at hp,g2,hT⟩,hS1.size⟩
 rw[<-hW3,<-UU];clear hW3 UU hS0 hS1 h1 g2 HTU;generalize tg (tg aF w0 0) w1 2=sF at H3;have hpl:=IU.o W3 H3.o.1.hb;go_wp2_with fail;refine hpl.mono ?_;clear hpl;rintro e w4 ⟨rfl,hw4⟩;subst hw4;go_wp2_with fail;go_loopw [17] (fun s17 wr=>∃(i:Nat) (tag:Nat->Nat) (oq:Option Addr) (om oc:Nat) (cq:Option Addr) (cm cc:Nat) (os ms:List Nat),i<=N/\s17= .int .i64 (i:Nat)/\Hid (rC w0 aF wr tag iA ar (.slice sq uJ sc) (.slice rq rm rc) (.slice oq om oc) (.slice cq cm cc) N L rs os ms (.slice uq um uc) U (fun p=>(Kt p).length) c O nm C F/\os.length=i/\ms.length=i/\w0.heap.size<=iA)) (fun s17 _=>N-(RowKit.intOf s17).toNat);case atStart=>exact⟨0,sF,none,0,0,none,0,0,[],[],Nat.zero_le _,rfl,H3.o.1,rfl,rfl,H3.o.2⟩
 case round=>
  clear H3;obtain⟨i,tag,oq,om,oc,cq,cm,cc,os,ms,hi,rfl,HI⟩:=hrel;by_cases hlt:i<N
  ·have hltz:(i:Int)<(N:Int):=(by omega);have hi0:(0:Int)<=(i:Int):=(by omega);obtain⟨ma,WW⟩:∃mb,os0[i]? =some mb:=⟨os0[i]'(by have:=HR.o.ol;omega),by rw[nY]⟩;obtain⟨mc,hmc⟩:∃mb,ms0[i]? =some mb:=⟨ms0[i]'(by have:=HR.o.ml;omega),by rw[nY]⟩;obtain⟨bo,oo,co,hov,-,-⟩:=qW HR.o.ow.1 WW;obtain⟨be,oe,ce,hcv,-,-⟩:=qW HR.o.cm.1 hmc;rw[HR.o.ol]at hov;rw[HR.o.ml]at hcv;have J6:Hid (∀W:World,Below w0.heap.size w0 W->W.cell? ⟨rb,3,none⟩=some (.slice (some ⟨bo,oo,none⟩) N co)/\W.cell? ⟨rb,4,none⟩=some (.slice (some ⟨be,oe,none⟩) N ce)/\rb<W.heap.size/\W.cell? ⟨bo,oo+i,none⟩=some (.pointer (some ⟨ma,0,none⟩))/\bo<W.heap.size/\W.cell? ⟨be,oe+i,none⟩=some (.pointer (some ⟨mc,0,none⟩))/\be<W.heap.size):=fun W hW=>by
    obtain⟨c0,c1,c2,c3,c4,c5⟩:=HSR.o W hW;obtain⟨b',o',c',e',z',x'⟩:=qW (HR.o.ow.1.below hW) WW;rw[hov]at e';simp only[vS,oI,aI,and_true]at e';obtain⟨⟨rfl,rfl⟩,-,-⟩:=e';obtain⟨b',o',c',e',z2,x2⟩:=qW (HR.o.cm.1.below hW) hmc;rw[hcv]at e';simp only[vS,oI,aI,and_true]at e';obtain⟨⟨rfl,rfl⟩,-,-⟩:=e';exact⟨by rw[<-hov];exact c3,by rw[<-hcv];exact c4,c5,x',z',x2,z2⟩
   have HCO:Hid (∀(W:World),Below w0.heap.size w0 W->Calls Tryz.prog 54 #[.pointer (some ⟨ma,0,none⟩)] W fun e w'=>∃mb,e= .returned (.pointer (some ⟨mb,0,none⟩))/\Hid ((∀tag:Nat->Nat,Ml w' (tg tag W (3+N+i)) (3+N+i) mb (Kt i).length (c i) (O i))/\Below W.heap.size W w')):=fun W hW=>by
    obtain⟨tb,b,cb,v,hmu,hfr,_⟩:=HM.o i ma WW;refine(yl W (hmu.kp (Kp.of_below (S:=fun _=>False) hW) (fun h=>h) (fun h=>h) (fun h=>h) (fun h=>h) (fun _ _ h=>h)) (HO.o i hlt)).mono ?_;rintro e w' ⟨m',t',b',c',v',rfl,hm⟩;obtain⟨k1,k2,k3,k4,k5,k6,k7⟩:=hm.o;exact⟨m',rfl,fun tag=>⟨t',b',c',v',k1,hfr,aO k3,aO k4,aO k5,aO k6,fun k hk=>aO (k7 k hk)⟩,k2⟩
   have Ty:Hid (∀(W:World),Below w0.heap.size w0 W->Calls Tryz.prog 54 #[.pointer (some ⟨mc,0,none⟩)] W fun e w'=>∃mb,e= .returned (.pointer (some ⟨mb,0,none⟩))/\Hid ((∀tag:Nat->Nat,Ml w' (tg tag W (3+i)) (3+i) mb (nm i) (C i) (F i))/\Below W.heap.size W w')):=fun W hW=>by
    obtain⟨tb,b,cb,v,hmu,hfr,_⟩:=HMC.o i mc hmc;refine(yl W (hmu.kp (Kp.of_below (S:=fun _=>False) hW) (fun h=>h) (fun h=>h) (fun h=>h) (fun h=>h) (fun _ _ h=>h)) (HF.o i hlt)).mono ?_;rintro e w' ⟨m',t',b',c',v',rfl,hm⟩;obtain⟨k1,k2,k3,k4,k5,k6,k7⟩:=hm.o;exact⟨m',rfl,fun tag=>⟨t',b',c',v',k1,hfr,aO k3,aO k4,aO k5,aO k6,fun k hk=>aO (k7 k hk)⟩,k2⟩
   clear WW hmc hov hcv;go_upto_region 7 with fail;have AR:Hid (∀W,Below wr.heap.size wr W->(W.cell? ⟨iA,3,none⟩=some (.slice oq om oc)/\iA<W.heap.size)/\Below w0.heap.size w0 W):=fun W hb=>by
    have hbk:=(hb.block iA (ae HI.o.1.blk)).trans HI.o.1.blk;exact⟨⟨((aa hbk).1 3).trans rfl,ae hbk⟩,HI.o.1.hb.trans (hb.mono HI.o.1.hb.size)⟩
   have hB0:Below wr.heap.size wr wr.drew:=(Gr.refl wr).drew.below;have hS0:=AR.o _ hB0;refine av (S:=fun W:World=>(W.cell? ⟨iA,3,none⟩=some (.slice oq om oc)/\iA<W.heap.size)/\Below w0.heap.size w0 W) (D:=[16,17]) hmx ?_;refine' au 0 hS0 ?_;refine' au 1 hS0 ?_;refine' aR 2 hS0 ?h ?_;case h=>(intro W hSw;have hc:=hSw.1.1;have hl:=hSw.1.2;go_simp;try(with_reducible rfl))
   refine' aR 3 hS0 ?h ?_;case h=>(intro W hSw;have hc:=hSw.1.1;have hl:=hSw.1.2;go_simp;try(with_reducible rfl))
   refine' aR 4 hS0 ?h ?_;case h=>(intro W hSw;have hc:=hSw.1.1;have hl:=hSw.1.2;go_simp;try(with_reducible rfl))
   refine' au 5 hS0 ?_;refine' aR 6 hS0 ?h ?_;case h=>(intro W hSw;obtain⟨c3,c4,c5,x1,z1,x2,z2⟩:=J6.o W hSw.2;go_simp;try(with_reducible rfl))
   refine' aR 7 hS0 ?h ?_;case h=>(intro W hSw;obtain⟨c3,c4,c5,x1,z1,x2,z2⟩:=J6.o W hSw.2;go_simp;try(with_reducible rfl))
   refine' aR 8 hS0 ?h ?_;case h=>(intro W hSw;obtain⟨c3,c4,c5,x1,z1,x2,z2⟩:=J6.o W hSw.2;go_simp;try(with_reducible rfl))
   refine' au 9 hS0 ?_;refine' aR 10 hS0 ?h ?_;case h=>(intro W hSw;obtain⟨c3,c4,c5,x1,z1,x2,z2⟩:=J6.o W hSw.2;go_simp;try(with_reducible rfl))
   refine' aR 11 hS0 ?h ?_;case h=>(intro W hSw;obtain⟨c3,c4,c5,x1,z1,x2,z2⟩:=J6.o W hSw.2;go_simp;try(with_reducible rfl))
   refine bF 12 fun K hK=> ?_;go_simp;refine(HCO.o _ hS0.2).mono ?_;rintro e w7 ⟨mb,rfl,h7⟩;have aX:Below wr.heap.size wr w7:=hB0.trans (h7.o.2.mono hB0.size);have N7:Hid (rC w0 aF w7 (tg tag wr (3+N+i)) iA ar (.slice sq uJ sc) (.slice rq rm rc) (.slice oq om oc) (.slice cq cm cc) N L rs os ms (.slice uq um uc) U (fun p=>(Kt p).length) c O nm C F/\Ml w7 (tg tag wr (3+N+i)) (3+N+i) mb (Kt i).length (c i) (O i)):=⟨HI.o.1.grow _ aX,h7.o.1 tag⟩;go_wp2_with fail;refine hK.o _ _ (fun hD=>AR.o _ aX) ?_;clear hK K;try simp only[Act.put,qI,q0,qS]
   refine bF 13 fun K hK=> ?_;go_simp;have iJ:Below wr.heap.size wr (w7.alloc (.cells #[.pointer (some ⟨mb,0,none⟩)] 107)):=aX.trans (((Gr.refl w7).alloc _).below.mono aX.size);refine hK.o _ _ (fun hD=>AR.o _ iJ) ?_;clear hK K;try simp only[Act.put,qI,q0,qS]
   refine bF 14 fun K hK=> ?_;refine bN EA Tryz.underlying100 zX rfl (by decide) rfl _ _ rfl w0.heap.size (.slice oq om oc) os.length (fl EA os) rfl (ag HI.o.1.ow aX) mb (by first|rfl|simp) (by have:=HI.o.2;omega) (by have:=HI.o.2;unfold maxLen;omega) (nT HI.o.1.hb.size aX.size) #[.pointer (some ⟨mb,0,none⟩)] rfl _ ?_;intro g8 bB w8 h8 k8 n8;have DT:os.length=i:=(by have:=HI.o.2;omega);have J2:Hid (rC w0 aF (w8.setCell ⟨iA,3,none⟩ (.slice (some ⟨g8,0,none⟩) (os.length+1) bB)) (tg (tg tag wr (3+N+i)) w7 4294967297) iA ar (.slice sq uJ sc) (.slice rq rm rc) (.slice (some ⟨g8,0,none⟩) (os.length+1) bB) (.slice cq cm cc) N L rs (os++[mb]) ms (.slice uq um uc) U (fun p=>(Kt p).length) c O nm C F):=N7.o.1.own hN (by have:=HI.o.2;omega) (by have:=HI.o.2;omega) (by omega) HI.o.2.2.2 (by rw[DT];exact N7.o.2) h8.o k8.o n8.o;have F8:Hid (w8.frozen? ⟨iA,3,none⟩=false/\(w8.cell? ⟨iA,3,none⟩=some (.slice oq om oc)/\iA<w8.heap.size)/\Below w0.heap.size w0 w8):=by
    have hbk:=N7.o.1.blk;have K8:Kp (fun k=>(.slice oq om oc:Value).ownBlock=some k) w7 w8:=Kp.grownBy k8.o fun _ h=>h;have dN:=(K8.block iA (ae hbk) fun e=>by have e2:=N7.o.1.ot iA e;rw[N7.o.1.tb]at e2;cases e2).trans hbk;exact⟨(aa dN).2 _,⟨((aa dN).1 3).trans rfl,ae dN⟩,N7.o.1.hb.trans (K8.below N7.o.1.hb.size fun k hk=>(N7.o.1.ow.lt k hk).1)⟩
   clear h8 k8 n8 DT;generalize os.length+1=ll at J2⊢;refine hK.o _ _ (fun hD=>F8.o.2) ?_;clear hK K;try simp only[Act.put,qI,q0,qS]
   refine' aR 15 F8.o.2 ?h ?_;case h=>(intro W hSw;have hc:=hSw.1.1;have hl:=hSw.1.2;go_simp;try(with_reducible rfl))
   refine bF 16 fun K hK=> ?_;go_simp;refine hK.o _ _ (fun hD=>absurd (by decide) hD) ?_;clear hK K;try simp only[Act.put,qI,q0,qS]
   refine bF 17 fun K hK=> ?_;have c8:=F8.o.2.1.1;have f8:=F8.o.1;have l8:=F8.o.2.1.2;go_simp;generalize (w8.setCell ⟨iA,3,none⟩ (.slice (some ⟨g8,0,none⟩) ll bB))=w9 at J2⊢;clear c8 f8 l8 F8;refine hK.o _ _ (fun hD=>absurd (by decide) hD) ?_;clear hK K;try simp only[Act.put,qI,q0,qS]
   refine aj (by kernel_rfl) ?_ _;obtain⟨EH,EK,EM,os2,UZ⟩:∃(EH:Option Addr) (EK EM:Nat) (os2:List Nat),EH=some ⟨g8,0,none⟩/\EK=ll/\EM=bB/\os2=os++[mb]:=⟨_,_,_,_,rfl,rfl,rfl,rfl⟩;obtain⟨e1,e2,e3,e4⟩:=UZ;rw[<-e1,<-e2,<-e3,<-e4]at J2;obtain⟨lH,Ck⟩:=aB (tg (tg tag wr (3+N+i)) w7 4294967297);rw[<-Ck]at J2;have HJ:Hid (rC w0 aF w9 lH iA ar (.slice sq uJ sc) (.slice rq rm rc) (.slice EH EK EM) (.slice cq cm cc) N L rs os2 ms (.slice uq um uc) U (fun p=>(Kt p).length) c O nm C F/\os2.length=i+1/\ms.length=i/\w0.heap.size<=iA):=⟨J2.o,by rw[e4,dH,lS];have:=HI.o.2.1;omega,HI.o.2.2.1,HI.o.2.2.2⟩;clear J2 HI hS0 hB0 AR aX iJ N7 Ck e1 e2 e3 e4 h7;go_upto_region 8 with fail;generalize w9=fH at HJ⊢;have AQ:Hid (∀W,Below fH.heap.size fH W->(W.cell? ⟨iA,4,none⟩=some (.slice cq cm cc)/\iA<W.heap.size)/\Below w0.heap.size w0 W):=fun W hb=>by
    have hbk:=(hb.block iA (ae HJ.o.1.blk)).trans HJ.o.1.blk;exact⟨⟨((aa hbk).1 4).trans rfl,ae hbk⟩,HJ.o.1.hb.trans (hb.mono HJ.o.1.hb.size)⟩
   have hB0:Below fH.heap.size fH fH.drew:=(Gr.refl fH).drew.below;have hS0:=AQ.o _ hB0;refine av (S:=fun W:World=>(W.cell? ⟨iA,4,none⟩=some (.slice cq cm cc)/\iA<W.heap.size)/\Below w0.heap.size w0 W) (D:=[16,17]) hmx ?_;refine' au 0 hS0 ?_;refine' au 1 hS0 ?_;refine' aR 2 hS0 ?h ?_;case h=>(intro W hSw;have hc:=hSw.1.1;have hl:=hSw.1.2;go_simp;try(with_reducible rfl))
   refine' aR 3 hS0 ?h ?_;case h=>(intro W hSw;have hc:=hSw.1.1;have hl:=hSw.1.2;go_simp;try(with_reducible rfl))
   refine' aR 4 hS0 ?h ?_;case h=>(intro W hSw;have hc:=hSw.1.1;have hl:=hSw.1.2;go_simp;try(with_reducible rfl))
   refine' au 5 hS0 ?_;refine' aR 6 hS0 ?h ?_;case h=>(intro W hSw;obtain⟨c3,c4,c5,x1,z1,x2,z2⟩:=J6.o W hSw.2;go_simp;try(with_reducible rfl))
   refine' aR 7 hS0 ?h ?_;case h=>(intro W hSw;obtain⟨c3,c4,c5,x1,z1,x2,z2⟩:=J6.o W hSw.2;go_simp;try(with_reducible rfl))
   refine' aR 8 hS0 ?h ?_;case h=>(intro W hSw;obtain⟨c3,c4,c5,x1,z1,x2,z2⟩:=J6.o W hSw.2;go_simp;try(with_reducible rfl))
   refine' au 9 hS0 ?_;refine' aR 10 hS0 ?h ?_;case h=>(intro W hSw;obtain⟨c3,c4,c5,x1,z1,x2,z2⟩:=J6.o W hSw.2;go_simp;try(with_reducible rfl))
   refine' aR 11 hS0 ?h ?_;case h=>(intro W hSw;obtain⟨c3,c4,c5,x1,z1,x2,z2⟩:=J6.o W hSw.2;go_simp;try(with_reducible rfl))
   refine bF 12 fun K hK=> ?_;go_simp;refine(Ty.o _ hS0.2).mono ?_;rintro e w7 ⟨mb,rfl,h7⟩;have aX:Below fH.heap.size fH w7:=hB0.trans (h7.o.2.mono hB0.size);have N7:Hid (rC w0 aF w7 (tg lH fH (3+i)) iA ar (.slice sq uJ sc) (.slice rq rm rc) (.slice EH EK EM) (.slice cq cm cc) N L rs os2 ms (.slice uq um uc) U (fun p=>(Kt p).length) c O nm C F/\Ml w7 (tg lH fH (3+i)) (3+i) mb (nm i) (C i) (F i)):=⟨HJ.o.1.grow _ aX,h7.o.1 lH⟩;go_wp2_with fail;refine hK.o _ _ (fun hD=>AQ.o _ aX) ?_;clear hK K;try simp only[Act.put,qI,q0,qS]
   refine bF 13 fun K hK=> ?_;go_simp;have iJ:Below fH.heap.size fH (w7.alloc (.cells #[.pointer (some ⟨mb,0,none⟩)] 107)):=aX.trans (((Gr.refl w7).alloc _).below.mono aX.size);refine hK.o _ _ (fun hD=>AQ.o _ iJ) ?_;clear hK K;try simp only[Act.put,qI,q0,qS]
   refine bF 14 fun K hK=> ?_;refine bN EA Tryz.underlying100 zX rfl (by decide) rfl _ _ rfl w0.heap.size (.slice cq cm cc) ms.length (fl EA ms) rfl (ag HJ.o.1.cm aX) mb (by first|rfl|simp) (by have:=HJ.o.2;omega) (by have:=HJ.o.2;unfold maxLen;omega) (nT HJ.o.1.hb.size aX.size) #[.pointer (some ⟨mb,0,none⟩)] rfl _ ?_;intro g8 bB w8 h8 k8 n8;have DT:ms.length=i:=(by have:=HJ.o.2;omega);have Rx:Hid (rC w0 aF (w8.setCell ⟨iA,4,none⟩ (.slice (some ⟨g8,0,none⟩) (ms.length+1) bB)) (tg (tg lH fH (3+i)) w7 4294967298) iA ar (.slice sq uJ sc) (.slice rq rm rc) (.slice EH EK EM) (.slice (some ⟨g8,0,none⟩) (ms.length+1) bB) N L rs os2 (ms++[mb]) (.slice uq um uc) U (fun p=>(Kt p).length) c O nm C F):=N7.o.1.come hN (by have:=HJ.o.2;omega) (by have:=HJ.o.2;omega) (by omega) HJ.o.2.2.2 (by rw[DT];exact N7.o.2) h8.o k8.o n8.o;have F8:Hid (w8.frozen? ⟨iA,4,none⟩=false/\(w8.cell? ⟨iA,4,none⟩=some (.slice cq cm cc)/\iA<w8.heap.size)/\Below w0.heap.size w0 w8):=by
    have hbk:=N7.o.1.blk;have K8:Kp (fun k=>(.slice cq cm cc:Value).ownBlock=some k) w7 w8:=Kp.grownBy k8.o fun _ h=>h;have dN:=(K8.block iA (ae hbk) fun e=>by have e2:=N7.o.1.ct iA e;rw[N7.o.1.tb]at e2;cases e2).trans hbk;exact⟨(aa dN).2 _,⟨((aa dN).1 4).trans rfl,ae dN⟩,N7.o.1.hb.trans (K8.below N7.o.1.hb.size fun k hk=>(N7.o.1.cm.lt k hk).1)⟩
   clear h8 k8 n8 DT;generalize ms.length+1=ll at Rx⊢;refine hK.o _ _ (fun hD=>F8.o.2) ?_;clear hK K;try simp only[Act.put,qI,q0,qS]
   refine' aR 15 F8.o.2 ?h ?_;case h=>(intro W hSw;have hc:=hSw.1.1;have hl:=hSw.1.2;go_simp;try(with_reducible rfl))
   refine bF 16 fun K hK=> ?_;go_simp;refine hK.o _ _ (fun hD=>absurd (by decide) hD) ?_;clear hK K;try simp only[Act.put,qI,q0,qS]
   refine bF 17 fun K hK=> ?_;have c8:=F8.o.2.1.1;have f8:=F8.o.1;have l8:=F8.o.2.1.2;go_simp;generalize (w8.setCell ⟨iA,4,none⟩ (.slice (some ⟨g8,0,none⟩) ll bB))=w9 at Rx⊢;clear c8 f8 l8 F8;refine hK.o _ _ (fun hD=>absurd (by decide) hD) ?_;clear hK K;try simp only[Act.put,qI,q0,qS]
   refine aj (by kernel_rfl) ?_ _;have HK:Hid (∃(VT:Option Addr) (VX V5:Nat) (Qd:List Nat) (Ej:Nat->Nat),rC w0 aF w9 Ej iA ar (.slice sq uJ sc) (.slice rq rm rc) (.slice EH EK EM) (.slice VT VX V5) N L rs os2 Qd (.slice uq um uc) U (fun p=>(Kt p).length) c O nm C F/\os2.length=i+1/\Qd.length=i+1/\w0.heap.size<=iA):=⟨_,_,_,_,_,Rx.o,HJ.o.2.1,by rw[dH,lS];have:=HJ.o.2.2.1;omega,HJ.o.2.2.2⟩;clear Rx HJ hS0 hB0 AQ aX iJ N7 h7 J6 HCO Ty;go_upto_region 9 with fail;go_wp2_with fail;go_roundw;case rel=>
    obtain⟨VT,VX,V5,Qd,Ej,k1,k2,k3,k4⟩:=HK.o;exact⟨i+1,Ej,EH,EK,EM,VT,VX,V5,os2,Qd,by omega,by go_num,k1,k2,k3,k4⟩
   case measure=>simp[RowKit.intOf];omega
  ·have hltz:¬(i:Int)<(N:Int):=(by omega);obtain rfl:i=N:=(by omega);have HE:Hid (CpR w0 t iA ar i L rs c Kt O C F U wr):=by
    obtain⟨h1,h2,h3,h4⟩:=HI.o;have hd:=h1.done h2 h3 HR.o.rl hN (fun k _=>(HT0.o k).2.1) (K:=Kt) (fun _ _=>rfl);refine⟨LX w0 aF tag i,h4,fun k hk=> ?_,fun k hk=> ?_,hd,h1.hb⟩
    ·have e:=(HT0.o k).2.2;unfold LX;rw[if_pos hk,e];by_cases z:t k=0
     ·simp[z]
     ·simp[z]
    ·unfold LX;rw[if_neg (by omega)];split<;>omega
   clear HI;go_wp2_with fail;go_ret;exact⟨iA,rfl,HE.o⟩
end Rc
end Go.Proofs.YteekbpokkjjipaaGreat
