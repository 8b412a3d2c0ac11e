import Derived.Test.YtiiefcalkjeieaaGreatMCl
import Derived.Test.YtiiefcalkjeieaaGreatJ29
import Derived.Test.YtiiefcalkjeieaaGreatRcTl
variable{tb b n g cb:Nat}{v:Go.Value}
set_option maxHeartbeats 8000000
set_option maxRecDepth 100000
namespace Go.Proofs.YtiiefcalkjeieaaGreat
section
namespace Cn
open Cz
open Go.RowKit Go.Sort Go.Maps
attribute[local go_sem ↓]wp_at_zero wp_at_succ
theorem xV{fb ff:Nat}{l:List Tm}(w:World)(hc:Ch true w cb fb ff v l)(hl:l.length*24<=140737488355328):
    Calls Tryz.prog 94 #[.pointer (some ⟨cb,0,none⟩)] w fun e w'=>∃cb' v',e= .returned (.pointer (some ⟨cb',0,none⟩))/\w.heap.size<=cb'/\Ch true w' cb' fb ff v' l/\Below w.heap.size w w'/\∀g,v'.ownBlock=some g->w.heap.size<=g:=by
 have hmx:Tryz.prog.follows .mixedOrders=true:=by kernel_rfl
 have HC:Hid (Ch true w cb fb ff v l):=hc;have S0:w.cell? ⟨cb,0,none⟩=some (fv fb)/\w.cell? ⟨cb,1,none⟩=some (fv ff)/\cb<w.heap.size:=⟨hc.c0,hc.c1,hc.lt⟩;have kK:∀W W':World,(W.cell? ⟨cb,0,none⟩=some (fv fb)/\W.cell? ⟨cb,1,none⟩=some (fv ff)/\cb<W.heap.size)->Below W.heap.size W W'->(W'.cell? ⟨cb,0,none⟩=some (fv fb)/\W'.cell? ⟨cb,1,none⟩=some (fv ff)/\cb<W'.heap.size):=fun W W' h hb=>
  ⟨(hb.cell (p:=⟨cb,0,none⟩) h.2.2).trans h.1,(hb.cell (p:=⟨cb,1,none⟩) h.2.2).trans h.2.1,nL h.2.2 hb.size⟩
 have C1:Ch true w.drew cb fb ff v l:=hc.below (Gr.refl _).drew.below;have Fz:Calls Tryz.prog 87 #[.pointer (some ⟨cb,0,none⟩)] w.drew fun e w'=>∃p5 c5,e= .returned (.slice p5 l.length c5)/\w'.ownsRow w.drew.heap.size 45 3 (.slice p5 l.length c5) l.length (eO l)/\Below w.drew.heap.size w.drew w':=by
  refine(kJ w.drew C1 hl).mono ?_;rintro e w1 ⟨v1,rfl,h1,h2⟩;obtain⟨p,c,rfl⟩:=(aH (E:=ET) h1).form;exact⟨p,c,rfl,h1,h2⟩
 clear hc;go_enter Tryz.func94,Tryz.ntmps94;go_wp2_with fail;go_region_held3 (fun w'=>w'.cell? ⟨cb,0,none⟩=some (fv fb)/\w'.cell? ⟨cb,1,none⟩=some (fv ff)/\cb<w'.heap.size)
  (first|exact S0|exact kK _ _ (by assumption) (Gr.refl _).drew.below|exact kK _ _ (by assumption) (by assumption)|exact kK _ _ (by assumption) ((Gr.refl _).alloc _).below)
  (first|(go_at_call 87;refine Fz.mono ?_;rintro e w5 ⟨p5,c5,rfl,Eb,hb5⟩))
 go_wp2;go_ret;have b5:Below w.heap.size w w5:=(Gr.refl w).drew.below.trans hb5;refine⟨_,_,rfl,b5.size,⟨ah _ _,ag (aL Eb (zL _)) ((Gr.refl _).alloc _).below,fun h=>by have:=(Eb.lt _ h).2;omega⟩,b5.trans (((Gr.refl _).alloc _).below.mono b5.size),fun g hg=>(Eb.lt g hg).1⟩
end Cn
open Go.RowKit Go.Sort Go.Maps
open Tt (Tl dV dH)
attribute[local go_sem ↓]wp_at_zero wp_at_succ
theorem heap_alloc2_new(w:World)(o p:Obj):(((w.alloc o).alloc p)).heap[w.heap.size+1]? =some p:=by
 have:=ah (w.alloc o) p;simpa using this
theorem heap_alloc2_old(w:World)(o p:Obj):(((w.alloc o).alloc p)).heap[w.heap.size]? =some o:=by
 rw[Below.heap_alloc _ _ _ (by simp)];exact ah _ _
theorem Kc{f:Tm->Int}(w:World)(h:Tl w tb b g n f):
    Calls Tryz.prog 155 #[.pointer (some ⟨tb,0,none⟩)] w fun e w'=>e= .returned (.pointer (some ⟨w.heap.size+1,0,none⟩))/\Tl w' (w.heap.size+1) w.heap.size g n f/\Gr w w':=by
 have hmx:Tryz.prog.follows .mixedOrders=true:=by kernel_rfl
 have HC:Hid (Tl w tb b g n f):=h;obtain⟨D,hown,h1,h2⟩:=h.ta;obtain⟨es,clock,hb,F,hs,hD⟩:=hown;have hbl:=(aG.1 hb).1;have S0:w.cell? ⟨tb,0,none⟩=some (fv g)/\w.cell? ⟨tb,1,none⟩=some (.map (some b))/\tb<w.heap.size:=⟨h.c0,h.c1,h.lt⟩;have kK:∀W W':World,(W.cell? ⟨tb,0,none⟩=some (fv g)/\W.cell? ⟨tb,1,none⟩=some (.map (some b))/\tb<W.heap.size)->Below W.heap.size W W'->(W'.cell? ⟨tb,0,none⟩=some (fv g)/\W'.cell? ⟨tb,1,none⟩=some (.map (some b))/\tb<W'.heap.size):=fun W W' h hb=>
  ⟨(hb.cell (p:=⟨tb,0,none⟩) h.2.2).trans h.1,(hb.cell (p:=⟨tb,1,none⟩) h.2.2).trans h.2.1,nL h.2.2 hb.size⟩
 have hcl:=AnyW.maps_Clone Tryz.lClone b es clock w.drew hb;have hdr:∀o:Obj,Below w.drew.heap.size w.drew (w.drew.alloc o):=fun o=>((Gr.refl w.drew).alloc o).below;clear h;go_enter Tryz.func155,Tryz.ntmps155;go_wp2_with fail;go_region_held3 (fun w'=>w'.cell? ⟨tb,0,none⟩=some (fv g)/\w'.cell? ⟨tb,1,none⟩=some (.map (some b))/\tb<w'.heap.size)
  (first|exact S0|exact kK _ _ (by assumption) (Gr.refl _).drew.below|exact kK _ _ (by assumption) (by assumption)|exact kK _ _ (by assumption) ((Gr.refl _).alloc _).below)
  (first|(go_at_call 214;refine hcl.mono ?_;rintro e w5 ⟨rfl,rfl⟩))
 go_wp2;go_ret;refine⟨rfl,⟨heap_alloc2_new _ _ _,⟨D,⟨es,clock,heap_alloc2_old _ _ _,F,hs,hD⟩,h1,h2⟩,HC.o.bd⟩,(((Gr.refl _).alloc _).alloc _).drew⟩
theorem MK{f:Tm->Int}(w:World)(h:Tl w tb b g n f):
    Calls Tryz.prog 155 #[.pointer (some ⟨tb,0,none⟩)] w fun e w'=>∃mr b',e= .returned (.pointer (some ⟨mr,0,none⟩))/\Hid (w.heap.size<=mr/\w.heap.size<=b'/\Tl w' mr b' g n f/\Gr w w'):=
 (Kc w h).mono fun _ _ ⟨h1,h2,h3⟩=>⟨_,_,h1,Nat.le_succ _,nR _,h2,h3⟩
theorem lJ{f:Tm->Int}(w:World)(h:Tl w tb b g n f):
    Calls Tryz.prog 93 #[cv tb] w fun e w'=>∃mr b',e= .returned (cv mr)/\Hid (w.heap.size<=mr/\w.heap.size<=b'/\Tl w' mr b' g n f/\Below w.heap.size w w'):=by
 obtain⟨W2,hW2⟩:=aC ((w.alloc (.cells #[.pointer (some ⟨tb,0,none⟩)] 176)).alloc (.cells #[.pointer none] 176));have G2:Gr w W2:=by rw[hW2];exact((Gr.refl _).alloc _).alloc _
 have hco:=MK W2 (h.gr G2);have HG2:Hid (Gr w W2):=G2;have HB:Hid (W2.heap[w.heap.size+1]? =some (.cells #[.pointer none] 176 (0,0))):=by rw[hW2];exact heap_alloc2_new _ _ _
 have HZ:Hid (w.heap.size+1<W2.heap.size):=by rw[hW2];simp[Hid]
 clear h G2;go_enter Tryz.func93,Tryz.ntmps93;go_wp2_with fail;rw[<-hW2];clear hW2;refine hco.mono ?_;rintro e w5 ⟨mr,b',rfl,H5⟩;have hb5:w5.heap[w.heap.size+1]? =some (.cells #[.pointer none] 176 (0,0)):=(H5.o.2.2.2.below.block _ HZ.o).trans HB.o;have q0:w5.cell? ⟨w.heap.size+1,0,none⟩=some (.pointer none):=by simp[World.cell?,hb5]
 have q0f:w5.frozen? ⟨w.heap.size+1,0,none⟩=false:=by simp[World.frozen?,hb5]
 have CS:Hid (w5.heap[w.heap.size+1]? =some (.cells #[.pointer none] 176 (0,0))):=hb5;clear hco hb5;go_wp2;have e:=setCell_eq_setRow w5 (w.heap.size+1) 0 _ _ _ (.pointer (some ⟨mr,0,none⟩)) CS.o;have hk:Kp (fun k=>k=w.heap.size+1) w5 (w5.setCell ⟨w.heap.size+1,0,none⟩ (.pointer (some ⟨mr,0,none⟩))):=by
  rw[e];exact⟨rfl,rfl,rfl,by simp[World.setRow],fun k _ hne=>setRow_other _ _ k _ (by omega)⟩
 have hb':(w5.setCell ⟨w.heap.size+1,0,none⟩ (.pointer (some ⟨mr,0,none⟩))).heap[w.heap.size+1]? =some (.cells #[.pointer (some ⟨mr,0,none⟩)] 176 (0,0)):=by
  rw[e,setRow_heap _ _ _ _ _ _ CS.o];simp
 have q1:(w5.setCell ⟨w.heap.size+1,0,none⟩ (.pointer (some ⟨mr,0,none⟩))).cell? ⟨w.heap.size+1,0,none⟩=some (.pointer (some ⟨mr,0,none⟩)):=by simp[World.cell?,hb']
 refine bR (v:=cv mr) (by simp[results,Tryz.results93,go_sem,q1]) rfl ?_;obtain⟨h1,h2,h3,h4⟩:=H5.o;have hz:=HZ.o;have hg:=HG2.o.trans h4;exact⟨mr,b',rfl,by omega,by omega,h3.kp hk (by omega) (by omega),hg.below.trans (hk.below hg.size (fun k hk=>by omega))⟩
theorem zM{mb:Nat}{f:Tm->Int}{fr:List Tm}(w:World)(h:Mu w mb tb b cb n v f fr)(hl:fr.length*24<=140737488355328):
    Calls Tryz.prog 54 #[.pointer (some ⟨mb,0,none⟩)] w fun e w'=>∃mb' mr b' cb' v',e= .returned (.pointer (some ⟨mb',0,none⟩))/\Hid (Mu w' mb' mr b' cb' n v' f fr/\Below w.heap.size w w'/\w.heap.size<=mb'/\w.heap.size<=mr/\w.heap.size<=b'/\w.heap.size<=cb'/\∀g,v'.ownBlock=some g->w.heap.size<=g):=by
 have hmx:Tryz.prog.follows .mixedOrders=true:=by kernel_rfl
 have HM:Hid (Mu w mb tb b cb n v f fr):=h;have S0:w.drew.cell? ⟨mb,0,none⟩=some (.pointer (some ⟨tb,0,none⟩))/\w.drew.cell? ⟨mb,1,none⟩=some (.pointer (some ⟨cb,0,none⟩))/\mb<w.drew.heap.size:=⟨h.c0,h.c1,h.lt⟩;have kK:∀W W':World,(W.cell? ⟨mb,0,none⟩=some (.pointer (some ⟨tb,0,none⟩))/\W.cell? ⟨mb,1,none⟩=some (.pointer (some ⟨cb,0,none⟩))/\mb<W.heap.size)->Below W.heap.size W W'->(W'.cell? ⟨mb,0,none⟩=some (.pointer (some ⟨tb,0,none⟩))/\W'.cell? ⟨mb,1,none⟩=some (.pointer (some ⟨cb,0,none⟩))/\mb<W'.heap.size):=fun W W' h hb=>
  ⟨(hb.cell (p:=⟨mb,0,none⟩) h.2.2).trans h.1,(hb.cell (p:=⟨mb,1,none⟩) h.2.2).trans h.2.1,nL h.2.2 hb.size⟩
 have hM1:=h.below (Gr.refl w).drew.below;have hc1:=(lJ w.drew hM1.tl).mono fun e w' ⟨mr,b',h1,h2⟩=>(⟨mr,b',h1,h2,h2.o.2.2.2⟩:∃mr b',e=Ending.returned (cv mr)/\Hid (w.drew.heap.size<=mr/\w.drew.heap.size<=b'/\Tl w' mr b' _ n f/\Below w.drew.heap.size w.drew w')/\Below w.drew.heap.size w.drew w');have hc2:∀W,Below w.drew.heap.size w.drew W->Calls Tryz.prog 94 #[.pointer (some ⟨cb,0,none⟩)] W fun e w'=>∃cb' v',e= .returned (.pointer (some ⟨cb',0,none⟩))/\Hid (W.heap.size<=cb'/\Cz.Ch true w' cb' fA fN v' fr/\(∀g,v'.ownBlock=some g->W.heap.size<=g))/\Below W.heap.size W w':=fun W hW=>
  (Cn.xV W (hM1.below hW).ch hl).mono fun _ _ ⟨cb',v',h1,h2,h3,h4,h5⟩=>⟨cb',v',h1,⟨h2,h3,h5⟩,h4⟩
 clear h hM1;go_enter Tryz.func54,Tryz.ntmps54;go_wp2_with fail;go_region_held3 (fun w'=>w'.cell? ⟨mb,0,none⟩=some (.pointer (some ⟨tb,0,none⟩))/\w'.cell? ⟨mb,1,none⟩=some (.pointer (some ⟨cb,0,none⟩))/\mb<w'.heap.size)
  (first|exact S0|exact kK _ _ (by assumption) (by assumption)|exact kK _ _ (by assumption) ((Gr.refl _).alloc _).below)
  (first|(go_at_call 93;refine hc1.mono ?_;rintro e w5 ⟨mr,b',rfl,H5,hb5⟩)|(go_at_call 94;refine(hc2 _ hb5).mono ?_;rintro e w6 ⟨cb',v',rfl,H6,hb6⟩))
 go_wp2;go_ret;obtain⟨h1,h2,h3,h4⟩:=H5.o;obtain⟨h5,h6,h7⟩:=H6.o;have hal:∀o,Below w6.heap.size w6 (w6.alloc o):=fun o=>((Gr.refl w6).alloc o).below;have hz:w.heap.size<=w5.heap.size:=hb5.size;have hz6:=hb6.size;have G7:Below w.heap.size w w5:=(Gr.refl w).drew.below.trans hb5;have h56:∀o,Below w5.heap.size w5 (w6.alloc o):=fun o=>hb6.trans ((hal o).mono hb6.size);have h1':w.heap.size<=mr:=h1;have h2':w.heap.size<=b':=h2;exact⟨w6.heap.size,mr,b',cb',v',rfl,⟨ah _ _,h3.below (h56 _),h6.below (hal _)⟩,G7.trans ((h56 _).mono hz),by omega,h1',h2',by omega,fun g hg=>nT hz (h7 g hg)⟩
end
namespace Rc
open Go.RowKit Go.Sort Go.Maps Pt Hc
attribute[local go_sem ↓]wp_at_zero wp_at_succ
def CpR(w:World)(t:Nat->Nat)(iN:Nat)(ar:Int)(N:Nat)(L:Nat->List (Nat×ai))(rs:List Nat)(c:Nat->ai->Int)(K O:Nat->List ai)(C:Nat->ai->Int)(F:Nat->List ai)(U:List Th)(w':World):Prop:=
 ∃t',w.heap.size<=iN/\(∀k,k<w.heap.size->t' k=if t k=0 then 0 else 4294967299)/\(∀k,w.heap.size<=k->t' k<3+2*N)/\Rq w' t' iN ar N L rs c K O C F U/\Below w.heap.size w w'
theorem xV{t:Nat->Nat}{rb N:Nat}{ar:Int}{L:Nat->List (Nat×ai)}{rs:List Nat}{c:Nat->ai->Int}{Kt O:Nat->List ai}{C:Nat->ai->Int}{F:Nat->List ai}{U:List Th}(w0:World)(h:Rq w0 t rb ar N L rs c Kt O C F U)(hN:N<=192)(hO:∀p,p<N->(O p).length*24<=140737488355328)(hF:∀p,p<N->(F p).length*24<=140737488355328)(hU:U.length<=1000000000):
    Calls Tryz.prog 22 #[.pointer (some ⟨rb,0,none⟩)] w0 fun e w'=>∃iN,e= .returned (.pointer (some ⟨iN,0,none⟩))/\Hid (CpR w0 t iN ar N L rs c Kt O C F U w'):=by
 have hmx:Tryz.prog.follows .mixedOrders=true:=by kernel_rfl
 obtain⟨sv,rv,ov,cv,uv,os0,ms0,h1,h2,h3⟩:=h;obtain⟨us,u1,u2,u3⟩:=h1.st;obtain⟨sq,sc,hsv⟩:=u1.1.form;obtain⟨rq,rc,UX⟩:=h1.rk.1.form;obtain⟨uq,uc,huv⟩:=h1.ut.1.form;obtain⟨wD,hsm⟩:=aC (us.length);obtain⟨rm,hrm⟩:=aC (rs.length);rw[<-hsm]at hsv;rw[<-hrm]at UX;clear u1 u2 u3 hsm hrm huv;subst hsv UX;obtain⟨nm,hnm⟩:∃nm:Nat->Nat,∀p mb,ms0[p]? =some mb->Ml w0 t (3+p) mb (nm p) (C p) (F p):=by
  have hx:∀p,∃n,∀mb,ms0[p]? =some mb->Ml w0 t (3+p) mb n (C p) (F p):=fun p=>by
   cases e:ms0[p]? with
   | none => exact⟨0,fun mb hm=>by cases hm⟩
   | some m=>
    obtain⟨n,hn⟩:=h3 p m e;exact⟨n,fun mb hm=>by cases hm;exact hn⟩
  exact Classical.axiomOfChoice hx
 obtain⟨aJ,D8⟩:∃g:Nat->Nat,g=fun k=>if t k=0 then 0 else 4294967299:=⟨_,rfl⟩
 have HT0:Hid (∀k,(t k=0->aJ k=0)/\(aJ k=0\/aJ k=4294967299)/\aJ k=if t k=0 then 0 else 4294967299):=fun k=>by
  rw[D8];refine⟨fun e=>by simp[e], ?_,rfl⟩;by_cases e:t k=0
  ·exact .inl (by simp[e])
  ·exact .inr (by simp[e])
 clear D8;have HR:=hid h1;have HM:=hid h2;have HMC:=hid hnm;have HO:=hid hO;have HF:=hid hF;have HTU:Hid (∀W,Below w0.heap.size w0 W->Calls Tryz.prog 19 #[.pointer (some ⟨rb,0,none⟩)] W fun e w'=>∃p n q,e= .returned (.slice p n q)/\Hid (w'.ownsRow W.heap.size 49 5 (.slice p n q) U.length (fl EC U)/\Below W.heap.size W w')):=fun W hb=>za W (h1.keep (t':=t) (Kp.of_below (S:=fun _=>False) hb) (fun _ _ e=>e.elim) (fun _ _=>rfl)) hU;have FH:Hid (∀W,Below w0.heap.size w0 W->Calls Tryz.prog 42 #[.pointer (some ⟨rb,0,none⟩)] W fun e w'=>e= .returned (.int .i64 (N:Nat))/\w'=W):=fun W hW=>by
  have k1:=eY W ((hW.block rb (ae h1.blk)).trans h1.blk) (h1.ow.1.below hW);rw[h1.ol]at k1;exact k1
 have HSR:Hid (∀W,Below w0.heap.size w0 W->W.cell? ⟨rb,0,none⟩=some (.int .i64 ar)/\W.cell? ⟨rb,1,none⟩=some (.slice sq wD sc)/\W.cell? ⟨rb,2,none⟩=some (.slice rq rm rc)/\W.cell? ⟨rb,3,none⟩=some ov/\W.cell? ⟨rb,4,none⟩=some cv/\rb<W.heap.size):=fun W hW=>by
  have hb:=(hW.block rb (ae h1.blk)).trans h1.blk;exact⟨((aa hb).1 0).trans rfl,((aa hb).1 1).trans rfl,((aa hb).1 2).trans rfl,((aa hb).1 3).trans rfl,((aa hb).1 4).trans rfl,ae hb⟩
 clear h1 h2 h3 hnm hO hF hU;go_enter Tryz.func22,Tryz.ntmps22;go_upto_region 3 with fail;have hS0:(fun W:World=>Below w0.heap.size w0 W) w0.drew:=(Gr.refl w0).drew.below;refine ax (S:=fun W:World=>Below w0.heap.size w0 W) (D:=[]) hmx ?_;refine' aj 0 hS0 ?_;refine' bu 1 hS0 ?h ?_;case h=>(intro W hSw;obtain⟨c0,c1,c2,c3,c4,c5⟩:=HSR.o W hSw;go_simp;try(with_reducible rfl))
 refine' bu 2 hS0 ?h ?_;case h=>(intro W hSw;obtain⟨c0,c1,c2,c3,c4,c5⟩:=HSR.o W hSw;go_simp;try(with_reducible rfl))
 refine' bu 3 hS0 ?h ?_;case h=>(intro W hSw;obtain⟨c0,c1,c2,c3,c4,c5⟩:=HSR.o W hSw;go_simp;try(with_reducible rfl))
 refine' aj 4 hS0 ?_;refine bF 5 fun K hK=> ?_;go_simp;refine(HTU.o _ hS0).mono ?_;rintro e w1 ⟨uq,um,uc,rfl,h1⟩;have hS1:Below w0.heap.size w0 w1:=hS0.trans (h1.o.2.mono hS0.size);go_wp2_with fail;refine hK.o _ _ (fun hD=>hS1) ?_;clear hK K;try simp only[Act.put,qI,q0,qS]
 refine' aj 6 hS1 ?_;have g2:Below w0.heap.size w0 (w1.alloc (.cells #[.int .i64 ar, .slice sq wD sc, .slice rq rm rc, .slice none 0 0, .slice none 0 0, .slice uq um uc] 102)):=hS1.trans (((Gr.refl w1).alloc _).below.mono hS1.size);refine bF 7 fun K hK=> ?_;go_simp;refine hK.o _ _ (fun hD=>g2) ?_;clear hK K;try simp only[Act.put,qI,q0,qS]
 refine' aj 8 g2 ?_;refine au (by kernel_rfl) ?_ _;obtain⟨iN,WO⟩:=aC (w1.heap.size);obtain⟨W3,hW3⟩:=aC (w1.alloc (.cells #[.int .i64 ar, .slice sq wD sc, .slice rq rm rc, .slice none 0 0, .slice none 0 0, .slice uq um uc] 102));have H3:Hid (tJ w0 aJ W3 (tg (tg aJ w0 0) w1 2) iN ar (.slice sq wD sc) (.slice rq rm rc) (.slice none 0 0) (.slice none 0 0) N L rs [] [] (.slice uq um uc) U (fun p=>(Kt p).length) c O nm C F/\w0.heap.size<=iN):=by
  rw[hW3,WO];have g3:=((Gr.refl w1).alloc (.cells #[.int .i64 ar, .slice sq wD sc, .slice rq rm rc, .slice none 0 0, .slice none 0 0, .slice uq um uc] 102)).below;have hK:=Kp.of_below (S:=fun _=>False) g2;have hK3:=Kp.of_below (S:=fun _=>False) g3;have hT:∀k,k<w0.heap.size->tg (tg aJ w0 0) w1 2 k=aJ k:=fun k hk=>by rw[ak (nL hk hS1.size),ak hk]
  have hT1:∀k,k<w1.heap.size->tg (tg aJ w0 0) w1 2 k=tg aJ w0 0 k:=fun k hk=>ak hk;have z0:∀k,t k=0->aJ k=0:=fun k e=>(HT0.o k).1 e;have hu:Lm EC w1 (tg aJ w0 0) 0 (.slice uq um uc) U:=by
   have h:=h1.o.1;exact⟨aH (E:=EC) h,fun k hk=>aR (nT hS0.size (ja h hk))⟩
  exact⟨⟨ah _ _,aR (nR _),(HR.o.st.retag z0).keep hK (fun _ _ e=>e.elim) hT,(HR.o.rk.retag z0).keep hK (fun _ _ e=>e.elim) hT,oN _ _ _ _,fun k hk=>by simp[Value.ownBlock]at hk,oN _ _ _ _,fun k hk=>by simp[Value.ownBlock]at hk,hu.keep hK3 (fun _ _ e=>e.elim) hT1,fun p mb hp=>by simp at hp,fun p mb hp=>by simp at hp,g2,hT⟩,hS1.size⟩
 rw[<-hW3,<-WO];clear hW3 WO hS0 hS1 h1 g2 HTU;generalize tg (tg aJ w0 0) w1 2=uH at H3;have hpl:=FH.o W3 H3.o.1.hb;go_wp2_with fail;refine hpl.mono ?_;clear hpl;rintro e w4 ⟨rfl,hw4⟩;subst hw4;go_wp2_with fail;go_loopw [17] (fun s17 wr=>∃(i:Nat) (tag:Nat->Nat) (oq:Option Addr) (om oc:Nat) (cq:Option Addr) (cm cc:Nat) (os ms:List Nat),i<=N/\s17= .int .i64 (i:Nat)/\Hid (tJ w0 aJ wr tag iN ar (.slice sq wD sc) (.slice rq rm rc) (.slice oq om oc) (.slice cq cm cc) N L rs os ms (.slice uq um uc) U (fun p=>(Kt p).length) c O nm C F/\os.length=i/\ms.length=i/\w0.heap.size<=iN)) (fun s17 _=>N-(intOf s17).toNat);case atStart=>exact⟨0,uH,none,0,0,none,0,0,[],[],zL _,rfl,H3.o.1,rfl,rfl,H3.o.2⟩
 case round=>
  clear H3;obtain⟨i,tag,oq,om,oc,cq,cm,cc,os,ms,hi,rfl,HI⟩:=hrel;by_cases hlt:i<N
  ·have hltz:(i:Int)<(N:Int):=(by omega);have hi0:(0:Int)<=(i:Int):=(by omega);obtain⟨ma,YV⟩:∃mb,os0[i]? =some mb:=⟨os0[i]'(by have:=HR.o.ol;omega),by rw[pW]⟩;obtain⟨mc,hmc⟩:∃mb,ms0[i]? =some mb:=⟨ms0[i]'(by have:=HR.o.ml;omega),by rw[pW]⟩;obtain⟨bo,oo,co,hov,-,-⟩:=sM HR.o.ow.1 YV;obtain⟨be,oe,ce,hcv,-,-⟩:=sM HR.o.cm.1 hmc;rw[HR.o.ol]at hov;rw[HR.o.ml]at hcv;have LU:Hid (∀W:World,Below w0.heap.size w0 W->W.cell? ⟨rb,3,none⟩=some (.slice (some ⟨bo,oo,none⟩) N co)/\W.cell? ⟨rb,4,none⟩=some (.slice (some ⟨be,oe,none⟩) N ce)/\rb<W.heap.size/\W.cell? ⟨bo,oo+i,none⟩=some (.pointer (some ⟨ma,0,none⟩))/\bo<W.heap.size/\W.cell? ⟨be,oe+i,none⟩=some (.pointer (some ⟨mc,0,none⟩))/\be<W.heap.size):=fun W hW=>by
    obtain⟨c0,c1,c2,c3,c4,c5⟩:=HSR.o W hW;obtain⟨b',o',c',e',z',x'⟩:=sM (HR.o.ow.1.below hW) YV;rw[hov]at e';simp only[vS,oI,aI,and_true]at e';obtain⟨⟨rfl,rfl⟩,-,-⟩:=e';obtain⟨b',o',c',e',z2,x2⟩:=sM (HR.o.cm.1.below hW) hmc;rw[hcv]at e';simp only[vS,oI,aI,and_true]at e';obtain⟨⟨rfl,rfl⟩,-,-⟩:=e';exact⟨by rw[<-hov];exact c3,by rw[<-hcv];exact c4,c5,x',z',x2,z2⟩
   have HCO:Hid (∀(W:World),Below w0.heap.size w0 W->Calls Tryz.prog 54 #[.pointer (some ⟨ma,0,none⟩)] W fun e w'=>∃mb,e= .returned (.pointer (some ⟨mb,0,none⟩))/\Hid ((∀tag:Nat->Nat,Ml w' (tg tag W (3+N+i)) (3+N+i) mb (Kt i).length (c i) (O i))/\Below W.heap.size W w')):=fun W hW=>by
    obtain⟨tb,b,cb,v,hmu,hfr,_⟩:=HM.o i ma YV;refine(zM W (hmu.kp (Kp.of_below (S:=fun _=>False) hW) (fun h=>h) (fun h=>h) (fun h=>h) (fun h=>h) (fun _ _ h=>h)) (HO.o i hlt)).mono ?_;rintro e w' ⟨m',t',b',c',v',rfl,hm⟩;obtain⟨k1,k2,k3,k4,k5,k6,k7⟩:=hm.o;exact⟨m',rfl,fun tag=>⟨t',b',c',v',k1,hfr,aR k3,aR k4,aR k5,aR k6,fun k hk=>aR (k7 k hk)⟩,k2⟩
   have FL:Hid (∀(W:World),Below w0.heap.size w0 W->Calls Tryz.prog 54 #[.pointer (some ⟨mc,0,none⟩)] W fun e w'=>∃mb,e= .returned (.pointer (some ⟨mb,0,none⟩))/\Hid ((∀tag:Nat->Nat,Ml w' (tg tag W (3+i)) (3+i) mb (nm i) (C i) (F i))/\Below W.heap.size W w')):=fun W hW=>by
    obtain⟨tb,b,cb,v,hmu,hfr,_⟩:=HMC.o i mc hmc;refine(zM W (hmu.kp (Kp.of_below (S:=fun _=>False) hW) (fun h=>h) (fun h=>h) (fun h=>h) (fun h=>h) (fun _ _ h=>h)) (HF.o i hlt)).mono ?_;rintro e w' ⟨m',t',b',c',v',rfl,hm⟩;obtain⟨k1,k2,k3,k4,k5,k6,k7⟩:=hm.o;exact⟨m',rfl,fun tag=>⟨t',b',c',v',k1,hfr,aR k3,aR k4,aR k5,aR k6,fun k hk=>aR (k7 k hk)⟩,k2⟩
   clear YV hmc hov hcv;go_upto_region 7 with fail;have CE:Hid (∀W,Below wr.heap.size wr W->(W.cell? ⟨iN,3,none⟩=some (.slice oq om oc)/\iN<W.heap.size)/\Below w0.heap.size w0 W):=fun W hb=>by
    have hbk:=(hb.block iN (ae HI.o.1.blk)).trans HI.o.1.blk;exact⟨⟨((aa hbk).1 3).trans rfl,ae hbk⟩,HI.o.1.hb.trans (hb.mono HI.o.1.hb.size)⟩
   have hB0:Below wr.heap.size wr wr.drew:=(Gr.refl wr).drew.below;have hS0:=CE.o _ hB0;refine ax (S:=fun W:World=>(W.cell? ⟨iN,3,none⟩=some (.slice oq om oc)/\iN<W.heap.size)/\Below w0.heap.size w0 W) (D:=[16,17]) hmx ?_;refine' aj 0 hS0 ?_;refine' aj 1 hS0 ?_;refine' bu 2 hS0 ?h ?_;case h=>(intro W hSw;have hc:=hSw.1.1;have hl:=hSw.1.2;go_simp;try(with_reducible rfl))
   refine' bu 3 hS0 ?h ?_;case h=>(intro W hSw;have hc:=hSw.1.1;have hl:=hSw.1.2;go_simp;try(with_reducible rfl))
   refine' bu 4 hS0 ?h ?_;case h=>(intro W hSw;have hc:=hSw.1.1;have hl:=hSw.1.2;go_simp;try(with_reducible rfl))
   refine' aj 5 hS0 ?_;refine' bu 6 hS0 ?h ?_;case h=>(intro W hSw;obtain⟨c3,c4,c5,x1,z1,x2,z2⟩:=LU.o W hSw.2;go_simp;try(with_reducible rfl))
   refine' bu 7 hS0 ?h ?_;case h=>(intro W hSw;obtain⟨c3,c4,c5,x1,z1,x2,z2⟩:=LU.o W hSw.2;go_simp;try(with_reducible rfl))
   refine' bu 8 hS0 ?h ?_;case h=>(intro W hSw;obtain⟨c3,c4,c5,x1,z1,x2,z2⟩:=LU.o W hSw.2;go_simp;try(with_reducible rfl))
   refine' aj 9 hS0 ?_;refine' bu 10 hS0 ?h ?_;case h=>(intro W hSw;obtain⟨c3,c4,c5,x1,z1,x2,z2⟩:=LU.o W hSw.2;go_simp;try(with_reducible rfl))
   refine' bu 11 hS0 ?h ?_;case h=>(intro W hSw;obtain⟨c3,c4,c5,x1,z1,x2,z2⟩:=LU.o W hSw.2;go_simp;try(with_reducible rfl))
   refine bF 12 fun K hK=> ?_;go_simp;refine(HCO.o _ hS0.2).mono ?_;rintro e w7 ⟨mb,rfl,h7⟩;have aY:Below wr.heap.size wr w7:=hB0.trans (h7.o.2.mono hB0.size);have N7:Hid (tJ w0 aJ w7 (tg tag wr (3+N+i)) iN ar (.slice sq wD sc) (.slice rq rm rc) (.slice oq om oc) (.slice cq cm cc) N L rs os ms (.slice uq um uc) U (fun p=>(Kt p).length) c O nm C F/\Ml w7 (tg tag wr (3+N+i)) (3+N+i) mb (Kt i).length (c i) (O i)):=⟨HI.o.1.grow _ aY,h7.o.1 tag⟩;go_wp2_with fail;refine hK.o _ _ (fun hD=>CE.o _ aY) ?_;clear hK K;try simp only[Act.put,qI,q0,qS]
   refine bF 13 fun K hK=> ?_;go_simp;have iV:Below wr.heap.size wr (w7.alloc (.cells #[.pointer (some ⟨mb,0,none⟩)] 107)):=aY.trans (((Gr.refl w7).alloc _).below.mono aY.size);refine hK.o _ _ (fun hD=>CE.o _ iV) ?_;clear hK K;try simp only[Act.put,qI,q0,qS]
   refine bF 14 fun K hK=> ?_;refine bQ EA Tryz.underlying100 BJ rfl (by decide) rfl _ _ rfl w0.heap.size (.slice oq om oc) os.length (fl EA os) rfl (ag HI.o.1.ow aY) mb (by first|rfl|simp) (by have:=HI.o.2;omega) (by have:=HI.o.2;unfold maxLen;omega) (nT HI.o.1.hb.size aY.size) #[.pointer (some ⟨mb,0,none⟩)] rfl _ ?_;intro g8 bB w8 h8 k8 n8;have Fz:os.length=i:=(by have:=HI.o.2;omega);have LK:Hid (tJ w0 aJ (w8.setCell ⟨iN,3,none⟩ (.slice (some ⟨g8,0,none⟩) (os.length+1) bB)) (tg (tg tag wr (3+N+i)) w7 4294967297) iN ar (.slice sq wD sc) (.slice rq rm rc) (.slice (some ⟨g8,0,none⟩) (os.length+1) bB) (.slice cq cm cc) N L rs (os++[mb]) ms (.slice uq um uc) U (fun p=>(Kt p).length) c O nm C F):=N7.o.1.own hN (by have:=HI.o.2;omega) (by have:=HI.o.2;omega) (by omega) HI.o.2.2.2 (by rw[Fz];exact N7.o.2) h8.o k8.o n8.o;have F8:Hid (w8.frozen? ⟨iN,3,none⟩=false/\(w8.cell? ⟨iN,3,none⟩=some (.slice oq om oc)/\iN<w8.heap.size)/\Below w0.heap.size w0 w8):=by
    have hbk:=N7.o.1.blk;have K8:Kp (fun k=>(.slice oq om oc:Value).ownBlock=some k) w7 w8:=Kp.grownBy k8.o fun _ h=>h;have dN:=(K8.block iN (ae hbk) fun e=>by have e2:=N7.o.1.ot iN e;rw[N7.o.1.tb]at e2;cases e2).trans hbk;exact⟨(aa dN).2 _,⟨((aa dN).1 3).trans rfl,ae dN⟩,N7.o.1.hb.trans (K8.below N7.o.1.hb.size fun k hk=>(N7.o.1.ow.lt k hk).1)⟩
   clear h8 k8 n8 Fz;generalize os.length+1=ll at LK⊢;refine hK.o _ _ (fun hD=>F8.o.2) ?_;clear hK K;try simp only[Act.put,qI,q0,qS]
   refine' bu 15 F8.o.2 ?h ?_;case h=>(intro W hSw;have hc:=hSw.1.1;have hl:=hSw.1.2;go_simp;try(with_reducible rfl))
   refine bF 16 fun K hK=> ?_;go_simp;refine hK.o _ _ (fun hD=>absurd (by decide) hD) ?_;clear hK K;try simp only[Act.put,qI,q0,qS]
   refine bF 17 fun K hK=> ?_;have c8:=F8.o.2.1.1;have f8:=F8.o.1;have l8:=F8.o.2.1.2;go_simp;generalize (w8.setCell ⟨iN,3,none⟩ (.slice (some ⟨g8,0,none⟩) ll bB))=w9 at LK⊢;clear c8 f8 l8 F8;refine hK.o _ _ (fun hD=>absurd (by decide) hD) ?_;clear hK K;try simp only[Act.put,qI,q0,qS]
   refine au (by kernel_rfl) ?_ _;obtain⟨Gw,Gy,Gz,os2,WT⟩:∃(Gw:Option Addr) (Gy Gz:Nat) (os2:List Nat),Gw=some ⟨g8,0,none⟩/\Gy=ll/\Gz=bB/\os2=os++[mb]:=⟨_,_,_,_,rfl,rfl,rfl,rfl⟩;obtain⟨e1,e2,e3,e4⟩:=WT;rw[<-e1,<-e2,<-e3,<-e4]at LK;obtain⟨mD,D7⟩:=aC (tg (tg tag wr (3+N+i)) w7 4294967297);rw[<-D7]at LK;have HJ:Hid (tJ w0 aJ w9 mD iN ar (.slice sq wD sc) (.slice rq rm rc) (.slice Gw Gy Gz) (.slice cq cm cc) N L rs os2 ms (.slice uq um uc) U (fun p=>(Kt p).length) c O nm C F/\os2.length=i+1/\ms.length=i/\w0.heap.size<=iN):=⟨LK.o,by rw[e4,dO,vL];have:=HI.o.2.1;omega,HI.o.2.2.1,HI.o.2.2.2⟩;clear LK HI hS0 hB0 CE aY iV N7 D7 e1 e2 e3 e4 h7;go_upto_region 8 with fail;generalize w9=dP at HJ⊢;have CB:Hid (∀W,Below dP.heap.size dP W->(W.cell? ⟨iN,4,none⟩=some (.slice cq cm cc)/\iN<W.heap.size)/\Below w0.heap.size w0 W):=fun W hb=>by
    have hbk:=(hb.block iN (ae HJ.o.1.blk)).trans HJ.o.1.blk;exact⟨⟨((aa hbk).1 4).trans rfl,ae hbk⟩,HJ.o.1.hb.trans (hb.mono HJ.o.1.hb.size)⟩
   have hB0:Below dP.heap.size dP dP.drew:=(Gr.refl dP).drew.below;have hS0:=CB.o _ hB0;refine ax (S:=fun W:World=>(W.cell? ⟨iN,4,none⟩=some (.slice cq cm cc)/\iN<W.heap.size)/\Below w0.heap.size w0 W) (D:=[16,17]) hmx ?_;refine' aj 0 hS0 ?_;refine' aj 1 hS0 ?_;refine' bu 2 hS0 ?h ?_;case h=>(intro W hSw;have hc:=hSw.1.1;have hl:=hSw.1.2;go_simp;try(with_reducible rfl))
   refine' bu 3 hS0 ?h ?_;case h=>(intro W hSw;have hc:=hSw.1.1;have hl:=hSw.1.2;go_simp;try(with_reducible rfl))
   refine' bu 4 hS0 ?h ?_;case h=>(intro W hSw;have hc:=hSw.1.1;have hl:=hSw.1.2;go_simp;try(with_reducible rfl))
   refine' aj 5 hS0 ?_;refine' bu 6 hS0 ?h ?_;case h=>(intro W hSw;obtain⟨c3,c4,c5,x1,z1,x2,z2⟩:=LU.o W hSw.2;go_simp;try(with_reducible rfl))
   refine' bu 7 hS0 ?h ?_;case h=>(intro W hSw;obtain⟨c3,c4,c5,x1,z1,x2,z2⟩:=LU.o W hSw.2;go_simp;try(with_reducible rfl))
   refine' bu 8 hS0 ?h ?_;case h=>(intro W hSw;obtain⟨c3,c4,c5,x1,z1,x2,z2⟩:=LU.o W hSw.2;go_simp;try(with_reducible rfl))
   refine' aj 9 hS0 ?_;refine' bu 10 hS0 ?h ?_;case h=>(intro W hSw;obtain⟨c3,c4,c5,x1,z1,x2,z2⟩:=LU.o W hSw.2;go_simp;try(with_reducible rfl))
   refine' bu 11 hS0 ?h ?_;case h=>(intro W hSw;obtain⟨c3,c4,c5,x1,z1,x2,z2⟩:=LU.o W hSw.2;go_simp;try(with_reducible rfl))
   refine bF 12 fun K hK=> ?_;go_simp;refine(FL.o _ hS0.2).mono ?_;rintro e w7 ⟨mb,rfl,h7⟩;have aY:Below dP.heap.size dP w7:=hB0.trans (h7.o.2.mono hB0.size);have N7:Hid (tJ w0 aJ w7 (tg mD dP (3+i)) iN ar (.slice sq wD sc) (.slice rq rm rc) (.slice Gw Gy Gz) (.slice cq cm cc) N L rs os2 ms (.slice uq um uc) U (fun p=>(Kt p).length) c O nm C F/\Ml w7 (tg mD dP (3+i)) (3+i) mb (nm i) (C i) (F i)):=⟨HJ.o.1.grow _ aY,h7.o.1 mD⟩;go_wp2_with fail;refine hK.o _ _ (fun hD=>CB.o _ aY) ?_;clear hK K;try simp only[Act.put,qI,q0,qS]
   refine bF 13 fun K hK=> ?_;go_simp;have iV:Below dP.heap.size dP (w7.alloc (.cells #[.pointer (some ⟨mb,0,none⟩)] 107)):=aY.trans (((Gr.refl w7).alloc _).below.mono aY.size);refine hK.o _ _ (fun hD=>CB.o _ iV) ?_;clear hK K;try simp only[Act.put,qI,q0,qS]
   refine bF 14 fun K hK=> ?_;refine bQ EA Tryz.underlying100 BJ rfl (by decide) rfl _ _ rfl w0.heap.size (.slice cq cm cc) ms.length (fl EA ms) rfl (ag HJ.o.1.cm aY) mb (by first|rfl|simp) (by have:=HJ.o.2;omega) (by have:=HJ.o.2;unfold maxLen;omega) (nT HJ.o.1.hb.size aY.size) #[.pointer (some ⟨mb,0,none⟩)] rfl _ ?_;intro g8 bB w8 h8 k8 n8;have Fz:ms.length=i:=(by have:=HJ.o.2;omega);have Ul:Hid (tJ w0 aJ (w8.setCell ⟨iN,4,none⟩ (.slice (some ⟨g8,0,none⟩) (ms.length+1) bB)) (tg (tg mD dP (3+i)) w7 4294967298) iN ar (.slice sq wD sc) (.slice rq rm rc) (.slice Gw Gy Gz) (.slice (some ⟨g8,0,none⟩) (ms.length+1) bB) N L rs os2 (ms++[mb]) (.slice uq um uc) U (fun p=>(Kt p).length) c O nm C F):=N7.o.1.come hN (by have:=HJ.o.2;omega) (by have:=HJ.o.2;omega) (by omega) HJ.o.2.2.2 (by rw[Fz];exact N7.o.2) h8.o k8.o n8.o;have F8:Hid (w8.frozen? ⟨iN,4,none⟩=false/\(w8.cell? ⟨iN,4,none⟩=some (.slice cq cm cc)/\iN<w8.heap.size)/\Below w0.heap.size w0 w8):=by
    have hbk:=N7.o.1.blk;have K8:Kp (fun k=>(.slice cq cm cc:Value).ownBlock=some k) w7 w8:=Kp.grownBy k8.o fun _ h=>h;have dN:=(K8.block iN (ae hbk) fun e=>by have e2:=N7.o.1.ct iN e;rw[N7.o.1.tb]at e2;cases e2).trans hbk;exact⟨(aa dN).2 _,⟨((aa dN).1 4).trans rfl,ae dN⟩,N7.o.1.hb.trans (K8.below N7.o.1.hb.size fun k hk=>(N7.o.1.cm.lt k hk).1)⟩
   clear h8 k8 n8 Fz;generalize ms.length+1=ll at Ul⊢;refine hK.o _ _ (fun hD=>F8.o.2) ?_;clear hK K;try simp only[Act.put,qI,q0,qS]
   refine' bu 15 F8.o.2 ?h ?_;case h=>(intro W hSw;have hc:=hSw.1.1;have hl:=hSw.1.2;go_simp;try(with_reducible rfl))
   refine bF 16 fun K hK=> ?_;go_simp;refine hK.o _ _ (fun hD=>absurd (by decide) hD) ?_;clear hK K;try simp only[Act.put,qI,q0,qS]
   refine bF 17 fun K hK=> ?_;have c8:=F8.o.2.1.1;have f8:=F8.o.1;have l8:=F8.o.2.1.2;go_simp;generalize (w8.setCell ⟨iN,4,none⟩ (.slice (some ⟨g8,0,none⟩) ll bB))=w9 at Ul⊢;clear c8 f8 l8 F8;refine hK.o _ _ (fun hD=>absurd (by decide) hD) ?_;clear hK K;try simp only[Act.put,qI,q0,qS]
   refine au (by kernel_rfl) ?_ _;have HK:Hid (∃(XY:Option Addr) (X6 Yb:Nat) (Su:List Nat) (Ga:Nat->Nat),tJ w0 aJ w9 Ga iN ar (.slice sq wD sc) (.slice rq rm rc) (.slice Gw Gy Gz) (.slice XY X6 Yb) N L rs os2 Su (.slice uq um uc) U (fun p=>(Kt p).length) c O nm C F/\os2.length=i+1/\Su.length=i+1/\w0.heap.size<=iN):=⟨_,_,_,_,_,Ul.o,HJ.o.2.1,by rw[dO,vL];have:=HJ.o.2.2.1;omega,HJ.o.2.2.2⟩;clear Ul HJ hS0 hB0 CB aY iV N7 h7 LU HCO FL;go_upto_region 9 with fail;go_wp2_with fail;go_roundw;case rel=>
    obtain⟨XY,X6,Yb,Su,Ga,k1,k2,k3,k4⟩:=HK.o;exact⟨i+1,Ga,Gw,Gy,Gz,XY,X6,Yb,os2,Su,by omega,by go_num,k1,k2,k3,k4⟩
   case measure=>simp[intOf];omega
  ·have hltz:¬(i:Int)<(N:Int):=(by omega);obtain rfl:i=N:=(by omega);have HE:Hid (CpR w0 t iN ar i L rs c Kt O C F U wr):=by
    obtain⟨h1,h2,h3,h4⟩:=HI.o;have hd:=h1.done h2 h3 HR.o.rl hN (fun k _=>(HT0.o k).2.1) (K:=Kt) (fun _ _=>rfl);refine⟨NK w0 aJ tag i,h4,fun k hk=> ?_,fun k hk=> ?_,hd,h1.hb⟩
    ·have e:=(HT0.o k).2.2;unfold NK;rw[if_pos hk,e];by_cases z:t k=0
     ·simp[z]
     ·simp[z]
    ·unfold NK;rw[if_neg (by omega)];split<;>omega
   clear HI;go_wp2_with fail;go_ret;exact⟨iN,rfl,HE.o⟩
end Rc
end Go.Proofs.YtiiefcalkjeieaaGreat
