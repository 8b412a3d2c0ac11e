import Derived.Test.YteekbpokkjjipaaGreatJ15
import Derived.Test.YteekbpokkjjipaaGreatJ5
import Derived.Test.YteekbpokkjjipaaGreatJ8
variable{v nv ev fv pv:Go.Value}{hb np ff j g cap gb B1 at_ i:Nat}{w w' wr:Go.World}{a:Int}
set_option maxHeartbeats 16000000
set_option maxRecDepth 100000
namespace Go.Proofs.YteekbpokkjjipaaGreat
namespace Df
open Go.RowKit Go.Sort
attribute[local go_sem ↓]wp_at_zero wp_at_succ
theorem wT{ts:List Int}(h:Ls EI w v ts){x:Int}(hj:ts[j]? =some x):
    ∃b off c,v= .slice (some ⟨b,off,none⟩) ts.length c/\b<w.heap.size/\w.cell? ⟨b,off+j,none⟩=some (.int .i64 x):=by
 obtain⟨b,off,c,hv,hb,hc⟩:=h.get hj;refine⟨b,off,c,hv,hb, ?_⟩;have:=hc 0 _ (by decide) rfl;simpa[EI]using this
theorem Ny{ts:List SV}(h:Ls ES w v ts){s:SV}(hj:ts[j]? =some s):
    ∃b off c,v= .slice (some ⟨b,off,none⟩) ts.length c/\b<w.heap.size/\w.cell? ⟨b,off+j*4,none⟩=some (.int .i64 s.nd)/\w.cell? ⟨b,off+j*4+1,none⟩=some (.int .i64 s.pt)/\w.cell? ⟨b,off+j*4+2,none⟩=some (.bool s.df)/\w.cell? ⟨b,off+j*4+3,none⟩=some s.ev:=by
 obtain⟨b,off,c,hv,hb,hc⟩:=h.get hj;exact⟨b,off,c,hv,hb,hc 0 _ (by decide) rfl,hc 1 _ (by decide) rfl,hc 2 _ (by decide) rfl,hc 3 _ (by decide) rfl⟩
structure Gb(w:World)(gb:Nat)(a:Int)(nv ev fv pv:Value)(xs:List NV):Prop where
 blk:w.heap[gb]? =some (.cells (eB a nv ev fv pv) 138 (0,0))
 nodes:Lz EV w.heap.size w nv xs
 fr:Ls EI w fv (bO (xs.map NV.n) xs.length)
 nl:xs.length<=24
 ku:UN (xs.map NV.n)
theorem Ni{xs:List NV}{n:dw}(h:(xs.map NV.n)[j]? =some n):∃y,xs[j]? =some y/\y.n=n:=by
 simpa using h
theorem Oa{xs:List NV}(i p:Int)(w:World)(h:Gb w gb a nv ev fv pv xs):Calls Tryz.prog 116 #[.pointer (some ⟨gb,0,none⟩), .int .i64 i, .int .i64 p] w fun r w'=>r= .returned (.int .i64 (Qb (xs.map NV.n) i p))/\w'=w:=by
 have hc:=zI i p w h.nodes;rw[DR]at hc;have cg:=(aa h.blk).1;have lg:=ae h.blk;obtain⟨qn,cn,rfl⟩:=h.nodes.form;cases e:eZ (xs.map NV.n) i p with
 | false=>
  generalize xs.length=nlen at hc cg;have HR:Hid (Qb (xs.map NV.n) i p= -1):=by show _=_;unfold Qb;rw[if_neg (by rw[e];decide)]
  rw[e]at hc;clear e h;go_enter Tryz.func116,Tryz.ntmps116;go_wp2_with fail;refine hc.mono ?_;rintro r w1 ⟨rfl,rfl⟩;go_wp2_with fail;go_ret;exact⟨by rw[HR.o];rfl,rfl⟩
 | true=>
  obtain⟨n,hn,hi0,hil,hp0,hpn⟩:=xk e;obtain⟨j,rfl⟩:∃j:Nat,i=(j:Int):=⟨i.toNat,by omega⟩;simp only[tN]at hn hil;have HR:Hid (Qb (xs.map NV.n) (j:Int) p=bM (xs.map NV.n) j+p):=by show _=_;unfold Qb;rw[if_pos e,tN]
  rw[e]at hc;have hjl:j<xs.length:=by simpa using hil
  obtain⟨b1,o1,c1,hv1,hb1,x1⟩:=wT h.fr (xC (xs.map NV.n) hjl);rw[iw]at hv1;have hf:=oH h.ku j;have hq:=h.ku n (lM hn);have hnl:=h.nl;subst hv1;obtain⟨m,hm⟩:=aD (bM (xs.map NV.n) j);rw[<-hm]at HR x1 hf;generalize xs.length=ml at hc cg hjl hnl;have hjz:(j:Int)<(ml:Int):=by omega
  have WH:m<=192:=by omega
  have hp4:p<4:=by omega
  clear e h hn hil hpn hm hf hq;go_enter Tryz.func116,Tryz.ntmps116;go_wp2_with fail;refine hc.mono ?_;rintro r w1 ⟨rfl,rfl⟩;go_wp2_with fail;go_ret;exact⟨by rw[HR.o];rfl,rfl⟩
theorem I1{xs:List NV}(i p:Int)(w:World)(h:Gb w gb a nv ev fv pv xs):Calls Tryz.prog 115 #[.pointer (some ⟨gb,0,none⟩), .int .i64 i, .int .i64 p] w fun r w'=>r= .returned (.int .i64 (yw (xs.map NV.n) i p))/\Gr w w':=by
 have hc:=xh i p w h.nodes;rw[DN]at hc;have cg:=(aa h.blk).1;have lg:=ae h.blk;obtain⟨qn,cn,rfl⟩:=h.nodes.form;cases e:eY (xs.map NV.n) i p with
 | false=>
  generalize xs.length=nlen at hc cg;have HR:Hid (yw (xs.map NV.n) i p= -1):=by show _=_;unfold yw;rw[if_neg (by rw[e];decide)]
  rw[e]at hc;clear e h;go_enter Tryz.func115,Tryz.ntmps115;go_wp2_with fail;refine hc.mono ?_;rintro r w1 ⟨rfl,rfl⟩;go_wp2_with fail;go_ret;exact⟨by rw[HR.o];rfl,Gr.refl _⟩
 | true=>
  obtain⟨n,hn,hi0,hil,hp0,hpn⟩:=ru e;obtain⟨j,rfl⟩:∃j:Nat,i=(j:Int):=⟨i.toNat,by omega⟩;simp only[tN]at hn hil;obtain⟨y,hy,hyn⟩:=Ni hn;subst hyn;have HR:Hid (yw (xs.map NV.n) (j:Int) p=bM (xs.map NV.n) j+y.n.ins+p):=by show _=_;unfold yw;rw[if_pos e,tN,hn]
  rw[e]at hc;have hjl:j<xs.length:=by simpa using hil
  obtain⟨b1,o1,c1,hv1,hb1,x1⟩:=wT h.fr (xC (xs.map NV.n) hjl);obtain⟨b2,o2,c2,ui,hb2,z0,z1,-⟩:=jX (h.nodes.ls hy) hy;rw[iw]at hv1;have hf:=oH h.ku j;have hq:=h.ku y.n (lM hn);have hnl:=h.nl;subst hv1;simp only[vS]at ui;obtain⟨rfl,-,rfl⟩:=ui;obtain⟨m,hm⟩:=aD (bM (xs.map NV.n) j);rw[<-hm]at HR x1 hf;generalize xs.length=ml at hc cg hjl hnl;have hjz:(j:Int)<(ml:Int):=by omega
  have WH:m<=192:=by omega
  have hp4:p<4:=by omega
  have hq1:0<=y.n.ins:=hq.1;have hq2:y.n.ins<=4:=hq.2.1;clear e h hn hil hpn hm hf hq hy;go_enter Tryz.func115,Tryz.ntmps115;go_wp2_with fail;refine hc.mono ?_;rintro r w1 ⟨rfl,rfl⟩;go_upto_region 5 with fail;go_quiet (fail);go_wp2_with fail;go_ret;exact⟨by rw[HR.o];rfl,(Gr.refl _).drewN _⟩
end Df
namespace Hf
open Go.RowKit Go.Sort Hp
attribute[local go_sem ↓]wp_at_zero wp_at_succ
theorem hid{p:Prop}(h:p):Hid p:=h
theorem lU:(Tryz.prog.info? 290).map (fun i=>(i.zero,i.size,i.bytes))=some (some (.agg #[.int .i64 0, .int .u64 0, .int .u64 0, .int .u64 0, .int .u64 0]),5,40):=by kernel_rfl
theorem iO{b o:Nat}(h:w'.heap[b]? =w.heap[b]?):w'.frozen? ⟨b,o,none⟩=w.frozen? ⟨b,o,none⟩:=by simp[World.frozen?,h]
theorem oz{e:TypeId}{s n n':Nat}{xs:List Value}(h:w.ownsRow 0 e s (.slice (some ⟨g,0,none⟩) n' cap) n xs)(q:Nat):w.frozen? ⟨g,q,none⟩=false:=by
 obtain⟨_,⟨h0,_⟩|⟨g',cap',cur,hv,_,hgg,_⟩⟩:=h
 ·cases h0
 ·cases hv;simp[World.frozen?,hgg]
structure Pu(w:World)(hb ff np B1 g cap:Nat)(v:Value)(L:List It)(x:It)(r:Th->Th->Bool)(at_:Nat)(M:List It)(i:Nat)(wr:World):Prop where
 inv:dV (aW r) L x at_ M i
 hp:Hb wr hb ff (.slice (some ⟨g,0,none⟩) (L.length+1) cap) M (np+1)
 box:wr.heap[B1]? =some (.cells #[.int .i64 x.1.1, .int .u64 x.1.2.1.1, .int .u64 x.1.2.1.2.1, .int .u64 x.1.2.1.2.2, .int .u64 (x.2:Nat)] 290 (0,0))
 turn:dS hb v (.slice (some ⟨g,0,none⟩) (L.length+1) cap) w wr
 bne:B1≠g/\B1≠hb
theorem Pu.row{L M:List It}{x:It}{r:Th->Th->Bool}(h:Pu w hb ff np B1 g cap v L x r at_ M i wr):wr.ownsRow 0 290 5 (.slice (some ⟨g,0,none⟩) (L.length+1) cap) (L.length+1) (fl EI M):=by
 have:=h.hp.own;rw[h.inv.len]at this;exact this
theorem Pu.set{L M:List It}{x:It}{r:Th->Th->Bool}(h:Pu w hb ff np B1 g cap v L x r at_ M i wr){y:It}{k:Nat}(hi:dV (aW r) L x at_ (M.set k y) j)
    (ho:w'.ownsRow 0 290 5 (.slice (some ⟨g,0,none⟩) (L.length+1) cap) (L.length+1) (fl EI (M.set k y))) (hk:Kp (fun q=>q=g) wr w') (hg:v.ownBlock=some g\/w.heap.size<=g):Pu w hb ff np B1 g cap v L x r at_ (M.set k y) j w':=by
 have hgb:hb≠g:=fun e=>h.hp.off (by rw[e];rfl);refine⟨hi,⟨(hk.block hb h.hp.lt hgb).trans h.hp.blk,by rw[hi.len];exact ho,h.hp.off⟩,(hk.block B1 (aG.1 h.box).1 h.bne.1).trans h.box,⟨h.turn.1.trans hk (fun q _ hq=> ?_),h.turn.2⟩,h.bne⟩;subst hq;rcases hg with hg|hg
 ·exact Or.inr hg
 ·omega
theorem wE{L:List It}{r:Th->Th->Bool}(x:Th)(w:World)(hH:Hb w hb ff v L np)(hl:(L.length+1)*40<=140737488355328)(Sa:np+1<18446744073709551616)(hF:dW ff r):
    Calls Tryz.prog 126 #[.pointer (some ⟨hb,0,none⟩),tv x] w fun e w'=>∃v' L',e= .returned (.tuple #[])/\Hb w' hb ff v' L' (np+1)/\L'.Perm (L++[(x,np)])/\(zS (aW r)->bY (aW r) L->bY (aW r) L')/\dS hb v v' w w':=by
 have hmx:Tryz.prog.follows .mixedOrders=true:=by kernel_rfl
 have k0:=hH.c0;have k1:=hH.c1;have k2:=hH.c2;have kl:=hH.lt;have VY:=hH.fz 2;obtain⟨pl,cl,rfl⟩:=hH.qy.form;obtain⟨B1,hB1⟩:=aD (w.heap.size+1);obtain⟨W2,hW2⟩:=aD (((w.alloc (.cells #[.int .i64 x.1, .int .u64 x.2.1.1, .int .u64 x.2.1.2.1, .int .u64 x.2.1.2.2] 215)).alloc (.cells #[.int .i64 (x,np).1.1, .int .u64 (x,np).1.2.1.1, .int .u64 (x,np).1.2.1.2.1, .int .u64 (x,np).1.2.1.2.2, .int .u64 ((x,np).2:Nat)] 290)).drew);have G2:Gr w W2:=by rw[hW2];exact(((Gr.refl _).alloc _).alloc _).drew
 have DT:W2.heap[B1]? =some (.cells #[.int .i64 (x,np).1.1, .int .u64 (x,np).1.2.1.1, .int .u64 (x,np).1.2.1.2.1, .int .u64 (x,np).1.2.1.2.2, .int .u64 ((x,np).2:Nat)] 290 (0,0)):=by
  have h:=ai (w.alloc (.cells #[.int .i64 x.1, .int .u64 x.2.1.1, .int .u64 x.2.1.2.1, .int .u64 x.2.1.2.2] 215)) (.cells #[.int .i64 (x,np).1.1, .int .u64 (x,np).1.2.1.1, .int .u64 (x,np).1.2.1.2.1, .int .u64 (x,np).1.2.1.2.2, .int .u64 ((x,np).2:Nat)] 290);rw[show(w.alloc (.cells #[.int .i64 x.1, .int .u64 x.2.1.1, .int .u64 x.2.1.2.1, .int .u64 x.2.1.2.2] 215)).heap.size=w.heap.size+1 by simp]at h;rw[hW2,hB1];exact h
 have uz:Hid (Hb W2 hb ff (.slice pl L.length cl) L np):=hH.gr G2;have hup:=vJ (r:=r) (x,np) W2 uz.o (by omega) hF;have HG2:Hid (Gr w W2):=G2;have jd:Hid (w.heap.size<=B1/\B1<W2.heap.size):=⟨by omega,(aG.1 DT).1⟩;have hBl:B1<W2.heap.size:=(aG.1 DT).1;obtain⟨q0,q1,q2,q3,q4⟩:W2.cell? ⟨B1,0,none⟩=some (.int .i64 (x,np).1.1)/\W2.cell? ⟨B1,1,none⟩=some (.int .u64 (x,np).1.2.1.1)/\W2.cell? ⟨B1,2,none⟩=some (.int .u64 (x,np).1.2.1.2.1)/\W2.cell? ⟨B1,3,none⟩=some (.int .u64 (x,np).1.2.1.2.2)/\W2.cell? ⟨B1,4,none⟩=some (.int .u64 ((x,np).2:Nat)):=by simp[World.cell?,DT]
 have uB:Hid (W2.heap[B1]? =some (.cells #[.int .i64 (x,np).1.1, .int .u64 (x,np).1.2.1.1, .int .u64 (x,np).1.2.1.2.1, .int .u64 (x,np).1.2.1.2.2, .int .u64 ((x,np).2:Nat)] 290 (0,0))):=DT;have HH0:Hid (Hb w hb ff (.slice pl L.length cl) L np):=hH;clear hH G2 DT;go_enter Tryz.func126,Tryz.ntmps126;go_wp2_with fail;go_region;rw[<-hW2,<-hB1];clear hW2 hB1 k0 k1 k2 kl VY;go_wp2_with fail;refine hup.mono ?_;rintro e w3 ⟨at_,rfl,Gu,hend,hg3⟩;clear hup;have E9:Hid (Hb w3 hb ff (.slice pl L.length cl) L np):=uz.o.gr hg3;have k2:=E9.o.c2;have kl:=E9.o.lt;have VY:=E9.o.fz 2;have HWY:Hid (Wy (QU (aW r) L (x,np)) L.length at_):=Gu;have rV:Hid (at_=0\/∃y,L[par at_]? =some y/\aW r (x,np) y=false):=hend;have PY:Hid (at_<=L.length):=Gu.le;have Lp:Hid (Gr w w3):=HG2.o.trans hg3;have Ip:Hid (w3.heap[B1]? =some (.cells #[.int .i64 (x,np).1.1, .int .u64 (x,np).1.2.1.1, .int .u64 (x,np).1.2.1.2.1, .int .u64 (x,np).1.2.1.2.2, .int .u64 ((x,np).2:Nat)] 290 (0,0))):=(hg3.below.block B1 hBl).trans uB.o;clear Gu hend hg3 q0 q1 q2 q3 q4 uB uz;go_upto_region 5 with fail;have zU:Hid (Hb (w3.setCell ⟨hb,2,none⟩ (.int .u64 ((np:Int)+1))) hb ff (.slice pl L.length cl) L (np+1)):=(E9.o.CY (np+1)).1;have PS:Hid (Kp (fun k=>k=hb) w3 (w3.setCell ⟨hb,2,none⟩ (.int .u64 ((np:Int)+1)))):=(E9.o.CY (np+1)).2;generalize w3.setCell ⟨hb,2,none⟩ (.int .u64 ((np:Int)+1))=w4 at zU PS⊢;have GQ:B1≠hb:=fun e=>by have:=HH0.o.lt;have:=jd.o.1;omega
 have EB:Hid (w4.heap[B1]? =some (.cells #[.int .i64 (x,np).1.1, .int .u64 (x,np).1.2.1.1, .int .u64 (x,np).1.2.1.2.1, .int .u64 (x,np).1.2.1.2.2, .int .u64 ((x,np).2:Nat)] 290 (0,0))):=(PS.o.block B1 (aG.1 Ip.o).1 GQ).trans Ip.o;have Bv:B1<w4.heap.size:=(aG.1 EB.o).1;obtain⟨q0,q1,q2,q3,q4⟩:w4.cell? ⟨B1,0,none⟩=some (.int .i64 (x,np).1.1)/\w4.cell? ⟨B1,1,none⟩=some (.int .u64 (x,np).1.2.1.1)/\w4.cell? ⟨B1,2,none⟩=some (.int .u64 (x,np).1.2.1.2.1)/\w4.cell? ⟨B1,3,none⟩=some (.int .u64 (x,np).1.2.1.2.2)/\w4.cell? ⟨B1,4,none⟩=some (.int .u64 ((x,np).2:Nat)):=by simp[World.cell?,EB.o]
 obtain⟨iK,hiK,hk0,hk1,hk2⟩:=info_parts lU;have r0:=zU.o.c1;have Zz:=zU.o.fz 1;have hlr:=zU.o.lt;have hne1:some hb≠(Value.slice pl L.length cl).ownBlock:=fun e=>zU.o.off e.symm;have hnm:w4.ownsRow 0 290 5 (.slice pl L.length cl) L.length (fl EI L):=zU.o.own;clear k2 kl VY hBl;go_cut [32]from 25 to 34 (fun _ w'=>∃g cap,Hid (Pu w hb ff np B1 g cap (.slice pl L.length cl) L (x,np) r at_ (L++[(x,np)]) L.length w'/\((Value.slice pl L.length cl).ownBlock=some g\/w.heap.size<=g)));case first=>
  go_region_law (refine step_append_lies _ rfl _ _ 285 rfl 0 290 iK (.agg #[.int .i64 0, .int .u64 0, .int .u64 0, .int .u64 0, .int .u64 0]) 5 40 Tryz.underlying285 hiK hk0 hk1 hk2 rfl (by decide) (Value.slice pl L.length cl) L.length (fl EI L) rfl (World.ownsRow.alloc (w:=w4.drew) hnm _) ⟨w4.heap.size,0,none⟩ 1 1 [.int .i64 (x,np).1.1, .int .u64 (x,np).1.2.1.1, .int .u64 (x,np).1.2.1.2.1, .int .u64 (x,np).1.2.1.2.2, .int .u64 ((x,np).2:Nat)] rfl rfl (World.news_of_block (ai _ _)) (by simp[Value.oneCell']) (by decide) (by unfold maxLen;omega) (by omega) (zL _) _ rfl ?_
                 intro g cap fE Gx hgrow OH Z8;have Ir:=hgrow.block hb (by simp;omega) hne1;have k10:fE.cell? ⟨hb,1,none⟩=some (Value.slice pl L.length cl):=(yJ (a:=⟨hb,1,none⟩) Ir).trans ((((Gr.refl w4).drew.alloc _).cell hlr).trans r0);have aa5:fE.frozen? ⟨hb,1,none⟩=false:=(iO Ir).trans ((((Gr.refl w4).drew.alloc _).frozen hlr).trans Zz))
  all_goals (
   go_wp2_with fail;go_meet;have PW:fE.heap[hb]? =some (.cells #[Hf.fv ff, .slice pl L.length cl, .int .u64 ((np+1:Nat):Int)] 287 (0,0)):=Ir.trans ((((Gr.refl w4).drew.alloc _).below.block hb hlr).trans zU.o.blk);obtain⟨hs1,hs2⟩:=(lJ PW).1 (.slice (some ⟨g,0,none⟩) (L.length+1) cap);have hz4:w.heap.size<=w4.heap.size:=nT Lp.o.size PS.o.size;have sJ:Kp (fun q=>(Value.slice pl L.length cl).ownBlock=some q) w4 fE:=(Kp.aZ ((Gr.refl w4).drew.alloc _)).trans (Kp.grownBy (S:=fun q=>(Value.slice pl L.length cl).ownBlock=some q) hgrow (fun _ h=>h)) (fun _ _ h=>h);have hg4:(Value.slice pl L.length cl).ownBlock=some g\/w4.heap.size<=g:=OH.imp id (fun h=>by rw[h];simp);have hg:(Value.slice pl L.length cl).ownBlock=some g\/w.heap.size<=g:=hg4.imp id (fun h=>by omega);have hlw:=HH0.o.lt;have hrw:=HH0.o.row;have hgb:g≠hb:=fun e=>by
    rcases hg with h|h
    ·exact HH0.o.off (by rw[h,e])
    ·omega
   have hBg:B1≠g:=fun e=>by
    have hB:=jd.o.1;have hB4:B1<w4.heap.size:=Bv;rcases hg4 with h|h
    ·have:=hrw g h;omega
    ·omega
   refine⟨g,cap,⟨dV.init HWY.o,⟨hs1, ?_, ?_⟩, ?_,⟨?_,fun q hq=> ?_⟩,hBg,GQ⟩,hg⟩
   ·rw[dK,aT];refine ax hs2 (by rw[dx];exact Gx) (fun k hk e=> ?_);have:k=g:=(by simpa[Value.ownBlock]using hk.symm);exact hgb (by rw[<-this,e])
   ·simpa[Value.ownBlock]using hgb
   ·refine(hs2.block B1 (nL Bv sJ.size) GQ).trans ((sJ.block B1 Bv (fun h=> ?_)).trans EB.o);have:=hrw B1 h;have:=jd.o.1;omega
   ·refine(((Kp.aZ Lp.o).trans (PS.o.mono (fun _ h=>Or.inl h)) (fun _ _ h=>h)).trans (sJ.mono (fun _ h=>Or.inr h)) (fun _ _ h=>h)).trans (hs2.mono (fun _ h=>Or.inl h)) (fun _ _ h=>h)
   ·have:q=g:=(by simpa[Value.ownBlock]using hq.symm);rw[this];exact hg)
 case rest=>
  obtain⟨g,cap,PO⟩:=hcut;have r1:=PO.o.1.hp.c1;have WJ:=PO.o.1.hp.lt;have HGO:Hid ((Value.slice pl L.length cl).ownBlock=some g\/w.heap.size<=g):=PO.o.2;have HP0:Hid (Pu w hb ff np B1 g cap (.slice pl L.length cl) L (x,np) r at_ (L++[(x,np)]) L.length wc):=PO.o.1;clear PO EB Bv q0 q1 q2 q3 q4 r0 Zz hlr hne1 hnm zU PS E9 Lp Ip hiK hk0 hk1 hk2;go_wp2_with fail;clear r1 WJ;go_loopw [6] (fun s6 wr=>∃(i:Nat) (M:List It),i<=L.length/\s6= .int .i64 i/\Hid (Pu w hb ff np B1 g cap (.slice pl L.length cl) L (x,np) r at_ M i wr)) (fun s6 _=>(intOf s6).toNat);case atStart=>exact⟨L.length,_,nR _,by first|rfl|simp,HP0.o⟩
  case round=>
   clear HP0;obtain⟨i,M,hil,rfl,HP⟩:=hrel;have BS:Hid (wr.ownsRow 0 290 5 (.slice (some ⟨g,0,none⟩) (L.length+1) cap) (L.length+1) (fl EI M)):=HP.o.row;have hfz:=oz BS.o;have r1:=HP.o.hp.c1;have hlr:=HP.o.hp.lt;have hgl:g<wr.heap.size:=(BS.o.lt g rfl).2;have WN:(i:Int)<(L.length:Int)+1:=(by omega);have hi0:(0:Int)<=(i:Int):=(by omega);obtain⟨z,hz⟩:∃z,M[i]? =some z:=⟨M[i]'(by rw[HP.o.inv.len];omega),by rw[qw]⟩;obtain⟨b1,o1,c1,e1,z1,y0,y1,y2,y3,y4⟩:=gH HP.o.hp.qy hz;simp only[vS,oI,aI,and_true]at e1;obtain⟨⟨rfl,rfl⟩,-,rfl⟩:=e1;rw[nZ]at y0 y1 y2 y3 y4;have f0:=hfz (i*5+0);have f1:=hfz (i*5+1);have f2:=hfz (i*5+2);have f3:=hfz (i*5+3);have f4:=hfz (i*5+4);rw[nO]at f0;clear hz z1 hfz;by_cases hlt:at_<i
   ·have hltz:(at_:Int)<(i:Int):=(by omega);obtain⟨y,hy,hpi⟩:=HP.o.inv.step hlt;have DJ:0<i:=(by omega);have DD:=eX DJ;have HPI:Hid (dV (aW r) L (x,np) at_ (M.set i y) (par i)):=hpi;have hpz:(par i:Int)<(L.length:Int)+1:=(by omega);have hp0:(0:Int)<=(par i:Int):=(by omega);obtain⟨b1,o1,c1,e1,z1,x0,x1,x2,x3,x4⟩:=gH HP.o.hp.qy hy;clear z1;simp only[vS,oI,aI,and_true]at e1;obtain⟨⟨rfl,rfl⟩,-,rfl⟩:=e1;rw[nZ]at x0 x1 x2 x3 x4;have oV:∀W,Calls Tryz.prog 147 #[.int .i64 i] W fun e w'=>e= .returned (.int .i64 (par i:Nat))/\w'=W:=fun W=>fV i DJ (by omega) W;have Ex:Hid (par i<i):=DD;clear hy hpi DD;go_wp2_with fail;go_region_with (go_at_call 147;refine(oV _).mono ?_;rintro e w4 ⟨rfl,rfl⟩);all_goals (
     obtain⟨ho,hk⟩:=fF (i:=i) y BS.o;have PQ:=hid (HP.o.set HPI.o (ag ho (Gr.refl _).drew.below) (hk.trans (Kp.aZ (Gr.refl _).drew) (fun _ _ h=>h)) HGO.o);clear ho hk r1 x0 x1 x2 x3 x4 y0 y1 y2 y3 y4 f0 f1 f2 f3 f4;go_wp2_with (go_at_call 147;refine(oV _).mono ?_;rintro e w4 ⟨rfl,rfl⟩);go_roundw;case rel=>exact⟨par i,_,by have:=Ex.o;omega,rfl,PQ.o⟩
     case measure=>simp[intOf];exact Ex.o)
   ·have hltz:¬(at_:Int)<(i:Int):=(by omega);have hie:i=at_:=(by have:=HP.o.inv.way.le;omega);subst hie;obtain⟨q0,q1,q2,q3,q4⟩:wr.cell? ⟨B1,0,none⟩=some (.int .i64 (x,np).1.1)/\wr.cell? ⟨B1,1,none⟩=some (.int .u64 (x,np).1.2.1.1)/\wr.cell? ⟨B1,2,none⟩=some (.int .u64 (x,np).1.2.1.2.1)/\wr.cell? ⟨B1,3,none⟩=some (.int .u64 (x,np).1.2.1.2.2)/\wr.cell? ⟨B1,4,none⟩=some (.int .u64 ((x,np).2:Nat)):=(by simp[World.cell?,HP.o.box]);have hBl:B1<wr.heap.size:=(aG.1 HP.o.box).1;go_wp2_with fail;go_region;all_goals (
     go_end0;obtain⟨ho,hk⟩:=fF (i:=i) (x,np) BS.o;obtain⟨d1,d2⟩:=HP.o.inv.done rV.o;have hgb:hb≠g:=fun e=>HP.o.hp.off (by rw[e];rfl);have hk2:=hk.trans (Kp.aZ (S:=fun q=>q=g) (Gr.refl _).drew) (fun _ _ h=>h);refine⟨_,_,rfl,⟨(hk2.block hb HP.o.hp.lt hgb).trans HP.o.hp.blk, ?_,HP.o.hp.off⟩,d1,d2,HP.o.turn.1.trans hk2 (fun q _ hq=> ?_),HP.o.turn.2⟩
     ·rw[lZ,HP.o.inv.len];exact ag ho (Gr.refl _).drew.below
     ·subst hq;rcases HGO.o with hg|hg
      ·exact Or.inr hg
      ·omega)
theorem dD(ff:Nat)(w:World):Calls Tryz.prog 123 #[Hf.fv ff] w fun e w'=>∃hb,e= .returned (.pointer (some ⟨hb,0,none⟩))/\w.heap.size<=hb/\Hb w' hb ff (.slice none 0 0) [] 0/\Gr w w':=by
 go_enter Tryz.func123,Tryz.ntmps123;go_wp2;go_ret;exact⟨_,rfl,nR _,⟨ai _ _,oN _ _ _ _,by simp[Value.ownBlock]⟩,(Gr.refl _).alloc _⟩
theorem gI{L:List It}(w:World)(hH:Hb w hb ff v L np):Calls Tryz.prog 247 #[.pointer (some ⟨hb,0,none⟩)] w fun e w'=>e= .returned (.int .i64 (L.length:Nat))/\w'=w:=by
 have k1:=hH.c1;obtain⟨pl,cl,rfl⟩:=hH.qy.form;have kl:=hH.lt;clear hH;go_enter Tryz.func247,Tryz.ntmps247;go_wp2;go_ret;exact⟨rfl,rfl⟩
abbrev ans(x:Th)(b:Bool):Value:= .tuple #[tv x, .bool b]
abbrev zt:Th:=(0,⟨(0,0,0),by decide⟩)
theorem qR{L:List It}{t:It}(w:World)(hH:Hb w hb ff v L np)(ht:L[0]? =some t):Calls Tryz.prog 187 #[.pointer (some ⟨hb,0,none⟩)] w fun e w'=>e= .returned (ans t.1 true)/\Gr w w':=by
 have hlen:∀W:World,Gr w W->Calls Tryz.prog 247 #[.pointer (some ⟨hb,0,none⟩)] W fun e w'=>e= .returned (.int .i64 (L.length:Nat))/\w'=W:=fun W h=>gI W (hH.gr h);have hpos:0<L.length:=(lG.1 ht).1;have hpz:¬(L.length:Int)=0:=by omega
 have abd:(0:Int)<(L.length:Int):=by omega
 obtain⟨b1,o1,c1,e1,z1,x0,x1,x2,x3,x4⟩:=gH hH.qy ht;subst e1;have k1:=hH.c1;have kl:=hH.lt;clear hH ht;simp only[Nat.zero_mul,nO]at x0 x1 x2 x3 x4;go_enter Tryz.func187,Tryz.ntmps187;go_wp2_with fail;refine(hlen _ (by first|exact(Gr.refl _).alloc _|exact Gr.refl _)).mono ?_;rintro e w1 ⟨rfl,rfl⟩;go_wp2;refine bR (v:=ans t.1 true) (by simp[results,Tryz.results187,go_sem]) rfl ?_;exact⟨rfl,by first|exact(Gr.refl _).alloc _|exact Gr.refl _⟩
theorem kv(w:World)(hH:Hb w hb ff v [] np):Calls Tryz.prog 187 #[.pointer (some ⟨hb,0,none⟩)] w fun e w'=>e= .returned (ans zt false)/\Gr w w':=by
 have hlen:∀W:World,Gr w W->Calls Tryz.prog 247 #[.pointer (some ⟨hb,0,none⟩)] W fun e w'=>e= .returned (.int .i64 0)/\w'=W:=fun W h=>gI W (hH.gr h);clear hH;go_enter Tryz.func187,Tryz.ntmps187;go_wp2_with fail;refine(hlen _ (by first|exact(Gr.refl _).alloc _|exact Gr.refl _)).mono ?_;rintro e w1 ⟨rfl,rfl⟩;go_wp2;refine bR (v:=ans zt false) (by simp[results,Tryz.results187,go_sem]) rfl ?_;exact⟨rfl,by first|exact((Gr.refl _).alloc _).alloc _|exact(Gr.refl _).alloc _|exact Gr.refl _⟩
end Hf
namespace Hc
open Go.RowKit Go.Sort Hp
attribute[local go_sem ↓]wp_at_zero wp_at_succ
theorem dD(ff:Value)(w:World):Calls Tryz.prog 85 #[Hc.fv ff] w fun e w'=>∃hb,e= .returned (.pointer (some ⟨hb,0,none⟩))/\w.heap.size<=hb/\Hb w' hb ff (.slice none 0 0) [] 0/\Gr w w':=by
 go_enter Tryz.func85,Tryz.ntmps85;go_wp2;go_ret;exact⟨_,rfl,nR _,⟨ai _ _,oN _ _ _ _,by simp[Value.ownBlock]⟩,(Gr.refl _).alloc _⟩
theorem gI{ff:Value}{L:List It}(w:World)(hH:Hb w hb ff v L np):Calls Tryz.prog 197 #[.pointer (some ⟨hb,0,none⟩)] w fun e w'=>e= .returned (.int .i64 (L.length:Nat))/\w'=w:=by
 have k1:=hH.c1;obtain⟨pl,cl,rfl⟩:=hH.qy.form;have kl:=hH.lt;clear hH;go_enter Tryz.func197,Tryz.ntmps197;go_wp2;go_ret;exact⟨rfl,rfl⟩
abbrev ans(x:Th)(b:Bool):Value:= .tuple #[tv x, .bool b]
abbrev zt:Th:=(0,⟨(0,0,0),by decide⟩,0)
theorem qR{ff:Value}{L:List It}{t:It}(w:World)(hH:Hb w hb ff v L np)(ht:L[0]? =some t):Calls Tryz.prog 138 #[.pointer (some ⟨hb,0,none⟩)] w fun e w'=>e= .returned (ans t.1 true)/\Gr w w':=by
 have hlen:∀W:World,Gr w W->Calls Tryz.prog 197 #[.pointer (some ⟨hb,0,none⟩)] W fun e w'=>e= .returned (.int .i64 (L.length:Nat))/\w'=W:=fun W h=>gI W (hH.gr h);have hpos:0<L.length:=(lG.1 ht).1;have hpz:¬(L.length:Int)=0:=by omega
 have abd:(0:Int)<(L.length:Int):=by omega
 obtain⟨b1,o1,c1,e1,z1,x0,x1,x2,x3,x4,x5⟩:=gH hH.qy ht;subst e1;have k1:=hH.c1;have kl:=hH.lt;clear hH ht;simp only[Nat.zero_mul,nO]at x0 x1 x2 x3 x4 x5;go_enter Tryz.func138,Tryz.ntmps138;go_wp2_with fail;refine(hlen _ (by first|exact(Gr.refl _).alloc _|exact Gr.refl _)).mono ?_;rintro e w1 ⟨rfl,rfl⟩;go_wp2;refine bR (v:=ans t.1 true) (by simp[results,Tryz.results138,go_sem]) rfl ?_;exact⟨rfl,by first|exact(Gr.refl _).alloc _|exact Gr.refl _⟩
theorem kv{ff:Value}(w:World)(hH:Hb w hb ff v [] np):Calls Tryz.prog 138 #[.pointer (some ⟨hb,0,none⟩)] w fun e w'=>e= .returned (ans zt false)/\Gr w w':=by
 have hlen:∀W:World,Gr w W->Calls Tryz.prog 197 #[.pointer (some ⟨hb,0,none⟩)] W fun e w'=>e= .returned (.int .i64 0)/\w'=W:=fun W h=>gI W (hH.gr h);clear hH;go_enter Tryz.func138,Tryz.ntmps138;go_wp2_with fail;refine(hlen _ (by first|exact(Gr.refl _).alloc _|exact Gr.refl _)).mono ?_;rintro e w1 ⟨rfl,rfl⟩;go_wp2;refine bR (v:=ans zt false) (by simp[results,Tryz.results138,go_sem]) rfl ?_;exact⟨rfl,by first|exact((Gr.refl _).alloc _).alloc _|exact(Gr.refl _).alloc _|exact Gr.refl _⟩
end Hc
end Go.Proofs.YteekbpokkjjipaaGreat
