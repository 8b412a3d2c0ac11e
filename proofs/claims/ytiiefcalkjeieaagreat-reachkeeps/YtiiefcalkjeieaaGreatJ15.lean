import Derived.Test.YtiiefcalkjeieaaGreatJ14
import Derived.Test.YtiiefcalkjeieaaGreatJ5
variable{v nv ev pv:Go.Value}{hb np g cap ff j B1 at_ i gb b o s n n' k:Nat}{w w' wr:Go.World}{a:Int}{e:Go.TypeId}{xs:List Go.Value}
set_option maxHeartbeats 16000000
set_option maxRecDepth 100000
namespace Go.Proofs.YtiiefcalkjeieaaGreat
namespace Df
open Go.RowKit Go.Sort
attribute[local go_sem ↓]wp_at_zero wp_at_succ
theorem xw{ts:List Int}(h:Ls EI w v ts){x:Int}(hj:ts[j]? =some x):
    ∃b off c,v= .slice (some ⟨b,off,none⟩) ts.length c/\b<w.heap.size/\w.cell? ⟨b,off+j,none⟩=some (.int .i64 x):=by
 obtain⟨b,off,c,hv,hb,hc⟩:=h.get hj;refine⟨b,off,c,hv,hb, ?_⟩;have:=hc 0 _ (by decide) rfl;simpa[EI]using this
theorem Og{ts:List SV}(h:Ls ES w v ts){s:SV}(hj:ts[j]? =some s):
    ∃b off c,v= .slice (some ⟨b,off,none⟩) ts.length c/\b<w.heap.size/\w.cell? ⟨b,off+j*4,none⟩=some (.int .i64 s.nd)/\w.cell? ⟨b,off+j*4+1,none⟩=some (.int .i64 s.pt)/\w.cell? ⟨b,off+j*4+2,none⟩=some (.bool s.df)/\w.cell? ⟨b,off+j*4+3,none⟩=some s.ev:=by
 obtain⟨b,off,c,hv,hb,hc⟩:=h.get hj;exact⟨b,off,c,hv,hb,hc 0 _ (by decide) rfl,hc 1 _ (by decide) rfl,hc 2 _ (by decide) rfl,hc 3 _ (by decide) rfl⟩
structure Gb(w:World)(gb:Nat)(a:Int)(nv ev fv pv:Value)(xs:List NV):Prop where
 blk:w.heap[gb]? =some (.cells (eF a nv ev fv pv) 138 (0,0))
 nodes:Lz EV w.heap.size w nv xs
 fr:Ls EI w fv (bO (xs.map NV.n) xs.length)
 nl:xs.length<=24
 kF:Vi (xs.map NV.n)
theorem NN{xs:List NV}{n:dx}(h:(xs.map NV.n)[j]? =some n):∃y,xs[j]? =some y/\y.n=n:=by
 simpa using h
theorem OJ{fv:Value}{xs:List NV}(i p:Int)(w:World)(h:Gb w gb a nv ev fv pv xs):Calls Tryz.prog 116 #[.pointer (some ⟨gb,0,none⟩), .int .i64 i, .int .i64 p] w fun r w'=>r= .returned (.int .i64 (QH (xs.map NV.n) i p))/\w'=w:=by
 have hc:=Ab i p w h.nodes;rw[Eh]at hc;have cg:=(aa h.blk).1;have lg:=ae h.blk;obtain⟨qn,cn,rfl⟩:=h.nodes.form;cases e:fE (xs.map NV.n) i p with
 | false=>
  generalize xs.length=nlen at hc cg;have HR:Hid (QH (xs.map NV.n) i p= -1):=by show _=_;unfold QH;rw[if_neg (by rw[e];decide)]
  rw[e]at hc;clear e h;go_enter Tryz.func116,Tryz.ntmps116;go_wp2_with fail;refine hc.mono ?_;rintro r w1 ⟨rfl,rfl⟩;go_wp2_with fail;go_ret;exact⟨by rw[HR.o];rfl,rfl⟩
 | true=>
  obtain⟨n,hn,hi0,hil,hp0,hpn⟩:=xG e;obtain⟨j,rfl⟩:∃j:Nat,i=(j:Int):=⟨i.toNat,by omega⟩;simp only[tN]at hn hil;have HR:Hid (QH (xs.map NV.n) (j:Int) p=bM (xs.map NV.n) j+p):=by show _=_;unfold QH;rw[if_pos e,tN]
  rw[e]at hc;have hjl:j<xs.length:=by simpa using hil
  obtain⟨b1,o1,c1,hv1,hb1,x1⟩:=xw h.fr (xN (xs.map NV.n) hjl);rw[iC]at hv1;have hf:=oP h.kF j;have hq:=h.kF n (lM hn);have hnl:=h.nl;subst hv1;obtain⟨m,hm⟩:=aC (bM (xs.map NV.n) j);rw[<-hm]at HR x1 hf;generalize xs.length=ml at hc cg hjl hnl;have hjz:(j:Int)<(ml:Int):=by omega
  have WX:m<=192:=by omega
  have hp4:p<4:=by omega
  clear e h hn hil hpn hm hf hq;go_enter Tryz.func116,Tryz.ntmps116;go_wp2_with fail;refine hc.mono ?_;rintro r w1 ⟨rfl,rfl⟩;go_wp2_with fail;go_ret;exact⟨by rw[HR.o];rfl,rfl⟩
theorem Jk{fv:Value}{xs:List NV}(i p:Int)(w:World)(h:Gb w gb a nv ev fv pv xs):Calls Tryz.prog 115 #[.pointer (some ⟨gb,0,none⟩), .int .i64 i, .int .i64 p] w fun r w'=>r= .returned (.int .i64 (yL (xs.map NV.n) i p))/\Gr w w':=by
 have hc:=xE i p w h.nodes;rw[Eg]at hc;have cg:=(aa h.blk).1;have lg:=ae h.blk;obtain⟨qn,cn,rfl⟩:=h.nodes.form;cases e:fD (xs.map NV.n) i p with
 | false=>
  generalize xs.length=nlen at hc cg;have HR:Hid (yL (xs.map NV.n) i p= -1):=by show _=_;unfold yL;rw[if_neg (by rw[e];decide)]
  rw[e]at hc;clear e h;go_enter Tryz.func115,Tryz.ntmps115;go_wp2_with fail;refine hc.mono ?_;rintro r w1 ⟨rfl,rfl⟩;go_wp2_with fail;go_ret;exact⟨by rw[HR.o];rfl,Gr.refl _⟩
 | true=>
  obtain⟨n,hn,hi0,hil,hp0,hpn⟩:=rz e;obtain⟨j,rfl⟩:∃j:Nat,i=(j:Int):=⟨i.toNat,by omega⟩;simp only[tN]at hn hil;obtain⟨y,hy,hyn⟩:=NN hn;subst hyn;have HR:Hid (yL (xs.map NV.n) (j:Int) p=bM (xs.map NV.n) j+y.n.ins+p):=by show _=_;unfold yL;rw[if_pos e,tN,hn]
  rw[e]at hc;have hjl:j<xs.length:=by simpa using hil
  obtain⟨b1,o1,c1,hv1,hb1,x1⟩:=xw h.fr (xN (xs.map NV.n) hjl);obtain⟨b2,o2,c2,JO,hb2,z0,z1,-⟩:=jY (h.nodes.ls hy) hy;rw[iC]at hv1;have hf:=oP h.kF j;have hq:=h.kF y.n (lM hn);have hnl:=h.nl;subst hv1;simp only[vS]at JO;obtain⟨rfl,-,rfl⟩:=JO;obtain⟨m,hm⟩:=aC (bM (xs.map NV.n) j);rw[<-hm]at HR x1 hf;generalize xs.length=ml at hc cg hjl hnl;have hjz:(j:Int)<(ml:Int):=by omega
  have WX:m<=192:=by omega
  have hp4:p<4:=by omega
  have hq1:0<=y.n.ins:=hq.1;have hq2:y.n.ins<=4:=hq.2.1;clear e h hn hil hpn hm hf hq hy;go_enter Tryz.func115,Tryz.ntmps115;go_wp2_with fail;refine hc.mono ?_;rintro r w1 ⟨rfl,rfl⟩;go_upto_region 5 with fail;go_quiet (fail);go_wp2_with fail;go_ret;exact⟨by rw[HR.o];rfl,(Gr.refl _).drewN _⟩
end Df
namespace Hf
open Go.RowKit Go.Sort Hp
attribute[local go_sem ↓]wp_at_zero wp_at_succ
theorem hid{p:Prop}(h:p):Hid p:=h
theorem mg:(Tryz.prog.info? 290).map (fun i=>(i.zero,i.size,i.bytes))=some (some (.agg #[.int .i64 0, .int .u64 0, .int .u64 0, .int .u64 0, .int .u64 0]),5,40):=by kernel_rfl
theorem iU(h:w'.heap[b]? =w.heap[b]?):w'.frozen? ⟨b,o,none⟩=w.frozen? ⟨b,o,none⟩:=by simp[World.frozen?,h]
theorem oL(h:w.ownsRow 0 e s (.slice (some ⟨g,0,none⟩) n' cap) n xs)(q:Nat):w.frozen? ⟨g,q,none⟩=false:=by
 obtain⟨_,⟨h0,_⟩|⟨g',cap',cur,hv,_,hgg,_⟩⟩:=h
 ·cases h0
 ·cases hv;simp[World.frozen?,hgg]
structure Pu(w:World)(hb ff np B1 g cap:Nat)(v:Value)(L:List It)(x:It)(r:Th->Th->Bool)(at_:Nat)(M:List It)(i:Nat)(wr:World):Prop where
 inv:dX (aU r) L x at_ M i
 hp:Hb wr hb ff (.slice (some ⟨g,0,none⟩) (L.length+1) cap) M (np+1)
 box:wr.heap[B1]? =some (.cells #[.int .i64 x.1.1, .int .u64 x.1.2.1.1, .int .u64 x.1.2.1.2.1, .int .u64 x.1.2.1.2.2, .int .u64 (x.2:Nat)] 290 (0,0))
 turn:dW hb v (.slice (some ⟨g,0,none⟩) (L.length+1) cap) w wr
 bne:B1≠g/\B1≠hb
theorem Pu.row{L M:List It}{x:It}{r:Th->Th->Bool}(h:Pu w hb ff np B1 g cap v L x r at_ M i wr):wr.ownsRow 0 290 5 (.slice (some ⟨g,0,none⟩) (L.length+1) cap) (L.length+1) (fl EI M):=by
 have:=h.hp.own;rw[h.inv.len]at this;exact this
theorem Pu.set{L M:List It}{x:It}{r:Th->Th->Bool}(h:Pu w hb ff np B1 g cap v L x r at_ M i wr){y:It}(hi:dX (aU r) L x at_ (M.set k y) j)
    (ho:w'.ownsRow 0 290 5 (.slice (some ⟨g,0,none⟩) (L.length+1) cap) (L.length+1) (fl EI (M.set k y))) (hk:Kp (fun q=>q=g) wr w') (hg:v.ownBlock=some g\/w.heap.size<=g):Pu w hb ff np B1 g cap v L x r at_ (M.set k y) j w':=by
 have hgb:hb≠g:=fun e=>h.hp.off (by rw[e];rfl);refine⟨hi,⟨(hk.block hb h.hp.lt hgb).trans h.hp.blk,by rw[hi.len];exact ho,h.hp.off⟩,(hk.block B1 (aG.1 h.box).1 h.bne.1).trans h.box,⟨h.turn.1.trans hk (fun q _ hq=> ?_),h.turn.2⟩,h.bne⟩;subst hq;rcases hg with hg|hg
 ·exact Or.inr hg
 ·omega
theorem wQ{L:List It}{r:Th->Th->Bool}(x:Th)(w:World)(hH:Hb w hb ff v L np)(hl:(L.length+1)*40<=140737488355328)(Te:np+1<18446744073709551616)(hF:dY ff r):
    Calls Tryz.prog 126 #[.pointer (some ⟨hb,0,none⟩),tv x] w fun e w'=>∃v' L',e= .returned (.tuple #[])/\Hb w' hb ff v' L' (np+1)/\L'.Perm (L++[(x,np)])/\(Am (aU r)->bX (aU r) L->bX (aU r) L')/\dW hb v v' w w':=by
 have hmx:Tryz.prog.follows .mixedOrders=true:=by kernel_rfl
 have k0:=hH.c0;have k1:=hH.c1;have k2:=hH.c2;have kl:=hH.lt;have WA:=hH.fz 2;obtain⟨pl,cl,rfl⟩:=hH.qC.form;obtain⟨B1,hB1⟩:=aC (w.heap.size+1);obtain⟨W2,hW2⟩:=aC (((w.alloc (.cells #[.int .i64 x.1, .int .u64 x.2.1.1, .int .u64 x.2.1.2.1, .int .u64 x.2.1.2.2] 215)).alloc (.cells #[.int .i64 (x,np).1.1, .int .u64 (x,np).1.2.1.1, .int .u64 (x,np).1.2.1.2.1, .int .u64 (x,np).1.2.1.2.2, .int .u64 ((x,np).2:Nat)] 290)).drew);have G2:Gr w W2:=by rw[hW2];exact(((Gr.refl _).alloc _).alloc _).drew
 have Ei:W2.heap[B1]? =some (.cells #[.int .i64 (x,np).1.1, .int .u64 (x,np).1.2.1.1, .int .u64 (x,np).1.2.1.2.1, .int .u64 (x,np).1.2.1.2.2, .int .u64 ((x,np).2:Nat)] 290 (0,0)):=by
  have h:=ah (w.alloc (.cells #[.int .i64 x.1, .int .u64 x.2.1.1, .int .u64 x.2.1.2.1, .int .u64 x.2.1.2.2] 215)) (.cells #[.int .i64 (x,np).1.1, .int .u64 (x,np).1.2.1.1, .int .u64 (x,np).1.2.1.2.1, .int .u64 (x,np).1.2.1.2.2, .int .u64 ((x,np).2:Nat)] 290);rw[show(w.alloc (.cells #[.int .i64 x.1, .int .u64 x.2.1.1, .int .u64 x.2.1.2.1, .int .u64 x.2.1.2.2] 215)).heap.size=w.heap.size+1 by simp]at h;rw[hW2,hB1];exact h
 have uE:Hid (Hb W2 hb ff (.slice pl L.length cl) L np):=hH.gr G2;have hup:=vQ (r:=r) (x,np) W2 uE.o (by omega) hF;have HG2:Hid (Gr w W2):=G2;have jG:Hid (w.heap.size<=B1/\B1<W2.heap.size):=⟨by omega,(aG.1 Ei).1⟩;have hBl:B1<W2.heap.size:=(aG.1 Ei).1;obtain⟨q0,q1,q2,q3,q4⟩:W2.cell? ⟨B1,0,none⟩=some (.int .i64 (x,np).1.1)/\W2.cell? ⟨B1,1,none⟩=some (.int .u64 (x,np).1.2.1.1)/\W2.cell? ⟨B1,2,none⟩=some (.int .u64 (x,np).1.2.1.2.1)/\W2.cell? ⟨B1,3,none⟩=some (.int .u64 (x,np).1.2.1.2.2)/\W2.cell? ⟨B1,4,none⟩=some (.int .u64 ((x,np).2:Nat)):=by simp[World.cell?,Ei]
 have yD:Hid (W2.heap[B1]? =some (.cells #[.int .i64 (x,np).1.1, .int .u64 (x,np).1.2.1.1, .int .u64 (x,np).1.2.1.2.1, .int .u64 (x,np).1.2.1.2.2, .int .u64 ((x,np).2:Nat)] 290 (0,0))):=Ei;have HH0:Hid (Hb w hb ff (.slice pl L.length cl) L np):=hH;clear hH G2 Ei;go_enter Tryz.func126,Tryz.ntmps126;go_wp2_with fail;go_region;rw[<-hW2,<-hB1];clear hW2 hB1 k0 k1 k2 kl WA;go_wp2_with fail;refine hup.mono ?_;rintro e w3 ⟨at_,rfl,GZ,hend,hg3⟩;clear hup;have FI:Hid (Hb w3 hb ff (.slice pl L.length cl) L np):=uE.o.gr hg3;have k2:=FI.o.c2;have kl:=FI.o.lt;have WA:=FI.o.fz 2;have HWY:Hid (Wy (QU (aU r) L (x,np)) L.length at_):=GZ;have uF:Hid (at_=0\/∃y,L[par at_]? =some y/\aU r (x,np) y=false):=hend;have QA:Hid (at_<=L.length):=GZ.le;have Mm:Hid (Gr w w3):=HG2.o.trans hg3;have IU:Hid (w3.heap[B1]? =some (.cells #[.int .i64 (x,np).1.1, .int .u64 (x,np).1.2.1.1, .int .u64 (x,np).1.2.1.2.1, .int .u64 (x,np).1.2.1.2.2, .int .u64 ((x,np).2:Nat)] 290 (0,0))):=(hg3.below.block B1 hBl).trans yD.o;clear GZ hend hg3 q0 q1 q2 q3 q4 yD uE;go_upto_region 5 with fail;have Ap:Hid (Hb (w3.setCell ⟨hb,2,none⟩ (.int .u64 ((np:Int)+1))) hb ff (.slice pl L.length cl) L (np+1)):=(FI.o.Dt (np+1)).1;have Qv:Hid (Kp (fun k=>k=hb) w3 (w3.setCell ⟨hb,2,none⟩ (.int .u64 ((np:Int)+1)))):=(FI.o.Dt (np+1)).2;generalize w3.setCell ⟨hb,2,none⟩ (.int .u64 ((np:Int)+1))=w4 at Ap Qv⊢;have Ie:B1≠hb:=fun e=>by have:=HH0.o.lt;have:=jG.o.1;omega
 have Fj:Hid (w4.heap[B1]? =some (.cells #[.int .i64 (x,np).1.1, .int .u64 (x,np).1.2.1.1, .int .u64 (x,np).1.2.1.2.1, .int .u64 (x,np).1.2.1.2.2, .int .u64 ((x,np).2:Nat)] 290 (0,0))):=(Qv.o.block B1 (aG.1 IU.o).1 Ie).trans IU.o;have BV:B1<w4.heap.size:=(aG.1 Fj.o).1;obtain⟨q0,q1,q2,q3,q4⟩:w4.cell? ⟨B1,0,none⟩=some (.int .i64 (x,np).1.1)/\w4.cell? ⟨B1,1,none⟩=some (.int .u64 (x,np).1.2.1.1)/\w4.cell? ⟨B1,2,none⟩=some (.int .u64 (x,np).1.2.1.2.1)/\w4.cell? ⟨B1,3,none⟩=some (.int .u64 (x,np).1.2.1.2.2)/\w4.cell? ⟨B1,4,none⟩=some (.int .u64 ((x,np).2:Nat)):=by simp[World.cell?,Fj.o]
 obtain⟨iK,hiK,hk0,hk1,hk2⟩:=info_parts mg;have r0:=Ap.o.c1;have Z4:=Ap.o.fz 1;have hlr:=Ap.o.lt;have hne1:some hb≠(Value.slice pl L.length cl).ownBlock:=fun e=>Ap.o.off e.symm;have hnm:w4.ownsRow 0 290 5 (.slice pl L.length cl) L.length (fl EI L):=Ap.o.own;clear k2 kl WA hBl;go_cut [32]from 25 to 34 (fun _ w'=>∃g cap,Hid (Pu w hb ff np B1 g cap (.slice pl L.length cl) L (x,np) r at_ (L++[(x,np)]) L.length w'/\((Value.slice pl L.length cl).ownBlock=some g\/w.heap.size<=g)));case first=>
  go_region_law (refine step_append_lies _ rfl _ _ 285 rfl 0 290 iK (.agg #[.int .i64 0, .int .u64 0, .int .u64 0, .int .u64 0, .int .u64 0]) 5 40 Tryz.underlying285 hiK hk0 hk1 hk2 rfl (by decide) (Value.slice pl L.length cl) L.length (fl EI L) rfl (World.ownsRow.alloc (w:=w4.drew) hnm _) ⟨w4.heap.size,0,none⟩ 1 1 [.int .i64 (x,np).1.1, .int .u64 (x,np).1.2.1.1, .int .u64 (x,np).1.2.1.2.1, .int .u64 (x,np).1.2.1.2.2, .int .u64 ((x,np).2:Nat)] rfl rfl (World.news_of_block (ah _ _)) (by simp[Value.oneCell']) (by decide) (by unfold maxLen;omega) (by omega) (zL _) _ rfl ?_
                 intro g cap dP Ha hgrow Ph aaq;have IW:=hgrow.block hb (by simp;omega) hne1;have k10:dP.cell? ⟨hb,1,none⟩=some (Value.slice pl L.length cl):=(yY (a:=⟨hb,1,none⟩) IW).trans ((((Gr.refl w4).drew.alloc _).cell hlr).trans r0);have abt:dP.frozen? ⟨hb,1,none⟩=false:=(iU IW).trans ((((Gr.refl w4).drew.alloc _).frozen hlr).trans Z4))
  all_goals (
   go_wp2_with fail;go_meet;have Qz:dP.heap[hb]? =some (.cells #[fv ff, .slice pl L.length cl, .int .u64 ((np+1:Nat):Int)] 287 (0,0)):=IW.trans ((((Gr.refl w4).drew.alloc _).below.block hb hlr).trans Ap.o.blk);obtain⟨hs1,hs2⟩:=(lT Qz).1 (.slice (some ⟨g,0,none⟩) (L.length+1) cap);have hz4:w.heap.size<=w4.heap.size:=nT Mm.o.size Qv.o.size;have sQ:Kp (fun q=>(Value.slice pl L.length cl).ownBlock=some q) w4 dP:=(Kp.aX ((Gr.refl w4).drew.alloc _)).trans (Kp.grownBy (S:=fun q=>(Value.slice pl L.length cl).ownBlock=some q) hgrow (fun _ h=>h)) (fun _ _ h=>h);have hg4:(Value.slice pl L.length cl).ownBlock=some g\/w4.heap.size<=g:=Ph.imp id (fun h=>by rw[h];simp);have hg:(Value.slice pl L.length cl).ownBlock=some g\/w.heap.size<=g:=hg4.imp id (fun h=>by omega);have hlw:=HH0.o.lt;have hrw:=HH0.o.row;have hgb:g≠hb:=fun e=>by
    rcases hg with h|h
    ·exact HH0.o.off (by rw[h,e])
    ·omega
   have hBg:B1≠g:=fun e=>by
    have hB:=jG.o.1;have hB4:B1<w4.heap.size:=BV;rcases hg4 with h|h
    ·have:=hrw g h;omega
    ·omega
   refine⟨g,cap,⟨dX.init HWY.o,⟨hs1, ?_, ?_⟩, ?_,⟨?_,fun q hq=> ?_⟩,hBg,Ie⟩,hg⟩
   ·rw[dO,aQ];refine av hs2 (by rw[dK];exact Ha) (fun k hk e=> ?_);have:k=g:=(by simpa[Value.ownBlock]using hk.symm);exact hgb (by rw[<-this,e])
   ·simpa[Value.ownBlock]using hgb
   ·refine(hs2.block B1 (nL BV sQ.size) Ie).trans ((sQ.block B1 BV (fun h=> ?_)).trans Fj.o);have:=hrw B1 h;have:=jG.o.1;omega
   ·refine(((Kp.aX Mm.o).trans (Qv.o.mono (fun _ h=>Or.inl h)) (fun _ _ h=>h)).trans (sQ.mono (fun _ h=>Or.inr h)) (fun _ _ h=>h)).trans (hs2.mono (fun _ h=>Or.inl h)) (fun _ _ h=>h)
   ·have:q=g:=(by simpa[Value.ownBlock]using hq.symm);rw[this];exact hg)
 case rest=>
  obtain⟨g,cap,Qr⟩:=hcut;have r1:=Qr.o.1.hp.c1;have Xa:=Qr.o.1.hp.lt;have HGO:Hid ((Value.slice pl L.length cl).ownBlock=some g\/w.heap.size<=g):=Qr.o.2;have HP0:Hid (Pu w hb ff np B1 g cap (.slice pl L.length cl) L (x,np) r at_ (L++[(x,np)]) L.length wc):=Qr.o.1;clear Qr Fj BV q0 q1 q2 q3 q4 r0 Z4 hlr hne1 hnm Ap Qv FI Mm IU hiK hk0 hk1 hk2;go_wp2_with fail;clear r1 Xa;go_loopw [6] (fun s6 wr=>∃(i:Nat) (M:List It),i<=L.length/\s6= .int .i64 i/\Hid (Pu w hb ff np B1 g cap (.slice pl L.length cl) L (x,np) r at_ M i wr)) (fun s6 _=>(intOf s6).toNat);case atStart=>exact⟨L.length,_,nR _,by first|rfl|simp,HP0.o⟩
  case round=>
   clear HP0;obtain⟨i,M,hil,rfl,HP⟩:=hrel;have CF:Hid (wr.ownsRow 0 290 5 (.slice (some ⟨g,0,none⟩) (L.length+1) cap) (L.length+1) (fl EI M)):=HP.o.row;have hfz:=oL CF.o;have r1:=HP.o.hp.c1;have hlr:=HP.o.hp.lt;have hgl:g<wr.heap.size:=(CF.o.lt g rfl).2;have Xf:(i:Int)<(L.length:Int)+1:=(by omega);have hi0:(0:Int)<=(i:Int):=(by omega);obtain⟨z,hz⟩:∃z,M[i]? =some z:=⟨M[i]'(by rw[HP.o.inv.len];omega),by rw[pW]⟩;obtain⟨b1,o1,c1,e1,z1,y0,y1,y2,y3,y4⟩:=gP HP.o.hp.qC hz;simp only[vS,oI,aI,and_true]at e1;obtain⟨⟨rfl,rfl⟩,-,rfl⟩:=e1;rw[nZ]at y0 y1 y2 y3 y4;have f0:=hfz (i*5+0);have f1:=hfz (i*5+1);have f2:=hfz (i*5+2);have f3:=hfz (i*5+3);have f4:=hfz (i*5+4);rw[nO]at f0;clear hz z1 hfz;by_cases hlt:at_<i
   ·have hltz:(at_:Int)<(i:Int):=(by omega);obtain⟨y,hy,hpi⟩:=HP.o.inv.step hlt;have Ed:0<i:=(by omega);have Ea:=eZ Ed;have HPI:Hid (dX (aU r) L (x,np) at_ (M.set i y) (par i)):=hpi;have hpz:(par i:Int)<(L.length:Int)+1:=(by omega);have hp0:(0:Int)<=(par i:Int):=(by omega);obtain⟨b1,o1,c1,e1,z1,x0,x1,x2,x3,x4⟩:=gP HP.o.hp.qC hy;clear z1;simp only[vS,oI,aI,and_true]at e1;obtain⟨⟨rfl,rfl⟩,-,rfl⟩:=e1;rw[nZ]at x0 x1 x2 x3 x4;have pF:∀W,Calls Tryz.prog 147 #[.int .i64 i] W fun e w'=>e= .returned (.int .i64 (par i:Nat))/\w'=W:=fun W=>gy i Ed (by omega) W;have Fe:Hid (par i<i):=Ea;clear hy hpi Ea;go_wp2_with fail;go_region_with (go_at_call 147;refine(pF _).mono ?_;rintro e w4 ⟨rfl,rfl⟩);all_goals (
     obtain⟨ho,hk⟩:=fH (i:=i) y CF.o;have Qs:=hid (HP.o.set HPI.o (ag ho (Gr.refl _).drew.below) (hk.trans (Kp.aX (Gr.refl _).drew) (fun _ _ h=>h)) HGO.o);clear ho hk r1 x0 x1 x2 x3 x4 y0 y1 y2 y3 y4 f0 f1 f2 f3 f4;go_wp2_with (go_at_call 147;refine(pF _).mono ?_;rintro e w4 ⟨rfl,rfl⟩);go_roundw;case rel=>exact⟨par i,_,by have:=Fe.o;omega,rfl,Qs.o⟩
     case measure=>simp[intOf];exact Fe.o)
   ·have hltz:¬(at_:Int)<(i:Int):=(by omega);have hie:i=at_:=(by have:=HP.o.inv.way.le;omega);subst hie;obtain⟨q0,q1,q2,q3,q4⟩:wr.cell? ⟨B1,0,none⟩=some (.int .i64 (x,np).1.1)/\wr.cell? ⟨B1,1,none⟩=some (.int .u64 (x,np).1.2.1.1)/\wr.cell? ⟨B1,2,none⟩=some (.int .u64 (x,np).1.2.1.2.1)/\wr.cell? ⟨B1,3,none⟩=some (.int .u64 (x,np).1.2.1.2.2)/\wr.cell? ⟨B1,4,none⟩=some (.int .u64 ((x,np).2:Nat)):=(by simp[World.cell?,HP.o.box]);have hBl:B1<wr.heap.size:=(aG.1 HP.o.box).1;go_wp2_with fail;go_region;all_goals (
     go_end0;obtain⟨ho,hk⟩:=fH (i:=i) (x,np) CF.o;obtain⟨d1,d2⟩:=HP.o.inv.done uF.o;have hgb:hb≠g:=fun e=>HP.o.hp.off (by rw[e];rfl);have hk2:=hk.trans (Kp.aX (S:=fun q=>q=g) (Gr.refl _).drew) (fun _ _ h=>h);refine⟨_,_,rfl,⟨(hk2.block hb HP.o.hp.lt hgb).trans HP.o.hp.blk, ?_,HP.o.hp.off⟩,d1,d2,HP.o.turn.1.trans hk2 (fun q _ hq=> ?_),HP.o.turn.2⟩
     ·rw[lZ,HP.o.inv.len];exact ag ho (Gr.refl _).drew.below
     ·subst hq;rcases HGO.o with hg|hg
      ·exact Or.inr hg
      ·omega)
theorem dF(ff:Nat)(w:World):Calls Tryz.prog 123 #[fv ff] w fun e w'=>∃hb,e= .returned (.pointer (some ⟨hb,0,none⟩))/\w.heap.size<=hb/\Hb w' hb ff (.slice none 0 0) [] 0/\Gr w w':=by
 go_enter Tryz.func123,Tryz.ntmps123;go_wp2;go_ret;exact⟨_,rfl,nR _,⟨ah _ _,oN _ _ _ _,by simp[Value.ownBlock]⟩,(Gr.refl _).alloc _⟩
theorem gQ{L:List It}(w:World)(hH:Hb w hb ff v L np):Calls Tryz.prog 247 #[.pointer (some ⟨hb,0,none⟩)] w fun e w'=>e= .returned (.int .i64 (L.length:Nat))/\w'=w:=by
 have k1:=hH.c1;obtain⟨pl,cl,rfl⟩:=hH.qC.form;have kl:=hH.lt;clear hH;go_enter Tryz.func247,Tryz.ntmps247;go_wp2;go_ret;exact⟨rfl,rfl⟩
abbrev ans(x:Th)(b:Bool):Value:= .tuple #[tv x, .bool b]
abbrev zt:Th:=(0,⟨(0,0,0),by decide⟩)
theorem qV{L:List It}{t:It}(w:World)(hH:Hb w hb ff v L np)(ht:L[0]? =some t):Calls Tryz.prog 187 #[.pointer (some ⟨hb,0,none⟩)] w fun e w'=>e= .returned (ans t.1 true)/\Gr w w':=by
 have hlen:∀W:World,Gr w W->Calls Tryz.prog 247 #[.pointer (some ⟨hb,0,none⟩)] W fun e w'=>e= .returned (.int .i64 (L.length:Nat))/\w'=W:=fun W h=>gQ W (hH.gr h);have hpos:0<L.length:=(lG.1 ht).1;have hpz:¬(L.length:Int)=0:=by omega
 have abx:(0:Int)<(L.length:Int):=by omega
 obtain⟨b1,o1,c1,e1,z1,x0,x1,x2,x3,x4⟩:=gP hH.qC ht;subst e1;have k1:=hH.c1;have kl:=hH.lt;clear hH ht;simp only[Nat.zero_mul,nO]at x0 x1 x2 x3 x4;go_enter Tryz.func187,Tryz.ntmps187;go_wp2_with fail;refine(hlen _ (by first|exact(Gr.refl _).alloc _|exact Gr.refl _)).mono ?_;rintro e w1 ⟨rfl,rfl⟩;go_wp2;refine bR (v:=ans t.1 true) (by simp[results,Tryz.results187,go_sem]) rfl ?_;exact⟨rfl,by first|exact(Gr.refl _).alloc _|exact Gr.refl _⟩
theorem kG(w:World)(hH:Hb w hb ff v [] np):Calls Tryz.prog 187 #[.pointer (some ⟨hb,0,none⟩)] w fun e w'=>e= .returned (ans zt false)/\Gr w w':=by
 have hlen:∀W:World,Gr w W->Calls Tryz.prog 247 #[.pointer (some ⟨hb,0,none⟩)] W fun e w'=>e= .returned (.int .i64 0)/\w'=W:=fun W h=>gQ W (hH.gr h);clear hH;go_enter Tryz.func187,Tryz.ntmps187;go_wp2_with fail;refine(hlen _ (by first|exact(Gr.refl _).alloc _|exact Gr.refl _)).mono ?_;rintro e w1 ⟨rfl,rfl⟩;go_wp2;refine bR (v:=ans zt false) (by simp[results,Tryz.results187,go_sem]) rfl ?_;exact⟨rfl,by first|exact((Gr.refl _).alloc _).alloc _|exact(Gr.refl _).alloc _|exact Gr.refl _⟩
end Hf
namespace Hc
open Go.RowKit Go.Sort Hp
attribute[local go_sem ↓]wp_at_zero wp_at_succ
theorem hid{p:Prop}(h:p):Hid p:=h
theorem mg:(Tryz.prog.info? 251).map (fun i=>(i.zero,i.size,i.bytes))=some (some (.agg #[.int .i64 0, .int .u64 0, .int .u64 0, .int .u64 0, .int .i64 0, .int .u64 0]),6,48):=by kernel_rfl
theorem iU(h:w'.heap[b]? =w.heap[b]?):w'.frozen? ⟨b,o,none⟩=w.frozen? ⟨b,o,none⟩:=by simp[World.frozen?,h]
theorem oL(h:w.ownsRow 0 e s (.slice (some ⟨g,0,none⟩) n' cap) n xs)(q:Nat):w.frozen? ⟨g,q,none⟩=false:=by
 obtain⟨_,⟨h0,_⟩|⟨g',cap',cur,hv,_,hgg,_⟩⟩:=h
 ·cases h0
 ·cases hv;simp[World.frozen?,hgg]
structure Pu(w:World)(hb:Nat)(ff:Value)(np B1 g cap:Nat)(v:Value)(L:List It)(x:It)(r:Th->Th->Bool)(at_:Nat)(M:List It)(i:Nat)(wr:World):Prop where
 inv:dX (aU r) L x at_ M i
 hp:Hb wr hb ff (.slice (some ⟨g,0,none⟩) (L.length+1) cap) M (np+1)
 box:wr.heap[B1]? =some (.cells #[.int .i64 x.1.1, .int .u64 x.1.2.1.1.1, .int .u64 x.1.2.1.1.2.1, .int .u64 x.1.2.1.1.2.2, .int .i64 x.1.2.2, .int .u64 (x.2:Nat)] 251 (0,0))
 turn:dW hb v (.slice (some ⟨g,0,none⟩) (L.length+1) cap) w wr
 bne:B1≠g/\B1≠hb
theorem Pu.row{ff:Value}{L M:List It}{x:It}{r:Th->Th->Bool}(h:Pu w hb ff np B1 g cap v L x r at_ M i wr):wr.ownsRow 0 251 6 (.slice (some ⟨g,0,none⟩) (L.length+1) cap) (L.length+1) (fl EI M):=by
 have:=h.hp.own;rw[h.inv.len]at this;exact this
theorem Pu.set{ff:Value}{L M:List It}{x:It}{r:Th->Th->Bool}(h:Pu w hb ff np B1 g cap v L x r at_ M i wr){y:It}(hi:dX (aU r) L x at_ (M.set k y) j)
    (ho:w'.ownsRow 0 251 6 (.slice (some ⟨g,0,none⟩) (L.length+1) cap) (L.length+1) (fl EI (M.set k y))) (hk:Kp (fun q=>q=g) wr w') (hg:v.ownBlock=some g\/w.heap.size<=g):Pu w hb ff np B1 g cap v L x r at_ (M.set k y) j w':=by
 have hgb:hb≠g:=fun e=>h.hp.off (by rw[e];rfl);refine⟨hi,⟨(hk.block hb h.hp.lt hgb).trans h.hp.blk,by rw[hi.len];exact ho,h.hp.off⟩,(hk.block B1 (aG.1 h.box).1 h.bne.1).trans h.box,⟨h.turn.1.trans hk (fun q _ hq=> ?_),h.turn.2⟩,h.bne⟩;subst hq;rcases hg with hg|hg
 ·exact Or.inr hg
 ·omega
theorem wQ{ff:Value}{L:List It}{r:Th->Th->Bool}(x:Th)(w:World)(hH:Hb w hb ff v L np)(hl:(L.length+1)*48<=140737488355328)(Te:np+1<18446744073709551616){K:World->Prop}{V:Th->Prop}(hF:dY K V ff r)(hk:K w)(hV:∀y∈L,V y.1)(hx:V x):
    Calls Tryz.prog 82 #[.pointer (some ⟨hb,0,none⟩),tv x] w fun e w'=>∃v' L',e= .returned (.tuple #[])/\Hb w' hb ff v' L' (np+1)/\L'.Perm (L++[(x,np)])/\(Am (aU r)->bX (aU r) L->bX (aU r) L')/\dW hb v v' w w':=by
 have hmx:Tryz.prog.follows .mixedOrders=true:=by kernel_rfl
 have k0:=hH.c0;have k1:=hH.c1;have k2:=hH.c2;have kl:=hH.lt;have WA:=hH.fz 2;obtain⟨pl,cl,rfl⟩:=hH.qC.form;obtain⟨B1,hB1⟩:=aC (w.heap.size+1);obtain⟨W2,hW2⟩:=aC (((w.alloc (.cells #[.int .i64 x.1, .int .u64 x.2.1.1.1, .int .u64 x.2.1.1.2.1, .int .u64 x.2.1.1.2.2, .int .i64 x.2.2] 49)).alloc (.cells #[.int .i64 (x,np).1.1, .int .u64 (x,np).1.2.1.1.1, .int .u64 (x,np).1.2.1.1.2.1, .int .u64 (x,np).1.2.1.1.2.2, .int .i64 (x,np).1.2.2, .int .u64 ((x,np).2:Nat)] 251)).drew);have G2:Gr w W2:=by rw[hW2];exact(((Gr.refl _).alloc _).alloc _).drew
 have Ei:W2.heap[B1]? =some (.cells #[.int .i64 (x,np).1.1, .int .u64 (x,np).1.2.1.1.1, .int .u64 (x,np).1.2.1.1.2.1, .int .u64 (x,np).1.2.1.1.2.2, .int .i64 (x,np).1.2.2, .int .u64 ((x,np).2:Nat)] 251 (0,0)):=by
  have h:=ah (w.alloc (.cells #[.int .i64 x.1, .int .u64 x.2.1.1.1, .int .u64 x.2.1.1.2.1, .int .u64 x.2.1.1.2.2, .int .i64 x.2.2] 49)) (.cells #[.int .i64 (x,np).1.1, .int .u64 (x,np).1.2.1.1.1, .int .u64 (x,np).1.2.1.1.2.1, .int .u64 (x,np).1.2.1.1.2.2, .int .i64 (x,np).1.2.2, .int .u64 ((x,np).2:Nat)] 251);rw[show(w.alloc (.cells #[.int .i64 x.1, .int .u64 x.2.1.1.1, .int .u64 x.2.1.1.2.1, .int .u64 x.2.1.1.2.2, .int .i64 x.2.2] 49)).heap.size=w.heap.size+1 by simp]at h;rw[hW2,hB1];exact h
 have uE:Hid (Hb W2 hb ff (.slice pl L.length cl) L np):=hH.gr G2;have hup:=vQ (r:=r) (x,np) W2 uE.o (by omega) hF (hF.gr _ _ hk G2) hV hx;have HG2:Hid (Gr w W2):=G2;have jG:Hid (w.heap.size<=B1/\B1<W2.heap.size):=⟨by omega,(aG.1 Ei).1⟩;have hBl:B1<W2.heap.size:=(aG.1 Ei).1;obtain⟨q0,q1,q2,q3,q4,q5⟩:W2.cell? ⟨B1,0,none⟩=some (.int .i64 (x,np).1.1)/\W2.cell? ⟨B1,1,none⟩=some (.int .u64 (x,np).1.2.1.1.1)/\W2.cell? ⟨B1,2,none⟩=some (.int .u64 (x,np).1.2.1.1.2.1)/\W2.cell? ⟨B1,3,none⟩=some (.int .u64 (x,np).1.2.1.1.2.2)/\W2.cell? ⟨B1,4,none⟩=some (.int .i64 (x,np).1.2.2)/\W2.cell? ⟨B1,5,none⟩=some (.int .u64 ((x,np).2:Nat)):=by simp[World.cell?,Ei]
 have yD:Hid (W2.heap[B1]? =some (.cells #[.int .i64 (x,np).1.1, .int .u64 (x,np).1.2.1.1.1, .int .u64 (x,np).1.2.1.1.2.1, .int .u64 (x,np).1.2.1.1.2.2, .int .i64 (x,np).1.2.2, .int .u64 ((x,np).2:Nat)] 251 (0,0))):=Ei;have HH0:Hid (Hb w hb ff (.slice pl L.length cl) L np):=hH;clear hH G2 Ei;go_enter Tryz.func82,Tryz.ntmps82;go_wp2_with fail;go_region;rw[<-hW2,<-hB1];clear hW2 hB1 k0 k1 k2 kl WA;go_wp2_with fail;refine hup.mono ?_;rintro e w3 ⟨at_,rfl,GZ,hend,hg3⟩;clear hup;have FI:Hid (Hb w3 hb ff (.slice pl L.length cl) L np):=uE.o.gr hg3;have k2:=FI.o.c2;have kl:=FI.o.lt;have WA:=FI.o.fz 2;have HWY:Hid (Wy (QU (aU r) L (x,np)) L.length at_):=GZ;have uF:Hid (at_=0\/∃y,L[par at_]? =some y/\aU r (x,np) y=false):=hend;have QA:Hid (at_<=L.length):=GZ.le;have Mm:Hid (Gr w w3):=HG2.o.trans hg3;have IU:Hid (w3.heap[B1]? =some (.cells #[.int .i64 (x,np).1.1, .int .u64 (x,np).1.2.1.1.1, .int .u64 (x,np).1.2.1.1.2.1, .int .u64 (x,np).1.2.1.1.2.2, .int .i64 (x,np).1.2.2, .int .u64 ((x,np).2:Nat)] 251 (0,0))):=(hg3.below.block B1 hBl).trans yD.o;clear GZ hend hg3 q0 q1 q2 q3 q4 q5 yD uE;go_upto_region 5 with fail;have Ap:Hid (Hb (w3.setCell ⟨hb,2,none⟩ (.int .u64 ((np:Int)+1))) hb ff (.slice pl L.length cl) L (np+1)):=(FI.o.Dt (np+1)).1;have Qv:Hid (Kp (fun k=>k=hb) w3 (w3.setCell ⟨hb,2,none⟩ (.int .u64 ((np:Int)+1)))):=(FI.o.Dt (np+1)).2;generalize w3.setCell ⟨hb,2,none⟩ (.int .u64 ((np:Int)+1))=w4 at Ap Qv⊢;have Ie:B1≠hb:=fun e=>by have:=HH0.o.lt;have:=jG.o.1;omega
 have Fj:Hid (w4.heap[B1]? =some (.cells #[.int .i64 (x,np).1.1, .int .u64 (x,np).1.2.1.1.1, .int .u64 (x,np).1.2.1.1.2.1, .int .u64 (x,np).1.2.1.1.2.2, .int .i64 (x,np).1.2.2, .int .u64 ((x,np).2:Nat)] 251 (0,0))):=(Qv.o.block B1 (aG.1 IU.o).1 Ie).trans IU.o;have BV:B1<w4.heap.size:=(aG.1 Fj.o).1;obtain⟨q0,q1,q2,q3,q4,q5⟩:w4.cell? ⟨B1,0,none⟩=some (.int .i64 (x,np).1.1)/\w4.cell? ⟨B1,1,none⟩=some (.int .u64 (x,np).1.2.1.1.1)/\w4.cell? ⟨B1,2,none⟩=some (.int .u64 (x,np).1.2.1.1.2.1)/\w4.cell? ⟨B1,3,none⟩=some (.int .u64 (x,np).1.2.1.1.2.2)/\w4.cell? ⟨B1,4,none⟩=some (.int .i64 (x,np).1.2.2)/\w4.cell? ⟨B1,5,none⟩=some (.int .u64 ((x,np).2:Nat)):=by simp[World.cell?,Fj.o]
 obtain⟨iK,hiK,hk0,hk1,hk2⟩:=info_parts mg;have r0:=Ap.o.c1;have Z4:=Ap.o.fz 1;have hlr:=Ap.o.lt;have hne1:some hb≠(Value.slice pl L.length cl).ownBlock:=fun e=>Ap.o.off e.symm;have hnm:w4.ownsRow 0 251 6 (.slice pl L.length cl) L.length (fl EI L):=Ap.o.own;clear k2 kl WA hBl;go_cut [32]from 25 to 34 (fun _ w'=>∃g cap,Hid (Pu w hb ff np B1 g cap (.slice pl L.length cl) L (x,np) r at_ (L++[(x,np)]) L.length w'/\((Value.slice pl L.length cl).ownBlock=some g\/w.heap.size<=g)));case first=>
  go_region_law (refine step_append_lies _ rfl _ _ 247 rfl 0 251 iK (.agg #[.int .i64 0, .int .u64 0, .int .u64 0, .int .u64 0, .int .i64 0, .int .u64 0]) 6 48 Tryz.underlying247 hiK hk0 hk1 hk2 rfl (by decide) (Value.slice pl L.length cl) L.length (fl EI L) rfl (World.ownsRow.alloc (w:=w4.drew) hnm _) ⟨w4.heap.size,0,none⟩ 1 1 [.int .i64 (x,np).1.1, .int .u64 (x,np).1.2.1.1.1, .int .u64 (x,np).1.2.1.1.2.1, .int .u64 (x,np).1.2.1.1.2.2, .int .i64 (x,np).1.2.2, .int .u64 ((x,np).2:Nat)] rfl rfl (World.news_of_block (ah _ _)) (by simp[Value.oneCell']) (by decide) (by unfold maxLen;omega) (by omega) (zL _) _ rfl ?_
                 intro g cap dP Ha hgrow Ph aaq;have IW:=hgrow.block hb (by simp;omega) hne1;have k10:dP.cell? ⟨hb,1,none⟩=some (Value.slice pl L.length cl):=(yY (a:=⟨hb,1,none⟩) IW).trans ((((Gr.refl w4).drew.alloc _).cell hlr).trans r0);have abt:dP.frozen? ⟨hb,1,none⟩=false:=(iU IW).trans ((((Gr.refl w4).drew.alloc _).frozen hlr).trans Z4))
  all_goals (
   go_wp2_with fail;go_meet;have Qz:dP.heap[hb]? =some (.cells #[fv ff, .slice pl L.length cl, .int .u64 ((np+1:Nat):Int)] 249 (0,0)):=IW.trans ((((Gr.refl w4).drew.alloc _).below.block hb hlr).trans Ap.o.blk);obtain⟨hs1,hs2⟩:=(lT Qz).1 (.slice (some ⟨g,0,none⟩) (L.length+1) cap);have hz4:w.heap.size<=w4.heap.size:=nT Mm.o.size Qv.o.size;have sQ:Kp (fun q=>(Value.slice pl L.length cl).ownBlock=some q) w4 dP:=(Kp.aX ((Gr.refl w4).drew.alloc _)).trans (Kp.grownBy (S:=fun q=>(Value.slice pl L.length cl).ownBlock=some q) hgrow (fun _ h=>h)) (fun _ _ h=>h);have hg4:(Value.slice pl L.length cl).ownBlock=some g\/w4.heap.size<=g:=Ph.imp id (fun h=>by rw[h];simp);have hg:(Value.slice pl L.length cl).ownBlock=some g\/w.heap.size<=g:=hg4.imp id (fun h=>by omega);have hlw:=HH0.o.lt;have hrw:=HH0.o.row;have hgb:g≠hb:=fun e=>by
    rcases hg with h|h
    ·exact HH0.o.off (by rw[h,e])
    ·omega
   have hBg:B1≠g:=fun e=>by
    have hB:=jG.o.1;have hB4:B1<w4.heap.size:=BV;rcases hg4 with h|h
    ·have:=hrw g h;omega
    ·omega
   refine⟨g,cap,⟨dX.init HWY.o,⟨hs1, ?_, ?_⟩, ?_,⟨?_,fun q hq=> ?_⟩,hBg,Ie⟩,hg⟩
   ·rw[dO,aQ];refine av hs2 (by rw[dK];exact Ha) (fun k hk e=> ?_);have:k=g:=(by simpa[Value.ownBlock]using hk.symm);exact hgb (by rw[<-this,e])
   ·simpa[Value.ownBlock]using hgb
   ·refine(hs2.block B1 (nL BV sQ.size) Ie).trans ((sQ.block B1 BV (fun h=> ?_)).trans Fj.o);have:=hrw B1 h;have:=jG.o.1;omega
   ·refine(((Kp.aX Mm.o).trans (Qv.o.mono (fun _ h=>Or.inl h)) (fun _ _ h=>h)).trans (sQ.mono (fun _ h=>Or.inr h)) (fun _ _ h=>h)).trans (hs2.mono (fun _ h=>Or.inl h)) (fun _ _ h=>h)
   ·have:q=g:=(by simpa[Value.ownBlock]using hq.symm);rw[this];exact hg)
 case rest=>
  obtain⟨g,cap,Qr⟩:=hcut;have r1:=Qr.o.1.hp.c1;have Xa:=Qr.o.1.hp.lt;have HGO:Hid ((Value.slice pl L.length cl).ownBlock=some g\/w.heap.size<=g):=Qr.o.2;have HP0:Hid (Pu w hb ff np B1 g cap (.slice pl L.length cl) L (x,np) r at_ (L++[(x,np)]) L.length wc):=Qr.o.1;clear Qr Fj BV q0 q1 q2 q3 q4 q5 r0 Z4 hlr hne1 hnm Ap Qv FI Mm IU hiK hk0 hk1 hk2;go_wp2_with fail;clear r1 Xa;go_loopw [6] (fun s6 wr=>∃(i:Nat) (M:List It),i<=L.length/\s6= .int .i64 i/\Hid (Pu w hb ff np B1 g cap (.slice pl L.length cl) L (x,np) r at_ M i wr)) (fun s6 _=>(intOf s6).toNat);case atStart=>exact⟨L.length,_,nR _,by first|rfl|simp,HP0.o⟩
  case round=>
   clear HP0;obtain⟨i,M,hil,rfl,HP⟩:=hrel;have CF:Hid (wr.ownsRow 0 251 6 (.slice (some ⟨g,0,none⟩) (L.length+1) cap) (L.length+1) (fl EI M)):=HP.o.row;have hfz:=oL CF.o;have r1:=HP.o.hp.c1;have hlr:=HP.o.hp.lt;have hgl:g<wr.heap.size:=(CF.o.lt g rfl).2;have Xf:(i:Int)<(L.length:Int)+1:=(by omega);have hi0:(0:Int)<=(i:Int):=(by omega);obtain⟨z,hz⟩:∃z,M[i]? =some z:=⟨M[i]'(by rw[HP.o.inv.len];omega),by rw[pW]⟩;obtain⟨b1,o1,c1,e1,z1,y0,y1,y2,y3,y4,y5⟩:=gP HP.o.hp.qC hz;simp only[vS,oI,aI,and_true]at e1;obtain⟨⟨rfl,rfl⟩,-,rfl⟩:=e1;rw[nZ]at y0 y1 y2 y3 y4 y5;have f0:=hfz (i*6+0);have f1:=hfz (i*6+1);have f2:=hfz (i*6+2);have f3:=hfz (i*6+3);have f4:=hfz (i*6+4);have f5:=hfz (i*6+5);rw[nO]at f0;clear hz z1 hfz;by_cases hlt:at_<i
   ·have hltz:(at_:Int)<(i:Int):=(by omega);obtain⟨y,hy,hpi⟩:=HP.o.inv.step hlt;have Ed:0<i:=(by omega);have Ea:=eZ Ed;have HPI:Hid (dX (aU r) L (x,np) at_ (M.set i y) (par i)):=hpi;have hpz:(par i:Int)<(L.length:Int)+1:=(by omega);have hp0:(0:Int)<=(par i:Int):=(by omega);obtain⟨b1,o1,c1,e1,z1,x0,x1,x2,x3,x4,x5⟩:=gP HP.o.hp.qC hy;clear z1;simp only[vS,oI,aI,and_true]at e1;obtain⟨⟨rfl,rfl⟩,-,rfl⟩:=e1;rw[nZ]at x0 x1 x2 x3 x4 x5;have pF:∀W,Calls Tryz.prog 147 #[.int .i64 i] W fun e w'=>e= .returned (.int .i64 (par i:Nat))/\w'=W:=fun W=>gy i Ed (by omega) W;have Fe:Hid (par i<i):=Ea;clear hy hpi Ea;go_wp2_with fail;go_region_with (go_at_call 147;refine(pF _).mono ?_;rintro e w4 ⟨rfl,rfl⟩);all_goals (
     obtain⟨ho,hk⟩:=fH (i:=i) y CF.o;have Qs:=hid (HP.o.set HPI.o (ag ho (Gr.refl _).drew.below) (hk.trans (Kp.aX (Gr.refl _).drew) (fun _ _ h=>h)) HGO.o);clear ho hk r1 x0 x1 x2 x3 x4 x5 y0 y1 y2 y3 y4 y5 f0 f1 f2 f3 f4 f5;go_wp2_with (go_at_call 147;refine(pF _).mono ?_;rintro e w4 ⟨rfl,rfl⟩);go_roundw;case rel=>exact⟨par i,_,by have:=Fe.o;omega,rfl,Qs.o⟩
     case measure=>simp[intOf];exact Fe.o)
   ·have hltz:¬(at_:Int)<(i:Int):=(by omega);have hie:i=at_:=(by have:=HP.o.inv.way.le;omega);subst hie;obtain⟨q0,q1,q2,q3,q4,q5⟩:wr.cell? ⟨B1,0,none⟩=some (.int .i64 (x,np).1.1)/\wr.cell? ⟨B1,1,none⟩=some (.int .u64 (x,np).1.2.1.1.1)/\wr.cell? ⟨B1,2,none⟩=some (.int .u64 (x,np).1.2.1.1.2.1)/\wr.cell? ⟨B1,3,none⟩=some (.int .u64 (x,np).1.2.1.1.2.2)/\wr.cell? ⟨B1,4,none⟩=some (.int .i64 (x,np).1.2.2)/\wr.cell? ⟨B1,5,none⟩=some (.int .u64 ((x,np).2:Nat)):=(by simp[World.cell?,HP.o.box]);have hBl:B1<wr.heap.size:=(aG.1 HP.o.box).1;go_wp2_with fail;go_region;all_goals (
     go_end0;obtain⟨ho,hk⟩:=fH (i:=i) (x,np) CF.o;obtain⟨d1,d2⟩:=HP.o.inv.done uF.o;have hgb:hb≠g:=fun e=>HP.o.hp.off (by rw[e];rfl);have hk2:=hk.trans (Kp.aX (S:=fun q=>q=g) (Gr.refl _).drew) (fun _ _ h=>h);refine⟨_,_,rfl,⟨(hk2.block hb HP.o.hp.lt hgb).trans HP.o.hp.blk, ?_,HP.o.hp.off⟩,d1,d2,HP.o.turn.1.trans hk2 (fun q _ hq=> ?_),HP.o.turn.2⟩
     ·rw[lZ,HP.o.inv.len];exact ag ho (Gr.refl _).drew.below
     ·subst hq;rcases HGO.o with hg|hg
      ·exact Or.inr hg
      ·omega)
theorem dF(ff:Value)(w:World):Calls Tryz.prog 85 #[fv ff] w fun e w'=>∃hb,e= .returned (.pointer (some ⟨hb,0,none⟩))/\w.heap.size<=hb/\Hb w' hb ff (.slice none 0 0) [] 0/\Gr w w':=by
 go_enter Tryz.func85,Tryz.ntmps85;go_wp2;go_ret;exact⟨_,rfl,nR _,⟨ah _ _,oN _ _ _ _,by simp[Value.ownBlock]⟩,(Gr.refl _).alloc _⟩
theorem gQ{ff:Value}{L:List It}(w:World)(hH:Hb w hb ff v L np):Calls Tryz.prog 197 #[.pointer (some ⟨hb,0,none⟩)] w fun e w'=>e= .returned (.int .i64 (L.length:Nat))/\w'=w:=by
 have k1:=hH.c1;obtain⟨pl,cl,rfl⟩:=hH.qC.form;have kl:=hH.lt;clear hH;go_enter Tryz.func197,Tryz.ntmps197;go_wp2;go_ret;exact⟨rfl,rfl⟩
abbrev ans(x:Th)(b:Bool):Value:= .tuple #[tv x, .bool b]
abbrev zt:Th:=(0,⟨(0,0,0),by decide⟩,0)
theorem qV{ff:Value}{L:List It}{t:It}(w:World)(hH:Hb w hb ff v L np)(ht:L[0]? =some t):Calls Tryz.prog 138 #[.pointer (some ⟨hb,0,none⟩)] w fun e w'=>e= .returned (ans t.1 true)/\Gr w w':=by
 have hlen:∀W:World,Gr w W->Calls Tryz.prog 197 #[.pointer (some ⟨hb,0,none⟩)] W fun e w'=>e= .returned (.int .i64 (L.length:Nat))/\w'=W:=fun W h=>gQ W (hH.gr h);have hpos:0<L.length:=(lG.1 ht).1;have hpz:¬(L.length:Int)=0:=by omega
 have abx:(0:Int)<(L.length:Int):=by omega
 obtain⟨b1,o1,c1,e1,z1,x0,x1,x2,x3,x4,x5⟩:=gP hH.qC ht;subst e1;have k1:=hH.c1;have kl:=hH.lt;clear hH ht;simp only[Nat.zero_mul,nO]at x0 x1 x2 x3 x4 x5;go_enter Tryz.func138,Tryz.ntmps138;go_wp2_with fail;refine(hlen _ (by first|exact(Gr.refl _).alloc _|exact Gr.refl _)).mono ?_;rintro e w1 ⟨rfl,rfl⟩;go_wp2;refine bR (v:=ans t.1 true) (by simp[results,Tryz.results138,go_sem]) rfl ?_;exact⟨rfl,by first|exact(Gr.refl _).alloc _|exact Gr.refl _⟩
theorem kG{ff:Value}(w:World)(hH:Hb w hb ff v [] np):Calls Tryz.prog 138 #[.pointer (some ⟨hb,0,none⟩)] w fun e w'=>e= .returned (ans zt false)/\Gr w w':=by
 have hlen:∀W:World,Gr w W->Calls Tryz.prog 197 #[.pointer (some ⟨hb,0,none⟩)] W fun e w'=>e= .returned (.int .i64 0)/\w'=W:=fun W h=>gQ W (hH.gr h);clear hH;go_enter Tryz.func138,Tryz.ntmps138;go_wp2_with fail;refine(hlen _ (by first|exact(Gr.refl _).alloc _|exact Gr.refl _)).mono ?_;rintro e w1 ⟨rfl,rfl⟩;go_wp2;refine bR (v:=ans zt false) (by simp[results,Tryz.results138,go_sem]) rfl ?_;exact⟨rfl,by first|exact((Gr.refl _).alloc _).alloc _|exact(Gr.refl _).alloc _|exact Gr.refl _⟩
end Hc
end Go.Proofs.YtiiefcalkjeieaaGreat
