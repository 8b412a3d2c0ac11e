import Derived.Test.YtiiefcalkjeieaaGreatJ11
import Derived.Test.YtiiefcalkjeieaaGreatJ6
variable{v nv ev pv:Go.Value}{hb np g cap ff j B1 at_ i gb b o s n n' k:Nat}{w w' wr:Go.World}{a:Int}{e:Go.TypeId}{xs:List Go.Value}
set_option maxHeartbeats 16000000
set_option maxRecDepth 100000
namespace Go.Proofs.YtiiefcalkjeieaaGreat
namespace Df
open Go.RowKit Go.Sort
attribute[local go_sem ↓]wp_at_zero wp_at_succ
theorem xE{ts:List Int}(h:Ls EI w v ts){x:Int}(hj:ts[j]? =some x):
    ∃b off c,v= .slice (some ⟨b,off,none⟩) ts.length c/\b<w.heap.size/\aj w b (off+j) (iV x):=by
 obtain⟨b,off,c,hv,hb,hc⟩:=h.get hj;refine⟨b,off,c,hv,hb, ?_⟩;have:=hc 0 _ (by decide) rfl;simpa[EI]using this
theorem Ou{ts:List SV}(h:Ls ES w v ts){s:SV}(hj:ts[j]? =some s):
    ∃b off c,v= .slice (some ⟨b,off,none⟩) ts.length c/\b<w.heap.size/\aj w b (off+j*4) (iV s.nd)/\aj w b (off+j*4+1) (iV s.pt)/\aj w b (off+j*4+2) (.bool s.dx)/\w.cell? ⟨b,off+j*4+3,none⟩=some s.ev:=by
 obtain⟨b,off,c,hv,hb,hc⟩:=h.get hj;exact⟨b,off,c,hv,hb,hc 0 _ (by decide) rfl,hc 1 _ (by decide) rfl,hc 2 _ (by decide) rfl,hc 3 _ (by decide) rfl⟩
structure Gb(w:World)(gb:Nat)(a:Int)(nv ev fv pv:Value)(xs:List NV):Prop where
 blk:w.heap[gb]? =some (.cells (eH a nv ev fv pv) 138 (0,0))
 nodes:Lz EV w.heap.size w nv xs
 fr:Ls EI w fv (bQ (xs.map NV.n) xs.length)
 nl:xs.length<=24
 kI:Vs (xs.map NV.n)
theorem NZ{xs:List NV}{n:dC}(h:(xs.map NV.n)[j]? =some n):∃y,xs[j]? =some y/\y.n=n:=by
 simpa using h
theorem OU{fv:Value}{xs:List NV}(i p:Int)(w:World)(h:Gb w gb a nv ev fv pv xs):CL 116 #[aB gb,iV i,iV p] w fun r w'=>r= .returned (iV (QQ (xs.map NV.n) i p))/\w'=w:=by
 have hc:=Ai i p w h.nodes;rw[Et]at hc;have cg:=(aa h.blk).1;have lg:=ae h.blk;obtain⟨qn,cn,rfl⟩:=h.nodes.form;cases e:fG (xs.map NV.n) i p with
 | false=>
  generalize xs.length=nlen at hc cg;have HR:Hid (QQ (xs.map NV.n) i p= -1):=by show _=_;unfold QQ;rw[if_neg (by rw[e];decide)]
  rw[e]at hc;clear e h;go_enter Tryz.func116,Tryz.ntmps116;go_wp2_with fail;refine hc.mono ?_;rintro r w1 ⟨rfl,rfl⟩;go_wp2_with fail;go_ret;exact⟨by rw[HR.o];rfl,rfl⟩
 | true=>
  obtain⟨n,hn,hi0,hil,hp0,hpn⟩:=xN e;obtain⟨j,rfl⟩:∃j:Nat,i=(j:Int):=⟨i.toNat,by omega⟩;simp only[tN]at hn hil;have HR:Hid (QQ (xs.map NV.n) (j:Int) p=bO (xs.map NV.n) j+p):=by show _=_;unfold QQ;rw[if_pos e,tN]
  rw[e]at hc;have hjl:j<xs.length:=by simpa using hil
  obtain⟨b1,o1,c1,hv1,hb1,x1⟩:=xE h.fr (xV (xs.map NV.n) hjl);rw[iF]at hv1;have hf:=oV h.kI j;have hq:=h.kI n (lM hn);have hnl:=h.nl;subst hv1;obtain⟨m,hm⟩:=aF (bO (xs.map NV.n) j);rw[<-hm]at HR x1 hf;generalize xs.length=ml at hc cg hjl hnl;have hjz:(j:Int)<(ml:Int):=by omega
  have Xf:m<=192:=by omega
  have hp4:p<4:=by omega
  clear e h hn hil hpn hm hf hq;go_enter Tryz.func116,Tryz.ntmps116;go_wp2_with fail;refine hc.mono ?_;rintro r w1 ⟨rfl,rfl⟩;go_wp2_with fail;go_ret;exact⟨by rw[HR.o];rfl,rfl⟩
theorem Jq{fv:Value}{xs:List NV}(i p:Int)(w:World)(h:Gb w gb a nv ev fv pv xs):CL 115 #[aB gb,iV i,iV p] w fun r w'=>r= .returned (iV (yR (xs.map NV.n) i p))/\Gr w w':=by
 have hc:=xM i p w h.nodes;rw[Es]at hc;have cg:=(aa h.blk).1;have lg:=ae h.blk;obtain⟨qn,cn,rfl⟩:=h.nodes.form;cases e:fF (xs.map NV.n) i p with
 | false=>
  generalize xs.length=nlen at hc cg;have HR:Hid (yR (xs.map NV.n) i p= -1):=by show _=_;unfold yR;rw[if_neg (by rw[e];decide)]
  rw[e]at hc;clear e h;go_enter Tryz.func115,Tryz.ntmps115;go_wp2_with fail;refine hc.mono ?_;rintro r w1 ⟨rfl,rfl⟩;go_wp2_with fail;go_ret;exact⟨by rw[HR.o];rfl,Gr.refl _⟩
 | true=>
  obtain⟨n,hn,hi0,hil,hp0,hpn⟩:=rE e;obtain⟨j,rfl⟩:∃j:Nat,i=(j:Int):=⟨i.toNat,by omega⟩;simp only[tN]at hn hil;obtain⟨y,hy,hyn⟩:=NZ hn;subst hyn;have HR:Hid (yR (xs.map NV.n) (j:Int) p=bO (xs.map NV.n) j+y.n.ins+p):=by show _=_;unfold yR;rw[if_pos e,tN,hn]
  rw[e]at hc;have hjl:j<xs.length:=by simpa using hil
  obtain⟨b1,o1,c1,hv1,hb1,x1⟩:=xE h.fr (xV (xs.map NV.n) hjl);obtain⟨b2,o2,c2,JV,hb2,z0,z1,-⟩:=j5 (h.nodes.ls hy) hy;rw[iF]at hv1;have hf:=oV h.kI j;have hq:=h.kI y.n (lM hn);have hnl:=h.nl;subst hv1;simp only[vS]at JV;obtain⟨rfl,-,rfl⟩:=JV;obtain⟨m,hm⟩:=aF (bO (xs.map NV.n) j);rw[<-hm]at HR x1 hf;generalize xs.length=ml at hc cg hjl hnl;have hjz:(j:Int)<(ml:Int):=by omega
  have Xf:m<=192:=by omega
  have hp4:p<4:=by omega
  have hq1:0<=y.n.ins:=hq.1;have hq2:y.n.ins<=4:=hq.2.1;clear e h hn hil hpn hm hf hq hy;go_enter Tryz.func115,Tryz.ntmps115;go_wp2_with fail;refine hc.mono ?_;rintro r w1 ⟨rfl,rfl⟩;go_upto_region 5 with fail;go_quiet (fail);go_wp2_with fail;go_ret;exact⟨by rw[HR.o];rfl,(Gr.refl _).drewN _⟩
end Df
namespace Hf
open Go.RowKit Go.Sort Hp
attribute[local go_sem ↓]wp_at_zero wp_at_succ
theorem hid{p:Prop}(h:p):Hid p:=h
theorem mr:(Tryz.prog.info? 290).map (fun i=>(i.zero,i.size,i.bytes))=some (some (.agg #[iV 0,uV 0,uV 0,uV 0,uV 0]),5,40):=by kernel_rfl
theorem iY(h:w'.heap[b]? =w.heap[b]?):w'.frozen? ⟨b,o,none⟩=w.frozen? ⟨b,o,none⟩:=by simp[World.frozen?,h]
theorem oP(h:w.ownsRow 0 e s (sO g n' cap) n xs)(q:Nat):w.frozen? ⟨g,q,none⟩=false:=by
 obtain⟨_,⟨h0,_⟩|⟨g',cap',cur,hv,_,hgg,_⟩⟩:=h
 ·cases h0
 ·cases hv;simp[World.frozen?,hgg]
structure Pu(w:World)(hb ff np B1 g cap:Nat)(v:Value)(L:List It)(x:It)(r:Th->Th->Bool)(at_:Nat)(M:List It)(i:Nat)(wr:World):Prop where
 inv:dY (aX r) L x at_ M i
 hp:Hb wr hb ff (sO g (L.length+1) cap) M (np+1)
 box:wr.heap[B1]? =some (.cells #[iV x.1.1,uV x.1.2.1.1,uV x.1.2.1.2.1,uV x.1.2.1.2.2,uV (x.2:Nat)] 290 (0,0))
 turn:dX hb v (sO g (L.length+1) cap) w wr
 bne:B1≠g/\B1≠hb
theorem Pu.row{L M:List It}{x:It}{r:Th->Th->Bool}(h:Pu w hb ff np B1 g cap v L x r at_ M i wr):wr.ownsRow 0 290 5 (sO g (L.length+1) cap) (L.length+1) (fl EI M):=by
 have:=h.hp.own;rw[h.inv.len]at this;exact this
theorem Pu.set{L M:List It}{x:It}{r:Th->Th->Bool}(h:Pu w hb ff np B1 g cap v L x r at_ M i wr){y:It}(hi:dY (aX r) L x at_ (M.set k y) j)
    (ho:w'.ownsRow 0 290 5 (sO g (L.length+1) cap) (L.length+1) (fl EI (M.set k y))) (hk:Kp (fun q=>q=g) wr w') (hg:v.ownBlock=some g\/w.heap.size<=g):Pu w hb ff np B1 g cap v L x r at_ (M.set k y) j w':=by
 have hgb:hb≠g:=fun e=>h.hp.off (by rw[e];rfl);refine⟨hi,⟨(hk.block hb h.hp.lt hgb).trans h.hp.blk,by rw[hi.len];exact ho,h.hp.off⟩,(hk.block B1 (aG.1 h.box).1 h.bne.1).trans h.box,⟨h.turn.1.trans hk (fun q _ hq=> ?_),h.turn.2⟩,h.bne⟩;subst hq;rcases hg with hg|hg
 ·exact Or.inr hg
 ·omega
theorem wX{L:List It}{r:Th->Th->Bool}(x:Th)(w:World)(hH:Hb w hb ff v L np)(hl:(L.length+1)*40<=140737488355328)(Ty:np+1<18446744073709551616)(hF:dZ ff r):
    CL 126 #[aB hb,tv x] w fun e w'=>∃v' L',e= .returned (.tuple #[])/\Hb w' hb ff v' L' (np+1)/\L'.Perm (L++[(x,np)])/\(Av (aX r)->bZ (aX r) L->bZ (aX r) L')/\dX hb v v' w w':=by
 have hmx:Tryz.prog.follows .mixedOrders=true:=by kernel_rfl
 have k0:=hH.c0;have k1:=hH.c1;have k2:=hH.c2;have kl:=hH.lt;have WK:=hH.fz 2;obtain⟨pl,cl,rfl⟩:=hH.qF.form;obtain⟨B1,hB1⟩:=aF (w.heap.size+1);obtain⟨W2,hW2⟩:=aF (((w.alloc (.cells #[iV x.1,uV x.2.1.1,uV x.2.1.2.1,uV x.2.1.2.2] 215)).alloc (.cells #[iV (x,np).1.1,uV (x,np).1.2.1.1,uV (x,np).1.2.1.2.1,uV (x,np).1.2.1.2.2,uV ((x,np).2:Nat)] 290)).drew);have G2:Gr w W2:=by rw[hW2];exact(((Gr.refl _).alloc _).alloc _).drew
 have Eu:W2.heap[B1]? =some (.cells #[iV (x,np).1.1,uV (x,np).1.2.1.1,uV (x,np).1.2.1.2.1,uV (x,np).1.2.1.2.2,uV ((x,np).2:Nat)] 290 (0,0)):=by
  have h:=ah (w.alloc (.cells #[iV x.1,uV x.2.1.1,uV x.2.1.2.1,uV x.2.1.2.2] 215)) (.cells #[iV (x,np).1.1,uV (x,np).1.2.1.1,uV (x,np).1.2.1.2.1,uV (x,np).1.2.1.2.2,uV ((x,np).2:Nat)] 290);rw[show(w.alloc (.cells #[iV x.1,uV x.2.1.1,uV x.2.1.2.1,uV x.2.1.2.2] 215)).heap.size=w.heap.size+1 by simp]at h;rw[hW2,hB1];exact h
 have uK:Hid (Hb W2 hb ff (.slice pl L.length cl) L np):=hH.gr G2;have hup:=vY (r:=r) (x,np) W2 uK.o (by omega) hF;have HG2:Hid (Gr w W2):=G2;have jK:Hid (w.heap.size<=B1/\B1<W2.heap.size):=⟨by omega,(aG.1 Eu).1⟩;have hBl:B1<W2.heap.size:=(aG.1 Eu).1;have q0:=(Df.aa Eu).1;have yK:Hid (W2.heap[B1]? =some (.cells #[iV (x,np).1.1,uV (x,np).1.2.1.1,uV (x,np).1.2.1.2.1,uV (x,np).1.2.1.2.2,uV ((x,np).2:Nat)] 290 (0,0))):=Eu;have HH0:Hid (Hb w hb ff (.slice pl L.length cl) L np):=hH;clear hH G2 Eu;go_enter Tryz.func126,Tryz.ntmps126;go_wp2_with fail;go_region;rw[<-hW2,<-hB1];clear hW2 hB1 k0 k1 k2 kl WK;go_wp2_with fail;refine hup.mono ?_;rintro e w3 ⟨at_,rfl,Ho,hend,hg3⟩;clear hup;have FP:Hid (Hb w3 hb ff (.slice pl L.length cl) L np):=uK.o.gr hg3;have k2:=FP.o.c2;have kl:=FP.o.lt;have WK:=FP.o.fz 2;have HWY:Hid (Wy (QU (aX r) L (x,np)) L.length at_):=Ho;have uL:Hid (at_=0\/∃y,L[par at_]? =some y/\aX r (x,np) y=false):=hend;have QI:Hid (at_<=L.length):=Ho.le;have Mx:Hid (Gr w w3):=HG2.o.trans hg3;have I1:Hid (w3.heap[B1]? =some (.cells #[iV (x,np).1.1,uV (x,np).1.2.1.1,uV (x,np).1.2.1.2.1,uV (x,np).1.2.1.2.2,uV ((x,np).2:Nat)] 290 (0,0))):=(hg3.below.block B1 hBl).trans yK.o;clear Ho hend hg3 q0 yK uK;go_upto_region 5 with fail;have Ay:Hid (Hb (w3.setCell ⟨hb,2,none⟩ (uV ((np:Int)+1))) hb ff (.slice pl L.length cl) L (np+1)):=(FP.o.DF (np+1)).1;have QC:Hid (Kp (fun k=>k=hb) w3 (w3.setCell ⟨hb,2,none⟩ (uV ((np:Int)+1)))):=(FP.o.DF (np+1)).2;generalize w3.setCell ⟨hb,2,none⟩ (uV ((np:Int)+1))=w4 at Ay QC⊢;have Il:B1≠hb:=fun e=>by have:=HH0.o.lt;have:=jK.o.1;omega
 have FD:Hid (w4.heap[B1]? =some (.cells #[iV (x,np).1.1,uV (x,np).1.2.1.1,uV (x,np).1.2.1.2.1,uV (x,np).1.2.1.2.2,uV ((x,np).2:Nat)] 290 (0,0))):=(QC.o.block B1 (aG.1 I1.o).1 Il).trans I1.o;have Cj:B1<w4.heap.size:=(aG.1 FD.o).1;have q0:=(Df.aa FD.o).1;obtain⟨iK,hiK,hk0,hk1,hk2⟩:=info_parts mr;have r0:=Ay.o.c1;have k0f:=Ay.o.fz 1;have hlr:=Ay.o.lt;have hne1:some hb≠(Value.slice pl L.length cl).ownBlock:=fun e=>Ay.o.off e.symm;have hnm:w4.ownsRow 0 290 5 (.slice pl L.length cl) L.length (fl EI L):=Ay.o.own;clear k2 kl WK hBl;go_cut [32]from 25 to 34 (fun _ w'=>∃g cap,Hid (Pu w hb ff np B1 g cap (.slice pl L.length cl) L (x,np) r at_ (L++[(x,np)]) L.length w'/\((Value.slice pl L.length cl).ownBlock=some g\/w.heap.size<=g)));case first=>
  go_region_law (refine step_append_lies _ rfl _ _ 285 rfl 0 290 iK (.agg #[iV 0,uV 0,uV 0,uV 0,uV 0]) 5 40 Tryz.underlying285 hiK hk0 hk1 hk2 rfl (by decide) (Value.slice pl L.length cl) L.length (fl EI L) rfl (World.ownsRow.alloc (w:=w4.drew) hnm _) ⟨w4.heap.size,0,none⟩ 1 1 [iV (x,np).1.1,uV (x,np).1.2.1.1,uV (x,np).1.2.1.2.1,uV (x,np).1.2.1.2.2,uV ((x,np).2:Nat)] rfl rfl (World.news_of_block (ah _ _)) (by simp[Value.oneCell']) (by decide) (by unfold maxLen;omega) (by omega) (zL _) _ rfl ?_
                 intro g cap eF Hu hgrow Ps aau;have I5:=hgrow.block hb (by simp;omega) hne1;have k10:eF.cell? ⟨hb,1,none⟩=some (Value.slice pl L.length cl):=(zh (a:=⟨hb,1,none⟩) I5).trans ((((Gr.refl w4).drew.alloc _).cell hlr).trans r0);have abx:eF.frozen? ⟨hb,1,none⟩=false:=(iY I5).trans ((((Gr.refl w4).drew.alloc _).frozen hlr).trans k0f))
  all_goals (
   go_wp2_with fail;go_meet;have QH:eF.heap[hb]? =some (.cells #[fv ff, .slice pl L.length cl,uV ((np+1:Nat):Int)] 287 (0,0)):=I5.trans ((((Gr.refl w4).drew.alloc _).below.block hb hlr).trans Ay.o.blk);obtain⟨hs1,hs2⟩:=(lY QH).1 (sO g (L.length+1) cap);have hz4:w.heap.size<=w4.heap.size:=nT Mx.o.size QC.o.size;have sZ:Kp (fun q=>(Value.slice pl L.length cl).ownBlock=some q) w4 eF:=(Kp.bg ((Gr.refl w4).drew.alloc _)).tr (Kp.grownBy (S:=fun q=>(Value.slice pl L.length cl).ownBlock=some q) hgrow (fun _ h=>h));have hg4:(Value.slice pl L.length cl).ownBlock=some g\/w4.heap.size<=g:=Ps.imp id (fun h=>by rw[h];simp);have hg:(Value.slice pl L.length cl).ownBlock=some g\/w.heap.size<=g:=hg4.imp id (fun h=>by omega);have hlw:=HH0.o.lt;have hrw:=HH0.o.row;have hgb:g≠hb:=fun e=>by
    rcases hg with h|h
    ·exact HH0.o.off (by rw[h,e])
    ·omega
   have hBg:B1≠g:=fun e=>by
    have hB:=jK.o.1;have hB4:B1<w4.heap.size:=Cj;rcases hg4 with h|h
    ·have:=hrw g h;omega
    ·omega
   refine⟨g,cap,⟨dY.init HWY.o,⟨hs1, ?_, ?_⟩, ?_,⟨?_,fun q hq=> ?_⟩,hBg,Il⟩,hg⟩
   ·rw[dQ,aT];refine ax hs2 (by rw[dM];exact Hu) (fun k hk e=> ?_);have:k=g:=(by simpa[Value.ownBlock]using hk.symm);exact hgb (by rw[<-this,e])
   ·simpa[Value.ownBlock]using hgb
   ·refine(hs2.block B1 (nL Cj sZ.size) Il).trans ((sZ.block B1 Cj (fun h=> ?_)).trans FD.o);have:=hrw B1 h;have:=jK.o.1;omega
   ·refine(((Kp.bg Mx.o).tr (QC.o.mono (fun _ h=>Or.inl h))).tr (sZ.mono (fun _ h=>Or.inr h))).tr (hs2.mono (fun _ h=>Or.inl h))
   ·have:q=g:=(by simpa[Value.ownBlock]using hq.symm);rw[this];exact hg)
 case rest=>
  obtain⟨g,cap,Qy⟩:=hcut;have r1:=Qy.o.1.hp.c1;have Xi:=Qy.o.1.hp.lt;have HGO:Hid ((Value.slice pl L.length cl).ownBlock=some g\/w.heap.size<=g):=Qy.o.2;have HP0:Hid (Pu w hb ff np B1 g cap (.slice pl L.length cl) L (x,np) r at_ (L++[(x,np)]) L.length wc):=Qy.o.1;clear Qy FD Cj q0 r0 k0f hlr hne1 hnm Ay QC FP Mx I1 hiK hk0 hk1 hk2;go_wp2_with fail;clear r1 Xi;go_loopw [6] (fun s6 wr=>∃(i:Nat) (M:List It),i<=L.length/\s6=iV i/\Hid (Pu w hb ff np B1 g cap (.slice pl L.length cl) L (x,np) r at_ M i wr)) (fun s6 _=>(intOf s6).toNat);case atStart=>exact⟨L.length,_,nR _,by first|rfl|simp,HP0.o⟩
  case round=>
   clear HP0;obtain⟨i,M,hil,rfl,HP⟩:=hrel;have CU:Hid (wr.ownsRow 0 290 5 (sO g (L.length+1) cap) (L.length+1) (fl EI M)):=HP.o.row;have hfz:=oP CU.o;have r1:=HP.o.hp.c1;have hlr:=HP.o.hp.lt;have hgl:g<wr.heap.size:=(CU.o.lt g rfl).2;have Xn:(i:Int)<(L.length:Int)+1:=(by omega);have hi0:(0:Int)<=(i:Int):=(by omega);obtain⟨z,hz⟩:∃z,M[i]? =some z:=⟨M[i]'(by rw[HP.o.inv.len];omega),by rw[p8]⟩;obtain⟨b1,o1,c1,e1,z1,y0⟩:=gV HP.o.hp.qF hz;simp only[vS,oI,aI,and_true]at e1;obtain⟨⟨rfl,rfl⟩,-,rfl⟩:=e1;simp only[nZ]at y0;clear hz z1;by_cases hlt:at_<i
   ·have hltz:(at_:Int)<(i:Int):=(by omega);obtain⟨y,hy,hpi⟩:=HP.o.inv.step hlt;have Eo:0<i:=(by omega);have Ej:=fD Eo;have HPI:Hid (dY (aX r) L (x,np) at_ (M.set i y) (par i)):=hpi;have hpz:(par i:Int)<(L.length:Int)+1:=(by omega);have hp0:(0:Int)<=(par i:Int):=(by omega);obtain⟨b1,o1,c1,e1,z1,x0⟩:=gV HP.o.hp.qF hy;clear z1;simp only[vS,oI,aI,and_true]at e1;obtain⟨⟨rfl,rfl⟩,-,rfl⟩:=e1;simp only[nZ]at x0;have pK:∀W,CL 147 #[iV i] W fun e w'=>e= .returned (iV (par i:Nat))/\w'=W:=fun W=>gD i Eo (by omega) W;have Fy:Hid (par i<i):=Ej;clear hy hpi Ej;go_wp2_with fail;go_region_with (go_at_call 147;refine(pK _).mono ?_;rintro e w4 ⟨rfl,rfl⟩);all_goals (
     obtain⟨ho,hk⟩:=fM (i:=i) y CU.o;have Qz:=hid (HP.o.set HPI.o (ag ho (Gr.refl _).drew.below) (hk.tr (Kp.bg (Gr.refl _).drew)) HGO.o);clear ho hk r1 x0 y0 hfz;go_wp2_with (go_at_call 147;refine(pK _).mono ?_;rintro e w4 ⟨rfl,rfl⟩);go_roundw;case rel=>exact⟨par i,_,by have:=Fy.o;omega,rfl,Qz.o⟩
     case measure=>simp[intOf];exact Fy.o)
   ·have hltz:¬(at_:Int)<(i:Int):=(by omega);have hie:i=at_:=(by have:=HP.o.inv.way.le;omega);subst hie;have q0:=(Df.aa HP.o.box).1;have hBl:B1<wr.heap.size:=(aG.1 HP.o.box).1;go_wp2_with fail;go_region;all_goals (
     go_end0;obtain⟨ho,hk⟩:=fM (i:=i) (x,np) CU.o;obtain⟨d1,d2⟩:=HP.o.inv.done uL.o;have hgb:hb≠g:=fun e=>HP.o.hp.off (by rw[e];rfl);have hk2:=hk.tr (Kp.bg (S:=fun q=>q=g) (Gr.refl _).drew);refine⟨_,_,rfl,⟨(hk2.block hb HP.o.hp.lt hgb).trans HP.o.hp.blk, ?_,HP.o.hp.off⟩,d1,d2,HP.o.turn.1.trans hk2 (fun q _ hq=> ?_),HP.o.turn.2⟩
     ·rw[lZ,HP.o.inv.len];exact ag ho (Gr.refl _).drew.below
     ·subst hq;rcases HGO.o with hg|hg
      ·exact Or.inr hg
      ·omega)
theorem dI(ff:Nat)(w:World):CL 123 #[fv ff] w fun e w'=>∃hb,e= .returned (aB hb)/\w.heap.size<=hb/\Hb w' hb ff (.slice none 0 0) [] 0/\Gr w w':=by
 go_enter Tryz.func123,Tryz.ntmps123;go_wp2;go_ret;exact⟨_,rfl,nR _,⟨ah _ _,oN _ _ _ _,by simp[Value.ownBlock]⟩,(Gr.refl _).alloc _⟩
theorem gW{L:List It}(w:World)(hH:Hb w hb ff v L np):CL 247 #[aB hb] w fun e w'=>e= .returned (iV (L.length:Nat))/\w'=w:=by
 have k1:=hH.c1;obtain⟨pl,cl,rfl⟩:=hH.qF.form;have kl:=hH.lt;clear hH;go_enter Tryz.func247,Tryz.ntmps247;go_wp2;go_ret;exact⟨rfl,rfl⟩
abbrev ans(x:Th)(b:Bool):Value:= .tuple #[tv x, .bool b]
abbrev zt:Th:=(0,⟨(0,0,0),by decide⟩)
theorem qZ{L:List It}{t:It}(w:World)(hH:Hb w hb ff v L np)(ht:L[0]? =some t):CL 187 #[aB hb] w fun e w'=>e= .returned (ans t.1 true)/\Gr w w':=by
 have hlen:∀W:World,Gr w W->CL 247 #[aB hb] W fun e w'=>e= .returned (iV (L.length:Nat))/\w'=W:=fun W h=>gW W (hH.gr h);have hpos:0<L.length:=(lG.1 ht).1;have hpz:¬(L.length:Int)=0:=by omega
 have abB:(0:Int)<(L.length:Int):=by omega
 obtain⟨b1,o1,c1,e1,z1,x0,x1,x2,x3,x4⟩:=gV hH.qF ht;subst e1;have k1:=hH.c1;have kl:=hH.lt;clear hH ht;simp only[Nat.zero_mul,nO]at x0 x1 x2 x3 x4;go_enter Tryz.func187,Tryz.ntmps187;go_wp2_with fail;refine(hlen _ (by first|exact(Gr.refl _).alloc _|exact Gr.refl _)).mono ?_;rintro e w1 ⟨rfl,rfl⟩;go_wp2;refine bR (v:=ans t.1 true) (by simp[results,Tryz.results187,go_sem]) rfl ?_;exact⟨rfl,by first|exact(Gr.refl _).alloc _|exact Gr.refl _⟩
theorem kJ(w:World)(hH:Hb w hb ff v [] np):CL 187 #[aB hb] w fun e w'=>e= .returned (ans zt false)/\Gr w w':=by
 have hlen:∀W:World,Gr w W->CL 247 #[aB hb] W fun e w'=>e= .returned (iV 0)/\w'=W:=fun W h=>gW W (hH.gr h);clear hH;go_enter Tryz.func187,Tryz.ntmps187;go_wp2_with fail;refine(hlen _ (by first|exact(Gr.refl _).alloc _|exact Gr.refl _)).mono ?_;rintro e w1 ⟨rfl,rfl⟩;go_wp2;refine bR (v:=ans zt false) (by simp[results,Tryz.results187,go_sem]) rfl ?_;exact⟨rfl,by first|exact((Gr.refl _).alloc _).alloc _|exact(Gr.refl _).alloc _|exact Gr.refl _⟩
end Hf
namespace Hc
open Go.RowKit Go.Sort Hp
attribute[local go_sem ↓]wp_at_zero wp_at_succ
theorem hid{p:Prop}(h:p):Hid p:=h
theorem mr:(Tryz.prog.info? 251).map (fun i=>(i.zero,i.size,i.bytes))=some (some (.agg #[iV 0,uV 0,uV 0,uV 0,iV 0,uV 0]),6,48):=by kernel_rfl
theorem iY(h:w'.heap[b]? =w.heap[b]?):w'.frozen? ⟨b,o,none⟩=w.frozen? ⟨b,o,none⟩:=by simp[World.frozen?,h]
theorem oP(h:w.ownsRow 0 e s (sO g n' cap) n xs)(q:Nat):w.frozen? ⟨g,q,none⟩=false:=by
 obtain⟨_,⟨h0,_⟩|⟨g',cap',cur,hv,_,hgg,_⟩⟩:=h
 ·cases h0
 ·cases hv;simp[World.frozen?,hgg]
structure Pu(w:World)(hb:Nat)(ff:Value)(np B1 g cap:Nat)(v:Value)(L:List It)(x:It)(r:Th->Th->Bool)(at_:Nat)(M:List It)(i:Nat)(wr:World):Prop where
 inv:dY (aX r) L x at_ M i
 hp:Hb wr hb ff (sO g (L.length+1) cap) M (np+1)
 box:wr.heap[B1]? =some (.cells #[iV x.1.1,uV x.1.2.1.1.1,uV x.1.2.1.1.2.1,uV x.1.2.1.1.2.2,iV x.1.2.2,uV (x.2:Nat)] 251 (0,0))
 turn:dX hb v (sO g (L.length+1) cap) w wr
 bne:B1≠g/\B1≠hb
theorem Pu.row{ff:Value}{L M:List It}{x:It}{r:Th->Th->Bool}(h:Pu w hb ff np B1 g cap v L x r at_ M i wr):wr.ownsRow 0 251 6 (sO g (L.length+1) cap) (L.length+1) (fl EI M):=by
 have:=h.hp.own;rw[h.inv.len]at this;exact this
theorem Pu.set{ff:Value}{L M:List It}{x:It}{r:Th->Th->Bool}(h:Pu w hb ff np B1 g cap v L x r at_ M i wr){y:It}(hi:dY (aX r) L x at_ (M.set k y) j)
    (ho:w'.ownsRow 0 251 6 (sO g (L.length+1) cap) (L.length+1) (fl EI (M.set k y))) (hk:Kp (fun q=>q=g) wr w') (hg:v.ownBlock=some g\/w.heap.size<=g):Pu w hb ff np B1 g cap v L x r at_ (M.set k y) j w':=by
 have hgb:hb≠g:=fun e=>h.hp.off (by rw[e];rfl);refine⟨hi,⟨(hk.block hb h.hp.lt hgb).trans h.hp.blk,by rw[hi.len];exact ho,h.hp.off⟩,(hk.block B1 (aG.1 h.box).1 h.bne.1).trans h.box,⟨h.turn.1.trans hk (fun q _ hq=> ?_),h.turn.2⟩,h.bne⟩;subst hq;rcases hg with hg|hg
 ·exact Or.inr hg
 ·omega
theorem wX{ff:Value}{L:List It}{r:Th->Th->Bool}(x:Th)(w:World)(hH:Hb w hb ff v L np)(hl:(L.length+1)*48<=140737488355328)(Ty:np+1<18446744073709551616){K:World->Prop}{V:Th->Prop}(hF:dZ K V ff r)(hk:K w)(hV:∀y∈L,V y.1)(hx:V x):
    CL 82 #[aB hb,tv x] w fun e w'=>∃v' L',e= .returned (.tuple #[])/\Hb w' hb ff v' L' (np+1)/\L'.Perm (L++[(x,np)])/\(Av (aX r)->bZ (aX r) L->bZ (aX r) L')/\dX hb v v' w w':=by
 have hmx:Tryz.prog.follows .mixedOrders=true:=by kernel_rfl
 have k0:=hH.c0;have k1:=hH.c1;have k2:=hH.c2;have kl:=hH.lt;have WK:=hH.fz 2;obtain⟨pl,cl,rfl⟩:=hH.qF.form;obtain⟨B1,hB1⟩:=aF (w.heap.size+1);obtain⟨W2,hW2⟩:=aF (((w.alloc (.cells #[iV x.1,uV x.2.1.1.1,uV x.2.1.1.2.1,uV x.2.1.1.2.2,iV x.2.2] 49)).alloc (.cells #[iV (x,np).1.1,uV (x,np).1.2.1.1.1,uV (x,np).1.2.1.1.2.1,uV (x,np).1.2.1.1.2.2,iV (x,np).1.2.2,uV ((x,np).2:Nat)] 251)).drew);have G2:Gr w W2:=by rw[hW2];exact(((Gr.refl _).alloc _).alloc _).drew
 have Eu:W2.heap[B1]? =some (.cells #[iV (x,np).1.1,uV (x,np).1.2.1.1.1,uV (x,np).1.2.1.1.2.1,uV (x,np).1.2.1.1.2.2,iV (x,np).1.2.2,uV ((x,np).2:Nat)] 251 (0,0)):=by
  have h:=ah (w.alloc (.cells #[iV x.1,uV x.2.1.1.1,uV x.2.1.1.2.1,uV x.2.1.1.2.2,iV x.2.2] 49)) (.cells #[iV (x,np).1.1,uV (x,np).1.2.1.1.1,uV (x,np).1.2.1.1.2.1,uV (x,np).1.2.1.1.2.2,iV (x,np).1.2.2,uV ((x,np).2:Nat)] 251);rw[show(w.alloc (.cells #[iV x.1,uV x.2.1.1.1,uV x.2.1.1.2.1,uV x.2.1.1.2.2,iV x.2.2] 49)).heap.size=w.heap.size+1 by simp]at h;rw[hW2,hB1];exact h
 have uK:Hid (Hb W2 hb ff (.slice pl L.length cl) L np):=hH.gr G2;have hup:=vY (r:=r) (x,np) W2 uK.o (by omega) hF (hF.gr _ _ hk G2) hV hx;have HG2:Hid (Gr w W2):=G2;have jK:Hid (w.heap.size<=B1/\B1<W2.heap.size):=⟨by omega,(aG.1 Eu).1⟩;have hBl:B1<W2.heap.size:=(aG.1 Eu).1;have q0:=(Df.aa Eu).1;have yK:Hid (W2.heap[B1]? =some (.cells #[iV (x,np).1.1,uV (x,np).1.2.1.1.1,uV (x,np).1.2.1.1.2.1,uV (x,np).1.2.1.1.2.2,iV (x,np).1.2.2,uV ((x,np).2:Nat)] 251 (0,0))):=Eu;have HH0:Hid (Hb w hb ff (.slice pl L.length cl) L np):=hH;clear hH G2 Eu;go_enter Tryz.func82,Tryz.ntmps82;go_wp2_with fail;go_region;rw[<-hW2,<-hB1];clear hW2 hB1 k0 k1 k2 kl WK;go_wp2_with fail;refine hup.mono ?_;rintro e w3 ⟨at_,rfl,Ho,hend,hg3⟩;clear hup;have FP:Hid (Hb w3 hb ff (.slice pl L.length cl) L np):=uK.o.gr hg3;have k2:=FP.o.c2;have kl:=FP.o.lt;have WK:=FP.o.fz 2;have HWY:Hid (Wy (QU (aX r) L (x,np)) L.length at_):=Ho;have uL:Hid (at_=0\/∃y,L[par at_]? =some y/\aX r (x,np) y=false):=hend;have QI:Hid (at_<=L.length):=Ho.le;have Mx:Hid (Gr w w3):=HG2.o.trans hg3;have I1:Hid (w3.heap[B1]? =some (.cells #[iV (x,np).1.1,uV (x,np).1.2.1.1.1,uV (x,np).1.2.1.1.2.1,uV (x,np).1.2.1.1.2.2,iV (x,np).1.2.2,uV ((x,np).2:Nat)] 251 (0,0))):=(hg3.below.block B1 hBl).trans yK.o;clear Ho hend hg3 q0 yK uK;go_upto_region 5 with fail;have Ay:Hid (Hb (w3.setCell ⟨hb,2,none⟩ (uV ((np:Int)+1))) hb ff (.slice pl L.length cl) L (np+1)):=(FP.o.DF (np+1)).1;have QC:Hid (Kp (fun k=>k=hb) w3 (w3.setCell ⟨hb,2,none⟩ (uV ((np:Int)+1)))):=(FP.o.DF (np+1)).2;generalize w3.setCell ⟨hb,2,none⟩ (uV ((np:Int)+1))=w4 at Ay QC⊢;have Il:B1≠hb:=fun e=>by have:=HH0.o.lt;have:=jK.o.1;omega
 have FD:Hid (w4.heap[B1]? =some (.cells #[iV (x,np).1.1,uV (x,np).1.2.1.1.1,uV (x,np).1.2.1.1.2.1,uV (x,np).1.2.1.1.2.2,iV (x,np).1.2.2,uV ((x,np).2:Nat)] 251 (0,0))):=(QC.o.block B1 (aG.1 I1.o).1 Il).trans I1.o;have Cj:B1<w4.heap.size:=(aG.1 FD.o).1;have q0:=(Df.aa FD.o).1;obtain⟨iK,hiK,hk0,hk1,hk2⟩:=info_parts mr;have r0:=Ay.o.c1;have k0f:=Ay.o.fz 1;have hlr:=Ay.o.lt;have hne1:some hb≠(Value.slice pl L.length cl).ownBlock:=fun e=>Ay.o.off e.symm;have hnm:w4.ownsRow 0 251 6 (.slice pl L.length cl) L.length (fl EI L):=Ay.o.own;clear k2 kl WK hBl;go_cut [32]from 25 to 34 (fun _ w'=>∃g cap,Hid (Pu w hb ff np B1 g cap (.slice pl L.length cl) L (x,np) r at_ (L++[(x,np)]) L.length w'/\((Value.slice pl L.length cl).ownBlock=some g\/w.heap.size<=g)));case first=>
  go_region_law (refine step_append_lies _ rfl _ _ 247 rfl 0 251 iK (.agg #[iV 0,uV 0,uV 0,uV 0,iV 0,uV 0]) 6 48 Tryz.underlying247 hiK hk0 hk1 hk2 rfl (by decide) (Value.slice pl L.length cl) L.length (fl EI L) rfl (World.ownsRow.alloc (w:=w4.drew) hnm _) ⟨w4.heap.size,0,none⟩ 1 1 [iV (x,np).1.1,uV (x,np).1.2.1.1.1,uV (x,np).1.2.1.1.2.1,uV (x,np).1.2.1.1.2.2,iV (x,np).1.2.2,uV ((x,np).2:Nat)] rfl rfl (World.news_of_block (ah _ _)) (by simp[Value.oneCell']) (by decide) (by unfold maxLen;omega) (by omega) (zL _) _ rfl ?_
                 intro g cap eF Hu hgrow Ps aau;have I5:=hgrow.block hb (by simp;omega) hne1;have k10:eF.cell? ⟨hb,1,none⟩=some (Value.slice pl L.length cl):=(zh (a:=⟨hb,1,none⟩) I5).trans ((((Gr.refl w4).drew.alloc _).cell hlr).trans r0);have abx:eF.frozen? ⟨hb,1,none⟩=false:=(iY I5).trans ((((Gr.refl w4).drew.alloc _).frozen hlr).trans k0f))
  all_goals (
   go_wp2_with fail;go_meet;have QH:eF.heap[hb]? =some (.cells #[fv ff, .slice pl L.length cl,uV ((np+1:Nat):Int)] 249 (0,0)):=I5.trans ((((Gr.refl w4).drew.alloc _).below.block hb hlr).trans Ay.o.blk);obtain⟨hs1,hs2⟩:=(lY QH).1 (sO g (L.length+1) cap);have hz4:w.heap.size<=w4.heap.size:=nT Mx.o.size QC.o.size;have sZ:Kp (fun q=>(Value.slice pl L.length cl).ownBlock=some q) w4 eF:=(Kp.bg ((Gr.refl w4).drew.alloc _)).tr (Kp.grownBy (S:=fun q=>(Value.slice pl L.length cl).ownBlock=some q) hgrow (fun _ h=>h));have hg4:(Value.slice pl L.length cl).ownBlock=some g\/w4.heap.size<=g:=Ps.imp id (fun h=>by rw[h];simp);have hg:(Value.slice pl L.length cl).ownBlock=some g\/w.heap.size<=g:=hg4.imp id (fun h=>by omega);have hlw:=HH0.o.lt;have hrw:=HH0.o.row;have hgb:g≠hb:=fun e=>by
    rcases hg with h|h
    ·exact HH0.o.off (by rw[h,e])
    ·omega
   have hBg:B1≠g:=fun e=>by
    have hB:=jK.o.1;have hB4:B1<w4.heap.size:=Cj;rcases hg4 with h|h
    ·have:=hrw g h;omega
    ·omega
   refine⟨g,cap,⟨dY.init HWY.o,⟨hs1, ?_, ?_⟩, ?_,⟨?_,fun q hq=> ?_⟩,hBg,Il⟩,hg⟩
   ·rw[dQ,aT];refine ax hs2 (by rw[dM];exact Hu) (fun k hk e=> ?_);have:k=g:=(by simpa[Value.ownBlock]using hk.symm);exact hgb (by rw[<-this,e])
   ·simpa[Value.ownBlock]using hgb
   ·refine(hs2.block B1 (nL Cj sZ.size) Il).trans ((sZ.block B1 Cj (fun h=> ?_)).trans FD.o);have:=hrw B1 h;have:=jK.o.1;omega
   ·refine(((Kp.bg Mx.o).tr (QC.o.mono (fun _ h=>Or.inl h))).tr (sZ.mono (fun _ h=>Or.inr h))).tr (hs2.mono (fun _ h=>Or.inl h))
   ·have:q=g:=(by simpa[Value.ownBlock]using hq.symm);rw[this];exact hg)
 case rest=>
  obtain⟨g,cap,Qy⟩:=hcut;have r1:=Qy.o.1.hp.c1;have Xi:=Qy.o.1.hp.lt;have HGO:Hid ((Value.slice pl L.length cl).ownBlock=some g\/w.heap.size<=g):=Qy.o.2;have HP0:Hid (Pu w hb ff np B1 g cap (.slice pl L.length cl) L (x,np) r at_ (L++[(x,np)]) L.length wc):=Qy.o.1;clear Qy FD Cj q0 r0 k0f hlr hne1 hnm Ay QC FP Mx I1 hiK hk0 hk1 hk2;go_wp2_with fail;clear r1 Xi;go_loopw [6] (fun s6 wr=>∃(i:Nat) (M:List It),i<=L.length/\s6=iV i/\Hid (Pu w hb ff np B1 g cap (.slice pl L.length cl) L (x,np) r at_ M i wr)) (fun s6 _=>(intOf s6).toNat);case atStart=>exact⟨L.length,_,nR _,by first|rfl|simp,HP0.o⟩
  case round=>
   clear HP0;obtain⟨i,M,hil,rfl,HP⟩:=hrel;have CU:Hid (wr.ownsRow 0 251 6 (sO g (L.length+1) cap) (L.length+1) (fl EI M)):=HP.o.row;have hfz:=oP CU.o;have r1:=HP.o.hp.c1;have hlr:=HP.o.hp.lt;have hgl:g<wr.heap.size:=(CU.o.lt g rfl).2;have Xn:(i:Int)<(L.length:Int)+1:=(by omega);have hi0:(0:Int)<=(i:Int):=(by omega);obtain⟨z,hz⟩:∃z,M[i]? =some z:=⟨M[i]'(by rw[HP.o.inv.len];omega),by rw[p8]⟩;obtain⟨b1,o1,c1,e1,z1,y0⟩:=gV HP.o.hp.qF hz;simp only[vS,oI,aI,and_true]at e1;obtain⟨⟨rfl,rfl⟩,-,rfl⟩:=e1;simp only[nZ]at y0;clear hz z1;by_cases hlt:at_<i
   ·have hltz:(at_:Int)<(i:Int):=(by omega);obtain⟨y,hy,hpi⟩:=HP.o.inv.step hlt;have Eo:0<i:=(by omega);have Ej:=fD Eo;have HPI:Hid (dY (aX r) L (x,np) at_ (M.set i y) (par i)):=hpi;have hpz:(par i:Int)<(L.length:Int)+1:=(by omega);have hp0:(0:Int)<=(par i:Int):=(by omega);obtain⟨b1,o1,c1,e1,z1,x0⟩:=gV HP.o.hp.qF hy;clear z1;simp only[vS,oI,aI,and_true]at e1;obtain⟨⟨rfl,rfl⟩,-,rfl⟩:=e1;simp only[nZ]at x0;have pK:∀W,CL 147 #[iV i] W fun e w'=>e= .returned (iV (par i:Nat))/\w'=W:=fun W=>gD i Eo (by omega) W;have Fy:Hid (par i<i):=Ej;clear hy hpi Ej;go_wp2_with fail;go_region_with (go_at_call 147;refine(pK _).mono ?_;rintro e w4 ⟨rfl,rfl⟩);all_goals (
     obtain⟨ho,hk⟩:=fM (i:=i) y CU.o;have Qz:=hid (HP.o.set HPI.o (ag ho (Gr.refl _).drew.below) (hk.tr (Kp.bg (Gr.refl _).drew)) HGO.o);clear ho hk r1 x0 y0 hfz;go_wp2_with (go_at_call 147;refine(pK _).mono ?_;rintro e w4 ⟨rfl,rfl⟩);go_roundw;case rel=>exact⟨par i,_,by have:=Fy.o;omega,rfl,Qz.o⟩
     case measure=>simp[intOf];exact Fy.o)
   ·have hltz:¬(at_:Int)<(i:Int):=(by omega);have hie:i=at_:=(by have:=HP.o.inv.way.le;omega);subst hie;have q0:=(Df.aa HP.o.box).1;have hBl:B1<wr.heap.size:=(aG.1 HP.o.box).1;go_wp2_with fail;go_region;all_goals (
     go_end0;obtain⟨ho,hk⟩:=fM (i:=i) (x,np) CU.o;obtain⟨d1,d2⟩:=HP.o.inv.done uL.o;have hgb:hb≠g:=fun e=>HP.o.hp.off (by rw[e];rfl);have hk2:=hk.tr (Kp.bg (S:=fun q=>q=g) (Gr.refl _).drew);refine⟨_,_,rfl,⟨(hk2.block hb HP.o.hp.lt hgb).trans HP.o.hp.blk, ?_,HP.o.hp.off⟩,d1,d2,HP.o.turn.1.trans hk2 (fun q _ hq=> ?_),HP.o.turn.2⟩
     ·rw[lZ,HP.o.inv.len];exact ag ho (Gr.refl _).drew.below
     ·subst hq;rcases HGO.o with hg|hg
      ·exact Or.inr hg
      ·omega)
theorem dI(ff:Value)(w:World):CL 85 #[fv ff] w fun e w'=>∃hb,e= .returned (aB hb)/\w.heap.size<=hb/\Hb w' hb ff (.slice none 0 0) [] 0/\Gr w w':=by
 go_enter Tryz.func85,Tryz.ntmps85;go_wp2;go_ret;exact⟨_,rfl,nR _,⟨ah _ _,oN _ _ _ _,by simp[Value.ownBlock]⟩,(Gr.refl _).alloc _⟩
theorem gW{ff:Value}{L:List It}(w:World)(hH:Hb w hb ff v L np):CL 197 #[aB hb] w fun e w'=>e= .returned (iV (L.length:Nat))/\w'=w:=by
 have k1:=hH.c1;obtain⟨pl,cl,rfl⟩:=hH.qF.form;have kl:=hH.lt;clear hH;go_enter Tryz.func197,Tryz.ntmps197;go_wp2;go_ret;exact⟨rfl,rfl⟩
abbrev ans(x:Th)(b:Bool):Value:= .tuple #[tv x, .bool b]
abbrev zt:Th:=(0,⟨(0,0,0),by decide⟩,0)
theorem qZ{ff:Value}{L:List It}{t:It}(w:World)(hH:Hb w hb ff v L np)(ht:L[0]? =some t):CL 138 #[aB hb] w fun e w'=>e= .returned (ans t.1 true)/\Gr w w':=by
 have hlen:∀W:World,Gr w W->CL 197 #[aB hb] W fun e w'=>e= .returned (iV (L.length:Nat))/\w'=W:=fun W h=>gW W (hH.gr h);have hpos:0<L.length:=(lG.1 ht).1;have hpz:¬(L.length:Int)=0:=by omega
 have abB:(0:Int)<(L.length:Int):=by omega
 obtain⟨b1,o1,c1,e1,z1,x0,x1,x2,x3,x4,x5⟩:=gV hH.qF ht;subst e1;have k1:=hH.c1;have kl:=hH.lt;clear hH ht;simp only[Nat.zero_mul,nO]at x0 x1 x2 x3 x4 x5;go_enter Tryz.func138,Tryz.ntmps138;go_wp2_with fail;refine(hlen _ (by first|exact(Gr.refl _).alloc _|exact Gr.refl _)).mono ?_;rintro e w1 ⟨rfl,rfl⟩;go_wp2;refine bR (v:=ans t.1 true) (by simp[results,Tryz.results138,go_sem]) rfl ?_;exact⟨rfl,by first|exact(Gr.refl _).alloc _|exact Gr.refl _⟩
theorem kJ{ff:Value}(w:World)(hH:Hb w hb ff v [] np):CL 138 #[aB hb] w fun e w'=>e= .returned (ans zt false)/\Gr w w':=by
 have hlen:∀W:World,Gr w W->CL 197 #[aB hb] W fun e w'=>e= .returned (iV 0)/\w'=W:=fun W h=>gW W (hH.gr h);clear hH;go_enter Tryz.func138,Tryz.ntmps138;go_wp2_with fail;refine(hlen _ (by first|exact(Gr.refl _).alloc _|exact Gr.refl _)).mono ?_;rintro e w1 ⟨rfl,rfl⟩;go_wp2;refine bR (v:=ans zt false) (by simp[results,Tryz.results138,go_sem]) rfl ?_;exact⟨rfl,by first|exact((Gr.refl _).alloc _).alloc _|exact(Gr.refl _).alloc _|exact Gr.refl _⟩
end Hc
end Go.Proofs.YtiiefcalkjeieaaGreat
