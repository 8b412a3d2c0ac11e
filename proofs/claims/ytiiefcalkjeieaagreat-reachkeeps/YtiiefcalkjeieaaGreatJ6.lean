import Derived.Test.YtiiefcalkjeieaaGreatJ5
variable{w:Go.World}{v:Go.Value}{hb ff np g cap:Nat}
set_option maxHeartbeats 16000000
set_option maxRecDepth 100000
namespace Go.Proofs.YtiiefcalkjeieaaGreat
namespace Hf
open Go.RowKit Go.Sort Hp
attribute[local go_sem ↓]wp_at_zero wp_at_succ
abbrev Th:=Int×Pt.ai
abbrev tv(a:Th):Value:= .agg #[.int .i64 a.1, .int .u64 a.2.1.1, .int .u64 a.2.1.2.1, .int .u64 a.2.1.2.2]
abbrev It:=Th×Nat
abbrev iv(x:It):Value:= .agg #[.int .i64 x.1.1, .int .u64 x.1.2.1.1, .int .u64 x.1.2.1.2.1, .int .u64 x.1.2.1.2.2, .int .u64 (x.2:Nat)]
def EI:El It where
 k:=5
 enc x:=[iV x.1.1,uV x.1.2.1.1,uV x.1.2.1.2.1,uV x.1.2.1.2.2,uV (x.2:Nat)]
 len _:=rfl
 one x u hu:=by
  simp at hu;rcases hu with rfl|rfl|rfl|rfl|rfl<;>rfl
theorem gV{ts:List It}(h:Ls EI w v ts){j:Nat}{x:It}(hj:ts[j]? =some x):
    ∃b off c,v= .slice (some ⟨b,off,none⟩) ts.length c/\b<w.heap.size/\aj w b (off+j*5) (iV x.1.1)/\aj w b (off+j*5+1) (uV x.1.2.1.1)/\aj w b (off+j*5+2) (uV x.1.2.1.2.1)/\aj w b (off+j*5+3) (uV x.1.2.1.2.2)/\aj w b (off+j*5+4) (uV (x.2:Nat)):=by
 obtain⟨b,off,c,hv,hb,hc⟩:=h.get hj;exact⟨b,off,c,hv,hb,hc 0 _ (by decide) rfl,hc 1 _ (by decide) rfl,hc 2 _ (by decide) rfl,hc 3 _ (by decide) rfl,hc 4 _ (by decide) rfl⟩
abbrev fv(f:Nat):Value:= .func (.func f) #[] #[]
structure dZ(f:Nat)(r:Th->Th->Bool):Prop where
 enter:∀args w,(callFunc f args).run Tryz.prog w= .ok (.enter f args) w
 calls:∀(a b:Th) (W:World),CL f #[tv a,tv b] W fun e w'=>e= .returned (.bool (r a b))/\Gr W w'
def aX(r:Th->Th->Bool)(a b:It):Bool:=if a.2<b.2 then !r b.1 a.1 else r a.1 b.1
structure Hb(w:World)(hb ff:Nat)(v:Value)(L:List It)(np:Nat):Prop where
 blk:w.heap[hb]? =some (.cells #[fv ff,v,uV (np:Nat)] 287 (0,0))
 own:w.ownsRow 0 290 5 v L.length (fl EI L)
 off:v.ownBlock≠some hb
section
variable {w w':World} {hb ff np:Nat} {v:Value} {L:List It}
theorem Hb.lt(h:Hb w hb ff v L np):hb<w.heap.size:=(aG.1 h.blk).1
theorem Hb.c0(h:Hb w hb ff v L np):w.cell? ⟨hb,0,none⟩=some (fv ff):=by simp[World.cell?,h.blk]
theorem Hb.c1(h:Hb w hb ff v L np):w.cell? ⟨hb,1,none⟩=some v:=by simp[World.cell?,h.blk]
theorem Hb.c2(h:Hb w hb ff v L np):w.cell? ⟨hb,2,none⟩=some (uV (np:Nat)):=by simp[World.cell?,h.blk]
theorem Hb.fz(h:Hb w hb ff v L np)(o:Nat):w.frozen? ⟨hb,o,none⟩=false:=by simp[World.frozen?,h.blk]
theorem Hb.qF(h:Hb w hb ff v L np):Ls EI w v L:=aK (E:=EI) h.own
theorem Hb.row(h:Hb w hb ff v L np):∀k,v.ownBlock=some k->k<w.heap.size:=fun k hk=>(h.own.lt k hk).2
theorem Hb.kp{S:Nat->Prop}(h:Hb w hb ff v L np)(hk:Kp S w w')(h1:¬S hb)(h2:∀k,v.ownBlock=some k->¬S k):Hb w' hb ff v L np:=
 ⟨(hk.block hb h.lt h1).trans h.blk,ax hk h.own h2,h.off⟩
theorem Hb.below(h:Hb w hb ff v L np)(hb':Bw w w'):Hb w' hb ff v L np:=h.kp (S:=fun _=>False) (Kp.of_below hb') (fun h=>h) (fun _ _ h=>h)
theorem Hb.gr(h:Hb w hb ff v L np)(hg:Gr w w'):Hb w' hb ff v L np:=h.below hg.below
end
theorem lY{n:Value}(h:w.heap[hb]? =some (.cells #[fv ff,v,n] 287 (0,0))):
    (∀v2,(w.setCell ⟨hb,1,none⟩ v2).heap[hb]? =some (.cells #[fv ff,v2,n] 287 (0,0))/\Kp (fun k=>k=hb) w (w.setCell ⟨hb,1,none⟩ v2))/\(∀n2,(w.setCell ⟨hb,2,none⟩ n2).heap[hb]? =some (.cells #[fv ff,v,n2] 287 (0,0))/\Kp (fun k=>k=hb) w (w.setCell ⟨hb,2,none⟩ n2)):=by
 refine⟨fun v2=> ?_,fun n2=> ?_⟩
 ·have e:=setCell_eq_setRow w hb 1 _ _ _ v2 h;rw[e];exact⟨by rw[setRow_heap w hb _ _ _ _ h];simp,rfl,rfl,rfl,by simp[World.setRow],fun k _ hne=>setRow_other w hb k _ (by omega)⟩
 ·have e:=setCell_eq_setRow w hb 2 _ _ _ n2 h;rw[e];exact⟨by rw[setRow_heap w hb _ _ _ _ h];simp,rfl,rfl,rfl,by simp[World.setRow],fun k _ hne=>setRow_other w hb k _ (by omega)⟩
theorem Hb.DF{L:List It}(h:Hb w hb ff v L np)(n:Nat):Hb (w.setCell ⟨hb,2,none⟩ (uV n)) hb ff v L n/\Kp (fun k=>k=hb) w (w.setCell ⟨hb,2,none⟩ (uV n)):=by
 obtain⟨h1,h2⟩:=(lY h.blk).2 (uV n);exact⟨⟨h1,ax h2 h.own (fun k hk e=>h.off (e ▸ hk)),h.off⟩,h2⟩
theorem cO{e:TypeId}{s n q:Nat}{xs:List Value}(u:Value)(h:w.ownsRow 0 e s (sO g n cap) n xs):
    (w.setCell ⟨g,q,none⟩ u).ownsRow 0 e s (sO g n cap) n (xs.set q u)/\Kp (fun k=>k=g) w (w.setCell ⟨g,q,none⟩ u):=by
 obtain⟨h1,⟨h0,_⟩|⟨g',cap',cur,hv,hg,hh,h2,h3,h4,h5⟩⟩:=h
 ·cases h0
 ·cases hv;have e1:=setCell_eq_setRow w g q _ _ _ u hh;have hk1:Kp (fun k=>k=g) w (w.setCell ⟨g,q,none⟩ u):=by
   rw[e1];exact⟨rfl,rfl,rfl,by simp[World.setRow],fun q _ hne=>setRow_other _ g q _ (by omega)⟩
  refine⟨⟨by simpa using h1,Or.inr ⟨g,cap,_,rfl,hg,by rw[e1];exact setRow_heap _ g _ _ _ _ hh,h2,h3, ?_, ?_⟩⟩,hk1⟩
  ·simp[h4]
  ·rw[Array.toList_setIfInBounds,List.take_set,h5]
theorem Cs(L:List It)(i:Nat)(x:It):((((((fl EI L).set (i*5) (iV x.1.1)).set (i*5+1) (uV x.1.2.1.1)).set (i*5+2) (uV x.1.2.1.2.1)).set (i*5+3) (uV x.1.2.1.2.2)).set (i*5+4) (uV (x.2:Nat)))=fl EI (L.set i x):=by
 induction L generalizing i with
 | nil => simp[fl]
 | cons y L ih=>
  rw[aR];cases i with
  | zero => simp[EI,fl]
  | succ i=>
   rw[List.set_cons_succ,aR,<-ih i,show(i+1)*5=i*5+5 by omega];simp[EI]
theorem fM{N i:Nat}{L:List It}(x:It)(h:w.ownsRow 0 290 5 (sO g N cap) N (fl EI L)):(((((w.setCell ⟨g,i*5,none⟩ (iV x.1.1)).setCell ⟨g,i*5+1,none⟩ (uV x.1.2.1.1)).setCell ⟨g,i*5+2,none⟩ (uV x.1.2.1.2.1)).setCell ⟨g,i*5+3,none⟩ (uV x.1.2.1.2.2)).setCell ⟨g,i*5+4,none⟩ (uV (x.2:Nat))).ownsRow 0 290 5 (sO g N cap) N (fl EI (L.set i x))/\Kp (fun k=>k=g) w (((((w.setCell ⟨g,i*5,none⟩ (iV x.1.1)).setCell ⟨g,i*5+1,none⟩ (uV x.1.2.1.1)).setCell ⟨g,i*5+2,none⟩ (uV x.1.2.1.2.1)).setCell ⟨g,i*5+3,none⟩ (uV x.1.2.1.2.2)).setCell ⟨g,i*5+4,none⟩ (uV (x.2:Nat))):=by
 obtain⟨h0,m0⟩:=cO (q:=i*5) (iV x.1.1) h;obtain⟨h1,m1⟩:=cO (q:=i*5+1) (uV x.1.2.1.1) h0;obtain⟨h2,m2⟩:=cO (q:=i*5+2) (uV x.1.2.1.2.1) h1;obtain⟨h3,m3⟩:=cO (q:=i*5+3) (uV x.1.2.1.2.2) h2;obtain⟨h4,m4⟩:=cO (q:=i*5+4) (uV (x.2:Nat)) h3;refine⟨?_,((((m0.tr m1).tr m2).tr m3).tr m4)⟩;rw[<-Cs];exact h4
def dX(hb:Nat)(v v':Value)(w w':World):Prop:=Kp (fun k=>k=hb\/v.ownBlock=some k) w w'/\∀g,v'.ownBlock=some g->v.ownBlock=some g\/w.heap.size<=g
theorem gD(i:Nat)(h0:0<i)(hl:i<9223372036854775807)(w:World):CL 147 #[iV i] w fun e w'=>e= .returned (iV (par i:Nat))/\w'=w:=by
 have hz:((i:Int)-1).tdiv 2=(par i:Nat):=by
  unfold par;rw[Int.tdiv_eq_ediv_of_nonneg (by omega)];omega
 go_enter Tryz.func147,Tryz.ntmps147;go_wp2;go_ret;refine⟨?_,rfl⟩;have hw:wrap64 (par i:Nat)=(par i:Nat):=by unfold wrap64;have:=fD h0;omega
 show Ending.returned (Value.int _ (wrap64 (par i:Nat)))=_;rw[hw]
theorem kS(ff:Nat)(r:Th->Th->Bool)(hF:dZ ff r)(x y:It)(hb:Nat)(w:World)(hlt:hb<w.heap.size)(cf:aj w hb 0 (fv ff)):
    CL 246 #[aB hb,iv x,iv y] w fun e w'=>e= .returned (.bool (aX r x y))/\Gr w w':=by
 have he:=hF.enter;have hc1:=hF.calls y.1 x.1;have hc2:=hF.calls x.1 y.1;have hm:Tryz.prog.follows .mixedOrders=true:=by kernel_rfl
 obtain⟨W1,hW1⟩:=aF ((w.alloc (.cells #[iV x.1.1,uV x.1.2.1.1,uV x.1.2.1.2.1,uV x.1.2.1.2.2,uV (x.2:Nat)] 290)).alloc (.cells #[iV y.1.1,uV y.1.2.1.1,uV y.1.2.1.2.1,uV y.1.2.1.2.2,uV (y.2:Nat)] 290));have G1:Gr w W1:=by rw[hW1];exact((Gr.refl _).alloc _).alloc _
 have hz:w.heap.size+1<W1.heap.size:=by rw[hW1];simp
 obtain⟨nb,hnb⟩:=aF (w.heap.size);have k0:=cell_grown (a:=⟨hb,0,none⟩) (nU hlt (Nat.lt_of_succ_lt hz)) ((G1.cell hlt).trans cf);obtain⟨p0,p1,p2,p3,p4⟩:W1.cell? ⟨nb,0,none⟩=some (iV x.1.1)/\W1.cell? ⟨nb,1,none⟩=some (uV x.1.2.1.1)/\W1.cell? ⟨nb,2,none⟩=some (uV x.1.2.1.2.1)/\W1.cell? ⟨nb,3,none⟩=some (uV x.1.2.1.2.2)/\W1.cell? ⟨nb,4,none⟩=some (uV (x.2:Nat)):=by rw[hW1,hnb];simp
 obtain⟨q0,q1,q2,q3,q4⟩:W1.cell? ⟨nb+1,0,none⟩=some (iV y.1.1)/\W1.cell? ⟨nb+1,1,none⟩=some (uV y.1.2.1.1)/\W1.cell? ⟨nb+1,2,none⟩=some (uV y.1.2.1.2.1)/\W1.cell? ⟨nb+1,3,none⟩=some (uV y.1.2.1.2.2)/\W1.cell? ⟨nb+1,4,none⟩=some (uV (y.2:Nat)):=by rw[hW1,hnb];simp
 have k10:=cell_grown (w:=W1) (a:=⟨nb,0,none⟩) (by rw[hnb];exact Nat.lt_of_succ_lt hz) p0;have k11:=cell_grown (w:=W1) (a:=⟨nb,1,none⟩) (by rw[hnb];exact Nat.lt_of_succ_lt hz) p1;have k12:=cell_grown (w:=W1) (a:=⟨nb,2,none⟩) (by rw[hnb];exact Nat.lt_of_succ_lt hz) p2;have k13:=cell_grown (w:=W1) (a:=⟨nb,3,none⟩) (by rw[hnb];exact Nat.lt_of_succ_lt hz) p3;have k14:=cell_grown (w:=W1) (a:=⟨nb,4,none⟩) (by rw[hnb];exact Nat.lt_of_succ_lt hz) p4;have k20:=cell_grown (w:=W1) (a:=⟨nb+1,0,none⟩) (by rw[hnb];exact hz) q0;have k21:=cell_grown (w:=W1) (a:=⟨nb+1,1,none⟩) (by rw[hnb];exact hz) q1;have k22:=cell_grown (w:=W1) (a:=⟨nb+1,2,none⟩) (by rw[hnb];exact hz) q2;have k23:=cell_grown (w:=W1) (a:=⟨nb+1,3,none⟩) (by rw[hnb];exact hz) q3;have k24:=cell_grown (w:=W1) (a:=⟨nb+1,4,none⟩) (by rw[hnb];exact hz) q4;by_cases hlt2:x.2<y.2
 ·have hlz:(x.2:Int)<(y.2:Int):=by omega
  have HA:Hid (aX r x y= !r y.1 x.1):=by unfold aX;rw[if_pos hlt2];rfl
  rw[HA.o];generalize r y.1 x.1=rr at hc1⊢;clear hc2 HA;go_enter Tryz.func246,Tryz.ntmps246;go_upto_region 2 with fail;rw[<-hW1,<-hnb];clear hW1 hnb cf;go_quiet_grown (first|(go_at_fn ff;refine Calls.grown_of (v:= .bool rr) (hc1 _)));go_wp2;go_ret;exact⟨rfl,(G1.drewN _).grown _⟩
 ·have hlz:¬(x.2:Int)<(y.2:Int):=by omega
  have HA:Hid (aX r x y=r x.1 y.1):=by unfold aX;rw[if_neg hlt2];rfl
  rw[HA.o];generalize r x.1 y.1=rr at hc2⊢;clear hc1 HA;go_enter Tryz.func246,Tryz.ntmps246;go_upto_region 3 with fail;rw[<-hW1,<-hnb];clear hW1 hnb cf;go_quiet_grown (first|(go_at_fn ff;refine Calls.grown_of (v:= .bool rr) (hc2 _)));go_wp2;go_ret;exact⟨rfl,(G1.drewN _).grown _⟩
theorem vY{L:List It}{r:Th->Th->Bool}(x:It)(w:World)(hH:Hb w hb ff v L np)(hl:L.length<=140737488355328)(hF:dZ ff r):
    CL 186 #[aB hb,iv x] w fun e w'=>∃at_:Nat,e= .returned (iV at_)/\Wy (QU (aX r) L x) L.length at_/\(at_=0\/∃y,L[par at_]? =some y/\aX r x y=false)/\Gr w w':=by
 have hmx:Tryz.prog.follows .mixedOrders=true:=by kernel_rfl
 have ep:∀args w,(callFunc 147 args).run Tryz.prog w= .ok (.enter 147 args) w:=enters_of Tryz.func147 (by kernel_rfl) rfl;obtain⟨pl,cl,rfl⟩:=hH.qF.form;obtain⟨B0,hB0⟩:=aF (w.heap.size);obtain⟨W1,hW1⟩:=aF (w.alloc (.cells #[iV x.1.1,uV x.1.2.1.1,uV x.1.2.1.2.1,uV x.1.2.1.2.2,uV (x.2:Nat)] 290));have G1:Gr w W1:=by rw[hW1];exact(Gr.refl _).alloc _
 have HG:Hid (Gr w W1):=G1;have hB:B0<W1.heap.size:=by rw[hW1,hB0];simp
 obtain⟨q0,q1,q2,q3,q4⟩:W1.cell? ⟨B0,0,none⟩=some (iV x.1.1)/\W1.cell? ⟨B0,1,none⟩=some (uV x.1.2.1.1)/\W1.cell? ⟨B0,2,none⟩=some (uV x.1.2.1.2.1)/\W1.cell? ⟨B0,3,none⟩=some (uV x.1.2.1.2.2)/\W1.cell? ⟨B0,4,none⟩=some (uV (x.2:Nat)):=by rw[hW1,hB0];simp
 have hH1:=hH.gr G1;have HL:Hid (Ls EI W1 (.slice pl L.length cl) L):=hH1.qF;have k0:=hH1.c0;have k1:=hH1.c1;have kl:=hH1.lt;have k1w:=hH.c1;have klw:=hH.lt;have HF:Hid (dZ ff r):=hF;clear hH hH1 G1 hF;go_enter Tryz.func186,Tryz.ntmps186;go_wp2_with fail;rw[<-hW1,<-hB0];clear hW1 hB0 k1w klw;go_loopw [5] (fun s5 wr=>∃a:Nat,a<=L.length/\s5=iV a/\Gr W1 wr/\Hid (Wy (QU (aX r) L x) L.length a)) (fun s5 _=>(intOf s5).toNat);case atStart=>exact⟨L.length,nR _,rfl,Gr.refl _, .refl _⟩
 case round=>
  obtain⟨a,hal,rfl,hgr,AA⟩:=hrel;by_cases h0:a=0
  ·subst h0;go_upto_region 2 with fail;go_quiet (fail);go_wp2;go_ret;exact⟨0,rfl,AA.o,Or.inl rfl,HG.o.trans (hgr.drewN _)⟩
  ·have ha0:0<a:=Nat.pos_of_ne_zero h0;have haz:(0:Int)<(a:Int):=(by omega);have Ej:=fD ha0;have hpz:(par a:Int)<(L.length:Int):=(by omega);have hp0:(0:Int)<=(par a:Int):=(by omega);obtain⟨y,hy⟩:∃y,L[par a]? =some y:=⟨L[par a]'(by omega),by rw[p8]⟩;obtain⟨b1,o1,c1,e1,z1,x0,x1,x2,x3,x4⟩:=gV (HL.o.below hgr.below) hy;simp only[vS]at e1;obtain⟨rfl,-,rfl⟩:=e1;have HY:Hid (L[par a]? =some y):=hy;have S0:(wr.drew.cell? ⟨b1,o1+par a*5,none⟩=some (iV y.1.1)/\wr.drew.cell? ⟨b1,o1+par a*5+1,none⟩=some (uV y.1.2.1.1)/\wr.drew.cell? ⟨b1,o1+par a*5+2,none⟩=some (uV y.1.2.1.2.1)/\wr.drew.cell? ⟨b1,o1+par a*5+3,none⟩=some (uV y.1.2.1.2.2)/\wr.drew.cell? ⟨b1,o1+par a*5+4,none⟩=some (uV (y.2:Nat))/\wr.drew.cell? ⟨B0,0,none⟩=some (iV x.1.1)/\wr.drew.cell? ⟨B0,1,none⟩=some (uV x.1.2.1.1)/\wr.drew.cell? ⟨B0,2,none⟩=some (uV x.1.2.1.2.1)/\wr.drew.cell? ⟨B0,3,none⟩=some (uV x.1.2.1.2.2)/\wr.drew.cell? ⟨B0,4,none⟩=some (uV (x.2:Nat))/\wr.drew.cell? ⟨hb,0,none⟩=some (fv ff)/\wr.drew.cell? ⟨hb,1,none⟩=some (.slice (some ⟨b1,o1,none⟩) L.length cl)/\b1<wr.drew.heap.size/\B0<wr.drew.heap.size/\hb<wr.drew.heap.size):=⟨x0,x1,x2,x3,x4,(hgr.cell hB).trans q0,(hgr.cell hB).trans q1,(hgr.cell hB).trans q2,(hgr.cell hB).trans q3,(hgr.cell hB).trans q4,(hgr.cell kl).trans k0,(hgr.cell kl).trans k1,z1,nL hB hgr.size,nL kl hgr.size⟩;have il:∀W W':World,(aj W b1 (o1+par a*5) (iV y.1.1)/\aj W b1 (o1+par a*5+1) (uV y.1.2.1.1)/\aj W b1 (o1+par a*5+2) (uV y.1.2.1.2.1)/\aj W b1 (o1+par a*5+3) (uV y.1.2.1.2.2)/\aj W b1 (o1+par a*5+4) (uV (y.2:Nat))/\aj W B0 0 (iV x.1.1)/\aj W B0 1 (uV x.1.2.1.1)/\aj W B0 2 (uV x.1.2.1.2.1)/\aj W B0 3 (uV x.1.2.1.2.2)/\aj W B0 4 (uV (x.2:Nat))/\aj W hb 0 (fv ff)/\aj W hb 1 (.slice (some ⟨b1,o1,none⟩) L.length cl)/\b1<W.heap.size/\B0<W.heap.size/\hb<W.heap.size)->Gr W W'->(aj W' b1 (o1+par a*5) (iV y.1.1)/\aj W' b1 (o1+par a*5+1) (uV y.1.2.1.1)/\aj W' b1 (o1+par a*5+2) (uV y.1.2.1.2.1)/\aj W' b1 (o1+par a*5+3) (uV y.1.2.1.2.2)/\aj W' b1 (o1+par a*5+4) (uV (y.2:Nat))/\aj W' B0 0 (iV x.1.1)/\aj W' B0 1 (uV x.1.2.1.1)/\aj W' B0 2 (uV x.1.2.1.2.1)/\aj W' B0 3 (uV x.1.2.1.2.2)/\aj W' B0 4 (uV (x.2:Nat))/\aj W' hb 0 (fv ff)/\aj W' hb 1 (.slice (some ⟨b1,o1,none⟩) L.length cl)/\b1<W'.heap.size/\B0<W'.heap.size/\hb<W'.heap.size):=by
    rintro W W' ⟨a0,a1,a2,a3,a4,b0,b1,b2,b3,b4,d0,d1,d2,d3,d4⟩ hg;exact⟨(hg.cell d2).trans a0,(hg.cell d2).trans a1,(hg.cell d2).trans a2,(hg.cell d2).trans a3,(hg.cell d2).trans a4,(hg.cell d3).trans b0,(hg.cell d3).trans b1,(hg.cell d3).trans b2,(hg.cell d3).trans b3,(hg.cell d3).trans b4,(hg.cell d4).trans d0,(hg.cell d4).trans d1,nL d2 hg.size,nL d3 hg.size,nL d4 hg.size⟩
   have pK:∀W,CL 147 #[iV a] W fun e w'=>e= .returned (iV (par a:Nat))/\w'=W:=fun W=>gD a ha0 (by omega) W;have hah:∀W:World,hb<W.heap.size->aj W hb 0 (fv ff)->CL 246 #[aB hb,iv x,iv y] W fun e w'=>e= .returned (.bool (aX r x y))/\Gr W w':=fun W h1 h2=>kS ff r HF.o x y hb W h1 h2;have QF:Hid (Gr W1 wr.drew):=hgr.drew;have Fy:Hid (par a<a):=Ej;have QI:Hid (a<=L.length):=hal;have hr:aX r x y=true\/aX r x y=false:=(by cases aX r x y;exact Or.inr rfl;exact Or.inl rfl);clear hy hgr x0 x1 x2 x3 x4 Ej;have dh0:wr.drew.cell? ⟨hb,0,none⟩=some (fv ff):=S0.2.2.2.2.2.2.2.2.2.2.1;have dh1:hb<wr.drew.heap.size:=S0.2.2.2.2.2.2.2.2.2.2.2.2.2.2;rcases hr with hr|hr
   ·have HR:Hid (aX r x y=true):=hr;rw[hr]at hah;clear hr;go_upto_region 2 with fail;go_region_held3 (fun w'=>aj w' b1 (o1+par a*5) (iV y.1.1)/\aj w' b1 (o1+par a*5+1) (uV y.1.2.1.1)/\aj w' b1 (o1+par a*5+2) (uV y.1.2.1.2.1)/\aj w' b1 (o1+par a*5+3) (uV y.1.2.1.2.2)/\aj w' b1 (o1+par a*5+4) (uV (y.2:Nat))/\aj w' B0 0 (iV x.1.1)/\aj w' B0 1 (uV x.1.2.1.1)/\aj w' B0 2 (uV x.1.2.1.2.1)/\aj w' B0 3 (uV x.1.2.1.2.2)/\aj w' B0 4 (uV (x.2:Nat))/\aj w' hb 0 (fv ff)/\aj w' hb 1 (.slice (some ⟨b1,o1,none⟩) L.length cl)/\b1<w'.heap.size/\B0<w'.heap.size/\hb<w'.heap.size)
     (first|exact S0|exact il _ _ (by assumption) (by assumption)|assumption)
     (first|(go_at_call 147;refine(pK _).mono ?_;rintro e w4 ⟨rfl,rfl⟩)|(go_at_call 246;refine(hah _ (by assumption) (by assumption)).mono ?_;rintro e w5 ⟨rfl,hg5⟩))
    go_wp2_with (go_at_call 147;refine(pK _).mono ?_;rintro e w6 ⟨rfl,rfl⟩);go_roundw;case rel=>exact⟨par a,nE (nL Fy.o QI.o),rfl,QF.o.trans hg5,AA.o.snoc ha0 ⟨y,HY.o,HR.o⟩⟩
    case measure=>simp[intOf];exact Fy.o
   ·have HR:Hid (aX r x y=false):=hr;rw[hr]at hah;clear hr;go_upto_region 2 with fail;go_region_held3 (fun w'=>aj w' b1 (o1+par a*5) (iV y.1.1)/\aj w' b1 (o1+par a*5+1) (uV y.1.2.1.1)/\aj w' b1 (o1+par a*5+2) (uV y.1.2.1.2.1)/\aj w' b1 (o1+par a*5+3) (uV y.1.2.1.2.2)/\aj w' b1 (o1+par a*5+4) (uV (y.2:Nat))/\aj w' B0 0 (iV x.1.1)/\aj w' B0 1 (uV x.1.2.1.1)/\aj w' B0 2 (uV x.1.2.1.2.1)/\aj w' B0 3 (uV x.1.2.1.2.2)/\aj w' B0 4 (uV (x.2:Nat))/\aj w' hb 0 (fv ff)/\aj w' hb 1 (.slice (some ⟨b1,o1,none⟩) L.length cl)/\b1<w'.heap.size/\B0<w'.heap.size/\hb<w'.heap.size)
     (first|exact S0|exact il _ _ (by assumption) (by assumption)|assumption)
     (first|(go_at_call 147;refine(pK _).mono ?_;rintro e w4 ⟨rfl,rfl⟩)|(go_at_call 246;refine(hah _ (by assumption) (by assumption)).mono ?_;rintro e w5 ⟨rfl,hg5⟩))
    go_wp2;go_ret;exact⟨a,rfl,AA.o,Or.inr ⟨y,HY.o,HR.o⟩,HG.o.trans (QF.o.trans hg5)⟩
theorem Bt{q:It->It->Bool}{M:List It}{a d:Nat}{p:It}(h:pQ q M a d p):a<d:=by
 rcases h.2 with h|h
 ·have:=h.1;omega
 ·have:=h.1;omega
theorem qA{r:Th->Th->Bool}(u:Value)(M:List It)(x:It)(w:World)(kl:hb<w.heap.size)(k0:aj w hb 0 (fv ff))(hu:Ls EI w u M)(hl:M.length<=140737488355328)(hF:dZ ff r):
    CL 188 #[aB hb,u,iv x] w fun e w'=>∃at_:Nat,e= .returned (iV at_)/\Dn (aX r) M x at_/\oC (aX r) M x at_/\Gr w w':=by
 have hmx:Tryz.prog.follows .mixedOrders=true:=by kernel_rfl
 obtain⟨pl,cl,rfl⟩:=hu.form;obtain⟨B0,hB0⟩:=aF (w.heap.size);obtain⟨W1,hW1⟩:=aF (w.alloc (.cells #[iV x.1.1,uV x.1.2.1.1,uV x.1.2.1.2.1,uV x.1.2.1.2.2,uV (x.2:Nat)] 290));have G1:Gr w W1:=by rw[hW1];exact(Gr.refl _).alloc _
 have HG:Hid (Gr w W1):=G1;have hB:B0<W1.heap.size:=by rw[hW1,hB0];simp
 obtain⟨q0,q1,q2,q3,q4⟩:W1.cell? ⟨B0,0,none⟩=some (iV x.1.1)/\W1.cell? ⟨B0,1,none⟩=some (uV x.1.2.1.1)/\W1.cell? ⟨B0,2,none⟩=some (uV x.1.2.1.2.1)/\W1.cell? ⟨B0,3,none⟩=some (uV x.1.2.1.2.2)/\W1.cell? ⟨B0,4,none⟩=some (uV (x.2:Nat)):=by rw[hW1,hB0];simp
 have HL:Hid (Ls EI W1 (.slice pl M.length cl) M):=hu.below G1.below;have Te:hb<W1.heap.size:=nL kl G1.size;have k01:=(G1.cell kl).trans k0;have hah:∀(y z:It) (W:World),hb<W.heap.size->aj W hb 0 (fv ff)->CL 246 #[aB hb,iv y,iv z] W fun e w'=>e= .returned (.bool (aX r y z))/\Gr W w':=fun y z W h1 h2=>kS ff r hF y z hb W h1 h2;have VC:Hid (∀(y z:It) (W:World),hb<W.heap.size->aj W hb 0 (fv ff)->CL 246 #[aB hb,iv y,iv z] W fun e w'=>e= .returned (.bool (aX r y z))/\Gr W w'):=hah;clear hu G1 hF kl k0 hah;go_enter Tryz.func188,Tryz.ntmps188;go_wp2_with fail;rw[<-hW1,<-hB0];clear hW1 hB0;go_loopw [7,8,9] (fun s7 s8 _ wr=>∃a c:Nat,a<=M.length/\s7=iV a/\s8=iV c/\Hid (c=2*a+1)/\Gr W1 wr/\Hid (Dn (aX r) M x a)) (fun s7 _ _ _=>M.length-(intOf s7).toNat);case atStart=>exact⟨0,1,zL _,rfl,rfl,rfl,Gr.refl _,⟨Or.inl rfl, .refl _⟩⟩
 case round=>
  obtain⟨a,c,hal,rfl,rfl,yB,hgr,AA⟩:=hrel;by_cases hlt:c<M.length
  ·have hltz:(c:Int)<(M.length:Int):=(by omega);obtain⟨y,hy⟩:∃y,M[c]? =some y:=⟨M[c]'hlt,by rw[p8]⟩;obtain⟨b1,o1,c1,e1,z1,x0,x1,x2,x3,x4⟩:=gV (HL.o.below hgr.below) hy;simp only[vS]at e1;obtain⟨rfl,-,rfl⟩:=e1;have HY:Hid (M[c]? =some y):=hy;have Y0:=(hgr.cell Te).trans k01;have YZ:=nL Te hgr.size;have QF:Hid (Gr W1 wr):=hgr;have HX:Hid (aj wr b1 (o1+c*5) (iV y.1.1)/\aj wr b1 (o1+c*5+1) (uV y.1.2.1.1)/\aj wr b1 (o1+c*5+2) (uV y.1.2.1.2.1)/\aj wr b1 (o1+c*5+3) (uV y.1.2.1.2.2)/\aj wr b1 (o1+c*5+4) (uV (y.2:Nat))):=⟨x0,x1,x2,x3,x4⟩;clear hy hgr x0 x1 x2 x3 x4;go_upto_region 6 with fail;go_cut [34] (fun sb w'=>∃b:Bool,sb= .bool b/\Hid (∃p,pQ (aX r) M a (if b then c+1 else c) p)/\Gr W1 w');case first=>
    by_cases hlt2:c+1<M.length
    ·have Pj:(c:Int)+1<(M.length:Int):=(by omega);have hd0:(0:Int)<=(c:Int)+1:=(by omega);have hc0:(0:Int)<=(c:Int):=(by omega);obtain⟨z,hz⟩:∃z,M[c+1]? =some z:=⟨M[c+1]'hlt2,by rw[p8]⟩;obtain⟨b2,o2,c2,e2,z2,y0,y1,y2,y3,y4⟩:=gV (HL.o.below QF.o.below) hz;simp only[vS,oI,aI,and_true]at e2;obtain⟨⟨rfl,rfl⟩,-,rfl⟩:=e2;have HZ:Hid (M[c+1]? =some z):=hz;obtain⟨x0,x1,x2,x3,x4⟩:=HX.o;have S0:(wr.drew.cell? ⟨b1,o1+(c+1)*5,none⟩=some (iV z.1.1)/\wr.drew.cell? ⟨b1,o1+(c+1)*5+1,none⟩=some (uV z.1.2.1.1)/\wr.drew.cell? ⟨b1,o1+(c+1)*5+2,none⟩=some (uV z.1.2.1.2.1)/\wr.drew.cell? ⟨b1,o1+(c+1)*5+3,none⟩=some (uV z.1.2.1.2.2)/\wr.drew.cell? ⟨b1,o1+(c+1)*5+4,none⟩=some (uV (z.2:Nat))/\wr.drew.cell? ⟨b1,o1+c*5,none⟩=some (iV y.1.1)/\wr.drew.cell? ⟨b1,o1+c*5+1,none⟩=some (uV y.1.2.1.1)/\wr.drew.cell? ⟨b1,o1+c*5+2,none⟩=some (uV y.1.2.1.2.1)/\wr.drew.cell? ⟨b1,o1+c*5+3,none⟩=some (uV y.1.2.1.2.2)/\wr.drew.cell? ⟨b1,o1+c*5+4,none⟩=some (uV (y.2:Nat))/\wr.drew.cell? ⟨hb,0,none⟩=some (fv ff)/\b1<wr.drew.heap.size/\hb<wr.drew.heap.size):=⟨y0,y1,y2,y3,y4,x0,x1,x2,x3,x4,Y0,z1,YZ⟩;have il:∀W W':World,(W.cell? ⟨b1,o1+(c+1)*5,none⟩=some (iV z.1.1)/\W.cell? ⟨b1,o1+(c+1)*5+1,none⟩=some (uV z.1.2.1.1)/\W.cell? ⟨b1,o1+(c+1)*5+2,none⟩=some (uV z.1.2.1.2.1)/\W.cell? ⟨b1,o1+(c+1)*5+3,none⟩=some (uV z.1.2.1.2.2)/\W.cell? ⟨b1,o1+(c+1)*5+4,none⟩=some (uV (z.2:Nat))/\aj W b1 (o1+c*5) (iV y.1.1)/\aj W b1 (o1+c*5+1) (uV y.1.2.1.1)/\aj W b1 (o1+c*5+2) (uV y.1.2.1.2.1)/\aj W b1 (o1+c*5+3) (uV y.1.2.1.2.2)/\aj W b1 (o1+c*5+4) (uV (y.2:Nat))/\aj W hb 0 (fv ff)/\b1<W.heap.size/\hb<W.heap.size)->Gr W W'->(W'.cell? ⟨b1,o1+(c+1)*5,none⟩=some (iV z.1.1)/\W'.cell? ⟨b1,o1+(c+1)*5+1,none⟩=some (uV z.1.2.1.1)/\W'.cell? ⟨b1,o1+(c+1)*5+2,none⟩=some (uV z.1.2.1.2.1)/\W'.cell? ⟨b1,o1+(c+1)*5+3,none⟩=some (uV z.1.2.1.2.2)/\W'.cell? ⟨b1,o1+(c+1)*5+4,none⟩=some (uV (z.2:Nat))/\aj W' b1 (o1+c*5) (iV y.1.1)/\aj W' b1 (o1+c*5+1) (uV y.1.2.1.1)/\aj W' b1 (o1+c*5+2) (uV y.1.2.1.2.1)/\aj W' b1 (o1+c*5+3) (uV y.1.2.1.2.2)/\aj W' b1 (o1+c*5+4) (uV (y.2:Nat))/\aj W' hb 0 (fv ff)/\b1<W'.heap.size/\hb<W'.heap.size):=by
      rintro W W' ⟨a0,a1,a2,a3,a4,b0,b1,b2,b3,b4,d0,d1,d2⟩ hg;exact⟨(hg.cell d1).trans a0,(hg.cell d1).trans a1,(hg.cell d1).trans a2,(hg.cell d1).trans a3,(hg.cell d1).trans a4,(hg.cell d1).trans b0,(hg.cell d1).trans b1,(hg.cell d1).trans b2,(hg.cell d1).trans b3,(hg.cell d1).trans b4,(hg.cell d2).trans d0,nL d1 hg.size,nL d2 hg.size⟩
     have hah:=VC.o z y;obtain⟨bb,hr⟩:∃bb,aX r z y=bb:=⟨_,rfl⟩;rw[hr]at hah;have HP:Hid (∃p,pQ (aX r) M a (if bb then c+1 else c) p):=by
      cases bb
      ·exact⟨y,HY.o,Or.inl ⟨yB.o,fun z' hz'=>by
         have hzz:=HZ.o;rw[show c+1=2*a+2 by have:=yB.o;omega,hz']at hzz;cases hzz;exact hr⟩⟩
      ·exact⟨z,HZ.o,Or.inr ⟨by rw[yB.o];rfl,y,by rw[<-yB.o];exact HY.o,hr⟩⟩
     have HGD:Hid (Gr W1 wr.drew):=QF.o.drew;have kd0:wr.drew.cell? ⟨hb,0,none⟩=some (fv ff):=Y0;have kdl:hb<wr.drew.heap.size:=YZ;clear hz hr x0 x1 x2 x3 x4 y0 y1 y2 y3 y4;go_region_held3 (fun w'=>w'.cell? ⟨b1,o1+(c+1)*5,none⟩=some (iV z.1.1)/\w'.cell? ⟨b1,o1+(c+1)*5+1,none⟩=some (uV z.1.2.1.1)/\w'.cell? ⟨b1,o1+(c+1)*5+2,none⟩=some (uV z.1.2.1.2.1)/\w'.cell? ⟨b1,o1+(c+1)*5+3,none⟩=some (uV z.1.2.1.2.2)/\w'.cell? ⟨b1,o1+(c+1)*5+4,none⟩=some (uV (z.2:Nat))/\aj w' b1 (o1+c*5) (iV y.1.1)/\aj w' b1 (o1+c*5+1) (uV y.1.2.1.1)/\aj w' b1 (o1+c*5+2) (uV y.1.2.1.2.1)/\aj w' b1 (o1+c*5+3) (uV y.1.2.1.2.2)/\aj w' b1 (o1+c*5+4) (uV (y.2:Nat))/\aj w' hb 0 (fv ff)/\b1<w'.heap.size/\hb<w'.heap.size)
      (first|exact S0|exact il _ _ (by assumption) (by assumption)|assumption)
      (first|(go_at_call 246;refine(hah _ (by assumption) (by assumption)).mono ?_;rintro e w5 ⟨rfl,hg5⟩))
     go_wp2_with fail;go_meet;exact⟨bb,rfl,HP,HGD.o.trans hg5⟩
    ·have Pj:¬(c:Int)+1<(M.length:Int):=(by omega);have hc0:(0:Int)<=(c:Int):=(by omega);have HP:Hid (∃p,pQ (aX r) M a (if false then c+1 else c) p):=⟨y,HY.o,Or.inl ⟨yB.o,fun z' hz'=>by
      have:=(lG.1 hz').1;have:=yB.o;omega⟩⟩
     go_quiet (fail);go_wp2_with fail;go_meet;exact⟨false,rfl,HP,QF.o.drewN _⟩
   case rest=>
    obtain⟨bb,rfl,HPb,hgb⟩:=hcut;clear HX HY Y0 YZ z1;go_upto_if 34 with fail;go_cut [8] (fun s8 w'=>∃(d:Nat) (p:It),s8=iV d/\Hid (pQ (aX r) M a d p)/\Gr W1 w');case first=>
     obtain⟨p,hp⟩:=HPb.o;cases bb
     ·go_wp2_with fail;go_meet;exact⟨c,p,rfl,hp,hgb⟩
     ·go_wp2_with fail;go_meet;exact⟨c+1,p,by first|rfl|simp,hp,hgb⟩
    case rest=>
     obtain⟨d,y,rfl,HP,hgc⟩:=hcut;have yI:Hid (Gr W1 wc):=hgc;obtain⟨b2,o2,c2,e2,z2,y0,y1,y2,y3,y4⟩:=gV (HL.o.below hgc.below) HP.o.1;simp only[vS,oI,aI,and_true]at e2;obtain⟨⟨rfl,rfl⟩,-,rfl⟩:=e2;have hdl:d<M.length:=(lG.1 HP.o.1).1;have hdz:(d:Int)<(M.length:Int):=(by omega);have hd0:(0:Int)<=(d:Int):=(by omega);have kc0:wc.drew.cell? ⟨hb,0,none⟩=some (fv ff):=(yI.o.cell Te).trans k01;have bf:hb<wc.drew.heap.size:=nL Te yI.o.size;have S1:(wc.drew.cell? ⟨b1,o1+d*5,none⟩=some (iV y.1.1)/\wc.drew.cell? ⟨b1,o1+d*5+1,none⟩=some (uV y.1.2.1.1)/\wc.drew.cell? ⟨b1,o1+d*5+2,none⟩=some (uV y.1.2.1.2.1)/\wc.drew.cell? ⟨b1,o1+d*5+3,none⟩=some (uV y.1.2.1.2.2)/\wc.drew.cell? ⟨b1,o1+d*5+4,none⟩=some (uV (y.2:Nat))/\wc.drew.cell? ⟨B0,0,none⟩=some (iV x.1.1)/\wc.drew.cell? ⟨B0,1,none⟩=some (uV x.1.2.1.1)/\wc.drew.cell? ⟨B0,2,none⟩=some (uV x.1.2.1.2.1)/\wc.drew.cell? ⟨B0,3,none⟩=some (uV x.1.2.1.2.2)/\wc.drew.cell? ⟨B0,4,none⟩=some (uV (x.2:Nat))/\wc.drew.cell? ⟨hb,0,none⟩=some (fv ff)/\b1<wc.drew.heap.size/\B0<wc.drew.heap.size/\hb<wc.drew.heap.size):=⟨y0,y1,y2,y3,y4,(yI.o.cell hB).trans q0,(yI.o.cell hB).trans q1,(yI.o.cell hB).trans q2,(yI.o.cell hB).trans q3,(yI.o.cell hB).trans q4,kc0,z2,nL hB yI.o.size,bf⟩;have OJ:∀W W':World,(aj W b1 (o1+d*5) (iV y.1.1)/\aj W b1 (o1+d*5+1) (uV y.1.2.1.1)/\aj W b1 (o1+d*5+2) (uV y.1.2.1.2.1)/\aj W b1 (o1+d*5+3) (uV y.1.2.1.2.2)/\aj W b1 (o1+d*5+4) (uV (y.2:Nat))/\aj W B0 0 (iV x.1.1)/\aj W B0 1 (uV x.1.2.1.1)/\aj W B0 2 (uV x.1.2.1.2.1)/\aj W B0 3 (uV x.1.2.1.2.2)/\aj W B0 4 (uV (x.2:Nat))/\aj W hb 0 (fv ff)/\b1<W.heap.size/\B0<W.heap.size/\hb<W.heap.size)->Gr W W'->(aj W' b1 (o1+d*5) (iV y.1.1)/\aj W' b1 (o1+d*5+1) (uV y.1.2.1.1)/\aj W' b1 (o1+d*5+2) (uV y.1.2.1.2.1)/\aj W' b1 (o1+d*5+3) (uV y.1.2.1.2.2)/\aj W' b1 (o1+d*5+4) (uV (y.2:Nat))/\aj W' B0 0 (iV x.1.1)/\aj W' B0 1 (uV x.1.2.1.1)/\aj W' B0 2 (uV x.1.2.1.2.1)/\aj W' B0 3 (uV x.1.2.1.2.2)/\aj W' B0 4 (uV (x.2:Nat))/\aj W' hb 0 (fv ff)/\b1<W'.heap.size/\B0<W'.heap.size/\hb<W'.heap.size):=by
      rintro W W' ⟨a0,a1,a2,a3,a4,b0,b1,b2,b3,b4,d0,d1,d2,d3⟩ hg;exact⟨(hg.cell d1).trans a0,(hg.cell d1).trans a1,(hg.cell d1).trans a2,(hg.cell d1).trans a3,(hg.cell d1).trans a4,(hg.cell d2).trans b0,(hg.cell d2).trans b1,(hg.cell d2).trans b2,(hg.cell d2).trans b3,(hg.cell d2).trans b4,(hg.cell d3).trans d0,nL d1 hg.size,nL d2 hg.size,nL d3 hg.size⟩
     have Ig:=VC.o y x;obtain⟨b8,hr1⟩:∃b8,aX r y x=b8:=⟨_,rfl⟩;have zf:Hid (aX r y x=b8):=hr1;rw[hr1]at Ig;have YK:Hid (Gr W1 wc.drew):=yI.o.drew;clear y0 y1 y2 y3 y4 hgc hr1;go_upto_region 8 with fail;go_cut [43] (fun sb w'=>sb= .bool (!b8)/\Gr W1 w');case first=>
      go_region_held3 (fun w'=>aj w' b1 (o1+d*5) (iV y.1.1)/\aj w' b1 (o1+d*5+1) (uV y.1.2.1.1)/\aj w' b1 (o1+d*5+2) (uV y.1.2.1.2.1)/\aj w' b1 (o1+d*5+3) (uV y.1.2.1.2.2)/\aj w' b1 (o1+d*5+4) (uV (y.2:Nat))/\aj w' B0 0 (iV x.1.1)/\aj w' B0 1 (uV x.1.2.1.1)/\aj w' B0 2 (uV x.1.2.1.2.1)/\aj w' B0 3 (uV x.1.2.1.2.2)/\aj w' B0 4 (uV (x.2:Nat))/\aj w' hb 0 (fv ff)/\b1<w'.heap.size/\B0<w'.heap.size/\hb<w'.heap.size)
       (first|exact S1|exact OJ _ _ (by assumption) (by assumption)|assumption)
       (first|(go_at_call 246;refine(Ig _ (by assumption) (by assumption)).mono ?_;rintro e w7 ⟨rfl,U9⟩))
      go_wp2_with fail;go_meet;exact⟨by first|rfl|simp,YK.o.trans U9⟩
     case rest=>
      obtain⟨rfl,U8⟩:=hcut;clear S1 OJ Ig kc0 bf z2;cases b8
      ·have HR1:Hid (oC (aX r) M x a):=Dn.stop HP.o zf.o;go_wp2;go_ret;exact⟨a,rfl,AA.o,HR1.o,HG.o.trans U8⟩
      ·have HR1:Hid (Dn (aX r) M x d):=AA.o.step HP.o zf.o;go_wp2;go_roundw;case rel=>exact⟨d,2*d+1,nE hdl,by first|rfl|simp,by first|rfl|go_num|simp,rfl,U8,HR1.o⟩
       case measure=>
        have:=yB.o;have:=Bt HP.o;simp[intOf];omega
  ·have hltz:¬(c:Int)<(M.length:Int):=(by omega);have HE:Hid (oC (aX r) M x a):=Dn.none (by have:=yB.o;omega);go_wp2;go_ret;exact⟨a,rfl,AA.o,HE.o,HG.o.trans hgr⟩
end Hf
end Go.Proofs.YtiiefcalkjeieaaGreat
