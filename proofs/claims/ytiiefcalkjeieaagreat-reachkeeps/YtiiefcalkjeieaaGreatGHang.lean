import Derived.Test.YtiiefcalkjeieaaGreatJ12
variable{B gb:Nat}{a:Int}{nv ev fv pv:Go.Value}{w:Go.World}
set_option maxHeartbeats 8000000
set_option maxRecDepth 100000
namespace Go.Proofs.YtiiefcalkjeieaaGreat.Df
open Go.RowKit Go.Sort
attribute[local go_sem ↓]wp_at_zero wp_at_succ
structure Hg(B:Nat)(w:World)(gb:Nat)(a:Int)(nv ev fv pv:Value)(ns:List dC)(ss:List SV)(L:Nat->List Int):Prop where
 blk:w.heap[gb]? =some (.cells (eH a nv ev fv pv) 138 (0,0))
 fr:w.ownsRow B 3 1 fv (bQ ns ns.length).length (fl EI (bQ ns ns.length))
 sp:w.ownsRow B 207 4 pv ss.length (fl ES ss)
 len:ss.length=(aY ns ns.length).length
 shape:∀(k:Nat) (s:SV),ss[k]? =some s->(aY ns ns.length)[k]? =some (s.nd.toNat,s.pt.toNat,s.dx)/\0<=s.nd/\0<=s.pt
 each:∀(k:Nat) (s:SV),ss[k]? =some s->w.ownsRow B 3 1 s.ev (L k).length (fl EI (L k))
 apart:∀(k:Nat) (s:SV),ss[k]? =some s->∀b,s.ev.ownBlock=some b->fv.ownBlock≠some b/\∀(k':Nat) (s':SV),ss[k']? =some s'->s'.ev.ownBlock=some b->k'=k
theorem vK{α:Type}(E:El α)(zs:List α)(i k:Nat)(y y':α)(u:Value)(hi:zs[i]? =some y)(hk:k<E.k)(he:(E.enc y).set k u=E.enc y'):(fl E zs).set (i*E.k+k) u=fl E (zs.set i y'):=by
 induction zs generalizing i with
 | nil => simp at hi
 | cons z zs ih=>
  rw[aR];cases i with
  | zero=>
   simp at hi;subst hi;rw[List.set_cons_zero,aR,<-he,Nat.zero_mul,nZ,List.set_append_left _ _ (by rw[E.len];exact hk)]
  | succ i=>
   have e1:(i+1)*E.k+k=E.k+(i*E.k+k):=(by rw[Nat.succ_mul];omega);rw[List.set_cons_succ,aR,<-ih i (by simpa using hi),e1,List.set_append_right _ _ (by rw[E.len];omega),E.len,Nat.add_sub_cancel_left]
theorem Hg.below{w':World}{ns:List dC}{ss:List SV}{L:Nat->List Int}(h:Hg B w gb a nv ev fv pv ns ss L)(hb:Bw w w'):Hg B w' gb a nv ev fv pv ns ss L:=
 ⟨(hb.block _ (ae h.blk)).trans h.blk,ag h.fr hb,ag h.sp hb,h.len,h.shape,fun k s hk=>ag (h.each k s hk) hb,h.apart⟩
theorem Hg.re{ns:List dC}{ss:List SV}{L L':Nat->List Int}(h:Hg B w gb a nv ev fv pv ns ss L)(hL:∀k,k<ss.length->L k=L' k):Hg B w gb a nv ev fv pv ns ss L':=
 ⟨h.blk,h.fr,h.sp,h.len,h.shape,fun k s hk=>by rw[<-hL k (lG.1 hk).1];exact h.each k s hk,h.apart⟩
def SV.qb(s:SV)(g n c:Nat):SV:={ s with q:=some ⟨g,0,none⟩,m:=n,c:=c }
theorem Hg.step{B gb:Nat}{w w1:World}{a:Int}{nv ev fv pv:Value}{ns:List dC}{ss:List SV}{L:Nat->List Int}(h:Hg B w gb a nv ev fv pv ns ss L)(hB:gb<B){k pb pc g cap:Nat}{s:SV}(hk:ss[k]? =some s)(hpv:pv=sO pb ss.length pc){x:Int}
    (h1:w1.ownsRow B 3 1 (sO g ((L k).length+1) cap) ((L k).length+1) (fl EI (L k)++EI.enc x)) (h2:w.grownBy w1 s.ev.ownBlock) (h3:s.ev.ownBlock=some g\/w.heap.size<=g) :
    Hg B (w1.setCell ⟨pb,k*4+3,none⟩ (sO g ((L k).length+1) cap)) gb a nv ev fv pv ns (ss.set k (s.qb g ((L k).length+1) cap)) (fun j=>if j=k then L k++[x]else L j)/\Kp (fun j=>B<=j) w (w1.setCell ⟨pb,k*4+3,none⟩ (sO g ((L k).length+1) cap)):=by
 have hks:=(lG.1 hk).1;have K2:=Kp.grownBy (S:=fun j=>s.ev.ownBlock=some j) h2 (fun _ h=>h);have sp1:=ax K2 h.sp (fun j e e2=>aH h.sp (h.each k s hk) (by decide) j e e2);have sp2:=sp1;rw[hpv]at sp2;obtain⟨so,sk⟩:=jA sp2 (k*4+3) (sO g ((L k).length+1) cap);have hpb:pv.ownBlock=some pb:=by rw[hpv];rfl
 have hlow:∀j,s.ev.ownBlock=some j->B<=j:=fun j e=>(aM (h.each k s hk) j e).1;have SE:∀{n:Nat} {v:Value} {vs:List Value},w1.ownsRow B 3 1 v n vs->(w1.setCell ⟨pb,k*4+3,none⟩ (sO g ((L k).length+1) cap)).ownsRow B 3 1 v n vs:=fun o=>ax sk o (fun j e e2=>aH o sp1 (by decide) j e (by rw[e2];exact hpb));have get:∀(j:Nat) (s':SV),(ss.set k (s.qb g ((L k).length+1) cap))[j]? =some s'->(j=k/\s'=s.qb g ((L k).length+1) cap)\/(j≠k/\ss[j]? =some s'):=fun j s' hj=>by
  rw[List.getElem?_set]at hj;by_cases e:k=j
  ·subst e;rw[if_pos rfl,if_pos hks]at hj;exact Or.inl ⟨rfl,(oJ hj).symm⟩
  ·rw[if_neg e]at hj;exact Or.inr ⟨fun e2=>e e2.symm,hj⟩
 have abZ:∀b,fv.ownBlock=some b->b<w.heap.size:=fun b e=>(aM h.fr b e).2;have EX:∀(j:Nat) (s':SV),ss[j]? =some s'->∀b,s'.ev.ownBlock=some b->b<w.heap.size:=fun j s' hj b e=>(aM (h.each j s' hj) b e).2;refine⟨⟨?_, ?_, ?_, ?_, ?_, ?_, ?_⟩, ?_⟩
 ·exact(sk.block _ (nL (ae h.blk) K2.size) (fun e=>aJ h.sp h.blk (by decide) pb hpb e.symm)).trans ((K2.block _ (ae h.blk) (fun e=>by have:=hlow _ e;omega)).trans h.blk)
 ·exact SE (ax K2 h.fr (fun j e e2=>(h.apart k s hk j e2).1 e))
 ·rw[hpv];refine aV so (by simp) ?_;exact vK ES ss k 3 s _ _ hk (by decide) rfl
 ·simp[h.len]
 ·intro j s' hj;rcases get j s' hj with⟨rfl,rfl⟩|⟨_,hj⟩
  ·exact h.shape j s hk
  ·exact h.shape j s' hj
 ·intro j s' hj;rcases get j s' hj with⟨rfl,rfl⟩|⟨hne,hj⟩
  ·simp only[if_true];exact aV (SE h1) (by simp) (by rw[aT,dM])
  ·simp only[if_neg hne];exact SE (ax K2 (h.each j s' hj) (fun b e e2=>hne ((h.apart k s hk b e2).2 j s' hj e)))
 ·intro j s' hj b hb;rcases get j s' hj with⟨rfl,rfl⟩|⟨hne,hj2⟩
  ·obtain rfl:g=b:=(by simpa[SV.qb,Value.ownBlock]using hb);refine⟨fun e=> ?_,fun k' s' hk' e=> ?_⟩
   ·rcases h3 with h3|h3
    ·exact(h.apart j s hk g h3).1 e
    ·have:=abZ g e;omega
   ·rcases get k' s' hk' with⟨rfl,_⟩|⟨hne',hk'⟩
    ·rfl
    ·rcases h3 with h3|h3
     ·exact(h.apart j s hk g h3).2 k' s' hk' e
     ·have:=EX k' s' hk' g e;omega
  ·refine⟨(h.apart j s' hj2 b hb).1,fun k' t hk' e=> ?_⟩;rcases get k' t hk' with⟨rfl,rfl⟩|⟨_,hk2⟩
   ·obtain rfl:g=b:=(by simpa[SV.qb,Value.ownBlock]using e);rcases h3 with h3|h3
    ·exact(h.apart j s' hj2 g hb).2 k' s hk h3
    ·have:=EX j s' hj2 g hb;omega
   ·exact(h.apart j s' hj2 b hb).2 k' t hk2 e
 ·exact(K2.mono (T:=fun j=>B<=j) hlow).trans sk (fun j _ e=>by rw[e];exact(aM h.sp pb hpb).1)
def iU(ns:List dC)(es:List dR)(d:dR)(i p k:Nat):List Int:=iC ns es k i++(if 1<=p/\k=eD ns d then[(i:Int)]else[])++(if 2<=p/\k=iW ns d then[(i:Int)]else[])
theorem KL{ns:List dC}{es:List dR}{d:dR}{i:Nat}(hi:es[i]? =some d)(hne:eD ns d≠iW ns d)(k:Nat):iU ns es d i 2 k=iC ns es k (i+1):=by
 rw[iC,hi];unfold iU;by_cases h1:k=eD ns d
 ·subst h1;simp[hne]
 ·by_cases h2:k=iW ns d
  ·subst h2;simp[h1]
  ·have h1':¬eD ns d=k:=fun e=>h1 e.symm;have h2':¬iW ns d=k:=fun e=>h2 e.symm;simp[h1,h2,h1',h2']
theorem D5(ns:List dC)(es:List dR)(d:dR)(i p k:Nat):(iU ns es d i p k).length<=i+2:=by
 unfold iU;have:=yZ ns es k i;simp only[dQ];have h1:(if 1<=p/\k=eD ns d then[(i:Int)]else[]).length<=1:=by split<;>simp
 have h2:(if 2<=p/\k=iW ns d then[(i:Int)]else[]).length<=1:=by split<;>simp
 omega
theorem vF{ns:List dC}{d:dR}(h:fF ns d.src d.o=true)(hp:Vs ns):yR ns d.src d.o=(eD ns d:Nat):=by
 obtain⟨n,hn,h0,_,h1,_⟩:=rE h;have:=hp n (lM hn);unfold yR eD;rw[if_pos h,hn]
 push_cast
 omega
theorem BZ{ns:List dC}{d:dR}(h:fG ns d.dst d.dx=true):QQ ns d.dst d.dx=(iW ns d:Nat):=by
 obtain⟨n,hn,h0,_,h1,_⟩:=xN h;unfold QQ iW;rw[if_pos h]
 push_cast
 omega
def ab7(B:Nat)(w:World)(gb:Nat)(a:Int)(nv ev fv pv:Value)(ns:List dC)(es:List dR)(n:Nat)(r:Ending)(w':World):Prop:=r= .returned (.tuple #[])/\∃ss',Hg B w' gb a nv ev fv pv ns ss' (fun k=>iC ns es k n)/\Kp (fun k=>B<=k) w w'
theorem Nu(x y:Int)(W:World):Sem.run Tryz.prog (Instr.index 209 (.agg #[iV x,iV y]) (iV 0)) W= .ok (iV x) W:=by
 unfold Instr.index;go_simp
theorem Nt(x y:Int)(W:World):Sem.run Tryz.prog (Instr.index 209 (.agg #[iV x,iV y]) (iV 1)) W= .ok (iV y) W:=by
 unfold Instr.index;go_simp
theorem Pv{M:Nat}{xs:List NV}{es:List dR}{ss:List SV}(w:World)(hH:Hg B w gb a nv ev fv pv (xs.map NV.n) ss (fun _=>[]))(hgb:gb<B)(hBw:B<=w.heap.size)(hMB:M<=B)(hN:Lz EV M w nv xs)(hE:Lz ED M w ev es)(ku:ic (jW a xs es)):CL 71 #[aB gb] w (ab7 B w gb a nv ev fv pv (xs.map NV.n) es es.length):=by
 have hmx:Tryz.prog.follows .mixedOrders=true:=by kernel_rfl
 obtain⟨qn,cn,Pf⟩:=hN.form;obtain⟨qe,ce,hev⟩:=hE.form;obtain⟨fq,fm,fc,hfv⟩:=aD hH.fr;obtain⟨pq,pm,pc,hpv⟩:=aD hH.sp;obtain⟨el,hel⟩:=aF (es.length);rw[<-hel]at hev⊢;generalize hnl:xs.length=nl at Pf;clear hnl;subst Pf;subst hev;subst hfv;subst hpv;obtain⟨ns,hns⟩:=aF (xs.map NV.n);rw[<-hns]at hH⊢;have iP:=hid ku;have Vy:=hid hns;have CV:=hid hel;have h48:el<=48:=by rw[hel];exact ku.el
 have HKN:Hid (∀W,Kp (fun k=>B<=k) w W->Lz EV W.heap.size W (.slice qn nl cn) xs):=fun W hk=>by
  rcases hN with⟨h,hm⟩|h
  ·exact Or.inl ⟨hk.ls h (fun k e e2=>by have:=hm k e;omega),fun k e=>nL (h.blk k e) hk.size⟩
  ·exact Or.inr h
 have HKE:Hid (∀W,Kp (fun k=>B<=k) w W->Lz ED W.heap.size W (.slice qe el ce) es):=fun W hk=>by
  rcases hE with⟨h,hm⟩|h
  ·exact Or.inl ⟨hk.ls h (fun k e e2=>by have:=hm k e;omega),fun k e=>nL (h.blk k e) hk.size⟩
  ·exact Or.inr h
 have qH:=hid (And.intro hgb hBw);have HH:=hid hH;have c0:=(aa hH.blk).1;have l0:=ae hH.blk;clear hH hN hE ku hns hel hgb hBw hMB;go_enter Tryz.func71,Tryz.ntmps71;go_wp2_with fail;clear c0 l0;go_loopw [12] (fun s12 wr=>∃(i:Nat),i<=el/\s12=iV (i:Nat)/\Hid (∃ss',Hg B wr gb a (.slice qn nl cn) (.slice qe el ce) (.slice fq fm fc) (.slice pq pm pc) ns ss' (fun k=>iC ns es k i)/\Kp (fun k=>B<=k) w wr)) (fun s12 _=>el-(intOf s12).toNat);case atStart=>exact⟨0,zL _,rfl,_,HH.o,Kp.refl _ _⟩
 case round=>
  clear HH;obtain⟨i,hi,rfl,HI0⟩:=hrel;by_cases hlt:i<el
  ·obtain⟨ss1,hI1,hI2⟩:=HI0.o;have HI:Hid (Hg B wr gb a (.slice qn nl cn) (.slice qe el ce) (.slice fq fm fc) (.slice pq pm pc) ns ss1 (fun k=>iC ns es k i)/\Kp (fun k=>B<=k) w wr):=⟨hI1,hI2⟩;clear hI1 hI2 HI0;have hltz:(i:Int)<(el:Int):=(by omega);have hi0:(0:Int)<=(i:Int):=(by omega);obtain⟨y,hy⟩:∃y,es[i]? =some y:=⟨es[i]'(by have:=CV.o;omega),by simp⟩;have HY:=hid hy;have uL:Hid (fF ns y.src y.o=true/\fG ns y.dst y.dx=true):=(by rw[Vy.o];exact iP.o.ends (g:=jW a xs es) hy);obtain⟨b1,o1,q1,gU,rY,x0,x1,x2,x3,x4⟩:=sQ ((HKE.o wr HI.o.2).ls hy) hy;simp only[vS]at gU;obtain⟨rfl,-,rfl⟩:=gU;clear hy;obtain⟨yb,hyb⟩:=aF (wr.heap.size);obtain⟨W5,bW⟩:=aF (wr.alloc (.cells (aZ y) 151));have P5:Hid (Hg B W5 gb a (.slice qn nl cn) (.slice (some ⟨b1,o1,none⟩) el ce) (.slice fq fm fc) (.slice pq pm pc) ns ss1 (fun k=>iC ns es k i)/\W5.heap[yb]? =some (.cells (aZ y) 151 (0,0))/\Kp (fun k=>B<=k) w W5):=by
    have g5:=((Gr.refl wr).alloc (.cells (aZ y) 151)).below;rw[bW,hyb];exact⟨HI.o.1.below g5,ah _ _,HI.o.2.tr (Kp.of_below g5)⟩
   have ig:Hid (wr.alloc (.cells #[iV y.src,iV y.o,iV y.dst,iV y.dx, .bool y.keyed] 151)=W5/\wr.heap.size=yb):=⟨bW.symm,hyb.symm⟩;clear bW hyb;go_upto_region 3 with fail;rw[ig.o.1,ig.o.2];clear ig x0 x1 x2 x3 x4 rY;have G5:Hid (∀W,Bw W5 W->Gb W gb a (.slice qn nl cn) (.slice (some ⟨b1,o1,none⟩) el ce) (.slice fq fm fc) (.slice pq pm pc) xs):=fun W hb=>by
    have hk:=P5.o.2.2.tr (Kp.of_below (S:=fun k=>B<=k) hb);have hh:=P5.o.1.below hb;refine⟨hh.blk,HKN.o W hk, ?_,by have:=iP.o.nl;simpa using this,by have:=iP.o.kI;exact this⟩;have:=aK (E:=EI) hh.fr;rw[Vy.o,gQ]at this;exact this
   have hc1:∀W,Bw W5 W->CL 115 #[aB gb,iV y.src,iV y.o] W fun r w'=>r= .returned (iV (eD ns y:Nat))/\Gr W w':=fun W hb=>by
    have h:=Jq y.src y.o W (G5.o W hb);rw[<-Vy.o,vF uL.o.1 (by rw[Vy.o];exact iP.o.kI)]at h;exact h
   have hc2:∀W,Bw W5 W->CL 116 #[aB gb,iV y.dst,iV y.dx] W fun r w'=>r= .returned (iV (iW ns y:Nat))/\w'=W:=fun W hb=>by
    have h:=OU y.dst y.dx W (G5.o W hb);rw[<-Vy.o,BZ uL.o.2]at h;exact h
   obtain⟨po,hpo⟩:=aF (eD ns y);obtain⟨pi,hpi⟩:=aF (iW ns y);rw[<-hpo]at hc1;rw[<-hpi]at hc2;have Zq:Hid (po=eD ns y/\pi=iW ns y):=⟨hpo,hpi⟩;clear hpo hpi;have hS0:Bw W5 W5.drew:=(Gr.refl W5).drew.below;refine ay (S:=fun W=>Bw W5 W) (D:=[]) hmx ?_;refine' ak 0 hS0 ?_;refine' ak 1 hS0 ?_;refine' bD 2 hS0 ?h ?_;case h=>(intro W hSw;have hb:=(hSw.block _ (ae P5.o.2.1)).trans P5.o.2.1;have hc:=(aa hb).1;have hl:=ae hb;go_simp;try(with_reducible rfl))
   refine' ak 3 hS0 ?_;refine' bD 4 hS0 ?h ?_;case h=>(intro W hSw;have hb:=(hSw.block _ (ae P5.o.2.1)).trans P5.o.2.1;have hc:=(aa hb).1;have hl:=ae hb;go_simp;try(with_reducible rfl))
   refine' ak 6 hS0 ?_;refine' ak 7 hS0 ?_;refine' bD 8 hS0 ?h ?_;case h=>(intro W hSw;have hb:=(hSw.block _ (ae P5.o.2.1)).trans P5.o.2.1;have hc:=(aa hb).1;have hl:=ae hb;go_simp;try(with_reducible rfl))
   refine' ak 9 hS0 ?_;refine' bD 10 hS0 ?h ?_;case h=>(intro W hSw;have hb:=(hSw.block _ (ae P5.o.2.1)).trans P5.o.2.1;have hc:=(aa hb).1;have hl:=ae hb;go_simp;try(with_reducible rfl))
   refine' ak 13 hS0 ?_;refine wpC 5 (hc1 _ hS0) ?_;rintro r w6 ⟨rfl,g6⟩;have pM:Bw W5 w6:=hS0.trans (g6.below.mono hS0.size);clear g6;refine⟨_,rfl,pM, ?_⟩;refine wpC 11 (hc2 _ pM) ?_;rintro r w7 ⟨rfl,rfl⟩;refine⟨_,rfl,pM, ?_⟩;refine' ak 12 pM ?_;refine av (by kernel_rfl) ?_ _;have P6:Hid (Hg B w7 gb a (.slice qn nl cn) (.slice (some ⟨b1,o1,none⟩) el ce) (.slice fq fm fc) (.slice pq pm pc) ns ss1 (fun k=>iU ns es y i 0 k)/\Kp (fun k=>B<=k) w w7):=⟨(P5.o.1.below pM).re (fun k _=>by simp[iU]),P5.o.2.2.tr (Kp.of_below pM)⟩;clear hS0 pM hc1 hc2 G5 P5 HI;go_upto_region 4 with fail;go_loopw [30] (fun s30 wr=>∃(p:Nat),p<=2/\s30=iV (p:Nat)/\Hid (∃ss',Hg B wr gb a (.slice qn nl cn) (.slice (some ⟨b1,o1,none⟩) el ce) (.slice fq fm fc) (.slice pq pm pc) ns ss' (fun k=>iU ns es y i p k)/\Kp (fun k=>B<=k) w wr)) (fun s30 _=>2-(intOf s30).toNat);case atStart=>exact⟨0,by omega,rfl,_,P6.o⟩
   case round=>
    clear P6;obtain⟨p,hp,rfl,HI0⟩:=hrel;have hp3:p=0\/p=1\/p=2:=(by omega);have ix0:=Nu (po:Nat) (pi:Nat);have ix1:=Nt (po:Nat) (pi:Nat);rcases hp3 with rfl|rfl|rfl
    ·have HAT:Hid (po=eD ns y/\(aY ns ns.length)[po]? =some (y.src.toNat,y.o.toNat,false)):=⟨Zq.o.1,by rw[Zq.o.1];exact xk uL.o.1⟩;have YG:Hid (∀k,iU ns es y i 1 k=if k=po then iU ns es y i 0 po++[(i:Int)]else iU ns es y i 0 k):=fun k=>by
      rw[Zq.o.1];unfold iU;by_cases e:k=eD ns y
      ·subst e;simp
      ·simp[e]
     obtain⟨Kq,hI1,hI2⟩:=HI0.o;have HI:Hid (Hg B wr gb a (.slice qn nl cn) (.slice (some ⟨b1,o1,none⟩) el ce) (.slice fq fm fc) (.slice pq pm pc) ns Kq (fun k=>iU ns es y i 0 k)/\Kp (fun k=>B<=k) w wr):=⟨hI1,hI2⟩;clear hI1 hI2 HI0;have hkl:po<Kq.length:=(by rw[HI.o.1.len];exact(lG.1 HAT.o.2).1);obtain⟨s,hs⟩:∃s,Kq[po]? =some s:=⟨Kq[po]'hkl,by simp⟩;obtain⟨pb,Ws,abu,hpv2,hpb,-,-,-,z3⟩:=Ou (aK (E:=ES) HI.o.1.sp) hs;have hz:Ws=0:=by
      rcases HI.o.1.sp.2 with⟨h0,_⟩|⟨g,cap,cur,h0,_⟩
      ·rw[hpv2]at h0;cases h0
      ·rw[hpv2]at h0;simp only[vS,oI,aI]at h0;exact h0.1.2.1
     subst hz;simp only[vS]at hpv2;obtain⟨rfl,rfl,rfl⟩:=hpv2;rw[nZ]at z3;have sj:=hid hs;have J8:=hid HI.o.1.sp;have fr3:=HI.o.1.sp.frozenAt;have uY:=hid (D5 ns es y i 0 po);have cg:=(aa HI.o.1.blk).1;have lg:=ae HI.o.1.blk;have hk0:(0:Int)<=(po:Int):=(by omega);have HRW:=hid (HI.o.1.each po s hs);generalize hln:Kq.length=sl at hkl cg fr3;have hkz:(po:Int)<(sl:Int):=(by omega);have uH:=hid hln;obtain⟨LL,mU⟩:=aF (iU ns es y i 0 po);change Hid (wr.ownsRow B 3 1 s.ev (iU ns es y i 0 po).length (fl EI (iU ns es y i 0 po)))at HRW;rw[<-mU]at uY HRW;have vO:=hid mU;have jK:=hid (nT qH.o.2 HI.o.2.size);clear hs mU hln;obtain⟨snd,spt,VZ,sq,sm,sc⟩:=s;have hS0:(wr.drew).heap[gb]? =some (.cells (eH a (.slice qn nl cn) (.slice (some ⟨b1,o1,none⟩) el ce) (.slice fq fm fc) (sO pb sl pc)) 138 (0,0))/\(wr.drew).cell? ⟨pb,po*4+3,none⟩=some (.slice sq sm sc)/\pb<(wr.drew).heap.size:=⟨by have h:=HI.o.1.blk;rw[uH.o]at h;exact h,z3,hpb⟩;clear cg lg fr3;go_upto_region 6 with fail;refine ay (S:=fun W=>W.heap[gb]? =some (.cells (eH a (.slice qn nl cn) (.slice (some ⟨b1,o1,none⟩) el ce) (.slice fq fm fc) (sO pb sl pc)) 138 (0,0))/\aj W pb (po*4+3) (.slice sq sm sc)/\pb<W.heap.size) (D:=[18]) hmx ?_;refine' ak 0 hS0 ?_;refine' ak 1 hS0 ?_;refine' ak 2 hS0 ?_;refine' bD 3 hS0 ?h ?_;case h=>(intro W hSw;have hc:=(aa hSw.1).1;have hl:=ae hSw.1;go_simp;try(with_reducible rfl))
     refine' ak 4 hS0 ?_;refine' ak 5 hS0 ?_;refine' ak 6 hS0 ?_;refine' ak 7 hS0 ?_;refine' bD 8 hS0 ?h ?_;case h=>(intro W hSw;have hc:=(aa hSw.1).1;have hl:=ae hSw.1;go_simp;try(with_reducible rfl))
     refine' ak 9 hS0 ?_;refine' ak 10 hS0 ?_;refine' ak 11 hS0 ?_;refine' bD 12 hS0 ?h ?_;case h=>(intro W hSw;have hc:=hSw.2.1;have hl:=hSw.2.2;go_simp;try(with_reducible rfl))
     refine' ak 13 hS0 ?_;refine fV 14 fun K hK=> ?_;go_simp;have b6:=((Gr.refl wr).drew.alloc (.cells #[iV (i:Nat)] 3)).below;have pM:=(show _/\_/\_ from⟨(b6.block _ (ae hS0.1)).trans hS0.1,(b6.cell (p:=⟨pb,po*4+3,none⟩) hpb).trans z3,nL hpb b6.size⟩);clear b6;refine hK.o _ _ (fun hD=>pM) ?_;clear hK K;try simp only[Act.put,qI,q0,qS]
     refine fV 15 fun K hK=> ?_;refine bT EI Tryz.underlying97 mr rfl (by decide) rfl _ _ rfl B (.slice sq sm sc) LL.length (fl EI LL) rfl (show(wr.drew).ownsRow B 3 1 (.slice sq sm sc) LL.length (fl EI LL)from HRW.o) (i:Int) (by first|rfl|simp) (by have:=uY.o;omega) (by have:=uY.o;unfold maxLen;omega) jK.o _ rfl _ ?_;intro g8 bF w8 h8 k8 n8;have ST:Hid (Hg B (w8.setCell ⟨pb,po*4+3,none⟩ (sO g8 (LL.length+1) bF)) gb a (.slice qn nl cn) (.slice (some ⟨b1,o1,none⟩) el ce) (.slice fq fm fc) (sO pb sl pc) ns (Kq.set po ((SV.mk snd spt VZ sq sm sc).qb g8 (LL.length+1) bF)) (fun k=>iU ns es y i (0+1) k)/\Kp (fun k=>B<=k) w (w8.setCell ⟨pb,po*4+3,none⟩ (sO g8 (LL.length+1) bF))):=by
      rw[vO.o]at h8⊢;have h:=(HI.o.1.below (Gr.refl wr).drew.below).step qH.o.1 sj.o (by rw[uH.o]) h8.o k8.o n8.o;rw[uH.o]at h;exact⟨h.1.re (fun k _=>(YG.o k).symm),(HI.o.2.tr (Kp.bg (Gr.refl wr).drew)).tr h.2⟩
     have dP:=(Kp.grownBy (S:=fun k=>(Value.slice sq sm sc).ownBlock=some k) k8.o (fun _ h=>h));have f8:w8.frozen? ⟨pb,po*4+3,none⟩=false:=by
      have h:=ax dP J8.o (fun j e e2=>aH J8.o HRW.o (by decide) j e e2);rw[uH.o]at h;exact h.frozenAt _
     have HF8:=hid f8;have iZ:w8.heap[gb]? =some (.cells (eH a (.slice qn nl cn) (.slice (some ⟨b1,o1,none⟩) el ce) (.slice fq fm fc) (sO pb sl pc)) 138 (0,0))/\aj w8 pb (po*4+3) (.slice sq sm sc)/\pb<w8.heap.size:=⟨(dP.block _ (ae hS0.1) (fun e=>by have:=(aM HRW.o gb e).1;have:=qH.o.1;omega)).trans hS0.1,(dP.cell hpb (fun e=>aH HRW.o J8.o (by decide) pb e rfl)).trans z3,nL hpb dP.size⟩;clear h8 k8 n8 dP f8;generalize LL.length+1=ll at ST⊢;refine hK.o _ _ (fun hD=>iZ) ?_;clear hK K;try simp only[Act.put,qI,q0,qS]
     refine fV 16 fun K hK=> ?_;go_simp;refine hK.o _ _ (fun hD=>iZ) ?_;clear hK K;try simp only[Act.put,qI,q0,qS]
     refine' ak 17 iZ ?_;refine fV 18 fun K hK=> ?_;have c8:=iZ.2.1;have f8:=HF8.o;have l8:=iZ.2.2;go_simp;generalize (w8.setCell ⟨pb,po*4+3,none⟩ (sO g8 ll bF))=w9 at ST⊢;clear c8 f8 l8;refine hK.o _ _ (fun hD=>absurd (by decide) hD) ?_;clear hK K;try simp only[Act.put,qI,q0,qS]
     refine av (by kernel_rfl) ?_ _;clear hS0 iZ z3;go_wp2_with fail;go_roundw;case rel=>exact⟨0+1,by omega,by go_num,_,ST.o⟩
     case measure=>simp[intOf]
    ·have HAT:Hid (pi=iW ns y/\(aY ns ns.length)[pi]? =some (y.dst.toNat,y.dx.toNat,true)):=⟨Zq.o.2,by rw[Zq.o.2];exact BV uL.o.2⟩;have YG:Hid (∀k,iU ns es y i 2 k=if k=pi then iU ns es y i 1 pi++[(i:Int)]else iU ns es y i 1 k):=fun k=>by
      rw[Zq.o.2];unfold iU;by_cases e:k=iW ns y
      ·subst e;simp
      ·simp[e]
     obtain⟨Kq,hI1,hI2⟩:=HI0.o;have HI:Hid (Hg B wr gb a (.slice qn nl cn) (.slice (some ⟨b1,o1,none⟩) el ce) (.slice fq fm fc) (.slice pq pm pc) ns Kq (fun k=>iU ns es y i 1 k)/\Kp (fun k=>B<=k) w wr):=⟨hI1,hI2⟩;clear hI1 hI2 HI0;have hkl:pi<Kq.length:=(by rw[HI.o.1.len];exact(lG.1 HAT.o.2).1);obtain⟨s,hs⟩:∃s,Kq[pi]? =some s:=⟨Kq[pi]'hkl,by simp⟩;obtain⟨pb,Ws,abu,hpv2,hpb,-,-,-,z3⟩:=Ou (aK (E:=ES) HI.o.1.sp) hs;have hz:Ws=0:=by
      rcases HI.o.1.sp.2 with⟨h0,_⟩|⟨g,cap,cur,h0,_⟩
      ·rw[hpv2]at h0;cases h0
      ·rw[hpv2]at h0;simp only[vS,oI,aI]at h0;exact h0.1.2.1
     subst hz;simp only[vS]at hpv2;obtain⟨rfl,rfl,rfl⟩:=hpv2;rw[nZ]at z3;have sj:=hid hs;have J8:=hid HI.o.1.sp;have fr3:=HI.o.1.sp.frozenAt;have uY:=hid (D5 ns es y i 1 pi);have cg:=(aa HI.o.1.blk).1;have lg:=ae HI.o.1.blk;have hk0:(0:Int)<=(pi:Int):=(by omega);have HRW:=hid (HI.o.1.each pi s hs);generalize hln:Kq.length=sl at hkl cg fr3;have hkz:(pi:Int)<(sl:Int):=(by omega);have uH:=hid hln;obtain⟨LL,mU⟩:=aF (iU ns es y i 1 pi);change Hid (wr.ownsRow B 3 1 s.ev (iU ns es y i 1 pi).length (fl EI (iU ns es y i 1 pi)))at HRW;rw[<-mU]at uY HRW;have vO:=hid mU;have jK:=hid (nT qH.o.2 HI.o.2.size);clear hs mU hln;obtain⟨snd,spt,VZ,sq,sm,sc⟩:=s;have hS0:(wr.drew).heap[gb]? =some (.cells (eH a (.slice qn nl cn) (.slice (some ⟨b1,o1,none⟩) el ce) (.slice fq fm fc) (sO pb sl pc)) 138 (0,0))/\(wr.drew).cell? ⟨pb,pi*4+3,none⟩=some (.slice sq sm sc)/\pb<(wr.drew).heap.size:=⟨by have h:=HI.o.1.blk;rw[uH.o]at h;exact h,z3,hpb⟩;clear cg lg fr3;go_upto_region 6 with fail;refine ay (S:=fun W=>W.heap[gb]? =some (.cells (eH a (.slice qn nl cn) (.slice (some ⟨b1,o1,none⟩) el ce) (.slice fq fm fc) (sO pb sl pc)) 138 (0,0))/\aj W pb (pi*4+3) (.slice sq sm sc)/\pb<W.heap.size) (D:=[18]) hmx ?_;refine' ak 0 hS0 ?_;refine' ak 1 hS0 ?_;refine' ak 2 hS0 ?_;refine' bD 3 hS0 ?h ?_;case h=>(intro W hSw;have hc:=(aa hSw.1).1;have hl:=ae hSw.1;go_simp;try(with_reducible rfl))
     refine' ak 4 hS0 ?_;refine' ak 5 hS0 ?_;refine' ak 6 hS0 ?_;refine' ak 7 hS0 ?_;refine' bD 8 hS0 ?h ?_;case h=>(intro W hSw;have hc:=(aa hSw.1).1;have hl:=ae hSw.1;go_simp;try(with_reducible rfl))
     refine' ak 9 hS0 ?_;refine' ak 10 hS0 ?_;refine' ak 11 hS0 ?_;refine' bD 12 hS0 ?h ?_;case h=>(intro W hSw;have hc:=hSw.2.1;have hl:=hSw.2.2;go_simp;try(with_reducible rfl))
     refine' ak 13 hS0 ?_;refine fV 14 fun K hK=> ?_;go_simp;have b6:=((Gr.refl wr).drew.alloc (.cells #[iV (i:Nat)] 3)).below;have pM:=(show _/\_/\_ from⟨(b6.block _ (ae hS0.1)).trans hS0.1,(b6.cell (p:=⟨pb,pi*4+3,none⟩) hpb).trans z3,nL hpb b6.size⟩);clear b6;refine hK.o _ _ (fun hD=>pM) ?_;clear hK K;try simp only[Act.put,qI,q0,qS]
     refine fV 15 fun K hK=> ?_;refine bT EI Tryz.underlying97 mr rfl (by decide) rfl _ _ rfl B (.slice sq sm sc) LL.length (fl EI LL) rfl (show(wr.drew).ownsRow B 3 1 (.slice sq sm sc) LL.length (fl EI LL)from HRW.o) (i:Int) (by first|rfl|simp) (by have:=uY.o;omega) (by have:=uY.o;unfold maxLen;omega) jK.o _ rfl _ ?_;intro g8 bF w8 h8 k8 n8;have ST:Hid (Hg B (w8.setCell ⟨pb,pi*4+3,none⟩ (sO g8 (LL.length+1) bF)) gb a (.slice qn nl cn) (.slice (some ⟨b1,o1,none⟩) el ce) (.slice fq fm fc) (sO pb sl pc) ns (Kq.set pi ((SV.mk snd spt VZ sq sm sc).qb g8 (LL.length+1) bF)) (fun k=>iU ns es y i (1+1) k)/\Kp (fun k=>B<=k) w (w8.setCell ⟨pb,pi*4+3,none⟩ (sO g8 (LL.length+1) bF))):=by
      rw[vO.o]at h8⊢;have h:=(HI.o.1.below (Gr.refl wr).drew.below).step qH.o.1 sj.o (by rw[uH.o]) h8.o k8.o n8.o;rw[uH.o]at h;exact⟨h.1.re (fun k _=>(YG.o k).symm),(HI.o.2.tr (Kp.bg (Gr.refl wr).drew)).tr h.2⟩
     have dP:=(Kp.grownBy (S:=fun k=>(Value.slice sq sm sc).ownBlock=some k) k8.o (fun _ h=>h));have f8:w8.frozen? ⟨pb,pi*4+3,none⟩=false:=by
      have h:=ax dP J8.o (fun j e e2=>aH J8.o HRW.o (by decide) j e e2);rw[uH.o]at h;exact h.frozenAt _
     have HF8:=hid f8;have iZ:w8.heap[gb]? =some (.cells (eH a (.slice qn nl cn) (.slice (some ⟨b1,o1,none⟩) el ce) (.slice fq fm fc) (sO pb sl pc)) 138 (0,0))/\aj w8 pb (pi*4+3) (.slice sq sm sc)/\pb<w8.heap.size:=⟨(dP.block _ (ae hS0.1) (fun e=>by have:=(aM HRW.o gb e).1;have:=qH.o.1;omega)).trans hS0.1,(dP.cell hpb (fun e=>aH HRW.o J8.o (by decide) pb e rfl)).trans z3,nL hpb dP.size⟩;clear h8 k8 n8 dP f8;generalize LL.length+1=ll at ST⊢;refine hK.o _ _ (fun hD=>iZ) ?_;clear hK K;try simp only[Act.put,qI,q0,qS]
     refine fV 16 fun K hK=> ?_;go_simp;refine hK.o _ _ (fun hD=>iZ) ?_;clear hK K;try simp only[Act.put,qI,q0,qS]
     refine' ak 17 iZ ?_;refine fV 18 fun K hK=> ?_;have c8:=iZ.2.1;have f8:=HF8.o;have l8:=iZ.2.2;go_simp;generalize (w8.setCell ⟨pb,pi*4+3,none⟩ (sO g8 ll bF))=w9 at ST⊢;clear c8 f8 l8;refine hK.o _ _ (fun hD=>absurd (by decide) hD) ?_;clear hK K;try simp only[Act.put,qI,q0,qS]
     refine av (by kernel_rfl) ?_ _;clear hS0 iZ z3;go_wp2_with fail;go_roundw;case rel=>exact⟨1+1,by omega,by go_num,_,ST.o⟩
     case measure=>simp[intOf]
    ·have FIN:Hid (∃ss',Hg B wr gb a (.slice qn nl cn) (.slice (some ⟨b1,o1,none⟩) el ce) (.slice fq fm fc) (.slice pq pm pc) ns ss' (fun k=>iC ns es k (i+1))/\Kp (fun k=>B<=k) w wr):=by
       obtain⟨s2,h1,h2⟩:=HI0.o;exact⟨s2,h1.re (fun k _=>KL HY.o (TW uL.o.1 uL.o.2) k),h2⟩
     go_wp2_with fail;go_roundw;case rel=>exact⟨i+1,by omega,by go_num,FIN.o⟩
     case measure=>simp[intOf];omega
  ·have hltz:¬(i:Int)<(el:Int):=(by omega);obtain rfl:i=el:=(by omega);go_wp2_with fail;go_end0;exact⟨rfl,HI0.o⟩
end Go.Proofs.YtiiefcalkjeieaaGreat.Df
