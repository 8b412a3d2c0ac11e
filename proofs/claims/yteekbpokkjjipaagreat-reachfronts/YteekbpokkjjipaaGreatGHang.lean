import Derived.Test.YteekbpokkjjipaaGreatJ16
variable{B gb:Nat}{a:Int}{nv ev fv pv:Go.Value}{w:Go.World}
set_option maxHeartbeats 8000000
set_option maxRecDepth 100000
namespace Go.Proofs.YteekbpokkjjipaaGreat.Df
open Go.RowKit Go.Sort
attribute [local go_sem ↓] Go.wp_at_zero Go.wp_at_succ
structure Hg(B:Nat)(w:World)(gb:Nat)(a:Int)(nv ev fv pv:Value)(ns:List df)(ss:List SV)(L:Nat->List Int):Prop where
 blk:w.heap[gb]? =some (.cells (dY a nv ev fv pv) 138 (0,0))
 fr:w.ownsRow B 3 1 fv (bM ns ns.length).length (fl EI (bM ns ns.length))
 sp:w.ownsRow B 207 4 pv ss.length (fl ES ss)
 len:ss.length=(aV ns ns.length).length
 shape:∀(k:Nat) (s:SV),ss[k]? =some s->(aV ns ns.length)[k]? =some (s.nd.toNat,s.pt.toNat,s.cO)/\0<=s.nd/\0<=s.pt
 each:∀(k:Nat) (s:SV),ss[k]? =some s->w.ownsRow B 3 1 s.ev (L k).length (fl EI (L k))
 apart:∀(k:Nat) (s:SV),ss[k]? =some s->∀b,s.ev.ownBlock=some b->fv.ownBlock≠some b/\∀(k':Nat) (s':SV),ss[k']? =some s'->s'.ev.ownBlock=some b->k'=k
theorem tT{α:Type}(E:El α)(zs:List α)(i k:Nat)(y y':α)(u:Value)(hi:zs[i]? =some y)(hk:k<E.k)(he:(E.enc y).set k u=E.enc y'):(fl E zs).set (i*E.k+k) u=fl E (zs.set i y'):=by
 induction zs generalizing i with
 | nil => simp at hi
 | cons z zs ih=>
  rw[aQ];cases i with
  | zero=>
   simp at hi;subst hi;rw[List.set_cons_zero,aQ,<-he,Nat.zero_mul,nZ,List.set_append_left _ _ (by rw[E.len];exact hk)]
  | succ i=>
   have e1:(i+1)*E.k+k=E.k+(i*E.k+k):=(by rw[Nat.succ_mul];omega);rw[List.set_cons_succ,aQ,<-ih i (by simpa using hi),e1,List.set_append_right _ _ (by rw[E.len];omega),E.len,Nat.add_sub_cancel_left]
theorem Hg.below{w':World}{ns:List df}{ss:List SV}{L:Nat->List Int}(h:Hg B w gb a nv ev fv pv ns ss L)(hb:Below w.heap.size w w'):Hg B w' gb a nv ev fv pv ns ss L:=
 ⟨(hb.block _ (ae h.blk)).trans h.blk,ag h.fr hb,ag h.sp hb,h.len,h.shape,fun k s hk=>ag (h.each k s hk) hb,h.apart⟩
theorem Hg.re{ns:List df}{ss:List SV}{L L':Nat->List Int}(h:Hg B w gb a nv ev fv pv ns ss L)(hL:∀k,k<ss.length->L k=L' k):Hg B w gb a nv ev fv pv ns ss L':=
 ⟨h.blk,h.fr,h.sp,h.len,h.shape,fun k s hk=>by rw[<-hL k (lG.1 hk).1];exact h.each k s hk,h.apart⟩
def SV.oz(s:SV)(g n c:Nat):SV:={ s with q:=some ⟨g,0,none⟩,m:=n,c:=c }
theorem Hg.step{B gb:Nat}{w w1:World}{a:Int}{nv ev fv pv:Value}{ns:List df}{ss:List SV}{L:Nat->List Int}(h:Hg B w gb a nv ev fv pv ns ss L)(hB:gb<B){k pb pc g cap:Nat}{s:SV}(hk:ss[k]? =some s)(hpv:pv= .slice (some ⟨pb,0,none⟩) ss.length pc){x:Int}
    (h1:w1.ownsRow B 3 1 (.slice (some ⟨g,0,none⟩) ((L k).length+1) cap) ((L k).length+1) (fl EI (L k)++EI.enc x)) (h2:w.grownBy w1 s.ev.ownBlock) (h3:s.ev.ownBlock=some g\/w.heap.size<=g) :
    Hg B (w1.setCell ⟨pb,k*4+3,none⟩ (.slice (some ⟨g,0,none⟩) ((L k).length+1) cap)) gb a nv ev fv pv ns (ss.set k (s.oz g ((L k).length+1) cap)) (fun j=>if j=k then L k++[x]else L j)/\Kp (fun j=>B<=j) w (w1.setCell ⟨pb,k*4+3,none⟩ (.slice (some ⟨g,0,none⟩) ((L k).length+1) cap)):=by
 have hks:=(lG.1 hk).1;have K2:=Kp.grownBy (S:=fun j=>s.ev.ownBlock=some j) h2 (fun _ h=>h);have sp1:=ay K2 h.sp (fun j e e2=>aC h.sp (h.each k s hk) (by decide) j e e2);have sp2:=sp1;rw[hpv]at sp2;obtain⟨so,sk⟩:=iY sp2 (k*4+3) (.slice (some ⟨g,0,none⟩) ((L k).length+1) cap);have hpb:pv.ownBlock=some pb:=by rw[hpv];rfl
 have hlow:∀j,s.ev.ownBlock=some j->B<=j:=fun j e=>(aH (h.each k s hk) j e).1;have Qb:∀{n:Nat} {v:Value} {vs:List Value},w1.ownsRow B 3 1 v n vs->(w1.setCell ⟨pb,k*4+3,none⟩ (.slice (some ⟨g,0,none⟩) ((L k).length+1) cap)).ownsRow B 3 1 v n vs:=fun o=>ay sk o (fun j e e2=>aC o sp1 (by decide) j e (by rw[e2];exact hpb));have get:∀(j:Nat) (s':SV),(ss.set k (s.oz g ((L k).length+1) cap))[j]? =some s'->(j=k/\s'=s.oz g ((L k).length+1) cap)\/(j≠k/\ss[j]? =some s'):=fun j s' hj=>by
  rw[List.getElem?_set]at hj;by_cases e:k=j
  ·subst e;rw[if_pos rfl,if_pos hks]at hj;exact Or.inl ⟨rfl,(Option.some.inj hj).symm⟩
  ·rw[if_neg e]at hj;exact Or.inr ⟨fun e2=>e e2.symm,hj⟩
 have aaS:∀b,fv.ownBlock=some b->b<w.heap.size:=fun b e=>(aH h.fr b e).2;have CY:∀(j:Nat) (s':SV),ss[j]? =some s'->∀b,s'.ev.ownBlock=some b->b<w.heap.size:=fun j s' hj b e=>(aH (h.each j s' hj) b e).2;refine⟨⟨?_, ?_, ?_, ?_, ?_, ?_, ?_⟩, ?_⟩
 ·exact(sk.block _ (nL (ae h.blk) K2.size) (fun e=>aD h.sp h.blk (by decide) pb hpb e.symm)).trans ((K2.block _ (ae h.blk) (fun e=>by have:=hlow _ e;omega)).trans h.blk)
 ·exact Qb (ay K2 h.fr (fun j e e2=>(h.apart k s hk j e2).1 e))
 ·rw[hpv];refine aP so (by simp) ?_;exact tT ES ss k 3 s _ _ hk (by decide) rfl
 ·simp[h.len]
 ·intro j s' hj;rcases get j s' hj with⟨rfl,rfl⟩|⟨_,hj⟩
  ·exact h.shape j s hk
  ·exact h.shape j s' hj
 ·intro j s' hj;rcases get j s' hj with⟨rfl,rfl⟩|⟨hne,hj⟩
  ·simp only[if_true];exact aP (Qb h1) (by simp) (by rw[aS,dK])
  ·simp only[if_neg hne];exact Qb (ay K2 (h.each j s' hj) (fun b e e2=>hne ((h.apart k s hk b e2).2 j s' hj e)))
 ·intro j s' hj b hb;rcases get j s' hj with⟨rfl,rfl⟩|⟨hne,hj2⟩
  ·obtain rfl:g=b:=(by simpa[SV.oz,Value.ownBlock]using hb);refine⟨fun e=> ?_,fun k' s' hk' e=> ?_⟩
   ·rcases h3 with h3|h3
    ·exact(h.apart j s hk g h3).1 e
    ·have:=aaS g e;omega
   ·rcases get k' s' hk' with⟨rfl,_⟩|⟨hne',hk'⟩
    ·rfl
    ·rcases h3 with h3|h3
     ·exact(h.apart j s hk g h3).2 k' s' hk' e
     ·have:=CY k' s' hk' g e;omega
  ·refine⟨(h.apart j s' hj2 b hb).1,fun k' t hk' e=> ?_⟩;rcases get k' t hk' with⟨rfl,rfl⟩|⟨_,hk2⟩
   ·obtain rfl:g=b:=(by simpa[SV.oz,Value.ownBlock]using e);rcases h3 with h3|h3
    ·exact(h.apart j s' hj2 g hb).2 k' s hk h3
    ·have:=CY j s' hj2 g hb;omega
   ·exact(h.apart j s' hj2 b hb).2 k' t hk2 e
 ·exact(K2.mono (T:=fun j=>B<=j) hlow).trans sk (fun j _ e=>by rw[e];exact(aH h.sp pb hpb).1)
def iE(ns:List df)(es:List dI)(d:dI)(i p k:Nat):List Int:=gY ns es k i++(if 1<=p/\k=dW ns d then[(i:Int)]else[])++(if 2<=p/\k=iF ns d then[(i:Int)]else[])
theorem Jo{ns:List df}{es:List dI}{d:dI}{i:Nat}(hi:es[i]? =some d)(hne:dW ns d≠iF ns d)(k:Nat):iE ns es d i 2 k=gY ns es k (i+1):=by
 rw[gY,hi];unfold iE;by_cases h1:k=dW ns d
 ·subst h1;simp[hne]
 ·by_cases h2:k=iF ns d
  ·subst h2;simp[h1]
  ·have h1':¬dW ns d=k:=fun e=>h1 e.symm;have h2':¬iF ns d=k:=fun e=>h2 e.symm;simp[h1,h2,h1',h2']
theorem BU(ns:List df)(es:List dI)(d:dI)(i p k:Nat):(iE ns es d i p k).length<=i+2:=by
 unfold iE;have:=xC ns es k i;simp only[dH];have h1:(if 1<=p/\k=dW ns d then[(i:Int)]else[]).length<=1:=by split<;>simp
 have h2:(if 2<=p/\k=iF ns d then[(i:Int)]else[]).length<=1:=by split<;>simp
 omega
theorem tN{ns:List df}{d:dI}(h:eO ns d.src d.o=true)(hp:Tc ns):xk ns d.src d.o=(dW ns d:Nat):=by
 obtain⟨n,hn,h0,_,h1,_⟩:=qh h;have:=hp n (lM hn);unfold xk dW;rw[if_pos h,hn]
 push_cast
 omega
theorem Ac{ns:List df}{d:dI}(h:eP ns d.dst d.cO=true):OI ns d.dst d.cO=(iF ns d:Nat):=by
 obtain⟨n,hn,h0,_,h1,_⟩:=vO h;unfold OI iF;rw[if_pos h]
 push_cast
 omega
def aaZ(B:Nat)(w:World)(gb:Nat)(a:Int)(nv ev fv pv:Value)(ns:List df)(es:List dI)(n:Nat)(r:Ending)(w':World):Prop:=r= .returned (.tuple #[])/\∃ss',Hg B w' gb a nv ev fv pv ns ss' (fun k=>gY ns es k n)/\Kp (fun k=>B<=k) w w'
theorem Lp(x y:Int)(W:World):Sem.run Tryz.prog (Instr.index 209 (.agg #[.int .i64 x, .int .i64 y]) (.int .i64 0)) W= .ok (.int .i64 x) W:=by
 unfold Instr.index;go_simp
theorem Ll(x y:Int)(W:World):Sem.run Tryz.prog (Instr.index 209 (.agg #[.int .i64 x, .int .i64 y]) (.int .i64 1)) W= .ok (.int .i64 y) W:=by
 unfold Instr.index;go_simp
theorem Ng{M:Nat}{xs:List NV}{es:List dI}{ss:List SV}(w:World)(hH:Hg B w gb a nv ev fv pv (xs.map NV.n) ss (fun _=>[]))(hgb:gb<B)(hBw:B<=w.heap.size)(hMB:M<=B)(hN:Lz EV M w nv xs)(hE:Lz ED M w ev es)(jR:gI (jG a xs es)):Calls Tryz.prog 71 #[.pointer (some ⟨gb,0,none⟩)] w (aaZ B w gb a nv ev fv pv (xs.map NV.n) es es.length):=by
 have hmx:Tryz.prog.follows .mixedOrders=true:=by kernel_rfl
 obtain⟨qn,cn,M6⟩:=hN.form;obtain⟨qe,ce,hev⟩:=hE.form;obtain⟨fq,fm,fc,hfv⟩:=az hH.fr;obtain⟨pq,pm,pc,hpv⟩:=az hH.sp;obtain⟨el,hel⟩:=aB (es.length);rw[<-hel]at hev⊢;generalize hnl:xs.length=nl at M6;clear hnl;subst M6;subst hev;subst hfv;subst hpv;obtain⟨ns,hns⟩:=aB (xs.map NV.n);rw[<-hns]at hH⊢;have jg:=hid jR;have Tj:=hid hns;have AV:=hid hel;have h48:el<=48:=by rw[hel];exact jR.el
 have HKN:Hid (∀W,Kp (fun k=>B<=k) w W->Lz EV W.heap.size W (.slice qn nl cn) xs):=fun W hk=>by
  rcases hN with⟨h,hm⟩|h
  ·exact Or.inl ⟨hk.ls h (fun k e e2=>by have:=hm k e;omega),fun k e=>nL (h.blk k e) hk.size⟩
  ·exact Or.inr h
 have HKE:Hid (∀W,Kp (fun k=>B<=k) w W->Lz ED W.heap.size W (.slice qe el ce) es):=fun W hk=>by
  rcases hE with⟨h,hm⟩|h
  ·exact Or.inl ⟨hk.ls h (fun k e e2=>by have:=hm k e;omega),fun k e=>nL (h.blk k e) hk.size⟩
  ·exact Or.inr h
 have o5:=hid (And.intro hgb hBw);have HH:=hid hH;have c0:=(aa hH.blk).1;have l0:=ae hH.blk;clear hH hN hE jR hns hel hgb hBw hMB;go_enter Tryz.func71,Tryz.ntmps71;go_wp2_with fail;clear c0 l0;go_loopw [12] (fun s12 wr=>∃(i:Nat),i<=el/\s12= .int .i64 (i:Nat)/\Hid (∃ss',Hg B wr gb a (.slice qn nl cn) (.slice qe el ce) (.slice fq fm fc) (.slice pq pm pc) ns ss' (fun k=>gY ns es k i)/\Kp (fun k=>B<=k) w wr)) (fun s12 _=>el-(RowKit.intOf s12).toNat);case atStart=>exact⟨0,Nat.zero_le _,rfl,_,HH.o,Kp.refl _ _⟩
 case round=>
  clear HH;obtain⟨i,hi,rfl,HI0⟩:=hrel;by_cases hlt:i<el
  ·obtain⟨ss1,hI1,hI2⟩:=HI0.o;have HI:Hid (Hg B wr gb a (.slice qn nl cn) (.slice qe el ce) (.slice fq fm fc) (.slice pq pm pc) ns ss1 (fun k=>gY ns es k i)/\Kp (fun k=>B<=k) w wr):=⟨hI1,hI2⟩;clear hI1 hI2 HI0;have hltz:(i:Int)<(el:Int):=(by omega);have hi0:(0:Int)<=(i:Int):=(by omega);obtain⟨y,hy⟩:∃y,es[i]? =some y:=⟨es[i]'(by have:=AV.o;omega),by simp⟩;have HY:=hid hy;have sw:Hid (eO ns y.src y.o=true/\eP ns y.dst y.cO=true):=(by rw[Tj.o];exact jg.o.ends (g:=jG a xs es) hy);obtain⟨b1,o1,q1,iI,qF,x0,x1,x2,x3,x4⟩:=qU ((HKE.o wr HI.o.2).ls hy) hy;simp only[vS]at iI;obtain⟨rfl,-,rfl⟩:=iI;clear hy;obtain⟨yb,hyb⟩:=aB (wr.heap.size);obtain⟨W5,bT⟩:=aB (wr.alloc (.cells (aW y) 151));have P5:Hid (Hg B W5 gb a (.slice qn nl cn) (.slice (some ⟨b1,o1,none⟩) el ce) (.slice fq fm fc) (.slice pq pm pc) ns ss1 (fun k=>gY ns es k i)/\W5.heap[yb]? =some (.cells (aW y) 151 (0,0))/\Kp (fun k=>B<=k) w W5):=by
    have g5:=((Gr.refl wr).alloc (.cells (aW y) 151)).below;rw[bT,hyb];exact⟨HI.o.1.below g5,ai _ _,HI.o.2.trans (Kp.of_below g5) (fun _ _ h=>h)⟩
   have gK:Hid (wr.alloc (.cells #[.int .i64 y.src, .int .i64 y.o, .int .i64 y.dst, .int .i64 y.cO, .bool y.keyed] 151)=W5/\wr.heap.size=yb):=⟨bT.symm,hyb.symm⟩;clear bT hyb;go_upto_region 3 with fail;rw[gK.o.1,gK.o.2];clear gK x0 x1 x2 x3 x4 qF;have G5:Hid (∀W,Below W5.heap.size W5 W->Gb W gb a (.slice qn nl cn) (.slice (some ⟨b1,o1,none⟩) el ce) (.slice fq fm fc) (.slice pq pm pc) xs):=fun W hb=>by
    have hk:=P5.o.2.2.trans (Kp.of_below (S:=fun k=>B<=k) hb) (fun _ _ h=>h);have hh:=P5.o.1.below hb;refine⟨hh.blk,HKN.o W hk, ?_,by have:=jg.o.nl;simpa using this,by have:=jg.o.jW;exact this⟩;have:=aJ (E:=EI) hh.fr;rw[Tj.o,fG]at this;exact this
   have hc1:∀W,Below W5.heap.size W5 W->Calls Tryz.prog 115 #[.pointer (some ⟨gb,0,none⟩), .int .i64 y.src, .int .i64 y.o] W fun r w'=>r= .returned (.int .i64 (dW ns y:Nat))/\Gr W w':=fun W hb=>by
    have h:=Ho y.src y.o W (G5.o W hb);rw[<-Tj.o,tN sw.o.1 (by rw[Tj.o];exact jg.o.jW)]at h;exact h
   have hc2:∀W,Below W5.heap.size W5 W->Calls Tryz.prog 116 #[.pointer (some ⟨gb,0,none⟩), .int .i64 y.dst, .int .i64 y.cO] W fun r w'=>r= .returned (.int .i64 (iF ns y:Nat))/\w'=W:=fun W hb=>by
    have h:=MQ y.dst y.cO W (G5.o W hb);rw[<-Tj.o,Ac sw.o.2]at h;exact h
   obtain⟨po,hpo⟩:=aB (dW ns y);obtain⟨pi,hpi⟩:=aB (iF ns y);rw[<-hpo]at hc1;rw[<-hpi]at hc2;have Xo:Hid (po=dW ns y/\pi=iF ns y):=⟨hpo,hpi⟩;clear hpo hpi;have hS0:Below W5.heap.size W5 W5.drew:=(Gr.refl W5).drew.below;refine av (S:=fun W=>Below W5.heap.size W5 W) (D:=[]) hmx ?_;refine' au 0 hS0 ?_;refine' au 1 hS0 ?_;refine' aR 2 hS0 ?h ?_;case h=>(intro W hSw;have hb:=(hSw.block _ (ae P5.o.2.1)).trans P5.o.2.1;have hc:=(aa hb).1;have hl:=ae hb;go_simp;try(with_reducible rfl))
   refine' au 3 hS0 ?_;refine' aR 4 hS0 ?h ?_;case h=>(intro W hSw;have hb:=(hSw.block _ (ae P5.o.2.1)).trans P5.o.2.1;have hc:=(aa hb).1;have hl:=ae hb;go_simp;try(with_reducible rfl))
   refine' au 6 hS0 ?_;refine' au 7 hS0 ?_;refine' aR 8 hS0 ?h ?_;case h=>(intro W hSw;have hb:=(hSw.block _ (ae P5.o.2.1)).trans P5.o.2.1;have hc:=(aa hb).1;have hl:=ae hb;go_simp;try(with_reducible rfl))
   refine' au 9 hS0 ?_;refine' aR 10 hS0 ?h ?_;case h=>(intro W hSw;have hb:=(hSw.block _ (ae P5.o.2.1)).trans P5.o.2.1;have hc:=(aa hb).1;have hl:=ae hb;go_simp;try(with_reducible rfl))
   refine' au 13 hS0 ?_;refine bF 5 fun K hK=> ?_;go_simp;refine(hc1 _ hS0).mono ?_;rintro r w6 ⟨rfl,g6⟩;have kV:Below W5.heap.size W5 w6:=hS0.trans (g6.below.mono hS0.size);clear g6;go_wp2_with fail;refine hK.o _ _ (fun hD=>kV) ?_;clear hK K;try simp only[Act.put,qI,q0,qS]
   refine bF 11 fun K hK=> ?_;go_simp;refine(hc2 _ kV).mono ?_;rintro r w7 ⟨rfl,rfl⟩;go_wp2_with fail;refine hK.o _ _ (fun hD=>kV) ?_;clear hK K;try simp only[Act.put,qI,q0,qS]
   refine' au 12 kV ?_;refine aj (by kernel_rfl) ?_ _;have P6:Hid (Hg B w7 gb a (.slice qn nl cn) (.slice (some ⟨b1,o1,none⟩) el ce) (.slice fq fm fc) (.slice pq pm pc) ns ss1 (fun k=>iE ns es y i 0 k)/\Kp (fun k=>B<=k) w w7):=⟨(P5.o.1.below kV).re (fun k _=>by simp[iE]),P5.o.2.2.trans (Kp.of_below kV) (fun _ _ h=>h)⟩;clear hS0 kV hc1 hc2 G5 P5 HI;go_upto_region 4 with fail;go_loopw [30] (fun s30 wr=>∃(p:Nat),p<=2/\s30= .int .i64 (p:Nat)/\Hid (∃ss',Hg B wr gb a (.slice qn nl cn) (.slice (some ⟨b1,o1,none⟩) el ce) (.slice fq fm fc) (.slice pq pm pc) ns ss' (fun k=>iE ns es y i p k)/\Kp (fun k=>B<=k) w wr)) (fun s30 _=>2-(RowKit.intOf s30).toNat);case atStart=>exact⟨0,by omega,rfl,_,P6.o⟩
   case round=>
    clear P6;obtain⟨p,hp,rfl,HI0⟩:=hrel;have hp3:p=0\/p=1\/p=2:=(by omega);have ix0:=Lp (po:Nat) (pi:Nat);have ix1:=Ll (po:Nat) (pi:Nat);rcases hp3 with rfl|rfl|rfl
    ·have HAT:Hid (po=dW ns y/\(aV ns ns.length)[po]? =some (y.src.toNat,y.o.toNat,false)):=⟨Xo.o.1,by rw[Xo.o.1];exact uW sw.o.1⟩;have WA:Hid (∀k,iE ns es y i 1 k=if k=po then iE ns es y i 0 po++[(i:Int)]else iE ns es y i 0 k):=fun k=>by
      rw[Xo.o.1];unfold iE;by_cases e:k=dW ns y
      ·subst e;simp
      ·simp[e]
     obtain⟨I9,hI1,hI2⟩:=HI0.o;have HI:Hid (Hg B wr gb a (.slice qn nl cn) (.slice (some ⟨b1,o1,none⟩) el ce) (.slice fq fm fc) (.slice pq pm pc) ns I9 (fun k=>iE ns es y i 0 k)/\Kp (fun k=>B<=k) w wr):=⟨hI1,hI2⟩;clear hI1 hI2 HI0;have hkl:po<I9.length:=(by rw[HI.o.1.len];exact(lG.1 HAT.o.2).1);obtain⟨s,hs⟩:∃s,I9[po]? =some s:=⟨I9[po]'hkl,by simp⟩;obtain⟨pb,Us,aam,hpv2,hpb,-,-,-,z3⟩:=Ms (aJ (E:=ES) HI.o.1.sp) hs;have hz:Us=0:=by
      rcases HI.o.1.sp.2 with⟨h0,_⟩|⟨g,cap,cur,h0,_⟩
      ·rw[hpv2]at h0;cases h0
      ·rw[hpv2]at h0;simp only[vS,oI,aI]at h0;exact h0.1.2.1
     subst hz;simp only[vS]at hpv2;obtain⟨rfl,rfl,rfl⟩:=hpv2;rw[nZ]at z3;have uf:=hid hs;have IQ:=hid HI.o.1.sp;have Zc:=HI.o.1.sp.frozenAt;have rE:=hid (BU ns es y i 0 po);have cg:=(aa HI.o.1.blk).1;have lg:=ae HI.o.1.blk;have hk0:(0:Int)<=(po:Int):=(by omega);have HRW:=hid (HI.o.1.each po s hs);generalize hln:I9.length=sl at hkl cg Zc;have hkz:(po:Int)<(sl:Int):=(by omega);have r9:=hid hln;obtain⟨LL,lL⟩:=aB (iE ns es y i 0 po);change Hid (wr.ownsRow B 3 1 s.ev (iE ns es y i 0 po).length (fl EI (iE ns es y i 0 po)))at HRW;rw[<-lL]at rE HRW;have ug:=hid lL;have jl:=hid (nT o5.o.2 HI.o.2.size);clear hs lL hln;obtain⟨snd,spt,Ua,sq,sm,sc⟩:=s;have hS0:(wr.drew).heap[gb]? =some (.cells (dY a (.slice qn nl cn) (.slice (some ⟨b1,o1,none⟩) el ce) (.slice fq fm fc) (.slice (some ⟨pb,0,none⟩) sl pc)) 138 (0,0))/\(wr.drew).cell? ⟨pb,po*4+3,none⟩=some (.slice sq sm sc)/\pb<(wr.drew).heap.size:=⟨by have h:=HI.o.1.blk;rw[r9.o]at h;exact h,z3,hpb⟩;clear cg lg Zc;go_upto_region 6 with fail;refine av (S:=fun W=>W.heap[gb]? =some (.cells (dY a (.slice qn nl cn) (.slice (some ⟨b1,o1,none⟩) el ce) (.slice fq fm fc) (.slice (some ⟨pb,0,none⟩) sl pc)) 138 (0,0))/\W.cell? ⟨pb,po*4+3,none⟩=some (.slice sq sm sc)/\pb<W.heap.size) (D:=[18]) hmx ?_;refine' au 0 hS0 ?_;refine' au 1 hS0 ?_;refine' au 2 hS0 ?_;refine' aR 3 hS0 ?h ?_;case h=>(intro W hSw;have hc:=(aa hSw.1).1;have hl:=ae hSw.1;go_simp;try(with_reducible rfl))
     refine' au 4 hS0 ?_;refine' au 5 hS0 ?_;refine' au 6 hS0 ?_;refine' au 7 hS0 ?_;refine' aR 8 hS0 ?h ?_;case h=>(intro W hSw;have hc:=(aa hSw.1).1;have hl:=ae hSw.1;go_simp;try(with_reducible rfl))
     refine' au 9 hS0 ?_;refine' au 10 hS0 ?_;refine' au 11 hS0 ?_;refine' aR 12 hS0 ?h ?_;case h=>(intro W hSw;have hc:=hSw.2.1;have hl:=hSw.2.2;go_simp;try(with_reducible rfl))
     refine' au 13 hS0 ?_;refine bF 14 fun K hK=> ?_;go_simp;have b6:=((Gr.refl wr).drew.alloc (.cells #[.int .i64 (i:Nat)] 3)).below;have kV:=(show _/\_/\_ from⟨(b6.block _ (ae hS0.1)).trans hS0.1,(b6.cell (p:=⟨pb,po*4+3,none⟩) hpb).trans z3,nL hpb b6.size⟩);clear b6;refine hK.o _ _ (fun hD=>kV) ?_;clear hK K;try simp only[Act.put,qI,q0,qS]
     refine bF 15 fun K hK=> ?_;refine bN EI Tryz.underlying97 lD rfl (by decide) rfl _ _ rfl B (.slice sq sm sc) LL.length (fl EI LL) rfl (show(wr.drew).ownsRow B 3 1 (.slice sq sm sc) LL.length (fl EI LL)from HRW.o) (i:Int) (by first|rfl|simp) (by have:=rE.o;omega) (by have:=rE.o;unfold maxLen;omega) jl.o _ rfl _ ?_;intro g8 bB w8 h8 k8 n8;have ST:Hid (Hg B (w8.setCell ⟨pb,po*4+3,none⟩ (.slice (some ⟨g8,0,none⟩) (LL.length+1) bB)) gb a (.slice qn nl cn) (.slice (some ⟨b1,o1,none⟩) el ce) (.slice fq fm fc) (.slice (some ⟨pb,0,none⟩) sl pc) ns (I9.set po ((SV.mk snd spt Ua sq sm sc).oz g8 (LL.length+1) bB)) (fun k=>iE ns es y i (0+1) k)/\Kp (fun k=>B<=k) w (w8.setCell ⟨pb,po*4+3,none⟩ (.slice (some ⟨g8,0,none⟩) (LL.length+1) bB))):=by
      rw[ug.o]at h8⊢;have h:=(HI.o.1.below (Gr.refl wr).drew.below).step o5.o.1 uf.o (by rw[r9.o]) h8.o k8.o n8.o;rw[r9.o]at h;exact⟨h.1.re (fun k _=>(WA.o k).symm),(HI.o.2.trans (Kp.aU (Gr.refl wr).drew) (fun _ _ h=>h)).trans h.2 (fun _ _ h=>h)⟩
     have dN:=(Kp.grownBy (S:=fun k=>(Value.slice sq sm sc).ownBlock=some k) k8.o (fun _ h=>h));have f8:w8.frozen? ⟨pb,po*4+3,none⟩=false:=by
      have h:=ay dN IQ.o (fun j e e2=>aC IQ.o HRW.o (by decide) j e e2);rw[r9.o]at h;exact h.frozenAt _
     have HF8:=hid f8;have iJ:w8.heap[gb]? =some (.cells (dY a (.slice qn nl cn) (.slice (some ⟨b1,o1,none⟩) el ce) (.slice fq fm fc) (.slice (some ⟨pb,0,none⟩) sl pc)) 138 (0,0))/\w8.cell? ⟨pb,po*4+3,none⟩=some (.slice sq sm sc)/\pb<w8.heap.size:=⟨(dN.block _ (ae hS0.1) (fun e=>by have:=(aH HRW.o gb e).1;have:=o5.o.1;omega)).trans hS0.1,(dN.cell hpb (fun e=>aC HRW.o IQ.o (by decide) pb e rfl)).trans z3,nL hpb dN.size⟩;clear h8 k8 n8 dN f8;generalize LL.length+1=ll at ST⊢;refine hK.o _ _ (fun hD=>iJ) ?_;clear hK K;try simp only[Act.put,qI,q0,qS]
     refine bF 16 fun K hK=> ?_;go_simp;refine hK.o _ _ (fun hD=>iJ) ?_;clear hK K;try simp only[Act.put,qI,q0,qS]
     refine' au 17 iJ ?_;refine bF 18 fun K hK=> ?_;have c8:=iJ.2.1;have f8:=HF8.o;have l8:=iJ.2.2;go_simp;generalize (w8.setCell ⟨pb,po*4+3,none⟩ (.slice (some ⟨g8,0,none⟩) ll bB))=w9 at ST⊢;clear c8 f8 l8;refine hK.o _ _ (fun hD=>absurd (by decide) hD) ?_;clear hK K;try simp only[Act.put,qI,q0,qS]
     refine aj (by kernel_rfl) ?_ _;clear hS0 iJ z3;go_wp2_with fail;go_roundw;case rel=>exact⟨0+1,by omega,by go_num,_,ST.o⟩
     case measure=>simp[RowKit.intOf]
    ·have HAT:Hid (pi=iF ns y/\(aV ns ns.length)[pi]? =some (y.dst.toNat,y.cO.toNat,true)):=⟨Xo.o.2,by rw[Xo.o.2];exact Aa sw.o.2⟩;have WA:Hid (∀k,iE ns es y i 2 k=if k=pi then iE ns es y i 1 pi++[(i:Int)]else iE ns es y i 1 k):=fun k=>by
      rw[Xo.o.2];unfold iE;by_cases e:k=iF ns y
      ·subst e;simp
      ·simp[e]
     obtain⟨I9,hI1,hI2⟩:=HI0.o;have HI:Hid (Hg B wr gb a (.slice qn nl cn) (.slice (some ⟨b1,o1,none⟩) el ce) (.slice fq fm fc) (.slice pq pm pc) ns I9 (fun k=>iE ns es y i 1 k)/\Kp (fun k=>B<=k) w wr):=⟨hI1,hI2⟩;clear hI1 hI2 HI0;have hkl:pi<I9.length:=(by rw[HI.o.1.len];exact(lG.1 HAT.o.2).1);obtain⟨s,hs⟩:∃s,I9[pi]? =some s:=⟨I9[pi]'hkl,by simp⟩;obtain⟨pb,Us,aam,hpv2,hpb,-,-,-,z3⟩:=Ms (aJ (E:=ES) HI.o.1.sp) hs;have hz:Us=0:=by
      rcases HI.o.1.sp.2 with⟨h0,_⟩|⟨g,cap,cur,h0,_⟩
      ·rw[hpv2]at h0;cases h0
      ·rw[hpv2]at h0;simp only[vS,oI,aI]at h0;exact h0.1.2.1
     subst hz;simp only[vS]at hpv2;obtain⟨rfl,rfl,rfl⟩:=hpv2;rw[nZ]at z3;have uf:=hid hs;have IQ:=hid HI.o.1.sp;have Zc:=HI.o.1.sp.frozenAt;have rE:=hid (BU ns es y i 1 pi);have cg:=(aa HI.o.1.blk).1;have lg:=ae HI.o.1.blk;have hk0:(0:Int)<=(pi:Int):=(by omega);have HRW:=hid (HI.o.1.each pi s hs);generalize hln:I9.length=sl at hkl cg Zc;have hkz:(pi:Int)<(sl:Int):=(by omega);have r9:=hid hln;obtain⟨LL,lL⟩:=aB (iE ns es y i 1 pi);change Hid (wr.ownsRow B 3 1 s.ev (iE ns es y i 1 pi).length (fl EI (iE ns es y i 1 pi)))at HRW;rw[<-lL]at rE HRW;have ug:=hid lL;have jl:=hid (nT o5.o.2 HI.o.2.size);clear hs lL hln;obtain⟨snd,spt,Ua,sq,sm,sc⟩:=s;have hS0:(wr.drew).heap[gb]? =some (.cells (dY a (.slice qn nl cn) (.slice (some ⟨b1,o1,none⟩) el ce) (.slice fq fm fc) (.slice (some ⟨pb,0,none⟩) sl pc)) 138 (0,0))/\(wr.drew).cell? ⟨pb,pi*4+3,none⟩=some (.slice sq sm sc)/\pb<(wr.drew).heap.size:=⟨by have h:=HI.o.1.blk;rw[r9.o]at h;exact h,z3,hpb⟩;clear cg lg Zc;go_upto_region 6 with fail;refine av (S:=fun W=>W.heap[gb]? =some (.cells (dY a (.slice qn nl cn) (.slice (some ⟨b1,o1,none⟩) el ce) (.slice fq fm fc) (.slice (some ⟨pb,0,none⟩) sl pc)) 138 (0,0))/\W.cell? ⟨pb,pi*4+3,none⟩=some (.slice sq sm sc)/\pb<W.heap.size) (D:=[18]) hmx ?_;refine' au 0 hS0 ?_;refine' au 1 hS0 ?_;refine' au 2 hS0 ?_;refine' aR 3 hS0 ?h ?_;case h=>(intro W hSw;have hc:=(aa hSw.1).1;have hl:=ae hSw.1;go_simp;try(with_reducible rfl))
     refine' au 4 hS0 ?_;refine' au 5 hS0 ?_;refine' au 6 hS0 ?_;refine' au 7 hS0 ?_;refine' aR 8 hS0 ?h ?_;case h=>(intro W hSw;have hc:=(aa hSw.1).1;have hl:=ae hSw.1;go_simp;try(with_reducible rfl))
     refine' au 9 hS0 ?_;refine' au 10 hS0 ?_;refine' au 11 hS0 ?_;refine' aR 12 hS0 ?h ?_;case h=>(intro W hSw;have hc:=hSw.2.1;have hl:=hSw.2.2;go_simp;try(with_reducible rfl))
     refine' au 13 hS0 ?_;refine bF 14 fun K hK=> ?_;go_simp;have b6:=((Gr.refl wr).drew.alloc (.cells #[.int .i64 (i:Nat)] 3)).below;have kV:=(show _/\_/\_ from⟨(b6.block _ (ae hS0.1)).trans hS0.1,(b6.cell (p:=⟨pb,pi*4+3,none⟩) hpb).trans z3,nL hpb b6.size⟩);clear b6;refine hK.o _ _ (fun hD=>kV) ?_;clear hK K;try simp only[Act.put,qI,q0,qS]
     refine bF 15 fun K hK=> ?_;refine bN EI Tryz.underlying97 lD rfl (by decide) rfl _ _ rfl B (.slice sq sm sc) LL.length (fl EI LL) rfl (show(wr.drew).ownsRow B 3 1 (.slice sq sm sc) LL.length (fl EI LL)from HRW.o) (i:Int) (by first|rfl|simp) (by have:=rE.o;omega) (by have:=rE.o;unfold maxLen;omega) jl.o _ rfl _ ?_;intro g8 bB w8 h8 k8 n8;have ST:Hid (Hg B (w8.setCell ⟨pb,pi*4+3,none⟩ (.slice (some ⟨g8,0,none⟩) (LL.length+1) bB)) gb a (.slice qn nl cn) (.slice (some ⟨b1,o1,none⟩) el ce) (.slice fq fm fc) (.slice (some ⟨pb,0,none⟩) sl pc) ns (I9.set pi ((SV.mk snd spt Ua sq sm sc).oz g8 (LL.length+1) bB)) (fun k=>iE ns es y i (1+1) k)/\Kp (fun k=>B<=k) w (w8.setCell ⟨pb,pi*4+3,none⟩ (.slice (some ⟨g8,0,none⟩) (LL.length+1) bB))):=by
      rw[ug.o]at h8⊢;have h:=(HI.o.1.below (Gr.refl wr).drew.below).step o5.o.1 uf.o (by rw[r9.o]) h8.o k8.o n8.o;rw[r9.o]at h;exact⟨h.1.re (fun k _=>(WA.o k).symm),(HI.o.2.trans (Kp.aU (Gr.refl wr).drew) (fun _ _ h=>h)).trans h.2 (fun _ _ h=>h)⟩
     have dN:=(Kp.grownBy (S:=fun k=>(Value.slice sq sm sc).ownBlock=some k) k8.o (fun _ h=>h));have f8:w8.frozen? ⟨pb,pi*4+3,none⟩=false:=by
      have h:=ay dN IQ.o (fun j e e2=>aC IQ.o HRW.o (by decide) j e e2);rw[r9.o]at h;exact h.frozenAt _
     have HF8:=hid f8;have iJ:w8.heap[gb]? =some (.cells (dY a (.slice qn nl cn) (.slice (some ⟨b1,o1,none⟩) el ce) (.slice fq fm fc) (.slice (some ⟨pb,0,none⟩) sl pc)) 138 (0,0))/\w8.cell? ⟨pb,pi*4+3,none⟩=some (.slice sq sm sc)/\pb<w8.heap.size:=⟨(dN.block _ (ae hS0.1) (fun e=>by have:=(aH HRW.o gb e).1;have:=o5.o.1;omega)).trans hS0.1,(dN.cell hpb (fun e=>aC HRW.o IQ.o (by decide) pb e rfl)).trans z3,nL hpb dN.size⟩;clear h8 k8 n8 dN f8;generalize LL.length+1=ll at ST⊢;refine hK.o _ _ (fun hD=>iJ) ?_;clear hK K;try simp only[Act.put,qI,q0,qS]
     refine bF 16 fun K hK=> ?_;go_simp;refine hK.o _ _ (fun hD=>iJ) ?_;clear hK K;try simp only[Act.put,qI,q0,qS]
     refine' au 17 iJ ?_;refine bF 18 fun K hK=> ?_;have c8:=iJ.2.1;have f8:=HF8.o;have l8:=iJ.2.2;go_simp;generalize (w8.setCell ⟨pb,pi*4+3,none⟩ (.slice (some ⟨g8,0,none⟩) ll bB))=w9 at ST⊢;clear c8 f8 l8;refine hK.o _ _ (fun hD=>absurd (by decide) hD) ?_;clear hK K;try simp only[Act.put,qI,q0,qS]
     refine aj (by kernel_rfl) ?_ _;clear hS0 iJ z3;go_wp2_with fail;go_roundw;case rel=>exact⟨1+1,by omega,by go_num,_,ST.o⟩
     case measure=>simp[RowKit.intOf]
    ·have FIN:Hid (∃ss',Hg B wr gb a (.slice qn nl cn) (.slice (some ⟨b1,o1,none⟩) el ce) (.slice fq fm fc) (.slice pq pm pc) ns ss' (fun k=>gY ns es k (i+1))/\Kp (fun k=>B<=k) w wr):=by
       obtain⟨s2,h1,h2⟩:=HI0.o;exact⟨s2,h1.re (fun k _=>Jo HY.o (QV sw.o.1 sw.o.2) k),h2⟩
     go_wp2_with fail;go_roundw;case rel=>exact⟨i+1,by omega,by go_num,FIN.o⟩
     case measure=>simp[RowKit.intOf];omega
  ·have hltz:¬(i:Int)<(el:Int):=(by omega);obtain rfl:i=el:=(by omega);go_wp2_with fail;go_end0;exact⟨rfl,HI0.o⟩
end Go.Proofs.YteekbpokkjjipaaGreat.Df
