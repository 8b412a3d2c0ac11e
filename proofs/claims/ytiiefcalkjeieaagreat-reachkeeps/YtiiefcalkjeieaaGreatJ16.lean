import Derived.Test.YtiiefcalkjeieaaGreatJ15
variable{B M k:Nat}{w w':Go.World}{nv ev fv pv:Go.Value}{a:Int}{S:Nat->Prop}
set_option maxHeartbeats 8000000
set_option maxRecDepth 100000
namespace Go.Proofs.YtiiefcalkjeieaaGreat
namespace Df
open Go.RowKit Go.Sort
attribute[local go_sem ↓]wp_at_zero wp_at_succ
structure Hg(B:Nat)(w:World)(gb:Nat)(a:Int)(nv ev fv pv:Value)(ns:List dx)(ss:List SV)(L:Nat->List Int):Prop where
 blk:w.heap[gb]? =some (.cells (eF a nv ev fv pv) 138 (0,0))
 fr:w.ownsRow B 3 1 fv (bO ns ns.length).length (fl EI (bO ns ns.length))
 sp:w.ownsRow B 207 4 pv ss.length (fl ES ss)
 len:ss.length=(aV ns ns.length).length
 shape:∀(k:Nat) (s:SV),ss[k]? =some s->(aV ns ns.length)[k]? =some (s.nd.toNat,s.pt.toNat,s.df)/\0<=s.nd/\0<=s.pt
 each:∀(k:Nat) (s:SV),ss[k]? =some s->w.ownsRow B 3 1 s.ev (L k).length (fl EI (L k))
 apart:∀(k:Nat) (s:SV),ss[k]? =some s->∀b,s.ev.ownBlock=some b->fv.ownBlock≠some b/\∀(k':Nat) (s':SV),ss[k']? =some s'->s'.ev.ownBlock=some b->k'=k
theorem vE{α:Type}(E:El α)(zs:List α)(i k:Nat)(y y':α)(u:Value)(hi:zs[i]? =some y)(hk:k<E.k)(he:(E.enc y).set k u=E.enc y'):(fl E zs).set (i*E.k+k) u=fl E (zs.set i y'):=by
 induction zs generalizing i with
 | nil => simp at hi
 | cons z zs ih=>
  rw[aO];cases i with
  | zero=>
   simp at hi;subst hi;rw[List.set_cons_zero,aO,<-he,Nat.zero_mul,nZ,List.set_append_left _ _ (by rw[E.len];exact hk)]
  | succ i=>
   have e1:(i+1)*E.k+k=E.k+(i*E.k+k):=(by rw[Nat.succ_mul];omega);rw[List.set_cons_succ,aO,<-ih i (by simpa using hi),e1,List.set_append_right _ _ (by rw[E.len];omega),E.len,Nat.add_sub_cancel_left]
theorem Hg.below{gb:Nat}{ns:List dx}{ss:List SV}{L:Nat->List Int}(h:Hg B w gb a nv ev fv pv ns ss L)(hb:Below w.heap.size w w'):Hg B w' gb a nv ev fv pv ns ss L:=
 ⟨(hb.block _ (ae h.blk)).trans h.blk,ag h.fr hb,ag h.sp hb,h.len,h.shape,fun k s hk=>ag (h.each k s hk) hb,h.apart⟩
theorem Hg.re{gb:Nat}{ns:List dx}{ss:List SV}{L L':Nat->List Int}(h:Hg B w gb a nv ev fv pv ns ss L)(hL:∀k,k<ss.length->L k=L' k):Hg B w gb a nv ev fv pv ns ss L':=
 ⟨h.blk,h.fr,h.sp,h.len,h.shape,fun k s hk=>by rw[<-hL k (lG.1 hk).1];exact h.each k s hk,h.apart⟩
def SV.p8(s:SV)(g n c:Nat):SV:={ s with q:=some ⟨g,0,none⟩,m:=n,c:=c }
theorem Hg.step{B gb:Nat}{w w1:World}{a:Int}{nv ev fv pv:Value}{ns:List dx}{ss:List SV}{L:Nat->List Int}(h:Hg B w gb a nv ev fv pv ns ss L)(hB:gb<B){k pb pc g cap:Nat}{s:SV}(hk:ss[k]? =some s)(hpv:pv= .slice (some ⟨pb,0,none⟩) ss.length pc){x:Int}
    (h1:w1.ownsRow B 3 1 (.slice (some ⟨g,0,none⟩) ((L k).length+1) cap) ((L k).length+1) (fl EI (L k)++EI.enc x)) (h2:w.grownBy w1 s.ev.ownBlock) (h3:s.ev.ownBlock=some g\/w.heap.size<=g) :
    Hg B (w1.setCell ⟨pb,k*4+3,none⟩ (.slice (some ⟨g,0,none⟩) ((L k).length+1) cap)) gb a nv ev fv pv ns (ss.set k (s.p8 g ((L k).length+1) cap)) (fun j=>if j=k then L k++[x]else L j)/\Kp (fun j=>B<=j) w (w1.setCell ⟨pb,k*4+3,none⟩ (.slice (some ⟨g,0,none⟩) ((L k).length+1) cap)):=by
 have hks:=(lG.1 hk).1;have K2:=Kp.grownBy (S:=fun j=>s.ev.ownBlock=some j) h2 (fun _ h=>h);have sp1:=av K2 h.sp (fun j e e2=>aD h.sp (h.each k s hk) (by decide) j e e2);have sp2:=sp1;rw[hpv]at sp2;obtain⟨so,sk⟩:=jr sp2 (k*4+3) (.slice (some ⟨g,0,none⟩) ((L k).length+1) cap);have hpb:pv.ownBlock=some pb:=by rw[hpv];rfl
 have hlow:∀j,s.ev.ownBlock=some j->B<=j:=fun j e=>(aK (h.each k s hk) j e).1;have Sq:∀{n:Nat} {v:Value} {vs:List Value},w1.ownsRow B 3 1 v n vs->(w1.setCell ⟨pb,k*4+3,none⟩ (.slice (some ⟨g,0,none⟩) ((L k).length+1) cap)).ownsRow B 3 1 v n vs:=fun o=>av sk o (fun j e e2=>aD o sp1 (by decide) j e (by rw[e2];exact hpb));have get:∀(j:Nat) (s':SV),(ss.set k (s.p8 g ((L k).length+1) cap))[j]? =some s'->(j=k/\s'=s.p8 g ((L k).length+1) cap)\/(j≠k/\ss[j]? =some s'):=fun j s' hj=>by
  rw[List.getElem?_set]at hj;by_cases e:k=j
  ·subst e;rw[if_pos rfl,if_pos hks]at hj;exact Or.inl ⟨rfl,(oJ hj).symm⟩
  ·rw[if_neg e]at hj;exact Or.inr ⟨fun e2=>e e2.symm,hj⟩
 have abV:∀b,fv.ownBlock=some b->b<w.heap.size:=fun b e=>(aK h.fr b e).2;have EB:∀(j:Nat) (s':SV),ss[j]? =some s'->∀b,s'.ev.ownBlock=some b->b<w.heap.size:=fun j s' hj b e=>(aK (h.each j s' hj) b e).2;refine⟨⟨?_, ?_, ?_, ?_, ?_, ?_, ?_⟩, ?_⟩
 ·exact(sk.block _ (nL (ae h.blk) K2.size) (fun e=>aF h.sp h.blk (by decide) pb hpb e.symm)).trans ((K2.block _ (ae h.blk) (fun e=>by have:=hlow _ e;omega)).trans h.blk)
 ·exact Sq (av K2 h.fr (fun j e e2=>(h.apart k s hk j e2).1 e))
 ·rw[hpv];refine aS so (by simp) ?_;exact vE ES ss k 3 s _ _ hk (by decide) rfl
 ·simp[h.len]
 ·intro j s' hj;rcases get j s' hj with⟨rfl,rfl⟩|⟨_,hj⟩
  ·exact h.shape j s hk
  ·exact h.shape j s' hj
 ·intro j s' hj;rcases get j s' hj with⟨rfl,rfl⟩|⟨hne,hj⟩
  ·simp only[if_true];exact aS (Sq h1) (by simp) (by rw[aQ,dK])
  ·simp only[if_neg hne];exact Sq (av K2 (h.each j s' hj) (fun b e e2=>hne ((h.apart k s hk b e2).2 j s' hj e)))
 ·intro j s' hj b hb;rcases get j s' hj with⟨rfl,rfl⟩|⟨hne,hj2⟩
  ·obtain rfl:g=b:=(by simpa[SV.p8,Value.ownBlock]using hb);refine⟨fun e=> ?_,fun k' s' hk' e=> ?_⟩
   ·rcases h3 with h3|h3
    ·exact(h.apart j s hk g h3).1 e
    ·have:=abV g e;omega
   ·rcases get k' s' hk' with⟨rfl,_⟩|⟨hne',hk'⟩
    ·rfl
    ·rcases h3 with h3|h3
     ·exact(h.apart j s hk g h3).2 k' s' hk' e
     ·have:=EB k' s' hk' g e;omega
  ·refine⟨(h.apart j s' hj2 b hb).1,fun k' t hk' e=> ?_⟩;rcases get k' t hk' with⟨rfl,rfl⟩|⟨_,hk2⟩
   ·obtain rfl:g=b:=(by simpa[SV.p8,Value.ownBlock]using e);rcases h3 with h3|h3
    ·exact(h.apart j s' hj2 g hb).2 k' s hk h3
    ·have:=EB j s' hj2 g hb;omega
   ·exact(h.apart j s' hj2 b hb).2 k' t hk2 e
 ·exact(K2.mono (T:=fun j=>B<=j) hlow).trans sk (fun j _ e=>by rw[e];exact(aK h.sp pb hpb).1)
def iQ(ns:List dx)(es:List dQ)(d:dQ)(i p k:Nat):List Int:=iw ns es k i++(if 1<=p/\k=eB ns d then[(i:Int)]else[])++(if 2<=p/\k=iR ns d then[(i:Int)]else[])
theorem KE{ns:List dx}{es:List dQ}{d:dQ}{i:Nat}(hi:es[i]? =some d)(hne:eB ns d≠iR ns d)(k:Nat):iQ ns es d i 2 k=iw ns es k (i+1):=by
 rw[iw,hi];unfold iQ;by_cases h1:k=eB ns d
 ·subst h1;simp[hne]
 ·by_cases h2:k=iR ns d
  ·subst h2;simp[h1]
  ·have h1':¬eB ns d=k:=fun e=>h1 e.symm;have h2':¬iR ns d=k:=fun e=>h2 e.symm;simp[h1,h2,h1',h2']
theorem DN(ns:List dx)(es:List dQ)(d:dQ)(i p k:Nat):(iQ ns es d i p k).length<=i+2:=by
 unfold iQ;have:=yS ns es k i;simp only[dO];have h1:(if 1<=p/\k=eB ns d then[(i:Int)]else[]).length<=1:=by split<;>simp
 have h2:(if 2<=p/\k=iR ns d then[(i:Int)]else[]).length<=1:=by split<;>simp
 omega
theorem vk{ns:List dx}{d:dQ}(h:fD ns d.src d.o=true)(hp:Vi ns):yL ns d.src d.o=(eB ns d:Nat):=by
 obtain⟨n,hn,h0,_,h1,_⟩:=rz h;have:=hp n (lM hn);unfold yL eB;rw[if_pos h,hn]
 push_cast
 omega
theorem BO{ns:List dx}{d:dQ}(h:fE ns d.dst d.df=true):QH ns d.dst d.df=(iR ns d:Nat):=by
 obtain⟨n,hn,h0,_,h1,_⟩:=xG h;unfold QH iR;rw[if_pos h]
 push_cast
 omega
def ab3(B:Nat)(w:World)(gb:Nat)(a:Int)(nv ev fv pv:Value)(ns:List dx)(es:List dQ)(n:Nat)(r:Ending)(w':World):Prop:=r= .returned (.tuple #[])/\∃ss',Hg B w' gb a nv ev fv pv ns ss' (fun k=>iw ns es k n)/\Kp (fun k=>B<=k) w w'
theorem Nk(x y:Int)(W:World):Sem.run Tryz.prog (Instr.index 209 (.agg #[.int .i64 x, .int .i64 y]) (.int .i64 0)) W= .ok (.int .i64 x) W:=by
 unfold Instr.index;go_simp
theorem Nj(x y:Int)(W:World):Sem.run Tryz.prog (Instr.index 209 (.agg #[.int .i64 x, .int .i64 y]) (.int .i64 1)) W= .ok (.int .i64 y) W:=by
 unfold Instr.index;go_simp
theorem Pj{gb:Nat}{xs:List NV}{es:List dQ}{ss:List SV}(w:World)(hH:Hg B w gb a nv ev fv pv (xs.map NV.n) ss (fun _=>[]))(hgb:gb<B)(hBw:B<=w.heap.size)(hMB:M<=B)(hN:Lz EV M w nv xs)(hE:Lz ED M w ev es)(j5:gY (jS a xs es)):Calls Tryz.prog 71 #[.pointer (some ⟨gb,0,none⟩)] w (ab3 B w gb a nv ev fv pv (xs.map NV.n) es es.length):=by
 have hmx:Tryz.prog.follows .mixedOrders=true:=by kernel_rfl
 obtain⟨qn,cn,O4⟩:=hN.form;obtain⟨qe,ce,hev⟩:=hE.form;obtain⟨fq,fm,fc,hfv⟩:=aB hH.fr;obtain⟨pq,pm,pc,hpv⟩:=aB hH.sp;obtain⟨el,hel⟩:=aC (es.length);rw[<-hel]at hev⊢;generalize hnl:xs.length=nl at O4;clear hnl;subst O4;subst hev;subst hfv;subst hpv;obtain⟨ns,hns⟩:=aC (xs.map NV.n);rw[<-hns]at hH⊢;have iM:=hid j5;have Vn:=hid hns;have CJ:=hid hel;have h48:el<=48:=by rw[hel];exact j5.el
 have HKN:Hid (∀W,Kp (fun k=>B<=k) w W->Lz EV W.heap.size W (.slice qn nl cn) xs):=fun W hk=>by
  rcases hN with⟨h,hm⟩|h
  ·exact Or.inl ⟨hk.ls h (fun k e e2=>by have:=hm k e;omega),fun k e=>nL (h.blk k e) hk.size⟩
  ·exact Or.inr h
 have HKE:Hid (∀W,Kp (fun k=>B<=k) w W->Lz ED W.heap.size W (.slice qe el ce) es):=fun W hk=>by
  rcases hE with⟨h,hm⟩|h
  ·exact Or.inl ⟨hk.ls h (fun k e e2=>by have:=hm k e;omega),fun k e=>nL (h.blk k e) hk.size⟩
  ·exact Or.inr h
 have qE:=hid (And.intro hgb hBw);have HH:=hid hH;have c0:=(aa hH.blk).1;have l0:=ae hH.blk;clear hH hN hE j5 hns hel hgb hBw hMB;go_enter Tryz.func71,Tryz.ntmps71;go_wp2_with fail;clear c0 l0;go_loopw [12] (fun s12 wr=>∃(i:Nat),i<=el/\s12= .int .i64 (i:Nat)/\Hid (∃ss',Hg B wr gb a (.slice qn nl cn) (.slice qe el ce) (.slice fq fm fc) (.slice pq pm pc) ns ss' (fun k=>iw ns es k i)/\Kp (fun k=>B<=k) w wr)) (fun s12 _=>el-(intOf s12).toNat);case atStart=>exact⟨0,zL _,rfl,_,HH.o,Kp.refl _ _⟩
 case round=>
  clear HH;obtain⟨i,hi,rfl,HI0⟩:=hrel;by_cases hlt:i<el
  ·obtain⟨ss1,hI1,hI2⟩:=HI0.o;have HI:Hid (Hg B wr gb a (.slice qn nl cn) (.slice qe el ce) (.slice fq fm fc) (.slice pq pm pc) ns ss1 (fun k=>iw ns es k i)/\Kp (fun k=>B<=k) w wr):=⟨hI1,hI2⟩;clear hI1 hI2 HI0;have hltz:(i:Int)<(el:Int):=(by omega);have hi0:(0:Int)<=(i:Int):=(by omega);obtain⟨y,hy⟩:∃y,es[i]? =some y:=⟨es[i]'(by have:=CJ.o;omega),by simp⟩;have HY:=hid hy;have uF:Hid (fD ns y.src y.o=true/\fE ns y.dst y.df=true):=(by rw[Vn.o];exact iM.o.ends (g:=jS a xs es) hy);obtain⟨b1,o1,q1,gN,rU,x0,x1,x2,x3,x4⟩:=sJ ((HKE.o wr HI.o.2).ls hy) hy;simp only[vS]at gN;obtain⟨rfl,-,rfl⟩:=gN;clear hy;obtain⟨yb,hyb⟩:=aC (wr.heap.size);obtain⟨W5,bU⟩:=aC (wr.alloc (.cells (aW y) 151));have P5:Hid (Hg B W5 gb a (.slice qn nl cn) (.slice (some ⟨b1,o1,none⟩) el ce) (.slice fq fm fc) (.slice pq pm pc) ns ss1 (fun k=>iw ns es k i)/\W5.heap[yb]? =some (.cells (aW y) 151 (0,0))/\Kp (fun k=>B<=k) w W5):=by
    have g5:=((Gr.refl wr).alloc (.cells (aW y) 151)).below;rw[bU,hyb];exact⟨HI.o.1.below g5,ah _ _,HI.o.2.trans (Kp.of_below g5) (fun _ _ h=>h)⟩
   have gZ:Hid (wr.alloc (.cells #[.int .i64 y.src, .int .i64 y.o, .int .i64 y.dst, .int .i64 y.df, .bool y.keyed] 151)=W5/\wr.heap.size=yb):=⟨bU.symm,hyb.symm⟩;clear bU hyb;go_upto_region 3 with fail;rw[gZ.o.1,gZ.o.2];clear gZ x0 x1 x2 x3 x4 rU;have G5:Hid (∀W,Below W5.heap.size W5 W->Gb W gb a (.slice qn nl cn) (.slice (some ⟨b1,o1,none⟩) el ce) (.slice fq fm fc) (.slice pq pm pc) xs):=fun W hb=>by
    have hk:=P5.o.2.2.trans (Kp.of_below (S:=fun k=>B<=k) hb) (fun _ _ h=>h);have hh:=P5.o.1.below hb;refine⟨hh.blk,HKN.o W hk, ?_,by have:=iM.o.nl;simpa using this,by have:=iM.o.kF;exact this⟩;have:=aH (E:=EI) hh.fr;rw[Vn.o,gK]at this;exact this
   have hc1:∀W,Below W5.heap.size W5 W->Calls Tryz.prog 115 #[.pointer (some ⟨gb,0,none⟩), .int .i64 y.src, .int .i64 y.o] W fun r w'=>r= .returned (.int .i64 (eB ns y:Nat))/\Gr W w':=fun W hb=>by
    have h:=Jk y.src y.o W (G5.o W hb);rw[<-Vn.o,vk uF.o.1 (by rw[Vn.o];exact iM.o.kF)]at h;exact h
   have hc2:∀W,Below W5.heap.size W5 W->Calls Tryz.prog 116 #[.pointer (some ⟨gb,0,none⟩), .int .i64 y.dst, .int .i64 y.df] W fun r w'=>r= .returned (.int .i64 (iR ns y:Nat))/\w'=W:=fun W hb=>by
    have h:=OJ y.dst y.df W (G5.o W hb);rw[<-Vn.o,BO uF.o.2]at h;exact h
   obtain⟨po,hpo⟩:=aC (eB ns y);obtain⟨pi,hpi⟩:=aC (iR ns y);rw[<-hpo]at hc1;rw[<-hpi]at hc2;have Zi:Hid (po=eB ns y/\pi=iR ns y):=⟨hpo,hpi⟩;clear hpo hpi;have hS0:Below W5.heap.size W5 W5.drew:=(Gr.refl W5).drew.below;refine ax (S:=fun W=>Below W5.heap.size W5 W) (D:=[]) hmx ?_;refine' aj 0 hS0 ?_;refine' aj 1 hS0 ?_;refine' bu 2 hS0 ?h ?_;case h=>(intro W hSw;have hb:=(hSw.block _ (ae P5.o.2.1)).trans P5.o.2.1;have hc:=(aa hb).1;have hl:=ae hb;go_simp;try(with_reducible rfl))
   refine' aj 3 hS0 ?_;refine' bu 4 hS0 ?h ?_;case h=>(intro W hSw;have hb:=(hSw.block _ (ae P5.o.2.1)).trans P5.o.2.1;have hc:=(aa hb).1;have hl:=ae hb;go_simp;try(with_reducible rfl))
   refine' aj 6 hS0 ?_;refine' aj 7 hS0 ?_;refine' bu 8 hS0 ?h ?_;case h=>(intro W hSw;have hb:=(hSw.block _ (ae P5.o.2.1)).trans P5.o.2.1;have hc:=(aa hb).1;have hl:=ae hb;go_simp;try(with_reducible rfl))
   refine' aj 9 hS0 ?_;refine' bu 10 hS0 ?h ?_;case h=>(intro W hSw;have hb:=(hSw.block _ (ae P5.o.2.1)).trans P5.o.2.1;have hc:=(aa hb).1;have hl:=ae hb;go_simp;try(with_reducible rfl))
   refine' aj 13 hS0 ?_;refine bF 5 fun K hK=> ?_;go_simp;refine(hc1 _ hS0).mono ?_;rintro r w6 ⟨rfl,g6⟩;have pG:Below W5.heap.size W5 w6:=hS0.trans (g6.below.mono hS0.size);clear g6;go_wp2_with fail;refine hK.o _ _ (fun hD=>pG) ?_;clear hK K;try simp only[Act.put,qI,q0,qS]
   refine bF 11 fun K hK=> ?_;go_simp;refine(hc2 _ pG).mono ?_;rintro r w7 ⟨rfl,rfl⟩;go_wp2_with fail;refine hK.o _ _ (fun hD=>pG) ?_;clear hK K;try simp only[Act.put,qI,q0,qS]
   refine' aj 12 pG ?_;refine au (by kernel_rfl) ?_ _;have P6:Hid (Hg B w7 gb a (.slice qn nl cn) (.slice (some ⟨b1,o1,none⟩) el ce) (.slice fq fm fc) (.slice pq pm pc) ns ss1 (fun k=>iQ ns es y i 0 k)/\Kp (fun k=>B<=k) w w7):=⟨(P5.o.1.below pG).re (fun k _=>by simp[iQ]),P5.o.2.2.trans (Kp.of_below pG) (fun _ _ h=>h)⟩;clear hS0 pG hc1 hc2 G5 P5 HI;go_upto_region 4 with fail;go_loopw [30] (fun s30 wr=>∃(p:Nat),p<=2/\s30= .int .i64 (p:Nat)/\Hid (∃ss',Hg B wr gb a (.slice qn nl cn) (.slice (some ⟨b1,o1,none⟩) el ce) (.slice fq fm fc) (.slice pq pm pc) ns ss' (fun k=>iQ ns es y i p k)/\Kp (fun k=>B<=k) w wr)) (fun s30 _=>2-(intOf s30).toNat);case atStart=>exact⟨0,by omega,rfl,_,P6.o⟩
   case round=>
    clear P6;obtain⟨p,hp,rfl,HI0⟩:=hrel;have hp3:p=0\/p=1\/p=2:=(by omega);have ix0:=Nk (po:Nat) (pi:Nat);have ix1:=Nj (po:Nat) (pi:Nat);rcases hp3 with rfl|rfl|rfl
    ·have HAT:Hid (po=eB ns y/\(aV ns ns.length)[po]? =some (y.src.toNat,y.o.toNat,false)):=⟨Zi.o.1,by rw[Zi.o.1];exact wW uF.o.1⟩;have Yx:Hid (∀k,iQ ns es y i 1 k=if k=po then iQ ns es y i 0 po++[(i:Int)]else iQ ns es y i 0 k):=fun k=>by
      rw[Zi.o.1];unfold iQ;by_cases e:k=eB ns y
      ·subst e;simp
      ·simp[e]
     obtain⟨Kj,hI1,hI2⟩:=HI0.o;have HI:Hid (Hg B wr gb a (.slice qn nl cn) (.slice (some ⟨b1,o1,none⟩) el ce) (.slice fq fm fc) (.slice pq pm pc) ns Kj (fun k=>iQ ns es y i 0 k)/\Kp (fun k=>B<=k) w wr):=⟨hI1,hI2⟩;clear hI1 hI2 HI0;have hkl:po<Kj.length:=(by rw[HI.o.1.len];exact(lG.1 HAT.o.2).1);obtain⟨s,hs⟩:∃s,Kj[po]? =some s:=⟨Kj[po]'hkl,by simp⟩;obtain⟨pb,Wh,abp,hpv2,hpb,-,-,-,z3⟩:=Og (aH (E:=ES) HI.o.1.sp) hs;have hz:Wh=0:=by
      rcases HI.o.1.sp.2 with⟨h0,_⟩|⟨g,cap,cur,h0,_⟩
      ·rw[hpv2]at h0;cases h0
      ·rw[hpv2]at h0;simp only[vS,oI,aI]at h0;exact h0.1.2.1
     subst hz;simp only[vS]at hpv2;obtain⟨rfl,rfl,rfl⟩:=hpv2;rw[nZ]at z3;have rY:=hid hs;have J2:=hid HI.o.1.sp;have fr3:=HI.o.1.sp.frozenAt;have uS:=hid (DN ns es y i 0 po);have cg:=(aa HI.o.1.blk).1;have lg:=ae HI.o.1.blk;have hk0:(0:Int)<=(po:Int):=(by omega);have HRW:=hid (HI.o.1.each po s hs);generalize hln:Kj.length=sl at hkl cg fr3;have hkz:(po:Int)<(sl:Int):=(by omega);have uC:=hid hln;obtain⟨LL,mK⟩:=aC (iQ ns es y i 0 po);change Hid (wr.ownsRow B 3 1 s.ev (iQ ns es y i 0 po).length (fl EI (iQ ns es y i 0 po)))at HRW;rw[<-mK]at uS HRW;have vI:=hid mK;have jG:=hid (nT qE.o.2 HI.o.2.size);clear hs mK hln;obtain⟨snd,spt,VR,sq,sm,sc⟩:=s;have hS0:(wr.drew).heap[gb]? =some (.cells (eF a (.slice qn nl cn) (.slice (some ⟨b1,o1,none⟩) el ce) (.slice fq fm fc) (.slice (some ⟨pb,0,none⟩) sl pc)) 138 (0,0))/\(wr.drew).cell? ⟨pb,po*4+3,none⟩=some (.slice sq sm sc)/\pb<(wr.drew).heap.size:=⟨by have h:=HI.o.1.blk;rw[uC.o]at h;exact h,z3,hpb⟩;clear cg lg fr3;go_upto_region 6 with fail;refine ax (S:=fun W=>W.heap[gb]? =some (.cells (eF a (.slice qn nl cn) (.slice (some ⟨b1,o1,none⟩) el ce) (.slice fq fm fc) (.slice (some ⟨pb,0,none⟩) sl pc)) 138 (0,0))/\W.cell? ⟨pb,po*4+3,none⟩=some (.slice sq sm sc)/\pb<W.heap.size) (D:=[18]) hmx ?_;refine' aj 0 hS0 ?_;refine' aj 1 hS0 ?_;refine' aj 2 hS0 ?_;refine' bu 3 hS0 ?h ?_;case h=>(intro W hSw;have hc:=(aa hSw.1).1;have hl:=ae hSw.1;go_simp;try(with_reducible rfl))
     refine' aj 4 hS0 ?_;refine' aj 5 hS0 ?_;refine' aj 6 hS0 ?_;refine' aj 7 hS0 ?_;refine' bu 8 hS0 ?h ?_;case h=>(intro W hSw;have hc:=(aa hSw.1).1;have hl:=ae hSw.1;go_simp;try(with_reducible rfl))
     refine' aj 9 hS0 ?_;refine' aj 10 hS0 ?_;refine' aj 11 hS0 ?_;refine' bu 12 hS0 ?h ?_;case h=>(intro W hSw;have hc:=hSw.2.1;have hl:=hSw.2.2;go_simp;try(with_reducible rfl))
     refine' aj 13 hS0 ?_;refine bF 14 fun K hK=> ?_;go_simp;have b6:=((Gr.refl wr).drew.alloc (.cells #[.int .i64 (i:Nat)] 3)).below;have pG:=(show _/\_/\_ from⟨(b6.block _ (ae hS0.1)).trans hS0.1,(b6.cell (p:=⟨pb,po*4+3,none⟩) hpb).trans z3,nL hpb b6.size⟩);clear b6;refine hK.o _ _ (fun hD=>pG) ?_;clear hK K;try simp only[Act.put,qI,q0,qS]
     refine bF 15 fun K hK=> ?_;refine bQ EI Tryz.underlying97 mg rfl (by decide) rfl _ _ rfl B (.slice sq sm sc) LL.length (fl EI LL) rfl (show(wr.drew).ownsRow B 3 1 (.slice sq sm sc) LL.length (fl EI LL)from HRW.o) (i:Int) (by first|rfl|simp) (by have:=uS.o;omega) (by have:=uS.o;unfold maxLen;omega) jG.o _ rfl _ ?_;intro g8 bB w8 h8 k8 n8;have ST:Hid (Hg B (w8.setCell ⟨pb,po*4+3,none⟩ (.slice (some ⟨g8,0,none⟩) (LL.length+1) bB)) gb a (.slice qn nl cn) (.slice (some ⟨b1,o1,none⟩) el ce) (.slice fq fm fc) (.slice (some ⟨pb,0,none⟩) sl pc) ns (Kj.set po ((SV.mk snd spt VR sq sm sc).p8 g8 (LL.length+1) bB)) (fun k=>iQ ns es y i (0+1) k)/\Kp (fun k=>B<=k) w (w8.setCell ⟨pb,po*4+3,none⟩ (.slice (some ⟨g8,0,none⟩) (LL.length+1) bB))):=by
      rw[vI.o]at h8⊢;have h:=(HI.o.1.below (Gr.refl wr).drew.below).step qE.o.1 rY.o (by rw[uC.o]) h8.o k8.o n8.o;rw[uC.o]at h;exact⟨h.1.re (fun k _=>(Yx.o k).symm),(HI.o.2.trans (Kp.aX (Gr.refl wr).drew) (fun _ _ h=>h)).trans h.2 (fun _ _ h=>h)⟩
     have dN:=(Kp.grownBy (S:=fun k=>(Value.slice sq sm sc).ownBlock=some k) k8.o (fun _ h=>h));have f8:w8.frozen? ⟨pb,po*4+3,none⟩=false:=by
      have h:=av dN J2.o (fun j e e2=>aD J2.o HRW.o (by decide) j e e2);rw[uC.o]at h;exact h.frozenAt _
     have HF8:=hid f8;have iV:w8.heap[gb]? =some (.cells (eF a (.slice qn nl cn) (.slice (some ⟨b1,o1,none⟩) el ce) (.slice fq fm fc) (.slice (some ⟨pb,0,none⟩) sl pc)) 138 (0,0))/\w8.cell? ⟨pb,po*4+3,none⟩=some (.slice sq sm sc)/\pb<w8.heap.size:=⟨(dN.block _ (ae hS0.1) (fun e=>by have:=(aK HRW.o gb e).1;have:=qE.o.1;omega)).trans hS0.1,(dN.cell hpb (fun e=>aD HRW.o J2.o (by decide) pb e rfl)).trans z3,nL hpb dN.size⟩;clear h8 k8 n8 dN f8;generalize LL.length+1=ll at ST⊢;refine hK.o _ _ (fun hD=>iV) ?_;clear hK K;try simp only[Act.put,qI,q0,qS]
     refine bF 16 fun K hK=> ?_;go_simp;refine hK.o _ _ (fun hD=>iV) ?_;clear hK K;try simp only[Act.put,qI,q0,qS]
     refine' aj 17 iV ?_;refine bF 18 fun K hK=> ?_;have c8:=iV.2.1;have f8:=HF8.o;have l8:=iV.2.2;go_simp;generalize (w8.setCell ⟨pb,po*4+3,none⟩ (.slice (some ⟨g8,0,none⟩) ll bB))=w9 at ST⊢;clear c8 f8 l8;refine hK.o _ _ (fun hD=>absurd (by decide) hD) ?_;clear hK K;try simp only[Act.put,qI,q0,qS]
     refine au (by kernel_rfl) ?_ _;clear hS0 iV z3;go_wp2_with fail;go_roundw;case rel=>exact⟨0+1,by omega,by go_num,_,ST.o⟩
     case measure=>simp[intOf]
    ·have HAT:Hid (pi=iR ns y/\(aV ns ns.length)[pi]? =some (y.dst.toNat,y.df.toNat,true)):=⟨Zi.o.2,by rw[Zi.o.2];exact BM uF.o.2⟩;have Yx:Hid (∀k,iQ ns es y i 2 k=if k=pi then iQ ns es y i 1 pi++[(i:Int)]else iQ ns es y i 1 k):=fun k=>by
      rw[Zi.o.2];unfold iQ;by_cases e:k=iR ns y
      ·subst e;simp
      ·simp[e]
     obtain⟨Kj,hI1,hI2⟩:=HI0.o;have HI:Hid (Hg B wr gb a (.slice qn nl cn) (.slice (some ⟨b1,o1,none⟩) el ce) (.slice fq fm fc) (.slice pq pm pc) ns Kj (fun k=>iQ ns es y i 1 k)/\Kp (fun k=>B<=k) w wr):=⟨hI1,hI2⟩;clear hI1 hI2 HI0;have hkl:pi<Kj.length:=(by rw[HI.o.1.len];exact(lG.1 HAT.o.2).1);obtain⟨s,hs⟩:∃s,Kj[pi]? =some s:=⟨Kj[pi]'hkl,by simp⟩;obtain⟨pb,Wh,abp,hpv2,hpb,-,-,-,z3⟩:=Og (aH (E:=ES) HI.o.1.sp) hs;have hz:Wh=0:=by
      rcases HI.o.1.sp.2 with⟨h0,_⟩|⟨g,cap,cur,h0,_⟩
      ·rw[hpv2]at h0;cases h0
      ·rw[hpv2]at h0;simp only[vS,oI,aI]at h0;exact h0.1.2.1
     subst hz;simp only[vS]at hpv2;obtain⟨rfl,rfl,rfl⟩:=hpv2;rw[nZ]at z3;have rY:=hid hs;have J2:=hid HI.o.1.sp;have fr3:=HI.o.1.sp.frozenAt;have uS:=hid (DN ns es y i 1 pi);have cg:=(aa HI.o.1.blk).1;have lg:=ae HI.o.1.blk;have hk0:(0:Int)<=(pi:Int):=(by omega);have HRW:=hid (HI.o.1.each pi s hs);generalize hln:Kj.length=sl at hkl cg fr3;have hkz:(pi:Int)<(sl:Int):=(by omega);have uC:=hid hln;obtain⟨LL,mK⟩:=aC (iQ ns es y i 1 pi);change Hid (wr.ownsRow B 3 1 s.ev (iQ ns es y i 1 pi).length (fl EI (iQ ns es y i 1 pi)))at HRW;rw[<-mK]at uS HRW;have vI:=hid mK;have jG:=hid (nT qE.o.2 HI.o.2.size);clear hs mK hln;obtain⟨snd,spt,VR,sq,sm,sc⟩:=s;have hS0:(wr.drew).heap[gb]? =some (.cells (eF a (.slice qn nl cn) (.slice (some ⟨b1,o1,none⟩) el ce) (.slice fq fm fc) (.slice (some ⟨pb,0,none⟩) sl pc)) 138 (0,0))/\(wr.drew).cell? ⟨pb,pi*4+3,none⟩=some (.slice sq sm sc)/\pb<(wr.drew).heap.size:=⟨by have h:=HI.o.1.blk;rw[uC.o]at h;exact h,z3,hpb⟩;clear cg lg fr3;go_upto_region 6 with fail;refine ax (S:=fun W=>W.heap[gb]? =some (.cells (eF a (.slice qn nl cn) (.slice (some ⟨b1,o1,none⟩) el ce) (.slice fq fm fc) (.slice (some ⟨pb,0,none⟩) sl pc)) 138 (0,0))/\W.cell? ⟨pb,pi*4+3,none⟩=some (.slice sq sm sc)/\pb<W.heap.size) (D:=[18]) hmx ?_;refine' aj 0 hS0 ?_;refine' aj 1 hS0 ?_;refine' aj 2 hS0 ?_;refine' bu 3 hS0 ?h ?_;case h=>(intro W hSw;have hc:=(aa hSw.1).1;have hl:=ae hSw.1;go_simp;try(with_reducible rfl))
     refine' aj 4 hS0 ?_;refine' aj 5 hS0 ?_;refine' aj 6 hS0 ?_;refine' aj 7 hS0 ?_;refine' bu 8 hS0 ?h ?_;case h=>(intro W hSw;have hc:=(aa hSw.1).1;have hl:=ae hSw.1;go_simp;try(with_reducible rfl))
     refine' aj 9 hS0 ?_;refine' aj 10 hS0 ?_;refine' aj 11 hS0 ?_;refine' bu 12 hS0 ?h ?_;case h=>(intro W hSw;have hc:=hSw.2.1;have hl:=hSw.2.2;go_simp;try(with_reducible rfl))
     refine' aj 13 hS0 ?_;refine bF 14 fun K hK=> ?_;go_simp;have b6:=((Gr.refl wr).drew.alloc (.cells #[.int .i64 (i:Nat)] 3)).below;have pG:=(show _/\_/\_ from⟨(b6.block _ (ae hS0.1)).trans hS0.1,(b6.cell (p:=⟨pb,pi*4+3,none⟩) hpb).trans z3,nL hpb b6.size⟩);clear b6;refine hK.o _ _ (fun hD=>pG) ?_;clear hK K;try simp only[Act.put,qI,q0,qS]
     refine bF 15 fun K hK=> ?_;refine bQ EI Tryz.underlying97 mg rfl (by decide) rfl _ _ rfl B (.slice sq sm sc) LL.length (fl EI LL) rfl (show(wr.drew).ownsRow B 3 1 (.slice sq sm sc) LL.length (fl EI LL)from HRW.o) (i:Int) (by first|rfl|simp) (by have:=uS.o;omega) (by have:=uS.o;unfold maxLen;omega) jG.o _ rfl _ ?_;intro g8 bB w8 h8 k8 n8;have ST:Hid (Hg B (w8.setCell ⟨pb,pi*4+3,none⟩ (.slice (some ⟨g8,0,none⟩) (LL.length+1) bB)) gb a (.slice qn nl cn) (.slice (some ⟨b1,o1,none⟩) el ce) (.slice fq fm fc) (.slice (some ⟨pb,0,none⟩) sl pc) ns (Kj.set pi ((SV.mk snd spt VR sq sm sc).p8 g8 (LL.length+1) bB)) (fun k=>iQ ns es y i (1+1) k)/\Kp (fun k=>B<=k) w (w8.setCell ⟨pb,pi*4+3,none⟩ (.slice (some ⟨g8,0,none⟩) (LL.length+1) bB))):=by
      rw[vI.o]at h8⊢;have h:=(HI.o.1.below (Gr.refl wr).drew.below).step qE.o.1 rY.o (by rw[uC.o]) h8.o k8.o n8.o;rw[uC.o]at h;exact⟨h.1.re (fun k _=>(Yx.o k).symm),(HI.o.2.trans (Kp.aX (Gr.refl wr).drew) (fun _ _ h=>h)).trans h.2 (fun _ _ h=>h)⟩
     have dN:=(Kp.grownBy (S:=fun k=>(Value.slice sq sm sc).ownBlock=some k) k8.o (fun _ h=>h));have f8:w8.frozen? ⟨pb,pi*4+3,none⟩=false:=by
      have h:=av dN J2.o (fun j e e2=>aD J2.o HRW.o (by decide) j e e2);rw[uC.o]at h;exact h.frozenAt _
     have HF8:=hid f8;have iV:w8.heap[gb]? =some (.cells (eF a (.slice qn nl cn) (.slice (some ⟨b1,o1,none⟩) el ce) (.slice fq fm fc) (.slice (some ⟨pb,0,none⟩) sl pc)) 138 (0,0))/\w8.cell? ⟨pb,pi*4+3,none⟩=some (.slice sq sm sc)/\pb<w8.heap.size:=⟨(dN.block _ (ae hS0.1) (fun e=>by have:=(aK HRW.o gb e).1;have:=qE.o.1;omega)).trans hS0.1,(dN.cell hpb (fun e=>aD HRW.o J2.o (by decide) pb e rfl)).trans z3,nL hpb dN.size⟩;clear h8 k8 n8 dN f8;generalize LL.length+1=ll at ST⊢;refine hK.o _ _ (fun hD=>iV) ?_;clear hK K;try simp only[Act.put,qI,q0,qS]
     refine bF 16 fun K hK=> ?_;go_simp;refine hK.o _ _ (fun hD=>iV) ?_;clear hK K;try simp only[Act.put,qI,q0,qS]
     refine' aj 17 iV ?_;refine bF 18 fun K hK=> ?_;have c8:=iV.2.1;have f8:=HF8.o;have l8:=iV.2.2;go_simp;generalize (w8.setCell ⟨pb,pi*4+3,none⟩ (.slice (some ⟨g8,0,none⟩) ll bB))=w9 at ST⊢;clear c8 f8 l8;refine hK.o _ _ (fun hD=>absurd (by decide) hD) ?_;clear hK K;try simp only[Act.put,qI,q0,qS]
     refine au (by kernel_rfl) ?_ _;clear hS0 iV z3;go_wp2_with fail;go_roundw;case rel=>exact⟨1+1,by omega,by go_num,_,ST.o⟩
     case measure=>simp[intOf]
    ·have FIN:Hid (∃ss',Hg B wr gb a (.slice qn nl cn) (.slice (some ⟨b1,o1,none⟩) el ce) (.slice fq fm fc) (.slice pq pm pc) ns ss' (fun k=>iw ns es k (i+1))/\Kp (fun k=>B<=k) w wr):=by
       obtain⟨s2,h1,h2⟩:=HI0.o;exact⟨s2,h1.re (fun k _=>KE HY.o (TL uF.o.1 uF.o.2) k),h2⟩
     go_wp2_with fail;go_roundw;case rel=>exact⟨i+1,by omega,by go_num,FIN.o⟩
     case measure=>simp[intOf];omega
  ·have hltz:¬(i:Int)<(el:Int):=(by omega);obtain rfl:i=el:=(by omega);go_wp2_with fail;go_end0;exact⟨rfl,HI0.o⟩
theorem nC{n:dx}(h:eH a n=0):n.code.length<=16/\n.bT.length<=16:=by
 unfold eH at h;split at h
 ·cases h
 ·split at h
  ·cases h
  ·split at h
   ·cases h
   ·rename_i h1 h2 h3;simp only[uK,has,Bool.or_eq_true,dE,not_or,Nat.not_lt,Nat.le_zero_eq]at h3;obtain⟨⟨⟨⟨c1,-⟩,-⟩,c4⟩,-⟩:=h3;unfold jO at h;constructor
    ·by_cases hk:n.kind=2\/n.kind=3
     ·rw[if_pos hk]at h;split at h
      ·cases h
      ·omega
     ·rw[if_neg hk]at c1;omega
    ·by_cases hk:n.kind=8
     ·rw[if_neg (by omega),if_neg (by omega),if_pos hk]at h;split at h
      ·rename_i hc;exact(vG.1 hc).1
      ·cases h
     ·rw[if_neg hk]at c4;omega
theorem gY.lists{g:bD}(h:gY g):∀n∈g.nodes,n.code.length<=16/\n.bT.length<=16:=fun n hn=>by
 obtain⟨i,hi,rfl⟩:=List.mem_iff_getElem.1 hn;exact nC (h.ng i _ hi (by simp))
theorem Hg.base{B' gb:Nat}{ns:List dx}{ss:List SV}{L:Nat->List Int}(h:Hg B w gb a nv ev fv pv ns ss L)(hb:B'<=B):Hg B' w gb a nv ev fv pv ns ss L:=
 ⟨h.blk,aL h.fr hb,aL h.sp hb,h.len,h.shape,fun k s hk=>aL (h.each k s hk) hb,h.apart⟩
theorem Hg.kp{gb:Nat}{ns:List dx}{ss:List SV}{L:Nat->List Int}(h:Hg B w gb a nv ev fv pv ns ss L)(hg:B<=gb)(hk:Kp S w w')(hS:∀k,B<=k->k<w.heap.size->¬S k):Hg B w' gb a nv ev fv pv ns ss L:=
 ⟨(hk.block _ (ae h.blk) (hS _ hg (ae h.blk))).trans h.blk,av hk h.fr (fun k e=>hS k (aK h.fr k e).1 (aK h.fr k e).2),av hk h.sp (fun k e=>hS k (aK h.sp k e).1 (aK h.sp k e).2),h.len,h.shape,fun k s hs=>av hk (h.each k s hs) (fun k e=>hS k (aK (h.each _ s hs) k e).1 (aK (h.each _ s hs) k e).2),h.apart⟩
structure Gp(B:Nat)(w:World)(gb:Nat)(g:bD)(nv ev fv pv:Value)(ys:List NV)(ss:List SV):Prop where
 low:B<=gb
 raw:Cg B w nv ev ys g.aM
 KD:ys.map NV.n=g.nodes
 rows:Hg B w gb g.arity nv ev fv pv g.nodes ss (fun k=>iw g.nodes g.aM k g.aM.length)
 ok:gY g
def Gm(B:Nat)(w:World)(gb:Nat)(g:bD):Prop:=∃nv ev fv pv ys ss,Gp B w gb g nv ev fv pv ys ss
theorem Gp.kp{gb:Nat}{g:bD}{ys:List NV}{ss:List SV}(h:Gp B w gb g nv ev fv pv ys ss)(hk:Kp S w w')(hS:∀k,B<=k->k<w.heap.size->¬S k):Gp B w' gb g nv ev fv pv ys ss:=
 ⟨h.low,h.raw.kp hk hS,h.KD,h.rows.kp h.low hk hS,h.ok⟩
theorem Gp.below{gb:Nat}{g:bD}{ys:List NV}{ss:List SV}(h:Gp B w gb g nv ev fv pv ys ss)(hb:Below w.heap.size w w'):Gp B w' gb g nv ev fv pv ys ss:=h.kp (S:=fun _=>False) (Kp.of_below hb) (fun _ _ _ h=>h)
theorem Gm.kp{gb:Nat}{g:bD}(h:Gm B w gb g)(hk:Kp S w w')(hS:∀k,B<=k->k<w.heap.size->¬S k):Gm B w' gb g:=by
 obtain⟨nv,ev,fv,pv,ys,ss,h⟩:=h;exact⟨nv,ev,fv,pv,ys,ss,h.kp hk hS⟩
theorem Gm.below{gb:Nat}{g:bD}(h:Gm B w gb g)(hb:Below w.heap.size w w'):Gm B w' gb g:=h.kp (S:=fun _=>False) (Kp.of_below hb) (fun _ _ _ h=>h)
def Nw(w:World)(g:bD)(r:Ending)(w':World):Prop:=Below w.heap.size w w'/\∃e t,Fl g e t/\((e≠0/\r= .returned (.tuple #[.pointer none, .int .i64 e, .int .i64 t]))\/(e=0/\∃gb,r= .returned (.tuple #[.pointer (some ⟨gb,0,none⟩), .int .i64 0, .int .i64 0])/\Gm w.heap.size w' gb g))
theorem Nc{t:List Vg}{s:SV}(h:(t.map SV.of)[k]? =some s):t[k]? =some (s.nd.toNat,s.pt.toNat,s.df)/\0<=s.nd/\0<=s.pt:=by
 rw[gM]at h;cases e:t[k]? with
 | none => rw[e]at h;cases h
 | some x=>
  rw[e]at h;cases h;simp[SV.of]
theorem UL{t:List Vg}{s:SV}(h:(t.map SV.of)[k]? =some s):s.ev= .slice none 0 0:=by
 rw[gM]at h;cases e:t[k]? with
 | none => rw[e]at h;cases h
 | some x=>
  rw[e]at h;cases h;rfl
theorem dF{xs:List NV}{es:List dQ}(w:World)(hG:GR M w nv ev xs es)(hC:yo ev xs):Calls Tryz.prog 32 #[.agg (jc a nv ev)] w (Nw w (jS a xs es)):=by
 have g0:=(Gr.refl w).alloc (.cells (jc a nv ev) 25);have HG:=hid (hG.below g0.below);have HB:=hid (ah w (.cells (jc a nv ev) 25));have B0:=hid g0.below;obtain⟨W0,hW0⟩:=aC (w.alloc (.cells (jc a nv ev) 25));have HW:Hid (w.alloc (.cells #[.int .i64 a,nv,ev] 25)=W0):=hW0.symm;rw[<-hW0]at HG HB B0;have HCP:=hid hC;have hf:=Ii (a:=a) W0 HG.o hC;obtain⟨pn,cn,rfl⟩:=hG.nodes.form;obtain⟨pe,ce,rfl⟩:=hG.aM.form;have c0:=(aa HB.o).1;have l0:=ae HB.o;generalize hnl:xs.length=nl at *;generalize hel:es.length=el at *;have lW:=hid hnl;have CJ:=hid hel;clear hG g0 hW0 hC hnl hel;go_enter Tryz.func32,Tryz.ntmps32;go_upto_region 1 with fail;rw[HW.o];clear HW;go_wp2_with fail;refine hf.mono ?_;rintro r w1 ⟨e,t,rfl,hF,b1⟩;have B1:=hid (B0.o.trans (b1.mono B0.o.size));have HF:=hid hF;by_cases he:e=0
 ·subst he;have iM:=hid (hF.ok.1 rfl);have hn1:=(b1.block _ (ae HB.o)).trans HB.o;have c1:=(aa hn1).1;have l1:=ae hn1;have G1:=HG.o.below b1;have Pd:=lJ (a:=a) w1 G1 ⟨by have h:=iM.o.nl;simp at h;omega,by have h:=iM.o.el;simp at h;omega,fun x hx=>by have h:=iM.o.lists x.n (List.mem_map_of_mem hx);omega⟩;clear hF b1 hf c0 l0 hn1 G1;go_wp2_with fail;refine Pd.mono ?_;rintro r w2 ⟨UM,ev',ys,rfl,b2,hys,hcg⟩;have B2:=hid (B1.o.trans (b2.mono B1.o.size));have CG:=hid (hcg.base B1.o.size);have HYS:=hid hys;obtain⟨qn,mn,kn,hn⟩:=aB hcg.nodes;obtain⟨qe,me,ke,hq⟩:=aB hcg.aM;subst hn;subst hq;clear b2 hcg hys Pd c1 l1;obtain⟨gb,hgb⟩:=aC (w2.heap.size);obtain⟨W3,hW3⟩:=aC (w2.alloc (.cells (eF a (.slice qn mn kn) (.slice qe me ke) (.slice none 0 0) (.slice none 0 0)) 138));have P3:Hid (Below w2.heap.size w2 W3/\W3.heap[gb]? =some (.cells (eF a (.slice qn mn kn) (.slice qe me ke) (.slice none 0 0) (.slice none 0 0)) 138 (0,0))/\gb=w2.heap.size/\W3.heap.size=gb+1):=by
   rw[hW3,hgb];exact⟨((Gr.refl w2).alloc _).below,ah _ _,rfl,by simp⟩
  have HW3:Hid (w2.alloc (.cells #[.int .i64 a, .slice qn mn kn, .slice qe me ke, .slice none 0 0, .slice none 0 0] 138)=W3/\w2.heap.size=gb):=⟨hW3.symm,hgb.symm⟩;clear hW3 hgb;have hpo:Vi (ys.map NV.n):=by rw[HYS.o];exact iM.o.kF
  have hyl:ys.length=xs.length:=by have:=congrArg List.length HYS.o;simpa using this
  have hxl:xs.length<=24:=by have:=iM.o.nl;simpa using this
  have hN3:Lz EV w2.heap.size W3 (.slice qn mn kn) ys:=Or.inl ⟨(aH (E:=EV) CG.o.nodes).below P3.o.1,fun k e=>(aK CG.o.nodes k e).2⟩;have hE3:Lz ED w2.heap.size W3 (.slice qe me ke) es:=Or.inl ⟨(aH (E:=ED) CG.o.aM).below P3.o.1,fun k e=>(aK CG.o.aM k e).2⟩;have aal:=GA W3 P3.o.2.1 hN3 (fun k e e2=>by have:=(aK CG.o.nodes k e).2;have:=P3.o.2.2.1;omega) (by omega) hpo;have HN3:=hid hN3;have HE3:=hid hE3;clear hN3 hE3;go_upto_region 5 with fail;rw[HW3.o.1,HW3.o.2];clear HW3;go_wp2_with fail;refine aal.mono ?_;rintro r w4 ⟨rfl,fv,pv,TA⟩;have HNP:=hid TA;have hH4:Hg W3.heap.size w4 gb a (.slice qn mn kn) (.slice qe me ke) fv pv (ys.map NV.n) ((aV (ys.map NV.n) ys.length).map SV.of) (fun _=>[]):=by
   have hl:(ys.map NV.n).length=ys.length:=(by simp);refine⟨TA.blk,by rw[hl];exact TA.fr,TA.sp,by simp,fun k s hk=>by rw[hl];exact Nc hk,fun k s hk=> ?_,fun k s hk b hb=> ?_⟩
   ·rw[UL hk];exact oN _ _ _ _
   ·rw[UL hk]at hb;cases hb
  have keep:∀k,k<w2.heap.size->w4.heap[k]? =W3.heap[k]? :=fun k hk=>TA.kp.block k (nL hk P3.o.1.size) (fun e=>by have:=P3.o.2.2.1;omega);have hN4:Lz EV w2.heap.size w4 (.slice qn mn kn) ys:=by
   rcases HN3.o with⟨h,hm⟩|h
   ·exact Or.inl ⟨h.kept TA.kp.size (fun k e=>keep k (hm k e)),hm⟩
   ·exact Or.inr h
  have hE4:Lz ED w2.heap.size w4 (.slice qe me ke) es:=by
   rcases HE3.o with⟨h,hm⟩|h
   ·exact Or.inl ⟨h.kept TA.kp.size (fun k e=>keep k (hm k e)),hm⟩
   ·exact Or.inr h
  have UZ:=Pj (a:=a) w4 hH4 (by have:=P3.o.2.2.2;omega) TA.kp.size (by have:=P3.o.2.2;omega) hN4 hE4 (by have h:=iM.o;unfold jS at h⊢;rw[HYS.o];exact h);clear aal TA hH4 keep hN4 hE4 hpo hyl hxl;go_wp2_with fail;refine UZ.mono ?_;rintro r w5 ⟨rfl,ss,hH5,k5⟩;have KK:Kp (fun k=>w2.heap.size<=k) w2 w5:=((Kp.of_below P3.o.1).trans (HNP.o.kp) (fun j _ e=>by have:=P3.o.2.2.1;omega)).trans k5 (fun j _ e=>by have:=P3.o.2.2;omega);have FIN:Hid (Below w.heap.size w w5/\Gm w.heap.size w5 gb (jS a xs es)):=by
   refine⟨B2.o.trans (KK.below B2.o.size (fun k e=>nT B2.o.size e)),_,_,fv,pv,ys,ss,by have:=P3.o.2.2.1;have:=B2.o.size;omega,CG.o.kp KK (fun k _ h e=>by omega),HYS.o, ?_,iM.o⟩;have h:=hH5.base (B':=w.heap.size) (by have:=P3.o.2.2;have:=B2.o.size;omega);rw[HYS.o]at h;exact h
  clear UZ hH5 k5 KK;go_wp2_with fail;refine bR (v:= .tuple #[.pointer (some ⟨gb,0,none⟩), .int .i64 0, .int .i64 0]) (by simp[results,Tryz.results32,go_sem]) rfl ?_;exact⟨FIN.o.1,0,t,HF.o,Or.inr ⟨rfl,gb,rfl,FIN.o.2⟩⟩
 ·have hb:(e==0)=false:=by simp[he]
  have hb':(e != 0)=true:=by simp[he]
  have HE:=hid he;clear hF b1 hf c0 l0 he;go_wp2_with fail;refine bR (v:= .tuple #[.pointer none, .int .i64 e, .int .i64 t]) (by simp[results,Tryz.results32,go_sem]) rfl ?_;exact⟨B1.o,e,t,HF.o,Or.inl ⟨HE.o,rfl⟩⟩
theorem Gp.gb{gb:Nat}{g:bD}{ys:List NV}{ss:List SV}(h:Gp B w gb g nv ev fv pv ys ss):Gb w gb g.arity nv ev fv pv ys:=by
 have hl:ys.length=g.nodes.length:=by rw[<-h.KD,gK]
 refine⟨h.rows.blk,iZ (E:=EV) h.raw.nodes, ?_,by rw[hl];exact h.ok.nl,by rw[h.KD];exact h.ok.kF⟩;rw[h.KD,hl];exact aH (E:=EI) h.rows.fr
theorem rD{gb:Nat}{g:bD}(i p:Int)(w:World)(h:Gm B w gb g):Calls Tryz.prog 116 #[.pointer (some ⟨gb,0,none⟩), .int .i64 i, .int .i64 p] w fun r w'=>r= .returned (.int .i64 (QH g.nodes i p))/\w'=w:=by
 obtain⟨nv,ev,fv,pv,ys,ss,h⟩:=h;have:=OJ i p w h.gb;rw[h.KD]at this;exact this
theorem nN{gb:Nat}{g:bD}(i p:Int)(w:World)(h:Gm B w gb g):Calls Tryz.prog 115 #[.pointer (some ⟨gb,0,none⟩), .int .i64 i, .int .i64 p] w fun r w'=>r= .returned (.int .i64 (yL g.nodes i p))/\Gr w w':=by
 obtain⟨nv,ev,fv,pv,ys,ss,h⟩:=h;have:=Jk i p w h.gb;rw[h.KD]at this;exact this
def aT(ns:List dx):Nat:=(aV ns ns.length).length
theorem iI{gb:Nat}{g:bD}(w:World)(h:Gm B w gb g):Calls Tryz.prog 66 #[.pointer (some ⟨gb,0,none⟩)] w fun r w'=>r= .returned (.int .i64 (aT g.nodes:Nat))/\w'=w:=by
 obtain⟨nv,ev,fv,pv,ys,ss,h⟩:=h;have HL:Hid (ss.length=aT g.nodes):=h.rows.len;have cg:=(aa h.rows.blk).1;have lg:=ae h.rows.blk;obtain⟨p,n,c,rfl⟩:=aB h.rows.sp;have HN:=hid (aZ h.rows.sp _ _ _ rfl).1;clear h;go_enter Tryz.func66,Tryz.ntmps66;go_wp2_with fail;go_ret;exact⟨by rw[<-HL.o,<-HN.o];rfl,rfl⟩
theorem jy{gb:Nat}{g:bD}(w:World)(h:Gm B w gb g):Calls Tryz.prog 120 #[.pointer (some ⟨gb,0,none⟩)] w fun r w'=>r= .returned (.int .i64 (g.nodes.length:Nat))/\w'=w:=by
 obtain⟨nv,ev,fv,pv,ys,ss,h⟩:=h;have HL:Hid (ys.length=g.nodes.length):=by show _=_;rw[<-h.KD,gK]
 have cg:=(aa h.rows.blk).1;have lg:=ae h.rows.blk;obtain⟨p,n,c,rfl⟩:=aB h.raw.nodes;have HN:=hid (aZ h.raw.nodes _ _ _ rfl).1;clear h;go_enter Tryz.func120,Tryz.ntmps120;go_wp2_with fail;go_ret;exact⟨by rw[<-HL.o,<-HN.o];rfl,rfl⟩
theorem xI{gb:Nat}{g:bD}(w:World)(h:Gm B w gb g):Calls Tryz.prog 119 #[.pointer (some ⟨gb,0,none⟩)] w fun r w'=>∃nv ev ys,Hid (r= .returned (.agg (jc g.arity nv ev))/\Below w.heap.size w w'/\ys.map NV.n=g.nodes/\Cg w.heap.size w' nv ev ys g.aM):=by
 obtain⟨nv,ev,fv,pv,ys,ss,h⟩:=h;have hyl:ys.length=g.nodes.length:=by rw[<-h.KD,gK]
 have hnl:=h.ok.nl;have hel:=h.ok.el;have Fz:∀y∈ys,y.n.code.length<=16/\y.n.bT.length<=16:=fun y hy=>h.ok.lists y.n (by rw[<-h.KD];exact List.mem_map_of_mem hy);have ab5:=hid h.KD;obtain⟨W0,hW0⟩:=aC (w.alloc (.cells (jc 0 (.slice none 0 0) (.slice none 0 0)) 25));have b0:Below w.heap.size w W0:=by rw[hW0];exact((Gr.refl w).alloc _).below
 have N0:Hid (W0.heap[w.heap.size]? =some (.cells (jc 0 (.slice none 0 0) (.slice none 0 0)) 25 (0,0))/\Below w.heap.size w W0):=by rw[hW0];exact⟨ah _ _,((Gr.refl w).alloc _).below⟩
 have HW:Hid (w.alloc (.cells #[.int .i64 0, .slice none 0 0, .slice none 0 0] 25)=W0):=hW0.symm;have h0:=h.below b0;have hgr:GR W0.heap.size W0 nv ev ys g.aM:=h0.raw.gr ⟨by omega,by omega⟩ (fun y hy=>by have:=Fz y hy;omega);have Pd:=lJ (a:=g.arity) W0 hgr ⟨by omega,by omega,fun y hy=>by have:=Fz y hy;omega⟩;have cg:=(aa h0.rows.blk).1;have lg:=ae h0.rows.blk;have HG:Hid (nv=nv):=rfl;obtain⟨p1,n1,c1,rfl⟩:=aB h.raw.nodes;obtain⟨p2,n2,c2,rfl⟩:=aB h.raw.aM;clear h h0 hgr b0 hW0 Fz hyl hnl hel HG;go_enter Tryz.func119,Tryz.ntmps119;go_upto_region 1 with fail;rw[HW.o];clear HW;go_wp2_with fail;refine Pd.mono ?_;rintro r w2 ⟨UM,ev',zs,rfl,b2,hys,hcg⟩;have HC:Hid (Below W0.heap.size W0 w2/\zs.map NV.n=g.nodes/\Cg W0.heap.size w2 UM ev' zs g.aM):=⟨b2,hys.trans ab5.o,hcg⟩;obtain⟨q1,m1,k1,hq1⟩:=aB hcg.nodes;obtain⟨q2,m2,k2,hq2⟩:=aB hcg.aM;subst hq1;subst hq2;have hn2:=(b2.block _ (ae N0.o.1)).trans N0.o.1;have c2:=(aa hn2).1;have f2:=(aa hn2).2;have l2:=ae hn2;have HN2:=hid hn2;clear b2 hys hcg hn2 Pd cg lg;go_wp2_with fail;obtain⟨wf,hwf⟩:=aC (((w2.setCell ⟨w.heap.size,0,none⟩ (.int .i64 g.arity)).setCell ⟨w.heap.size,1,none⟩ (.slice q1 m1 k1)).setCell ⟨w.heap.size,2,none⟩ (.slice q2 m2 k2));rw[<-hwf];obtain⟨hbf,hkf⟩:wf.heap[w.heap.size]? =some (.cells #[.int .i64 g.arity, .slice q1 m1 k1, .slice q2 m2 k2] 25 (0,0))/\Kp (fun k=>k=w.heap.size) w2 wf:=by
  rw[hwf];exact Ex HN2.o _ _ _
 clear hwf c2 f2 l2;obtain⟨qf,-⟩:=aa hbf;have hlf:=ae hbf;refine bR (v:= .agg #[.int .i64 g.arity, .slice q1 m1 k1, .slice q2 m2 k2]) (by simp[results,Tryz.results119,go_sem,qf]) rfl ?_;have hlo:=ae N0.o.1;have hbw:=N0.o.2.trans (HC.o.1.mono N0.o.2.size);exact⟨_,_,zs,rfl,hbw.trans (hkf.below hbw.size (fun k e=>by omega)),HC.o.2.1,(HC.o.2.2.kp hkf (fun k h1 h2 e=>by omega)).base N0.o.2.size⟩
def oW(i p:Nat):List dL:=(List.range p).map fun(o:Nat)=>⟨(i:Int),(o:Int),(0,0,0)⟩
def kQ(o:Nat):Nat->List dL
 | 0 => []
 | i + 1 => kQ o i++oW i o
theorem zu(i p:Nat):oW i (p+1)=oW i p++[⟨(i:Int),(p:Int),(0,0,0)⟩]:=by simp[oW,List.range_succ]
theorem uA(o i:Nat):(kQ o i).length=i*o:=by
 induction i with
 | zero => simp[kQ]
 | succ i ih => rw[kQ,dO,ih,Nat.succ_mul];simp[oW]
theorem IJ(k:Int)(ci co:Nat)(cq:Option Addr)(cm cc:Nat)(via:nY)(bd:Nat)(dq:Option Addr)(dm dc:Nat)(st:Bool)(hi:ci<=4)(ho:co<=4)(w:World):Calls Tryz.prog 233 #[.agg (aN k (ci:Int) (co:Int) (.slice cq cm cc) via bd (.slice dq dm dc) st)] w (Cp EC 205 w (kQ co ci)):=by
 have B0:=hid ((Gr.refl w).alloc (.cells (aN k (ci:Int) (co:Int) (.slice cq cm cc) via bd (.slice dq dm dc) st) 149)).below;have N0:=hid (ah w (.cells (aN k (ci:Int) (co:Int) (.slice cq cm cc) via bd (.slice dq dm dc) st) 149));obtain⟨W0,hW0⟩:=aC (w.alloc (.cells (aN k (ci:Int) (co:Int) (.slice cq cm cc) via bd (.slice dq dm dc) st) 149));have HW:Hid (w.alloc (.cells #[.int .i64 k, .int .i64 (ci:Int), .int .i64 (co:Int), .slice cq cm cc, .int .u64 (via.1:Nat), .int .u64 (via.2.1:Nat), .int .u64 (via.2.2:Nat), .int .u64 (bd:Nat), .slice dq dm dc, .bool st] 149)=W0):=hW0.symm;rw[<-hW0]at B0 N0;have c0:=(aa N0.o).1;have l0:=ae N0.o;clear hW0;go_enter Tryz.func233,Tryz.ntmps233;go_upto_region 1 with fail;rw[HW.o];clear HW;go_wp2_with fail;clear c0 l0;go_loopw [8,3] (fun s8 s3 wr=>∃(i:Nat),i<=ci/\s8= .int .i64 (i:Nat)/\Hid (Below W0.heap.size W0 wr/\wr.ownsRow W0.heap.size 205 5 s3 (kQ co i).length (fl EC (kQ co i)))) (fun s8 _ _=>ci-(intOf s8).toNat);case atStart=>exact⟨0,zL _,rfl,Below.refl _ _,oN _ _ _ _⟩
 case round=>
  obtain⟨i,hil,rfl,HI⟩:=hrel;rename_i s8 s3;obtain⟨q3,m3,k3,hs3⟩:=aB HI.o.2;subst hs3;by_cases hlt:i<ci
  ·have hltz:(i:Int)<(ci:Int):=(by omega);have hn:=(HI.o.1.block _ (ae N0.o)).trans N0.o;have c1:=(aa hn).1;have l1:=ae hn;clear hn;go_upto_region 6 with fail;clear c1 l1;go_loopw [13,3] (fun s13 s3 wr=>∃(p:Nat),p<=co/\s13= .int .i64 (p:Nat)/\Hid (Below W0.heap.size W0 wr/\wr.ownsRow W0.heap.size 205 5 s3 (kQ co i++oW i p).length (fl EC (kQ co i++oW i p)))) (fun s13 _ _=>co-(intOf s13).toNat);case atStart=>exact⟨0,zL _,rfl,HI.o.1,aS HI.o.2 (by simp[oW]) (by simp[oW])⟩
   case round=>
    clear HI;obtain⟨p,hpl,rfl,HI⟩:=hrel;rename_i s13 s3';obtain⟨q4,m4,k4,hs4⟩:=aB HI.o.2;subst hs4;by_cases hlp:p<co
    ·have abG:(p:Int)<(co:Int):=(by omega);obtain⟨LL,mK⟩:=aC (kQ co i++oW i p);rw[<-mK]at HI;have vI:=hid mK;have uC:Hid (LL.length<=20):=by
      show _<=_;have h1:i*co<=4*4:=Nat.mul_le_mul (by omega) ho;rw[mK,dO,uA];simp[oW];omega
     clear mK;go_wp2_with (at_builtin;refine gu EC Tryz.underlying147 pR rfl (by decide) rfl _ _ rfl W0.heap.size _ LL.length _ rfl HI.o.2 ⟨(i:Int),(p:Int),(0,0,0)⟩ (by first|rfl|simp) (by have:=uC.o;omega) (by have:=uC.o;unfold maxLen;omega) HI.o.1.size _ rfl _ ?_);intro g8 bB w8 h8 k8 _;have FIN:Hid (Below W0.heap.size W0 w8/\w8.ownsRow W0.heap.size 205 5 (.slice (some ⟨g8,0,none⟩) (LL.length+1) bB) (kQ co i++oW i (p+1)).length (fl EC (kQ co i++oW i (p+1)))):=by
      have k2:=Kp.grownBy (S:=fun k=>(Value.slice q4 m4 k4).ownBlock=some k) k8 (fun _ h=>h);refine⟨HI.o.1.trans (k2.below HI.o.1.size (fun k e=>(aK HI.o.2 k e).1)),aS h8 (by rw[vI.o,zu];simp;omega) (by rw[vI.o,zu,<-aA,aQ EC (kQ co i++oW i p),dK])⟩
     clear h8 k8;generalize LL.length+1=ll at FIN⊢;go_wp2_with fail;go_roundw;case rel=>exact⟨p+1,by omega,by go_num,FIN.o⟩
     case measure=>simp[intOf];omega
    ·have abG:¬(p:Int)<(co:Int):=(by omega);have FIN:Hid (Below W0.heap.size W0 wr/\wr.ownsRow W0.heap.size 205 5 (.slice q4 m4 k4) (kQ co (i+1)).length (fl EC (kQ co (i+1)))):=by
      have h:=HI.o.2;rw[show p=co by omega]at h;exact⟨HI.o.1,h⟩
     go_wp2_with fail;go_roundw;case rel=>exact⟨i+1,by omega,by go_num,FIN.o⟩
     case measure=>simp[intOf];omega
  ·have hltz:¬(i:Int)<(ci:Int):=(by omega);obtain rfl:i=ci:=(by omega);go_wp2_with fail;go_ret;exact⟨_,rfl,B0.o.trans (HI.o.1.mono B0.o.size),aL HI.o.2 B0.o.size⟩
end Df
end Go.Proofs.YtiiefcalkjeieaaGreat
