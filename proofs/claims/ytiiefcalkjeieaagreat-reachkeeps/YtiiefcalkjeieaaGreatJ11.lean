import Derived.Test.YtiiefcalkjeieaaGreatGCopd
import Derived.Test.YtiiefcalkjeieaaGreatJ4
variable{i m gb p j:Nat}{a:Int}{nv pv:Go.Value}{w0 w w1:Go.World}{F:List Int}
set_option maxHeartbeats 8000000
set_option maxRecDepth 100000
namespace Go.Proofs.YtiiefcalkjeieaaGreat
namespace Df
open Go.RowKit Go.Sort
abbrev Vo:=Nat×Nat×Bool
def lh(i:Nat)(n:dC):List Vo:=(List.range n.ins.toNat).map (fun p=>(i,p,true))++(List.range n.outs.toNat).map (fun p=>(i,p,false))
def aY(ns:List dC):Nat->List Vo
 | 0 => []
 | i + 1 => aY ns i++match ns[i]? with | some n=>lh i n | none=>[]
def bO(ns:List dC)(i:Nat):Nat:=(aY ns i).length
def bQ(ns:List dC)(i:Nat):List Int:=(List.range i).map fun k=>(bO ns k:Int)
theorem jP{ns:List dC}{n:dC}(hi:ns[i]? =some n):aY ns (i+1)=aY ns i++lh i n:=by simp[aY,hi]
theorem wI(i:Nat)(n:dC):(lh i n).length=n.ins.toNat+n.outs.toNat:=by simp[lh]
theorem uC{ns:List dC}{n:dC}(hi:ns[i]? =some n):bO ns (i+1)=bO ns i+(n.ins.toNat+n.outs.toNat):=by simp[bO,jP hi,wI]
theorem EK(ns:List dC)(i:Nat):bQ ns (i+1)=bQ ns i++[(bO ns i:Int)]:=by simp[bQ,List.range_succ]
theorem iF(ns:List dC)(i:Nat):(bQ ns i).length=i:=by simp[bQ]
theorem xV(ns:List dC)(h:i<m):(bQ ns m)[i]? =some (bO ns i:Int):=by simp[bQ,h]
theorem Gq(ns:List dC)(h:i<=m):∃l,aY ns m=aY ns i++l:=by
 induction m with
 | zero => obtain rfl:i=0:=by omega
           exact⟨[],by simp⟩
 | succ m ih=>
  by_cases e:i=m+1
  ·subst e;exact⟨[],by simp⟩
  ·obtain⟨l,hl⟩:=ih (by omega);exact⟨l++_,by rw[aY,hl,aA]⟩
def Vs(ns:List dC):Prop:=∀n∈ns,0<=n.ins/\n.ins<=4/\0<=n.outs/\n.outs<=4
theorem oV{ns:List dC}(h:Vs ns)(i:Nat):bO ns i<=8*i:=by
 induction i with
 | zero => simp[bO,aY]
 | succ i ih=>
  cases hi:ns[i]? with
  | none => simp only[bO,aY,hi,FZ]at ih⊢;omega
  | some n=>
   rw[uC hi];have:=h n (lM hi);omega
theorem zy{ns:List dC}{k:Nat}{t:Vo}(h:i<=m)(hk:(aY ns i)[k]? =some t):(aY ns m)[k]? =some t:=by
 obtain⟨l,hl⟩:=Gq ns h;rw[hl,gL (lG.1 hk).1];exact hk
theorem Dz{ns:List dC}{n:dC}(hi:ns[i]? =some n)(hm:i<m)(hp:p<n.ins.toNat):(aY ns m)[bO ns i+p]? =some (i,p,true):=by
 refine zy (i:=i+1) hm ?_;rw[jP hi,VE (by simp[bO]),bO,Nat.add_sub_cancel_left,lh,gL (by simpa using hp)];simp[hp]
theorem zC{ns:List dC}{n:dC}(hi:ns[i]? =some n)(hm:i<m)(hp:p<n.outs.toNat):(aY ns m)[bO ns i+n.ins.toNat+p]? =some (i,p,false):=by
 refine zy (i:=i+1) hm ?_;rw[jP hi,VE (by simp[bO];omega),bO,show(aY ns i).length+n.ins.toNat+p-(aY ns i).length=n.ins.toNat+p by omega,lh,VE (by simp)];simp[hp]
def eD(ns:List dC)(d:dR):Nat:=bO ns d.src.toNat+(match ns[d.src.toNat]? with|some n=>n.ins.toNat|none=>0)+d.o.toNat
def iW(ns:List dC)(d:dR):Nat:=bO ns d.dst.toNat+d.dx.toNat
def iC(ns:List dC)(es:List dR)(k:Nat):Nat->List Int
 | 0 => []
 | j + 1 => iC ns es k j++match es[j]? with | some d=>if eD ns d=k\/iW ns d=k then[(j:Int)]else[] | none=>[]
theorem yZ(ns:List dC)(es:List dR)(k j:Nat):(iC ns es k j).length<=j:=by
 induction j with
 | zero => simp[iC]
 | succ j ih=>
  rw[iC,dQ];have:(match es[j]? with|some d=>if eD ns d=k\/iW ns d=k then[(j:Int)]else[]|none=>[]).length<=1:=by
   split
   ·split<;>simp
   ·simp
  omega
theorem rE{ns:List dC}{i p:Int}(h:fF ns i p=true):∃n,ns[i.toNat]? =some n/\0<=i/\i.toNat<ns.length/\0<=p/\p<n.outs:=by
 unfold fF jB at h;by_cases h0:0<=i
 ·rw[if_pos h0]at h;cases e:ns[i.toNat]? with
  | none => rw[e]at h;cases h
  | some n=>
   rw[e]at h;simp at h;exact⟨n,rfl,h0,(lG.1 e).1,h.1,h.2⟩
 ·rw[if_neg h0]at h;cases h
theorem xN{ns:List dC}{i p:Int}(h:fG ns i p=true):∃n,ns[i.toNat]? =some n/\0<=i/\i.toNat<ns.length/\0<=p/\p<n.ins:=by
 unfold fG jB at h;by_cases h0:0<=i
 ·rw[if_pos h0]at h;cases e:ns[i.toNat]? with
  | none => rw[e]at h;cases h
  | some n=>
   rw[e]at h;simp at h;exact⟨n,rfl,h0,(lG.1 e).1,h.1,h.2⟩
 ·rw[if_neg h0]at h;cases h
theorem Lj{ns:List dC}{l:List dR}{d:dR}(h:jG ns l d=0):fF ns d.src d.o=true/\fG ns d.dst d.dx=true/\yw l d=false:=by
 unfold jG at h;split at h
 ·cases h
 ·rename_i hn;simp only[not_or,Bool.not_eq_false,Bool.not_eq_true]at hn;exact hn
theorem xk{ns:List dC}{d:dR}(h:fF ns d.src d.o=true):(aY ns ns.length)[eD ns d]? =some (d.src.toNat,d.o.toNat,false):=by
 obtain⟨n,hn,_,hl,h1,h2⟩:=rE h;unfold eD;rw[hn];exact zC hn hl (by omega)
theorem BV{ns:List dC}{d:dR}(h:fG ns d.dst d.dx=true):(aY ns ns.length)[iW ns d]? =some (d.dst.toNat,d.dx.toNat,true):=by
 obtain⟨n,hn,_,hl,h1,h2⟩:=xN h;exact Dz hn hl (by omega)
theorem TW{ns:List dC}{d:dR}(h:fF ns d.src d.o=true)(h':fG ns d.dst d.dx=true):eD ns d≠iW ns d:=fun e=>by
 have h1:=xk h;have h2:=BV h';rw[e,h2]at h1;simp at h1
def QQ(ns:List dC)(i p:Int):Int:=if fG ns i p=true then bO ns i.toNat+p else -1
def yR(ns:List dC)(i p:Int):Int:=if fF ns i p=true then bO ns i.toNat+(match ns[i.toNat]? with|some n=>n.ins|none=>0)+p else -1
theorem jU{n:dC}(h:eP a n=0):0<=n.ins/\n.ins<=4/\0<=n.outs/\n.outs<=4:=by
 unfold eP at h;split at h
 ·cases h
 ·split at h
  ·cases h
  ·rename_i h1 h2;have h2:=Classical.not_not.1 h2;obtain⟨h3,h4⟩:=h2;unfold Jp at h3;unfold q8 at h4;constructor
   ·split at h3
    ·simp at h3;omega
    ·split at h3
     ·simp at h3;omega
     ·split at h3<;>simp at h3<;>omega
   ·constructor
    ·split at h3
     ·simp at h3;omega
     ·split at h3
      ·simp at h3;omega
      ·split at h3<;>simp at h3<;>omega
    ·split at h4
     ·simp at h4;omega
     ·split at h4<;>simp at h4<;>omega
theorem ic.kI{g:bG}(h:ic g):Vs g.nodes:=fun n hn=>by
 obtain⟨i,hi,rfl⟩:=List.mem_iff_getElem.1 hn;exact jU (h.ng i _ hi (by simp))
theorem ic.ends{g:bG}(h:ic g){d:dR}(hj:g.aO[j]? =some d):fF g.nodes d.src d.o=true/\fG g.nodes d.dst d.dx=true:=by
 have:=Lj (h.eg j d (lG.1 hj).1 hj);exact⟨this.1,this.2.1⟩
attribute[local go_sem ↓]wp_at_zero wp_at_succ
def EI:El Int where
 k:=1
 enc o:=[iV o]
 len _:=rfl
 one o u hu:=by
  simp at hu;subst hu;rfl
theorem mr:(Tryz.prog.info? 3).map (fun i=>(i.zero,i.size,i.bytes))=some (some (iV 0),1,8):=by kernel_rfl
structure SV where
 nd:Int
 pt:Int
 dx:Bool
 q:Option Addr
 m:Nat
 c:Nat
abbrev SV.ev(s:SV):Value:= .slice s.q s.m s.c
abbrev V3(a b:Int)(i:Bool)(v:Value):Array Value:=#[.int .i64 a, .int .i64 b, .bool i,v]
def ES:El SV where
 k:=4
 enc s:=(V3 s.nd s.pt s.dx s.ev).toList
 len _:=rfl
 one o u hu:=by
  simp at hu;rcases hu with rfl|rfl|rfl|rfl<;>rfl
theorem Eb:(Tryz.prog.info? 207).map (fun i=>(i.zero,i.size,i.bytes))=some (some (.agg #[iV 0,iV 0, .bool false, .slice none 0 0]),4,48):=by kernel_rfl
def SV.of(t:Vo):SV:=⟨t.1,t.2.1,t.2.2,none,0,0⟩
abbrev eH(a:Int)(nv ev fv pv:Value):Array Value:=#[.int .i64 a,nv,ev,fv,pv]
structure Np(w0 w:World)(gb:Nat)(a:Int)(nv ev fv pv:Value)(F:List Int)(S:List SV):Prop where
 blk:w.heap[gb]? =some (.cells (eH a nv ev fv pv) 138 (0,0))
 kp:Kp (fun k=>k=gb) w0 w
 fr:w.ownsRow w0.heap.size 3 1 fv F.length (fl EI F)
 sp:w.ownsRow w0.heap.size 207 4 pv S.length (fl ES S)
theorem Np.gr{w':World}{ev fv:Value}{S:List SV}(h:Np w0 w gb a nv ev fv pv F S)(hb:Bw w w'):Np w0 w' gb a nv ev fv pv F S:=
 ⟨(hb.block _ (ae h.blk)).trans h.blk,h.kp.tr (Kp.of_below hb),ag h.fr hb,ag h.sp hb⟩
theorem Np.spot{ev fv pv':Value}{S:List SV}{s:SV}(h:Np w0 w gb a nv ev fv pv F S)(h1:w1.ownsRow w0.heap.size 207 4 pv' (S.length+1) (fl ES S++ES.enc s))(h2:w.grownBy w1 pv.ownBlock)(h0:gb<w0.heap.size):
    Np w0 (w1.setCell ⟨gb,4,none⟩ pv') gb a nv ev fv pv' F (S++[s]):=by
 have k2:=Kp.grownBy (S:=fun k=>pv.ownBlock=some k) h2 (fun _ h=>h);have hb:w1.heap[gb]? =some (.cells (eH a nv ev fv pv) 138 (0,0)):=(k2.block _ (ae h.blk) (fun e=>by have:=(aM h.sp gb e).1;omega)).trans h.blk;obtain⟨s1,s2⟩:=aP hb 4 pv';have hf:=ax k2 h.fr (fun k e e2=>aH h.fr h.sp (by decide) k e e2);exact⟨s1,(h.kp.trans ((k2.mono (T:=fun k=>k=gb\/pv.ownBlock=some k) (fun _ h=>Or.inr h)).trans s2 (fun _ _ h=>Or.inl h)) (fun j hj e=>by rcases e with e|e;exact e;have:=(aM h.sp j e).1;omega)),ax s2 hf (fun k e e2=>by have:=(aM hf k e).1;omega),ax s2 (aV h1 (by simp) (by rw[aT,dM])) (fun k e e2=>by have:=(aM h1 k e).1;omega)⟩
theorem Np.ab0{ev fv Im:Value}{S:List SV}{x:Int}(h:Np w0 w gb a nv ev fv pv F S)(h1:w1.ownsRow w0.heap.size 3 1 Im (F.length+1) (fl EI F++EI.enc x))(h2:w.grownBy w1 fv.ownBlock)(h0:gb<w0.heap.size):
    Np w0 (w1.setCell ⟨gb,3,none⟩ Im) gb a nv ev Im pv (F++[x]) S:=by
 have k2:=Kp.grownBy (S:=fun k=>fv.ownBlock=some k) h2 (fun _ h=>h);have hb:w1.heap[gb]? =some (.cells (eH a nv ev fv pv) 138 (0,0)):=(k2.block _ (ae h.blk) (fun e=>by have:=(aM h.fr gb e).1;omega)).trans h.blk;obtain⟨s1,s2⟩:=aP hb 3 Im;have hf:=ax k2 h.sp (fun k e e2=>aH h.sp h.fr (by decide) k e e2);exact⟨s1,(h.kp.trans ((k2.mono (T:=fun k=>k=gb\/fv.ownBlock=some k) (fun _ h=>Or.inr h)).trans s2 (fun _ _ h=>Or.inl h)) (fun j hj e=>by rcases e with e|e;exact e;have:=(aM h.fr j e).1;omega)),ax s2 (aV h1 (by simp) (by rw[aT,dM])) (fun k e e2=>by have:=(aM h1 k e).1;omega),ax s2 hf (fun k e e2=>by have:=(aM hf k e).1;omega)⟩
def Mj(i p:Nat):List Vo:=(List.range p).map (fun p=>(i,p,true))
def DT(i p:Nat):List Vo:=(List.range p).map (fun p=>(i,p,false))
theorem OV(i p:Nat):Mj i (p+1)=Mj i p++[(i,p,true)]:=by simp[Mj,List.range_succ]
theorem KF(i p:Nat):DT i (p+1)=DT i p++[(i,p,false)]:=by simp[DT,List.range_succ]
theorem Np.re{ev fv:Value}{F':List Int}{S S':List SV}(h:Np w0 w gb a nv ev fv pv F S)(hF:F=F')(hS:S=S'):Np w0 w gb a nv ev fv pv F' S':=by subst hF;subst hS;exact h
theorem DC{ns:List dC}(h:Vs ns){n:dC}(hj:ns[j]? =some n)(XJ:ns.length<=24):(aY ns j).length+(n.ins.toNat+n.outs.toNat)<=192:=by
 have h1:=oV h (j+1);rw[uC hj]at h1;have:=(lG.1 hj).1;unfold bO at h1;omega
theorem GL{M:Nat}{eq:Option Addr}{em ec:Nat}{xs:List NV}(w:World)(hb:w.heap[gb]? =some (.cells (eH a nv (.slice eq em ec) (.slice none 0 0) (.slice none 0 0)) 138 (0,0)))(hN:Lz EV M w nv xs)(hgb:∀k,nv.ownBlock=some k->k≠gb)(XJ:xs.length<=24)(hP:Vs (xs.map NV.n)):CL 70 #[aB gb] w fun r w'=>r= .returned (.tuple #[])/\∃fv pv,Np w w' gb a nv (.slice eq em ec) fv pv (bQ (xs.map NV.n) xs.length) ((aY (xs.map NV.n) xs.length).map SV.of):=by
 have hmx:Tryz.prog.follows .mixedOrders=true:=by kernel_rfl
 have Mw:=hid (ae hb);obtain⟨pn,cn,Pf⟩:=hN.form;obtain⟨nl,hnl⟩:=aF (xs.length);rw[<-hnl]at Pf XJ⊢;subst Pf;have HN0:Hid (∀W,Kp (fun k=>k=gb) w W->Lz EV M W (.slice pn nl cn) xs):=fun W hk=>by
  rcases hN with⟨h,hm⟩|h
  ·exact Or.inl ⟨hk.ls h (fun k e=>hgb k e),hm⟩
  ·exact Or.inr h
 have mf:=hid hnl;have HP:=hid hP;obtain⟨ns,hns⟩:=aF (xs.map NV.n);rw[<-hns]at HP⊢;have Vy:Hid (ns=xs.map NV.n/\ns.length=nl):=⟨hns,by rw[hns,hnl,gQ]⟩;have N0:Hid (Np w w gb a (.slice pn nl cn) (.slice eq em ec) (.slice none 0 0) (.slice none 0 0) [] []):=⟨hb,Kp.refl _ _,oN _ _ _ _,oN _ _ _ _⟩;have c0:=(aa hb).1;have l0:=ae hb;clear hb hN hgb hP hns hnl;go_enter Tryz.func70,Tryz.ntmps70;go_wp2_with fail;clear c0 l0;go_loopw [12] (fun s12 wr=>∃(j:Nat) (fv pv:Value),j<=nl/\s12=iV (j:Nat)/\Hid (Np w wr gb a (.slice pn nl cn) (.slice eq em ec) fv pv (bQ ns j) ((aY ns j).map SV.of))) (fun s12 _=>nl-(intOf s12).toNat);case atStart=>exact⟨0,_,_,zL _,rfl,N0.o⟩
 case round=>
  clear N0;obtain⟨j,fv,pv,hj,rfl,HI⟩:=hrel;by_cases hlt:j<nl
  ·have hltz:(j:Int)<(nl:Int):=(by omega);have hj0:(0:Int)<=(j:Int):=(by omega);obtain⟨y,hy⟩:∃y,xs[j]? =some y:=⟨xs[j]'(by have:=mf.o;omega),by simp⟩;have Ux:Hid (ns[j]? =some y.n):=(by show _=_;rw[Vy.o.1];simp[hy]);obtain⟨b1,o1,q1,gU,rY,x0,x1,x2,x3,x4,x5,x6,x7,x8,x9⟩:=j5 ((HN0.o wr HI.o.kp).ls hy) hy;simp only[vS]at gU;obtain⟨rfl,-,rfl⟩:=gU;have vQ:=hid (DC HP.o Ux.o (by rw[Vy.o.2];exact XJ));have HPY:=hid (HP.o y.n (lM Ux.o));clear hy;obtain⟨fq,fm,fc,hfv⟩:=aD HI.o.fr;obtain⟨sq,sm,sc,hsv⟩:=aD HI.o.sp;subst hfv;subst hsv;have HSM:Hid (sm=(aY ns j).length):=by
    have:=(bz HI.o.sp _ _ _ rfl).1;show _=_;simpa using this
   obtain⟨yb,hyb⟩:=aF (wr.heap.size);obtain⟨W5,bW⟩:=aF (wr.alloc (.cells y.cells 149));have P5:Hid (Np w W5 gb a (.slice (some ⟨b1,o1,none⟩) nl cn) (.slice eq em ec) (.slice fq fm fc) (.slice sq sm sc) (bQ ns j) ((aY ns j).map SV.of)/\W5.heap[yb]? =some (.cells y.cells 149 (0,0))/\w.heap.size<=yb):=by
    rw[bW,hyb];exact⟨HI.o.gr ((Gr.refl wr).alloc _).below,ah _ _,HI.o.kp.size⟩
   have ig:Hid (wr.alloc (.cells #[iV y.n.kind,iV y.n.ins,iV y.n.outs, .slice y.cq y.cm y.cc,uV (y.n.via.1:Nat),uV (y.n.via.2.1:Nat),uV (y.n.via.2.2:Nat),uV (y.n.bound:Nat), .slice y.dq y.dm y.dc, .bool y.n.start] 149)=W5/\wr.heap.size=yb):=⟨bW.symm,hyb.symm⟩;clear bW hyb;go_upto_region 3 with fail;rw[ig.o.1,ig.o.2];clear ig x0 x1 x2 x3 x4 x5 x6 x7 x8 x9 rY;go_cut [] (fun w'=>Hid (∃Im,Np w w' gb a (.slice (some ⟨b1,o1,none⟩) nl cn) (.slice eq em ec) Im (.slice sq sm sc) (bQ ns (j+1)) ((aY ns j).map SV.of)/\w'.heap[yb]? =some (.cells y.cells 149 (0,0))));case first=>
    have BD:Hid (Bw W5 W5.drew):=(Gr.refl W5).drew.below;refine ay (S:=fun W=>W.heap[gb]? =some (.cells (eH a (.slice (some ⟨b1,o1,none⟩) nl cn) (.slice eq em ec) (.slice fq fm fc) (.slice sq sm sc)) 138 (0,0))) (D:=[14]) hmx ?_;generalize W5.drew=Wd at BD⊢;have PD:=hid (P5.o.1.gr BD.o);have YD:=hid ((BD.o.block _ (ae P5.o.2.1)).trans P5.o.2.1);have hS0:=PD.o.blk;refine' ak 0 hS0 ?_;refine' ak 1 hS0 ?_;refine' ak 2 hS0 ?_;refine' ak 3 hS0 ?_;refine' bD 4 hS0 ?h ?_;case h=>(intro W hSw;have hc:=(aa hSw).1;have hl:=ae hSw;go_simp;try(with_reducible rfl))
    refine' ak 5 hS0 ?_;refine' ak 6 hS0 ?_;refine' ak 7 hS0 ?_;refine' bD 8 hS0 ?h ?_;case h=>(intro W hSw;have hc:=(aa hSw).1;have hl:=ae hSw;go_simp;try(with_reducible rfl))
    refine' ak 9 hS0 ?_;refine fV 10 fun K hK=> ?_;go_simp;have b6:=((Gr.refl Wd).alloc (.cells #[iV (sm:Nat)] 3)).below;have pM:=(b6.block _ (ae hS0)).trans hS0;clear b6;refine hK.o _ _ (fun hD=>pM) ?_;clear hK K;try simp only[Act.put,qI,q0,qS]
    refine fV 11 fun K hK=> ?_;refine bT EI Tryz.underlying97 mr rfl (by decide) rfl _ _ rfl w.heap.size _ (bQ ns j).length _ rfl PD.o.fr (sm:Int) (by first|rfl|simp) (by rw[iF];omega) (by rw[iF];unfold maxLen;omega) PD.o.kp.size _ rfl _ ?_;intro g7 Un w7 h7 k7 _;have N7:Hid (Np w (w7.setCell ⟨gb,3,none⟩ (sO g7 ((bQ ns j).length+1) Un)) gb a (.slice (some ⟨b1,o1,none⟩) nl cn) (.slice eq em ec) (sO g7 ((bQ ns j).length+1) Un) (.slice sq sm sc) (bQ ns (j+1)) ((aY ns j).map SV.of)):=(PD.o.ab0 h7.o k7.o Mw.o).re (by rw[EK,bO,HSM.o]) rfl;have k2:=Kp.grownBy (S:=fun k=>(Value.slice fq fm fc).ownBlock=some k) k7.o (fun _ h=>h);have bu:w7.heap[gb]? =some (.cells (eH a (.slice (some ⟨b1,o1,none⟩) nl cn) (.slice eq em ec) (.slice fq fm fc) (.slice sq sm sc)) 138 (0,0)):=(k2.block _ (ae hS0) (fun e=>by have:=(aM PD.o.fr gb e).1;have:=Mw.o;omega)).trans hS0;have hyw:w7.heap[yb]? =some (.cells y.cells 149 (0,0)):=(k2.block _ (ae YD.o) (fun e=>aJ PD.o.fr YD.o (by decide) yb e rfl)).trans YD.o;have Y7:Hid ((w7.setCell ⟨gb,3,none⟩ (sO g7 ((bQ ns j).length+1) Un)).heap[yb]? =some (.cells y.cells 149 (0,0))):=((aP bu 3 _).2.block yb (ae hyw) (fun e=>by have:=P5.o.2.2;have:=Mw.o;omega)).trans hyw;clear h7 k7 k2 hyw;generalize (bQ ns j).length+1=fl7 at N7 Y7⊢;refine hK.o _ _ (fun hD=>bu) ?_;clear hK K;try simp only[Act.put,qI,q0,qS]
    refine fV 12 fun K hK=> ?_;go_simp;refine hK.o _ _ (fun hD=>bu) ?_;clear hK K;try simp only[Act.put,qI,q0,qS]
    refine' ak 13 bu ?_;refine fV 14 fun K hK=> ?_;have c7:=(aa bu).1;have f7:=(aa bu).2;have l7:=ae bu;go_simp;generalize (w7.setCell ⟨gb,3,none⟩ (sO g7 fl7 Un))=w9 at N7 Y7⊢;clear c7 f7 l7;refine hK.o _ _ (fun hD=>absurd (by decide) hD) ?_;clear hK K;try simp only[Act.put,qI,q0,qS]
    refine av (by kernel_rfl) ?_ _;go_wp2_with fail;go_meet;exact⟨_,N7.o,Y7.o⟩
   case rest=>
    obtain⟨Im,NF,NY⟩:=hcut.o;rename_i wc;have HC:Hid (Np w wc gb a (.slice (some ⟨b1,o1,none⟩) nl cn) (.slice eq em ec) Im (.slice sq sm sc) (bQ ns (j+1)) ((aY ns j).map SV.of)/\wc.heap[yb]? =some (.cells y.cells 149 (0,0))):=⟨NF,NY⟩;have cy:=(aa NY).1;have ly:=ae NY;clear hcut NF NY HI;go_upto_region 5 with fail;clear cy ly;obtain⟨ci,hci⟩:∃c:Nat,y.n.ins=(c:Int):=⟨y.n.ins.toNat,by have:=HPY.o;omega⟩;obtain⟨co,hco⟩:∃c:Nat,y.n.outs=(c:Int):=⟨y.n.outs.toNat,by have:=HPY.o;omega⟩;have Md:Hid (y.n.ins=(ci:Int)/\y.n.outs=(co:Int)/\ci<=4/\co<=4/\y.n.ins.toNat=ci/\y.n.outs.toNat=co):=⟨hci,hco,by have:=HPY.o;omega,by have:=HPY.o;omega,by omega,by omega⟩;have hci4:ci<=4:=Md.o.2.2.1;have hco4:co<=4:=Md.o.2.2.2.1;rw[hci];clear hci hco;go_loopw [33] (fun s33 wr=>∃(p:Nat) (pv:Value),p<=ci/\s33=iV (p:Nat)/\Hid (Np w wr gb a (.slice (some ⟨b1,o1,none⟩) nl cn) (.slice eq em ec) Im pv (bQ ns (j+1)) ((aY ns j++Mj j p).map SV.of)/\wr.heap[yb]? =some (.cells y.cells 149 (0,0)))) (fun s33 _=>ci-(intOf s33).toNat);case atStart=>exact⟨0,_,zL _,rfl,HC.o.1.re rfl (by simp[Mj]),HC.o.2⟩
    case round=>
     clear HC;obtain⟨p,pv,hp,rfl,HI⟩:=hrel;by_cases hpl:p<ci
     ·have abC:(p:Int)<(ci:Int):=(by omega);obtain⟨SL,XE⟩:=aF ((aY ns j++Mj j p).map SV.of);rw[<-XE]at HI;have Mv:=hid XE;clear XE;obtain⟨VR,VY,V4,WW⟩:=aD HI.o.1.sp;subst WW;have uH:Hid (SL.length=sm+p/\sm+p+1<=192):=by
       have h1:=vQ.o;rw[Md.o.2.2.2.2.1,Md.o.2.2.2.2.2,<-HSM.o]at h1;refine⟨by rw[Mv.o];simp[Mj,HSM.o];try omega,by omega⟩
      have cg:=(aa HI.o.1.blk).1;have fg:=(aa HI.o.1.blk).2;have lg:=ae HI.o.1.blk;go_wp2_with (at_builtin;refine gB ES Tryz.underlying136 Eb rfl (by decide) rfl _ _ rfl w.heap.size _ SL.length _ rfl HI.o.1.sp (SV.of (j,p,true)) (by first|rfl|simp) (by rw[uH.o.1];have:=uH.o.2;omega) (by rw[uH.o.1];have:=uH.o.2;unfold maxLen;omega) HI.o.1.kp.size _ rfl _ ?_);intro g8 bF w8 h8 k8 _;have N8:Hid (Np w (w8.setCell ⟨gb,4,none⟩ (sO g8 (SL.length+1) bF)) gb a (.slice (some ⟨b1,o1,none⟩) nl cn) (.slice eq em ec) Im (sO g8 (SL.length+1) bF) (bQ ns (j+1)) ((aY ns j++Mj j (p+1)).map SV.of)/\(w8.setCell ⟨gb,4,none⟩ (sO g8 (SL.length+1) bF)).heap[yb]? =some (.cells y.cells 149 (0,0))):=by
       refine⟨(HI.o.1.spot h8 k8 Mw.o).re rfl (by rw[Mv.o,OV];simp), ?_⟩;have k2:=Kp.grownBy (S:=fun k=>(Value.slice VR VY V4).ownBlock=some k) k8 (fun _ h=>h);have dP:=(k2.block _ (ae HI.o.1.blk) (fun e=>by have:=(aM HI.o.1.sp gb e).1;have:=Mw.o;omega)).trans HI.o.1.blk;rw[(aP dP 4 _).2.block yb (nL (ae HI.o.2) k2.size) (fun e=>by have:=P5.o.2.2;have:=Mw.o;omega),k2.block yb (ae HI.o.2) (fun e=>aJ HI.o.1.sp HI.o.2 (by decide) yb e rfl)];exact HI.o.2
      have dP:w8.heap[gb]? =some (.cells (eH a (.slice (some ⟨b1,o1,none⟩) nl cn) (.slice eq em ec) Im (.slice VR VY V4)) 138 (0,0)):=((Kp.grownBy (S:=fun k=>(Value.slice VR VY V4).ownBlock=some k) k8 (fun _ h=>h)).block _ (ae HI.o.1.blk) (fun e=>by have:=(aM HI.o.1.sp gb e).1;have:=Mw.o;omega)).trans HI.o.1.blk;have c8:=(aa dP).1;have f8:=(aa dP).2;have l8:=ae dP;clear h8 k8 dP cg fg lg;generalize mU:SL.length+1=ll at N8⊢;clear mU;go_wp2_with fail;generalize (w8.setCell ⟨gb,4,none⟩ (sO g8 ll bF))=w9 at N8⊢;have FIN:=N8;clear N8 c8 f8 l8;go_wp2_with fail;go_roundw;case rel=>exact⟨p+1,_,by omega,by go_num,FIN.o⟩
      case measure=>simp[intOf];omega
     ·have abC:¬(p:Int)<(ci:Int):=(by omega);obtain rfl:p=ci:=(by omega);have cy:=(aa HI.o.2).1;have ly:=ae HI.o.2;go_upto_region 10 with fail;rw[Md.o.2.1];clear cy ly;go_loopw [51] (fun V7 wr=>∃(p2:Nat) (pv:Value),p2<=co/\V7=iV (p2:Nat)/\Hid (Np w wr gb a (.slice (some ⟨b1,o1,none⟩) nl cn) (.slice eq em ec) Im pv (bQ ns (j+1)) ((aY ns j++Mj j p++DT j p2).map SV.of)/\wr.heap[yb]? =some (.cells y.cells 149 (0,0)))) (fun V7 _=>co-(intOf V7).toNat);case atStart=>exact⟨0,_,zL _,rfl,HI.o.1.re rfl (by simp[DT]),HI.o.2⟩
      case round=>
       clear HI;obtain⟨p2,pv,hp2,rfl,HI⟩:=hrel;by_cases kP:p2<co
       ·have aal:(p2:Int)<(co:Int):=(by omega);obtain⟨SL,XE⟩:=aF ((aY ns j++Mj j p++DT j p2).map SV.of);rw[<-XE]at HI;have Mv:=hid XE;clear XE;obtain⟨VR,VY,V4,WW⟩:=aD HI.o.1.sp;subst WW;have uH:Hid (SL.length=sm+(p+p2)/\sm+(p+p2)+1<=192):=by
         have h1:=vQ.o;rw[Md.o.2.2.2.2.1,Md.o.2.2.2.2.2,<-HSM.o]at h1;refine⟨by rw[Mv.o];simp[Mj,DT,HSM.o];try omega,by omega⟩
        have cg:=(aa HI.o.1.blk).1;have fg:=(aa HI.o.1.blk).2;have lg:=ae HI.o.1.blk;go_wp2_with (at_builtin;refine gB ES Tryz.underlying136 Eb rfl (by decide) rfl _ _ rfl w.heap.size _ SL.length _ rfl HI.o.1.sp (SV.of (j,p2,false)) (by first|rfl|simp) (by rw[uH.o.1];have:=uH.o.2;omega) (by rw[uH.o.1];have:=uH.o.2;unfold maxLen;omega) HI.o.1.kp.size _ rfl _ ?_);intro g8 bF w8 h8 k8 _;have N8:Hid (Np w (w8.setCell ⟨gb,4,none⟩ (sO g8 (SL.length+1) bF)) gb a (.slice (some ⟨b1,o1,none⟩) nl cn) (.slice eq em ec) Im (sO g8 (SL.length+1) bF) (bQ ns (j+1)) ((aY ns j++Mj j p++DT j (p2+1)).map SV.of)/\(w8.setCell ⟨gb,4,none⟩ (sO g8 (SL.length+1) bF)).heap[yb]? =some (.cells y.cells 149 (0,0))):=by
         refine⟨(HI.o.1.spot h8 k8 Mw.o).re rfl (by rw[Mv.o,KF];simp), ?_⟩;have k2:=Kp.grownBy (S:=fun k=>(Value.slice VR VY V4).ownBlock=some k) k8 (fun _ h=>h);have dP:=(k2.block _ (ae HI.o.1.blk) (fun e=>by have:=(aM HI.o.1.sp gb e).1;have:=Mw.o;omega)).trans HI.o.1.blk;rw[(aP dP 4 _).2.block yb (nL (ae HI.o.2) k2.size) (fun e=>by have:=P5.o.2.2;have:=Mw.o;omega),k2.block yb (ae HI.o.2) (fun e=>aJ HI.o.1.sp HI.o.2 (by decide) yb e rfl)];exact HI.o.2
        have dP:w8.heap[gb]? =some (.cells (eH a (.slice (some ⟨b1,o1,none⟩) nl cn) (.slice eq em ec) Im (.slice VR VY V4)) 138 (0,0)):=((Kp.grownBy (S:=fun k=>(Value.slice VR VY V4).ownBlock=some k) k8 (fun _ h=>h)).block _ (ae HI.o.1.blk) (fun e=>by have:=(aM HI.o.1.sp gb e).1;have:=Mw.o;omega)).trans HI.o.1.blk;have c8:=(aa dP).1;have f8:=(aa dP).2;have l8:=ae dP;clear h8 k8 dP cg fg lg;generalize mU:SL.length+1=ll at N8⊢;clear mU;go_wp2_with fail;generalize (w8.setCell ⟨gb,4,none⟩ (sO g8 ll bF))=w9 at N8⊢;have FIN:=N8;clear N8 c8 f8 l8;go_wp2_with fail;go_roundw;case rel=>exact⟨p2+1,_,by omega,by go_num,FIN.o⟩
        case measure=>simp[intOf];omega
       ·have aal:¬(p2:Int)<(co:Int):=(by omega);have FIN:Hid (Np w wr gb a (.slice (some ⟨b1,o1,none⟩) nl cn) (.slice eq em ec) Im pv (bQ ns (j+1)) ((aY ns (j+1)).map SV.of)):=HI.o.1.re rfl (by rw[jP Ux.o,lh,Md.o.2.2.2.2.1,Md.o.2.2.2.2.2,show p2=co by omega,aA];rfl);go_wp2_with fail;go_roundw;case rel=>exact⟨j+1,_,_,by omega,by go_num,FIN.o⟩
        case measure=>simp[intOf];omega
  ·have hltz:¬(j:Int)<(nl:Int):=(by omega);obtain rfl:j=nl:=(by omega);go_wp2_with fail;go_end0;exact⟨rfl,_,_,HI.o⟩
end Df
section
open Go.RowKit
section
variable {α:Type} [DecidableEq α] (fst:α->α->Bool)
def gH:List α->List α->List (α×Int)
 | [], [] => []
 | [], b::bs => (b,1)::gH [] bs
 | a::az, [] => (a,-1)::gH az []
 | a::az, b::bs => if a=b then gH az bs else if fst a b=true then(a,-1)::gH az (b::bs)else(b,1)::gH (a::az) bs
termination_by l m=>l.length+m.length
end
section
variable {α:Type} [DecidableEq α] {aC fst:α->α->Bool}
theorem jY(O:rX aC fst)(l m:List α)(hl:l.Pairwise fun a b=>fst a b=true)(hm:m.Pairwise fun a b=>fst a b=true)(p:α×Int):
    p∈gH fst l m↔(p.1∈l/\p.1∉m/\p.2= -1)\/(p.1∈m/\p.1∉l/\p.2=1):=by
 induction l,m using gH.induct fst with
 | case1 => simp[gH]
 | case2 b bs ih=>
  obtain⟨_,hm2⟩:=qD.1 hm;rw[gH,gq,ih hl hm2];obtain⟨x,n⟩:=p;simp only[Prod.mk.injEq,List.not_mem_nil,gq,false_and,false_or,not_false_eq_true,true_and];constructor
  ·rintro(⟨rfl,rfl⟩|⟨h1,h2⟩)
   ·exact⟨Or.inl rfl,rfl⟩
   ·exact⟨Or.inr h1,h2⟩
  ·rintro⟨rfl|h1,h2⟩
   ·exact Or.inl ⟨rfl,h2⟩
   ·exact Or.inr ⟨h1,h2⟩
 | case3 a az ih=>
  obtain⟨_,hl2⟩:=qD.1 hl;rw[gH,gq,ih hl2 hm];obtain⟨x,n⟩:=p;simp only[Prod.mk.injEq,List.not_mem_nil,gq,false_and,or_false,not_false_eq_true,true_and];constructor
  ·rintro(⟨rfl,rfl⟩|⟨h1,h2⟩)
   ·exact⟨Or.inl rfl,rfl⟩
   ·exact⟨Or.inr h1,h2⟩
  ·rintro⟨rfl|h1,h2⟩
   ·exact Or.inl ⟨rfl,h2⟩
   ·exact Or.inr ⟨h1,h2⟩
 | case4 az a bs ih=>
  obtain⟨hl1,hl2⟩:=qD.1 hl;obtain⟨hm1,hm2⟩:=qD.1 hm;rw[gH,if_pos rfl,ih hl2 hm2];have n1:∀x∈az,x≠a:=fun x hx e=>by subst e;have:=hl1 x hx;rw[O.qy]at this;cases this
  have n2:∀x∈bs,x≠a:=fun x hx e=>by subst e;have:=hm1 x hx;rw[O.qy]at this;cases this
  simp only[gq,not_or];constructor
  ·rintro(⟨h1,h2,h3⟩|⟨h1,h2,h3⟩)
   ·exact Or.inl ⟨Or.inr h1,⟨n1 _ h1,h2⟩,h3⟩
   ·exact Or.inr ⟨Or.inr h1,⟨n2 _ h1,h2⟩,h3⟩
  ·rintro(⟨h1,⟨h2,h3⟩,h4⟩|⟨h1,⟨h2,h3⟩,h4⟩)
   ·exact Or.inl ⟨h1.resolve_left h2,h3,h4⟩
   ·exact Or.inr ⟨h1.resolve_left h2,h3,h4⟩
 | case5 a az b bs hab hf ih=>
  obtain⟨hl1,hl2⟩:=qD.1 hl;obtain⟨hm1,_⟩:=qD.1 hm;rw[gH,if_neg hab,if_pos hf,gq,ih hl2 hm];have na:a∉b::bs:=fun h=>by
   have:fst a a=true:=by
    rcases gq.1 h with h|h
    ·exact absurd h hab
    ·exact O.tr _ _ _ hf (hm1 a h)
   rw[O.qy]at this;cases this
  have n1:a∉az:=fun h=>by have:=hl1 a h;rw[O.qy]at this;cases this
  obtain⟨x,n⟩:=p;simp only[Prod.mk.injEq];constructor
  ·rintro(⟨rfl,rfl⟩|⟨h1,h2,h3⟩|⟨h1,h2,h3⟩)
   ·exact Or.inl ⟨mX ..,na,rfl⟩
   ·exact Or.inl ⟨mO _ h1,h2,h3⟩
   ·exact Or.inr ⟨h1,fun e=>by
      rcases gq.1 e with rfl|e
      ·exact na h1
      ·exact h2 e,h3⟩
  ·rintro(⟨h1,h2,h3⟩|⟨h1,h2,h3⟩)
   ·rcases gq.1 h1 with rfl|h1
    ·exact Or.inl ⟨rfl,h3⟩
    ·exact Or.inr (Or.inl ⟨h1,h2,h3⟩)
   ·exact Or.inr (Or.inr ⟨h1,fun e=>h2 (mO _ e),h3⟩)
 | case6 a az b bs hab hf ih=>
  obtain⟨hl1,_⟩:=qD.1 hl;obtain⟨hm1,hm2⟩:=qD.1 hm;rw[gH,if_neg hab,if_neg hf,gq,ih hl hm2];have Ib:fst b a=true:=O.tot _ _ hab (by cases e:fst a b with|true=>exact absurd e hf|false=>rfl);have nb:b∉a::az:=fun h=>by
   have:fst b b=true:=by
    rcases gq.1 h with h|h
    ·exact absurd h.symm hab
    ·exact O.tr _ _ _ Ib (hl1 b h)
   rw[O.qy]at this;cases this
  obtain⟨x,n⟩:=p;simp only[Prod.mk.injEq];constructor
  ·rintro(⟨rfl,rfl⟩|⟨h1,h2,h3⟩|⟨h1,h2,h3⟩)
   ·exact Or.inr ⟨mX ..,nb,rfl⟩
   ·exact Or.inl ⟨h1,fun e=>by
      rcases gq.1 e with rfl|e
      ·exact nb h1
      ·exact h2 e,h3⟩
   ·exact Or.inr ⟨mO _ h1,h2,h3⟩
  ·rintro(⟨h1,h2,h3⟩|⟨h1,h2,h3⟩)
   ·exact Or.inr (Or.inl ⟨h1,fun e=>h2 (mO _ e),h3⟩)
   ·rcases gq.1 h1 with rfl|h1
    ·exact Or.inl ⟨rfl,h3⟩
    ·exact Or.inr (Or.inr ⟨h1,h2,h3⟩)
theorem IL(O:rX aC fst)(l m:List α)(hl:l.Pairwise fun a b=>fst a b=true)(hm:m.Pairwise fun a b=>fst a b=true):(gH fst l m).Pairwise fun p q=>fst p.1 q.1=true:=by
 induction l,m using gH.induct fst with
 | case1 => rw[gH];exact List.Pairwise.nil
 | case2 b bs ih=>
  obtain⟨hm1,hm2⟩:=qD.1 hm;rw[gH];refine qD.2 ⟨fun q hq=> ?_,ih hl hm2⟩;rcases(jY O _ _ hl hm2 q).1 hq with⟨h1,_⟩|⟨h1,_⟩
  ·cases h1
  ·exact hm1 _ h1
 | case3 a az ih=>
  obtain⟨hl1,hl2⟩:=qD.1 hl;rw[gH];refine qD.2 ⟨fun q hq=> ?_,ih hl2 hm⟩;rcases(jY O _ _ hl2 hm q).1 hq with⟨h1,_⟩|⟨h1,_⟩
  ·exact hl1 _ h1
  ·cases h1
 | case4 az a bs ih=>
  rw[gH,if_pos rfl];exact ih (qD.1 hl).2 (qD.1 hm).2
 | case5 a az b bs hab hf ih=>
  obtain⟨hl1,hl2⟩:=qD.1 hl;obtain⟨hm1,_⟩:=qD.1 hm;rw[gH,if_neg hab,if_pos hf];refine qD.2 ⟨fun q hq=> ?_,ih hl2 hm⟩;rcases(jY O _ _ hl2 hm q).1 hq with⟨h1,_⟩|⟨h1,_⟩
  ·exact hl1 _ h1
  ·rcases gq.1 h1 with h1|h1
   ·rw[h1];exact hf
   ·exact O.tr _ _ _ hf (hm1 _ h1)
 | case6 a az b bs hab hf ih=>
  obtain⟨hl1,_⟩:=qD.1 hl;obtain⟨hm1,hm2⟩:=qD.1 hm;have Ib:fst b a=true:=O.tot _ _ hab (by cases e:fst a b with|true=>exact absurd e hf|false=>rfl);rw[gH,if_neg hab,if_neg hf];refine qD.2 ⟨fun q hq=> ?_,ih hl hm2⟩;rcases(jY O _ _ hl hm2 q).1 hq with⟨h1,_⟩|⟨h1,_⟩
  ·rcases gq.1 h1 with h1|h1
   ·rw[h1];exact Ib
   ·exact O.tr _ _ _ Ib (hl1 _ h1)
  ·exact hm1 _ h1
theorem Qp(O:rX aC fst){l m:List α}(hl:l.Pairwise fun a b=>fst a b=true)(hm:m.Pairwise fun a b=>fst a b=true):((gH fst l m).map Prod.fst).Pairwise (fun a b=>fst a b=true)/\(∀x,x∈(gH fst l m).map Prod.fst↔(x∈l/\x∉m)\/(x∈m/\x∉l))/\gH fst l m=((gH fst l m).map Prod.fst).map fun t=>(t,if t∈m then 1 else -1):=by
 refine⟨List.pairwise_map.2 (IL O l m hl hm),fun x=> ?_, ?_⟩
 ·rw[mM];constructor
  ·rintro⟨p,hp,rfl⟩;rcases(jY O l m hl hm p).1 hp with⟨h1,h2,_⟩|⟨h1,h2,_⟩
   ·exact Or.inl ⟨h1,h2⟩
   ·exact Or.inr ⟨h1,h2⟩
  ·rintro(⟨h1,h2⟩|⟨h1,h2⟩)
   ·exact⟨(x,-1),(jY O l m hl hm _).2 (Or.inl ⟨h1,h2,rfl⟩),rfl⟩
   ·exact⟨(x,1),(jY O l m hl hm _).2 (Or.inr ⟨h1,h2,rfl⟩),rfl⟩
 ·rw[List.map_map];have:∀p∈gH fst l m,((fun t=>(t,if t∈m then(1:Int)else -1)) ∘ Prod.fst) p=p:=fun p hp=>by
   rcases(jY O l m hl hm p).1 hp with⟨_,h2,h3⟩|⟨h1,_,h3⟩
   ·show(p.1,if p.1∈m then(1:Int)else -1)=p
    rw[if_neg h2,<-h3]
   ·show(p.1,if p.1∈m then(1:Int)else -1)=p
    rw[if_pos h1,<-h3]
  exact(List.map_congr_left this).trans (List.map_id' _)|>.symm
theorem Uq(l m:List α):(gH fst l m).length<=l.length+m.length:=by
 induction l,m using gH.induct fst with
 | case1 => rw[gH];exact zL _
 | case2 b bs ih => rw[gH];simp at ih⊢;omega
 | case3 a az ih => rw[gH];simp at ih⊢;omega
 | case4 az a bs ih => rw[gH,if_pos rfl];simp at ih⊢;omega
 | case5 a az b bs hab hf ih => rw[gH,if_neg hab,if_pos hf];simp at ih⊢;omega
 | case6 a az b bs hab hf ih => rw[gH,if_neg hab,if_neg hf];simp at ih⊢;omega
end
end
end Go.Proofs.YtiiefcalkjeieaaGreat
