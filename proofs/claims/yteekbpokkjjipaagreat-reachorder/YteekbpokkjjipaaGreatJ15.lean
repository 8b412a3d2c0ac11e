import Derived.Test.YteekbpokkjjipaaGreatGCopd
import Derived.Test.YteekbpokkjjipaaGreatJ14
variable{i m gb p j:Nat}{a:Int}{nv fv pv:Go.Value}{w0 w w1:Go.World}{F:List Int}
set_option maxHeartbeats 8000000
set_option maxRecDepth 100000
namespace Go.Proofs.YteekbpokkjjipaaGreat
namespace Df
open Go.RowKit Go.Sort
abbrev UL:=Nat×Nat×Bool
def kU(i:Nat)(n:dw):List UL:=(List.range n.ins.toNat).map (fun p=>(i,p,true))++(List.range n.outs.toNat).map (fun p=>(i,p,false))
def aX(ns:List dw):Nat->List UL
 | 0 => []
 | i + 1 => aX ns i++match ns[i]? with | some n=>kU i n | none=>[]
def bM(ns:List dw)(i:Nat):Nat:=(aX ns i).length
def bO(ns:List dw)(i:Nat):List Int:=(List.range i).map fun k=>(bM ns k:Int)
theorem jM{ns:List dw}{n:dw}(hi:ns[i]? =some n):aX ns (i+1)=aX ns i++kU i n:=by simp[aX,hi]
theorem vV(i:Nat)(n:dw):(kU i n).length=n.ins.toNat+n.outs.toNat:=by simp[kU]
theorem uh{ns:List dw}{n:dw}(hi:ns[i]? =some n):bM ns (i+1)=bM ns i+(n.ins.toNat+n.outs.toNat):=by simp[bM,jM hi,vV]
theorem D7(ns:List dw)(i:Nat):bO ns (i+1)=bO ns i++[(bM ns i:Int)]:=by simp[bO,List.range_succ]
theorem iw(ns:List dw)(i:Nat):(bO ns i).length=i:=by simp[bO]
theorem xC(ns:List dw)(h:i<m):(bO ns m)[i]? =some (bM ns i:Int):=by simp[bO,h]
theorem FO(ns:List dw)(h:i<=m):∃l,aX ns m=aX ns i++l:=by
 induction m with
 | zero => obtain rfl:i=0:=by omega
           exact⟨[],by simp⟩
 | succ m ih=>
  by_cases e:i=m+1
  ·subst e;exact⟨[],by simp⟩
  ·obtain⟨l,hl⟩:=ih (by omega);exact⟨l++_,by rw[aX,hl,aA]⟩
def UN(ns:List dw):Prop:=∀n∈ns,0<=n.ins/\n.ins<=4/\0<=n.outs/\n.outs<=4
theorem oH{ns:List dw}(h:UN ns)(i:Nat):bM ns i<=8*i:=by
 induction i with
 | zero => simp[bM,aX]
 | succ i ih=>
  cases hi:ns[i]? with
  | none => simp only[bM,aX,hi,EN]at ih⊢;omega
  | some n=>
   rw[uh hi];have:=h n (lM hi);omega
theorem yQ{ns:List dw}{k:Nat}{t:UL}(h:i<=m)(hk:(aX ns i)[k]? =some t):(aX ns m)[k]? =some t:=by
 obtain⟨l,hl⟩:=FO ns h;rw[hl,gL (lG.1 hk).1];exact hk
theorem CV{ns:List dw}{n:dw}(hi:ns[i]? =some n)(hm:i<m)(hp:p<n.ins.toNat):(aX ns m)[bM ns i+p]? =some (i,p,true):=by
 refine yQ (i:=i+1) hm ?_;rw[jM hi,U5 (by simp[bM]),bM,Nat.add_sub_cancel_left,kU,gL (by simpa using hp)];simp[hp]
theorem yR{ns:List dw}{n:dw}(hi:ns[i]? =some n)(hm:i<m)(hp:p<n.outs.toNat):(aX ns m)[bM ns i+n.ins.toNat+p]? =some (i,p,false):=by
 refine yQ (i:=i+1) hm ?_;rw[jM hi,U5 (by simp[bM];omega),bM,show(aX ns i).length+n.ins.toNat+p-(aX ns i).length=n.ins.toNat+p by omega,kU,U5 (by simp)];simp[hp]
def dZ(ns:List dw)(d:dN):Nat:=bM ns d.src.toNat+(match ns[d.src.toNat]? with|some n=>n.ins.toNat|none=>0)+d.o.toNat
def iM(ns:List dw)(d:dN):Nat:=bM ns d.dst.toNat+d.df.toNat
def ik(ns:List dw)(es:List dN)(k:Nat):Nat->List Int
 | 0 => []
 | j + 1 => ik ns es k j++match es[j]? with | some d=>if dZ ns d=k\/iM ns d=k then[(j:Int)]else[] | none=>[]
theorem yF(ns:List dw)(es:List dN)(k j:Nat):(ik ns es k j).length<=j:=by
 induction j with
 | zero => simp[ik]
 | succ j ih=>
  rw[ik,dK];have:(match es[j]? with|some d=>if dZ ns d=k\/iM ns d=k then[(j:Int)]else[]|none=>[]).length<=1:=by
   split
   ·split<;>simp
   ·simp
  omega
theorem ru{ns:List dw}{i p:Int}(h:eY ns i p=true):∃n,ns[i.toNat]? =some n/\0<=i/\i.toNat<ns.length/\0<=p/\p<n.outs:=by
 unfold eY jq at h;by_cases h0:0<=i
 ·rw[if_pos h0]at h;cases e:ns[i.toNat]? with
  | none => rw[e]at h;cases h
  | some n=>
   rw[e]at h;simp at h;exact⟨n,rfl,h0,(lG.1 e).1,h.1,h.2⟩
 ·rw[if_neg h0]at h;cases h
theorem xk{ns:List dw}{i p:Int}(h:eZ ns i p=true):∃n,ns[i.toNat]? =some n/\0<=i/\i.toNat<ns.length/\0<=p/\p<n.ins:=by
 unfold eZ jq at h;by_cases h0:0<=i
 ·rw[if_pos h0]at h;cases e:ns[i.toNat]? with
  | none => rw[e]at h;cases h
  | some n=>
   rw[e]at h;simp at h;exact⟨n,rfl,h0,(lG.1 e).1,h.1,h.2⟩
 ·rw[if_neg h0]at h;cases h
theorem KC{ns:List dw}{l:List dN}{d:dN}(h:jA ns l d=0):eY ns d.src d.o=true/\eZ ns d.dst d.df=true/\xS l d=false:=by
 unfold jA at h;split at h
 ·cases h
 ·rename_i hn;simp only[not_or,Bool.not_eq_false,Bool.not_eq_true]at hn;exact hn
theorem wI{ns:List dw}{d:dN}(h:eY ns d.src d.o=true):(aX ns ns.length)[dZ ns d]? =some (d.src.toNat,d.o.toNat,false):=by
 obtain⟨n,hn,_,hl,h1,h2⟩:=ru h;unfold dZ;rw[hn];exact yR hn hl (by omega)
theorem Bn{ns:List dw}{d:dN}(h:eZ ns d.dst d.df=true):(aX ns ns.length)[iM ns d]? =some (d.dst.toNat,d.df.toNat,true):=by
 obtain⟨n,hn,_,hl,h1,h2⟩:=xk h;exact CV hn hl (by omega)
theorem SG{ns:List dw}{d:dN}(h:eY ns d.src d.o=true)(h':eZ ns d.dst d.df=true):dZ ns d≠iM ns d:=fun e=>by
 have h1:=wI h;have h2:=Bn h';rw[e,h2]at h1;simp at h1
def Qb(ns:List dw)(i p:Int):Int:=if eZ ns i p=true then bM ns i.toNat+p else -1
def yw(ns:List dw)(i p:Int):Int:=if eY ns i p=true then bM ns i.toNat+(match ns[i.toNat]? with|some n=>n.ins|none=>0)+p else -1
theorem jQ{n:dw}(h:eF a n=0):0<=n.ins/\n.ins<=4/\0<=n.outs/\n.outs<=4:=by
 unfold eF at h;split at h
 ·cases h
 ·split at h
  ·cases h
  ·rename_i h1 h2;have h2:=Classical.not_not.1 h2;obtain⟨h3,h4⟩:=h2;unfold IZ at h3;unfold qU at h4;constructor
   ·split at h3
    ·simp at h3;omega
    ·split at h3
     ·simp at h3;omega
     ·split at h3<;>simp at h3<;>omega
   ·constructor
    ·split at h3
     ·simp at h3;omega
     ·split at h3
      ·simp at h3;omega
      ·split at h3<;>simp at h3<;>omega
    ·split at h4
     ·simp at h4;omega
     ·split at h4<;>simp at h4<;>omega
theorem gQ.ku{g:bD}(h:gQ g):UN g.nodes:=fun n hn=>by
 obtain⟨i,hi,rfl⟩:=List.mem_iff_getElem.1 hn;exact jQ (h.ng i _ hi (by simp))
theorem gQ.ends{g:bD}(h:gQ g){d:dN}(hj:g.aN[j]? =some d):eY g.nodes d.src d.o=true/\eZ g.nodes d.dst d.df=true:=by
 have:=KC (h.eg j d (lG.1 hj).1 hj);exact⟨this.1,this.2.1⟩
attribute[local go_sem ↓]wp_at_zero wp_at_succ
def EI:El Int where
 k:=1
 enc o:=[.int .i64 o]
 len _:=rfl
 one o u hu:=by
  simp at hu;subst hu;rfl
theorem lU:(Tryz.prog.info? 3).map (fun i=>(i.zero,i.size,i.bytes))=some (some (.int .i64 0),1,8):=by kernel_rfl
structure SV where
 nd:Int
 pt:Int
 df:Bool
 q:Option Addr
 m:Nat
 c:Nat
abbrev SV.ev(s:SV):Value:= .slice s.q s.m s.c
abbrev Vs(a b:Int)(i:Bool)(v:Value):Array Value:=#[.int .i64 a, .int .i64 b, .bool i,v]
def ES:El SV where
 k:=4
 enc s:=(Vs s.nd s.pt s.df s.ev).toList
 len _:=rfl
 one o u hu:=by
  simp at hu;rcases hu with rfl|rfl|rfl|rfl<;>rfl
theorem Du:(Tryz.prog.info? 207).map (fun i=>(i.zero,i.size,i.bytes))=some (some (.agg #[.int .i64 0, .int .i64 0, .bool false, .slice none 0 0]),4,48):=by kernel_rfl
def SV.of(t:UL):SV:=⟨t.1,t.2.1,t.2.2,none,0,0⟩
abbrev eB(a:Int)(nv ev fv pv:Value):Array Value:=#[.int .i64 a,nv,ev,fv,pv]
structure Np(w0 w:World)(gb:Nat)(a:Int)(nv ev fv pv:Value)(F:List Int)(S:List SV):Prop where
 blk:w.heap[gb]? =some (.cells (eB a nv ev fv pv) 138 (0,0))
 kp:Kp (fun k=>k=gb) w0 w
 fr:w.ownsRow w0.heap.size 3 1 fv F.length (fl EI F)
 sp:w.ownsRow w0.heap.size 207 4 pv S.length (fl ES S)
theorem Np.gr{w':World}{ev:Value}{S:List SV}(h:Np w0 w gb a nv ev fv pv F S)(hb:Below w.heap.size w w'):Np w0 w' gb a nv ev fv pv F S:=
 ⟨(hb.block _ (ae h.blk)).trans h.blk,h.kp.trans (Kp.of_below hb) (fun _ _ h=>h),ag h.fr hb,ag h.sp hb⟩
theorem Np.spot{ev pv':Value}{S:List SV}{s:SV}(h:Np w0 w gb a nv ev fv pv F S)(h1:w1.ownsRow w0.heap.size 207 4 pv' (S.length+1) (fl ES S++ES.enc s))(h2:w.grownBy w1 pv.ownBlock)(h0:gb<w0.heap.size):
    Np w0 (w1.setCell ⟨gb,4,none⟩ pv') gb a nv ev fv pv' F (S++[s]):=by
 have k2:=Kp.grownBy (S:=fun k=>pv.ownBlock=some k) h2 (fun _ h=>h);have hb:w1.heap[gb]? =some (.cells (eB a nv ev fv pv) 138 (0,0)):=(k2.block _ (ae h.blk) (fun e=>by have:=(aL h.sp gb e).1;omega)).trans h.blk;obtain⟨s1,s2⟩:=bE hb 4 pv';have hf:=ax k2 h.fr (fun k e e2=>aF h.fr h.sp (by decide) k e e2);exact⟨s1,(h.kp.trans ((k2.mono (T:=fun k=>k=gb\/pv.ownBlock=some k) (fun _ h=>Or.inr h)).trans s2 (fun _ _ h=>Or.inl h)) (fun j hj e=>by rcases e with e|e;exact e;have:=(aL h.sp j e).1;omega)),ax s2 hf (fun k e e2=>by have:=(aL hf k e).1;omega),ax s2 (aS h1 (by simp) (by rw[aT,dx])) (fun k e e2=>by have:=(aL h1 k e).1;omega)⟩
theorem Np.abE{ev GU:Value}{S:List SV}{x:Int}(h:Np w0 w gb a nv ev fv pv F S)(h1:w1.ownsRow w0.heap.size 3 1 GU (F.length+1) (fl EI F++EI.enc x))(h2:w.grownBy w1 fv.ownBlock)(h0:gb<w0.heap.size):
    Np w0 (w1.setCell ⟨gb,3,none⟩ GU) gb a nv ev GU pv (F++[x]) S:=by
 have k2:=Kp.grownBy (S:=fun k=>fv.ownBlock=some k) h2 (fun _ h=>h);have hb:w1.heap[gb]? =some (.cells (eB a nv ev fv pv) 138 (0,0)):=(k2.block _ (ae h.blk) (fun e=>by have:=(aL h.fr gb e).1;omega)).trans h.blk;obtain⟨s1,s2⟩:=bE hb 3 GU;have hf:=ax k2 h.sp (fun k e e2=>aF h.sp h.fr (by decide) k e e2);exact⟨s1,(h.kp.trans ((k2.mono (T:=fun k=>k=gb\/fv.ownBlock=some k) (fun _ h=>Or.inr h)).trans s2 (fun _ _ h=>Or.inl h)) (fun j hj e=>by rcases e with e|e;exact e;have:=(aL h.fr j e).1;omega)),ax s2 (aS h1 (by simp) (by rw[aT,dx])) (fun k e e2=>by have:=(aL h1 k e).1;omega),ax s2 hf (fun k e e2=>by have:=(aL hf k e).1;omega)⟩
def Lb(i p:Nat):List UL:=(List.range p).map (fun p=>(i,p,true))
def Dg(i p:Nat):List UL:=(List.range p).map (fun p=>(i,p,false))
theorem Ob(i p:Nat):Lb i (p+1)=Lb i p++[(i,p,true)]:=by simp[Lb,List.range_succ]
theorem J7(i p:Nat):Dg i (p+1)=Dg i p++[(i,p,false)]:=by simp[Dg,List.range_succ]
theorem Np.re{ev:Value}{F':List Int}{S S':List SV}(h:Np w0 w gb a nv ev fv pv F S)(hF:F=F')(hS:S=S'):Np w0 w gb a nv ev fv pv F' S':=by subst hF;subst hS;exact h
theorem CW{ns:List dw}(h:UN ns){n:dw}(hj:ns[j]? =some n)(Xg:ns.length<=24):(aX ns j).length+(n.ins.toNat+n.outs.toNat)<=192:=by
 have h1:=oH h (j+1);rw[uh hj]at h1;have:=(lG.1 hj).1;unfold bM at h1;omega
theorem Ga{M:Nat}{eq:Option Addr}{em ec:Nat}{xs:List NV}(w:World)(hb:w.heap[gb]? =some (.cells (eB a nv (.slice eq em ec) (.slice none 0 0) (.slice none 0 0)) 138 (0,0)))(hN:Lz EV M w nv xs)(hgb:∀k,nv.ownBlock=some k->k≠gb)(Xg:xs.length<=24)(hP:UN (xs.map NV.n)):Calls Tryz.prog 70 #[.pointer (some ⟨gb,0,none⟩)] w fun r w'=>r= .returned (.tuple #[])/\∃fv pv,Np w w' gb a nv (.slice eq em ec) fv pv (bO (xs.map NV.n) xs.length) ((aX (xs.map NV.n) xs.length).map SV.of):=by
 have hmx:Tryz.prog.follows .mixedOrders=true:=by kernel_rfl
 have Ll:=hid (ae hb);obtain⟨pn,cn,Ow⟩:=hN.form;obtain⟨nl,hnl⟩:=aD (xs.length);rw[<-hnl]at Ow Xg⊢;subst Ow;have HN0:Hid (∀W,Kp (fun k=>k=gb) w W->Lz EV M W (.slice pn nl cn) xs):=fun W hk=>by
  rcases hN with⟨h,hm⟩|h
  ·exact Or.inl ⟨hk.ls h (fun k e=>hgb k e),hm⟩
  ·exact Or.inr h
 have lL:=hid hnl;have HP:=hid hP;obtain⟨ns,hns⟩:=aD (xs.map NV.n);rw[<-hns]at HP⊢;have UU:Hid (ns=xs.map NV.n/\ns.length=nl):=⟨hns,by rw[hns,hnl,fQ]⟩;have N0:Hid (Np w w gb a (.slice pn nl cn) (.slice eq em ec) (.slice none 0 0) (.slice none 0 0) [] []):=⟨hb,Kp.refl _ _,oN _ _ _ _,oN _ _ _ _⟩;have c0:=(aa hb).1;have l0:=ae hb;clear hb hN hgb hP hns hnl;go_enter Tryz.func70,Tryz.ntmps70;go_wp2_with fail;clear c0 l0;go_loopw [12] (fun s12 wr=>∃(j:Nat) (fv pv:Value),j<=nl/\s12= .int .i64 (j:Nat)/\Hid (Np w wr gb a (.slice pn nl cn) (.slice eq em ec) fv pv (bO ns j) ((aX ns j).map SV.of))) (fun s12 _=>nl-(intOf s12).toNat);case atStart=>exact⟨0,_,_,zL _,rfl,N0.o⟩
 case round=>
  clear N0;obtain⟨j,fv,pv,hj,rfl,HI⟩:=hrel;by_cases hlt:j<nl
  ·have hltz:(j:Int)<(nl:Int):=(by omega);have hj0:(0:Int)<=(j:Int):=(by omega);obtain⟨y,hy⟩:∃y,xs[j]? =some y:=⟨xs[j]'(by have:=lL.o;omega),by simp⟩;have TG:Hid (ns[j]? =some y.n):=(by show _=_;rw[UU.o.1];simp[hy]);obtain⟨b1,o1,q1,fO,rP,x0,x1,x2,x3,x4,x5,x6,x7,x8,x9⟩:=jX ((HN0.o wr HI.o.kp).ls hy) hy;simp only[vS]at fO;obtain⟨rfl,-,rfl⟩:=fO;have vE:=hid (CW HP.o TG.o (by rw[UU.o.2];exact Xg));have HPY:=hid (HP.o y.n (lM TG.o));clear hy;obtain⟨fq,fm,fc,hfv⟩:=aB HI.o.fr;obtain⟨sq,sm,sc,hsv⟩:=aB HI.o.sp;subst hfv;subst hsv;have HSM:Hid (sm=(aX ns j).length):=by
    have:=(aU HI.o.sp _ _ _ rfl).1;show _=_;simpa using this
   obtain⟨yb,hyb⟩:=aD (wr.heap.size);obtain⟨W5,bV⟩:=aD (wr.alloc (.cells y.cells 149));have P5:Hid (Np w W5 gb a (.slice (some ⟨b1,o1,none⟩) nl cn) (.slice eq em ec) (.slice fq fm fc) (.slice sq sm sc) (bO ns j) ((aX ns j).map SV.of)/\W5.heap[yb]? =some (.cells y.cells 149 (0,0))/\w.heap.size<=yb):=by
    rw[bV,hyb];exact⟨HI.o.gr ((Gr.refl wr).alloc _).below,ai _ _,HI.o.kp.size⟩
   have gU:Hid (wr.alloc (.cells #[.int .i64 y.n.kind, .int .i64 y.n.ins, .int .i64 y.n.outs, .slice y.cq y.cm y.cc, .int .u64 (y.n.via.1:Nat), .int .u64 (y.n.via.2.1:Nat), .int .u64 (y.n.via.2.2:Nat), .int .u64 (y.n.bound:Nat), .slice y.dq y.dm y.dc, .bool y.n.start] 149)=W5/\wr.heap.size=yb):=⟨bV.symm,hyb.symm⟩;clear bV hyb;go_upto_region 3 with fail;rw[gU.o.1,gU.o.2];clear gU x0 x1 x2 x3 x4 x5 x6 x7 x8 x9 rP;go_cut [] (fun w'=>Hid (∃GU,Np w w' gb a (.slice (some ⟨b1,o1,none⟩) nl cn) (.slice eq em ec) GU (.slice sq sm sc) (bO ns (j+1)) ((aX ns j).map SV.of)/\w'.heap[yb]? =some (.cells y.cells 149 (0,0))));case first=>
    have BD:Hid (Below W5.heap.size W5 W5.drew):=(Gr.refl W5).drew.below;refine ay (S:=fun W=>W.heap[gb]? =some (.cells (eB a (.slice (some ⟨b1,o1,none⟩) nl cn) (.slice eq em ec) (.slice fq fm fc) (.slice sq sm sc)) 138 (0,0))) (D:=[14]) hmx ?_;generalize W5.drew=Wd at BD⊢;have PD:=hid (P5.o.1.gr BD.o);have YD:=hid ((BD.o.block _ (ae P5.o.2.1)).trans P5.o.2.1);have hS0:=PD.o.blk;refine' av 0 hS0 ?_;refine' av 1 hS0 ?_;refine' av 2 hS0 ?_;refine' av 3 hS0 ?_;refine' bB 4 hS0 ?h ?_;case h=>(intro W hSw;have hc:=(aa hSw).1;have hl:=ae hSw;go_simp;try(with_reducible rfl))
    refine' av 5 hS0 ?_;refine' av 6 hS0 ?_;refine' av 7 hS0 ?_;refine' bB 8 hS0 ?h ?_;case h=>(intro W hSw;have hc:=(aa hSw).1;have hl:=ae hSw;go_simp;try(with_reducible rfl))
    refine' av 9 hS0 ?_;refine bN 10 fun K hK=> ?_;go_simp;have b6:=((Gr.refl Wd).alloc (.cells #[.int .i64 (sm:Nat)] 3)).below;have oW:=(b6.block _ (ae hS0)).trans hS0;clear b6;refine hK.o _ _ (fun hD=>oW) ?_;clear hK K;try simp only[Act.put,qI,q0,qS]
    refine bN 11 fun K hK=> ?_;refine bQ EI Tryz.underlying97 lU rfl (by decide) rfl _ _ rfl w.heap.size _ (bO ns j).length _ rfl PD.o.fr (sm:Int) (by first|rfl|simp) (by rw[iw];omega) (by rw[iw];unfold maxLen;omega) PD.o.kp.size _ rfl _ ?_;intro g7 Tw w7 h7 k7 _;have N7:Hid (Np w (w7.setCell ⟨gb,3,none⟩ (.slice (some ⟨g7,0,none⟩) ((bO ns j).length+1) Tw)) gb a (.slice (some ⟨b1,o1,none⟩) nl cn) (.slice eq em ec) (.slice (some ⟨g7,0,none⟩) ((bO ns j).length+1) Tw) (.slice sq sm sc) (bO ns (j+1)) ((aX ns j).map SV.of)):=(PD.o.abE h7.o k7.o Ll.o).re (by rw[D7,bM,HSM.o]) rfl;have k2:=Kp.grownBy (S:=fun k=>(Value.slice fq fm fc).ownBlock=some k) k7.o (fun _ h=>h);have bf:w7.heap[gb]? =some (.cells (eB a (.slice (some ⟨b1,o1,none⟩) nl cn) (.slice eq em ec) (.slice fq fm fc) (.slice sq sm sc)) 138 (0,0)):=(k2.block _ (ae hS0) (fun e=>by have:=(aL PD.o.fr gb e).1;have:=Ll.o;omega)).trans hS0;have hyw:w7.heap[yb]? =some (.cells y.cells 149 (0,0)):=(k2.block _ (ae YD.o) (fun e=>aH PD.o.fr YD.o (by decide) yb e rfl)).trans YD.o;have Y7:Hid ((w7.setCell ⟨gb,3,none⟩ (.slice (some ⟨g7,0,none⟩) ((bO ns j).length+1) Tw)).heap[yb]? =some (.cells y.cells 149 (0,0))):=((bE bf 3 _).2.block yb (ae hyw) (fun e=>by have:=P5.o.2.2;have:=Ll.o;omega)).trans hyw;clear h7 k7 k2 hyw;generalize (bO ns j).length+1=fl7 at N7 Y7⊢;refine hK.o _ _ (fun hD=>bf) ?_;clear hK K;try simp only[Act.put,qI,q0,qS]
    refine bN 12 fun K hK=> ?_;go_simp;refine hK.o _ _ (fun hD=>bf) ?_;clear hK K;try simp only[Act.put,qI,q0,qS]
    refine' av 13 bf ?_;refine bN 14 fun K hK=> ?_;have c7:=(aa bf).1;have f7:=(aa bf).2;have l7:=ae bf;go_simp;generalize (w7.setCell ⟨gb,3,none⟩ (.slice (some ⟨g7,0,none⟩) fl7 Tw))=w9 at N7 Y7⊢;clear c7 f7 l7;refine hK.o _ _ (fun hD=>absurd (by decide) hD) ?_;clear hK K;try simp only[Act.put,qI,q0,qS]
    refine ak (by kernel_rfl) ?_ _;go_wp2_with fail;go_meet;exact⟨_,N7.o,Y7.o⟩
   case rest=>
    obtain⟨GU,NF,NY⟩:=hcut.o;rename_i wc;have HC:Hid (Np w wc gb a (.slice (some ⟨b1,o1,none⟩) nl cn) (.slice eq em ec) GU (.slice sq sm sc) (bO ns (j+1)) ((aX ns j).map SV.of)/\wc.heap[yb]? =some (.cells y.cells 149 (0,0))):=⟨NF,NY⟩;have cy:=(aa NY).1;have ly:=ae NY;clear hcut NF NY HI;go_upto_region 5 with fail;clear cy ly;obtain⟨ci,hci⟩:∃c:Nat,y.n.ins=(c:Int):=⟨y.n.ins.toNat,by have:=HPY.o;omega⟩;obtain⟨co,hco⟩:∃c:Nat,y.n.outs=(c:Int):=⟨y.n.outs.toNat,by have:=HPY.o;omega⟩;have KZ:Hid (y.n.ins=(ci:Int)/\y.n.outs=(co:Int)/\ci<=4/\co<=4/\y.n.ins.toNat=ci/\y.n.outs.toNat=co):=⟨hci,hco,by have:=HPY.o;omega,by have:=HPY.o;omega,by omega,by omega⟩;have hci4:ci<=4:=KZ.o.2.2.1;have hco4:co<=4:=KZ.o.2.2.2.1;rw[hci];clear hci hco;go_loopw [33] (fun s33 wr=>∃(p:Nat) (pv:Value),p<=ci/\s33= .int .i64 (p:Nat)/\Hid (Np w wr gb a (.slice (some ⟨b1,o1,none⟩) nl cn) (.slice eq em ec) GU pv (bO ns (j+1)) ((aX ns j++Lb j p).map SV.of)/\wr.heap[yb]? =some (.cells y.cells 149 (0,0)))) (fun s33 _=>ci-(intOf s33).toNat);case atStart=>exact⟨0,_,zL _,rfl,HC.o.1.re rfl (by simp[Lb]),HC.o.2⟩
    case round=>
     clear HC;obtain⟨p,pv,hp,rfl,HI⟩:=hrel;by_cases hpl:p<ci
     ·have abe:(p:Int)<(ci:Int):=(by omega);obtain⟨SL,Xb⟩:=aD ((aX ns j++Lb j p).map SV.of);rw[<-Xb]at HI;have Lj:=hid Xb;clear Xb;obtain⟨Vh,Vo,Vt,Ww⟩:=aB HI.o.1.sp;subst Ww;have uw:Hid (SL.length=sm+p/\sm+p+1<=192):=by
       have h1:=vE.o;rw[KZ.o.2.2.2.2.1,KZ.o.2.2.2.2.2,<-HSM.o]at h1;refine⟨by rw[Lj.o];simp[Lb,HSM.o];try omega,by omega⟩
      have cg:=(aa HI.o.1.blk).1;have fg:=(aa HI.o.1.blk).2;have lg:=ae HI.o.1.blk;go_wp2_with (at_builtin;refine fU ES Tryz.underlying136 Du rfl (by decide) rfl _ _ rfl w.heap.size _ SL.length _ rfl HI.o.1.sp (SV.of (j,p,true)) (by first|rfl|simp) (by rw[uw.o.1];have:=uw.o.2;omega) (by rw[uw.o.1];have:=uw.o.2;unfold maxLen;omega) HI.o.1.kp.size _ rfl _ ?_);intro g8 bC w8 h8 k8 _;have N8:Hid (Np w (w8.setCell ⟨gb,4,none⟩ (.slice (some ⟨g8,0,none⟩) (SL.length+1) bC)) gb a (.slice (some ⟨b1,o1,none⟩) nl cn) (.slice eq em ec) GU (.slice (some ⟨g8,0,none⟩) (SL.length+1) bC) (bO ns (j+1)) ((aX ns j++Lb j (p+1)).map SV.of)/\(w8.setCell ⟨gb,4,none⟩ (.slice (some ⟨g8,0,none⟩) (SL.length+1) bC)).heap[yb]? =some (.cells y.cells 149 (0,0))):=by
       refine⟨(HI.o.1.spot h8 k8 Ll.o).re rfl (by rw[Lj.o,Ob];simp), ?_⟩;have k2:=Kp.grownBy (S:=fun k=>(Value.slice Vh Vo Vt).ownBlock=some k) k8 (fun _ h=>h);have dM:=(k2.block _ (ae HI.o.1.blk) (fun e=>by have:=(aL HI.o.1.sp gb e).1;have:=Ll.o;omega)).trans HI.o.1.blk;rw[(bE dM 4 _).2.block yb (nL (ae HI.o.2) k2.size) (fun e=>by have:=P5.o.2.2;have:=Ll.o;omega),k2.block yb (ae HI.o.2) (fun e=>aH HI.o.1.sp HI.o.2 (by decide) yb e rfl)];exact HI.o.2
      have dM:w8.heap[gb]? =some (.cells (eB a (.slice (some ⟨b1,o1,none⟩) nl cn) (.slice eq em ec) GU (.slice Vh Vo Vt)) 138 (0,0)):=((Kp.grownBy (S:=fun k=>(Value.slice Vh Vo Vt).ownBlock=some k) k8 (fun _ h=>h)).block _ (ae HI.o.1.blk) (fun e=>by have:=(aL HI.o.1.sp gb e).1;have:=Ll.o;omega)).trans HI.o.1.blk;have c8:=(aa dM).1;have f8:=(aa dM).2;have l8:=ae dM;clear h8 k8 dM cg fg lg;generalize mg:SL.length+1=ll at N8⊢;clear mg;go_wp2_with fail;generalize (w8.setCell ⟨gb,4,none⟩ (.slice (some ⟨g8,0,none⟩) ll bC))=w9 at N8⊢;have FIN:=N8;clear N8 c8 f8 l8;go_wp2_with fail;go_roundw;case rel=>exact⟨p+1,_,by omega,by go_num,FIN.o⟩
      case measure=>simp[intOf];omega
     ·have abe:¬(p:Int)<(ci:Int):=(by omega);obtain rfl:p=ci:=(by omega);have cy:=(aa HI.o.2).1;have ly:=ae HI.o.2;go_upto_region 10 with fail;rw[KZ.o.2.1];clear cy ly;go_loopw [51] (fun Vv wr=>∃(p2:Nat) (pv:Value),p2<=co/\Vv= .int .i64 (p2:Nat)/\Hid (Np w wr gb a (.slice (some ⟨b1,o1,none⟩) nl cn) (.slice eq em ec) GU pv (bO ns (j+1)) ((aX ns j++Lb j p++Dg j p2).map SV.of)/\wr.heap[yb]? =some (.cells y.cells 149 (0,0)))) (fun Vv _=>co-(intOf Vv).toNat);case atStart=>exact⟨0,_,zL _,rfl,HI.o.1.re rfl (by simp[Dg]),HI.o.2⟩
      case round=>
       clear HI;obtain⟨p2,pv,hp2,rfl,HI⟩:=hrel;by_cases kG:p2<co
       ·have ZV:(p2:Int)<(co:Int):=(by omega);obtain⟨SL,Xb⟩:=aD ((aX ns j++Lb j p++Dg j p2).map SV.of);rw[<-Xb]at HI;have Lj:=hid Xb;clear Xb;obtain⟨Vh,Vo,Vt,Ww⟩:=aB HI.o.1.sp;subst Ww;have uw:Hid (SL.length=sm+(p+p2)/\sm+(p+p2)+1<=192):=by
         have h1:=vE.o;rw[KZ.o.2.2.2.2.1,KZ.o.2.2.2.2.2,<-HSM.o]at h1;refine⟨by rw[Lj.o];simp[Lb,Dg,HSM.o];try omega,by omega⟩
        have cg:=(aa HI.o.1.blk).1;have fg:=(aa HI.o.1.blk).2;have lg:=ae HI.o.1.blk;go_wp2_with (at_builtin;refine fU ES Tryz.underlying136 Du rfl (by decide) rfl _ _ rfl w.heap.size _ SL.length _ rfl HI.o.1.sp (SV.of (j,p2,false)) (by first|rfl|simp) (by rw[uw.o.1];have:=uw.o.2;omega) (by rw[uw.o.1];have:=uw.o.2;unfold maxLen;omega) HI.o.1.kp.size _ rfl _ ?_);intro g8 bC w8 h8 k8 _;have N8:Hid (Np w (w8.setCell ⟨gb,4,none⟩ (.slice (some ⟨g8,0,none⟩) (SL.length+1) bC)) gb a (.slice (some ⟨b1,o1,none⟩) nl cn) (.slice eq em ec) GU (.slice (some ⟨g8,0,none⟩) (SL.length+1) bC) (bO ns (j+1)) ((aX ns j++Lb j p++Dg j (p2+1)).map SV.of)/\(w8.setCell ⟨gb,4,none⟩ (.slice (some ⟨g8,0,none⟩) (SL.length+1) bC)).heap[yb]? =some (.cells y.cells 149 (0,0))):=by
         refine⟨(HI.o.1.spot h8 k8 Ll.o).re rfl (by rw[Lj.o,J7];simp), ?_⟩;have k2:=Kp.grownBy (S:=fun k=>(Value.slice Vh Vo Vt).ownBlock=some k) k8 (fun _ h=>h);have dM:=(k2.block _ (ae HI.o.1.blk) (fun e=>by have:=(aL HI.o.1.sp gb e).1;have:=Ll.o;omega)).trans HI.o.1.blk;rw[(bE dM 4 _).2.block yb (nL (ae HI.o.2) k2.size) (fun e=>by have:=P5.o.2.2;have:=Ll.o;omega),k2.block yb (ae HI.o.2) (fun e=>aH HI.o.1.sp HI.o.2 (by decide) yb e rfl)];exact HI.o.2
        have dM:w8.heap[gb]? =some (.cells (eB a (.slice (some ⟨b1,o1,none⟩) nl cn) (.slice eq em ec) GU (.slice Vh Vo Vt)) 138 (0,0)):=((Kp.grownBy (S:=fun k=>(Value.slice Vh Vo Vt).ownBlock=some k) k8 (fun _ h=>h)).block _ (ae HI.o.1.blk) (fun e=>by have:=(aL HI.o.1.sp gb e).1;have:=Ll.o;omega)).trans HI.o.1.blk;have c8:=(aa dM).1;have f8:=(aa dM).2;have l8:=ae dM;clear h8 k8 dM cg fg lg;generalize mg:SL.length+1=ll at N8⊢;clear mg;go_wp2_with fail;generalize (w8.setCell ⟨gb,4,none⟩ (.slice (some ⟨g8,0,none⟩) ll bC))=w9 at N8⊢;have FIN:=N8;clear N8 c8 f8 l8;go_wp2_with fail;go_roundw;case rel=>exact⟨p2+1,_,by omega,by go_num,FIN.o⟩
        case measure=>simp[intOf];omega
       ·have ZV:¬(p2:Int)<(co:Int):=(by omega);have FIN:Hid (Np w wr gb a (.slice (some ⟨b1,o1,none⟩) nl cn) (.slice eq em ec) GU pv (bO ns (j+1)) ((aX ns (j+1)).map SV.of)):=HI.o.1.re rfl (by rw[jM TG.o,kU,KZ.o.2.2.2.2.1,KZ.o.2.2.2.2.2,show p2=co by omega,aA];rfl);go_wp2_with fail;go_roundw;case rel=>exact⟨j+1,_,_,by omega,by go_num,FIN.o⟩
        case measure=>simp[intOf];omega
  ·have hltz:¬(j:Int)<(nl:Int):=(by omega);obtain rfl:j=nl:=(by omega);go_wp2_with fail;go_end0;exact⟨rfl,_,_,HI.o⟩
end Df
section
open Go.RowKit
section
variable {α:Type} [DecidableEq α] (fst:α->α->Bool)
def gu:List α->List α->List (α×Int)
 | [], [] => []
 | [], b::bs => (b,1)::gu [] bs
 | a::az, [] => (a,-1)::gu az []
 | a::az, b::bs => if a=b then gu az bs else if fst a b=true then(a,-1)::gu az (b::bs)else(b,1)::gu (a::az) bs
termination_by l m=>l.length+m.length
end
section
variable {α:Type} [DecidableEq α] {au fst:α->α->Bool}
theorem jU(O:rO au fst)(l m:List α)(hl:l.Pairwise fun a b=>fst a b=true)(hm:m.Pairwise fun a b=>fst a b=true)(p:α×Int):
    p∈gu fst l m↔(p.1∈l/\p.1∉m/\p.2= -1)\/(p.1∈m/\p.1∉l/\p.2=1):=by
 induction l,m using gu.induct fst with
 | case1 => simp[gu]
 | case2 b bs ih=>
  obtain⟨_,hm2⟩:=qp.1 hm;rw[gu,eO,ih hl hm2];obtain⟨x,n⟩:=p;simp only[Prod.mk.injEq,List.not_mem_nil,eO,false_and,false_or,not_false_eq_true,true_and];constructor
  ·rintro(⟨rfl,rfl⟩|⟨h1,h2⟩)
   ·exact⟨Or.inl rfl,rfl⟩
   ·exact⟨Or.inr h1,h2⟩
  ·rintro⟨rfl|h1,h2⟩
   ·exact Or.inl ⟨rfl,h2⟩
   ·exact Or.inr ⟨h1,h2⟩
 | case3 a az ih=>
  obtain⟨_,hl2⟩:=qp.1 hl;rw[gu,eO,ih hl2 hm];obtain⟨x,n⟩:=p;simp only[Prod.mk.injEq,List.not_mem_nil,eO,false_and,or_false,not_false_eq_true,true_and];constructor
  ·rintro(⟨rfl,rfl⟩|⟨h1,h2⟩)
   ·exact⟨Or.inl rfl,rfl⟩
   ·exact⟨Or.inr h1,h2⟩
  ·rintro⟨rfl|h1,h2⟩
   ·exact Or.inl ⟨rfl,h2⟩
   ·exact Or.inr ⟨h1,h2⟩
 | case4 az a bs ih=>
  obtain⟨hl1,hl2⟩:=qp.1 hl;obtain⟨hm1,hm2⟩:=qp.1 hm;rw[gu,if_pos rfl,ih hl2 hm2];have n1:∀x∈az,x≠a:=fun x hx e=>by subst e;have:=hl1 x hx;rw[O.p9]at this;cases this
  have n2:∀x∈bs,x≠a:=fun x hx e=>by subst e;have:=hm1 x hx;rw[O.p9]at this;cases this
  simp only[eO,not_or];constructor
  ·rintro(⟨h1,h2,h3⟩|⟨h1,h2,h3⟩)
   ·exact Or.inl ⟨Or.inr h1,⟨n1 _ h1,h2⟩,h3⟩
   ·exact Or.inr ⟨Or.inr h1,⟨n2 _ h1,h2⟩,h3⟩
  ·rintro(⟨h1,⟨h2,h3⟩,h4⟩|⟨h1,⟨h2,h3⟩,h4⟩)
   ·exact Or.inl ⟨h1.resolve_left h2,h3,h4⟩
   ·exact Or.inr ⟨h1.resolve_left h2,h3,h4⟩
 | case5 a az b bs hab hf ih=>
  obtain⟨hl1,hl2⟩:=qp.1 hl;obtain⟨hm1,_⟩:=qp.1 hm;rw[gu,if_neg hab,if_pos hf,eO,ih hl2 hm];have na:a∉b::bs:=fun h=>by
   have:fst a a=true:=by
    rcases eO.1 h with h|h
    ·exact absurd h hab
    ·exact O.tr _ _ _ hf (hm1 a h)
   rw[O.p9]at this;cases this
  have n1:a∉az:=fun h=>by have:=hl1 a h;rw[O.p9]at this;cases this
  obtain⟨x,n⟩:=p;simp only[Prod.mk.injEq];constructor
  ·rintro(⟨rfl,rfl⟩|⟨h1,h2,h3⟩|⟨h1,h2,h3⟩)
   ·exact Or.inl ⟨mX ..,na,rfl⟩
   ·exact Or.inl ⟨mO _ h1,h2,h3⟩
   ·exact Or.inr ⟨h1,fun e=>by
      rcases eO.1 e with rfl|e
      ·exact na h1
      ·exact h2 e,h3⟩
  ·rintro(⟨h1,h2,h3⟩|⟨h1,h2,h3⟩)
   ·rcases eO.1 h1 with rfl|h1
    ·exact Or.inl ⟨rfl,h3⟩
    ·exact Or.inr (Or.inl ⟨h1,h2,h3⟩)
   ·exact Or.inr (Or.inr ⟨h1,fun e=>h2 (mO _ e),h3⟩)
 | case6 a az b bs hab hf ih=>
  obtain⟨hl1,_⟩:=qp.1 hl;obtain⟨hm1,hm2⟩:=qp.1 hm;rw[gu,if_neg hab,if_neg hf,eO,ih hl hm2];have GH:fst b a=true:=O.tot _ _ hab (by cases e:fst a b with|true=>exact absurd e hf|false=>rfl);have nb:b∉a::az:=fun h=>by
   have:fst b b=true:=by
    rcases eO.1 h with h|h
    ·exact absurd h.symm hab
    ·exact O.tr _ _ _ GH (hl1 b h)
   rw[O.p9]at this;cases this
  obtain⟨x,n⟩:=p;simp only[Prod.mk.injEq];constructor
  ·rintro(⟨rfl,rfl⟩|⟨h1,h2,h3⟩|⟨h1,h2,h3⟩)
   ·exact Or.inr ⟨mX ..,nb,rfl⟩
   ·exact Or.inl ⟨h1,fun e=>by
      rcases eO.1 e with rfl|e
      ·exact nb h1
      ·exact h2 e,h3⟩
   ·exact Or.inr ⟨mO _ h1,h2,h3⟩
  ·rintro(⟨h1,h2,h3⟩|⟨h1,h2,h3⟩)
   ·exact Or.inr (Or.inl ⟨h1,fun e=>h2 (mO _ e),h3⟩)
   ·rcases eO.1 h1 with rfl|h1
    ·exact Or.inl ⟨rfl,h3⟩
    ·exact Or.inr (Or.inr ⟨h1,h2,h3⟩)
theorem Ic(O:rO au fst)(l m:List α)(hl:l.Pairwise fun a b=>fst a b=true)(hm:m.Pairwise fun a b=>fst a b=true):(gu fst l m).Pairwise fun p q=>fst p.1 q.1=true:=by
 induction l,m using gu.induct fst with
 | case1 => rw[gu];exact List.Pairwise.nil
 | case2 b bs ih=>
  obtain⟨hm1,hm2⟩:=qp.1 hm;rw[gu];refine qp.2 ⟨fun q hq=> ?_,ih hl hm2⟩;rcases(jU O _ _ hl hm2 q).1 hq with⟨h1,_⟩|⟨h1,_⟩
  ·cases h1
  ·exact hm1 _ h1
 | case3 a az ih=>
  obtain⟨hl1,hl2⟩:=qp.1 hl;rw[gu];refine qp.2 ⟨fun q hq=> ?_,ih hl2 hm⟩;rcases(jU O _ _ hl2 hm q).1 hq with⟨h1,_⟩|⟨h1,_⟩
  ·exact hl1 _ h1
  ·cases h1
 | case4 az a bs ih=>
  rw[gu,if_pos rfl];exact ih (qp.1 hl).2 (qp.1 hm).2
 | case5 a az b bs hab hf ih=>
  obtain⟨hl1,hl2⟩:=qp.1 hl;obtain⟨hm1,_⟩:=qp.1 hm;rw[gu,if_neg hab,if_pos hf];refine qp.2 ⟨fun q hq=> ?_,ih hl2 hm⟩;rcases(jU O _ _ hl2 hm q).1 hq with⟨h1,_⟩|⟨h1,_⟩
  ·exact hl1 _ h1
  ·rcases eO.1 h1 with h1|h1
   ·rw[h1];exact hf
   ·exact O.tr _ _ _ hf (hm1 _ h1)
 | case6 a az b bs hab hf ih=>
  obtain⟨hl1,_⟩:=qp.1 hl;obtain⟨hm1,hm2⟩:=qp.1 hm;have GH:fst b a=true:=O.tot _ _ hab (by cases e:fst a b with|true=>exact absurd e hf|false=>rfl);rw[gu,if_neg hab,if_neg hf];refine qp.2 ⟨fun q hq=> ?_,ih hl hm2⟩;rcases(jU O _ _ hl hm2 q).1 hq with⟨h1,_⟩|⟨h1,_⟩
  ·rcases eO.1 h1 with h1|h1
   ·rw[h1];exact GH
   ·exact O.tr _ _ _ GH (hl1 _ h1)
  ·exact hm1 _ h1
theorem PE(O:rO au fst){l m:List α}(hl:l.Pairwise fun a b=>fst a b=true)(hm:m.Pairwise fun a b=>fst a b=true):((gu fst l m).map Prod.fst).Pairwise (fun a b=>fst a b=true)/\(∀x,x∈(gu fst l m).map Prod.fst↔(x∈l/\x∉m)\/(x∈m/\x∉l))/\gu fst l m=((gu fst l m).map Prod.fst).map fun t=>(t,if t∈m then 1 else -1):=by
 refine⟨List.pairwise_map.2 (Ic O l m hl hm),fun x=> ?_, ?_⟩
 ·rw[mM];constructor
  ·rintro⟨p,hp,rfl⟩;rcases(jU O l m hl hm p).1 hp with⟨h1,h2,_⟩|⟨h1,h2,_⟩
   ·exact Or.inl ⟨h1,h2⟩
   ·exact Or.inr ⟨h1,h2⟩
  ·rintro(⟨h1,h2⟩|⟨h1,h2⟩)
   ·exact⟨(x,-1),(jU O l m hl hm _).2 (Or.inl ⟨h1,h2,rfl⟩),rfl⟩
   ·exact⟨(x,1),(jU O l m hl hm _).2 (Or.inr ⟨h1,h2,rfl⟩),rfl⟩
 ·rw[List.map_map];have:∀p∈gu fst l m,((fun t=>(t,if t∈m then(1:Int)else -1)) ∘ Prod.fst) p=p:=fun p hp=>by
   rcases(jU O l m hl hm p).1 hp with⟨_,h2,h3⟩|⟨h1,_,h3⟩
   ·show(p.1,if p.1∈m then(1:Int)else -1)=p
    rw[if_neg h2,<-h3]
   ·show(p.1,if p.1∈m then(1:Int)else -1)=p
    rw[if_pos h1,<-h3]
  exact(List.map_congr_left this).trans (List.map_id' _)|>.symm
theorem Tx(l m:List α):(gu fst l m).length<=l.length+m.length:=by
 induction l,m using gu.induct fst with
 | case1 => rw[gu];exact zL _
 | case2 b bs ih => rw[gu];simp at ih⊢;omega
 | case3 a az ih => rw[gu];simp at ih⊢;omega
 | case4 az a bs ih => rw[gu,if_pos rfl];simp at ih⊢;omega
 | case5 a az b bs hab hf ih => rw[gu,if_neg hab,if_pos hf];simp at ih⊢;omega
 | case6 a az b bs hab hf ih => rw[gu,if_neg hab,if_neg hf];simp at ih⊢;omega
end
end
end Go.Proofs.YteekbpokkjjipaaGreat
