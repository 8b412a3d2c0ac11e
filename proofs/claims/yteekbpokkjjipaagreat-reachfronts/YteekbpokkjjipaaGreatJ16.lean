import Derived.Test.YteekbpokkjjipaaGreatJ5
import Derived.Test.YteekbpokkjjipaaGreatHPopC
variable{w w0 w' W w1:Go.World}{v nv fv pv ff sv rv:Go.Value}{gb j hb np b N b4 b3 b5:Nat}{a ar x:Int}{rs:List Nat}{F:List Int}{cs:Array Go.Value}{t:Go.TypeId}
set_option maxHeartbeats 8000000
set_option maxRecDepth 100000
namespace Go.Proofs.YteekbpokkjjipaaGreat
namespace Df
open Go.RowKit Go.Sort
attribute [local go_sem ↓] Go.wp_at_zero Go.wp_at_succ
def EI:El Int where
 k:=1
 enc o:=[.int .i64 o]
 len _:=rfl
 one o u hu:=by
  simp at hu;subst hu;rfl
theorem lD:(Tryz.prog.info? 3).map (fun i=>(i.zero,i.size,i.bytes))=some (some (.int .i64 0),1,8):=by kernel_rfl
structure SV where
 nd:Int
 pt:Int
 cO:Bool
 q:Option Addr
 m:Nat
 c:Nat
abbrev SV.ev(s:SV):Value:= .slice s.q s.m s.c
abbrev Ub(a b:Int)(i:Bool)(v:Value):Array Value:=#[.int .i64 a, .int .i64 b, .bool i,v]
def ES:El SV where
 k:=4
 enc s:=(Ub s.nd s.pt s.cO s.ev).toList
 len _:=rfl
 one o u hu:=by
  simp at hu;rcases hu with rfl|rfl|rfl|rfl<;>rfl
theorem Cc:(Tryz.prog.info? 207).map (fun i=>(i.zero,i.size,i.bytes))=some (some (.agg #[.int .i64 0, .int .i64 0, .bool false, .slice none 0 0]),4,48):=by kernel_rfl
def SV.of(t:SX):SV:=⟨t.1,t.2.1,t.2.2,none,0,0⟩
abbrev dY(a:Int)(nv ev fv pv:Value):Array Value:=#[.int .i64 a,nv,ev,fv,pv]
structure Np(w0 w:World)(gb:Nat)(a:Int)(nv ev fv pv:Value)(F:List Int)(S:List SV):Prop where
 blk:w.heap[gb]? =some (.cells (dY a nv ev fv pv) 138 (0,0))
 kp:Kp (fun k=>k=gb) w0 w
 fr:w.ownsRow w0.heap.size 3 1 fv F.length (fl EI F)
 sp:w.ownsRow w0.heap.size 207 4 pv S.length (fl ES S)
theorem Np.gr{ev:Value}{S:List SV}(h:Np w0 w gb a nv ev fv pv F S)(hb:Below w.heap.size w w'):Np w0 w' gb a nv ev fv pv F S:=
 ⟨(hb.block _ (ae h.blk)).trans h.blk,h.kp.trans (Kp.of_below hb) (fun _ _ h=>h),ag h.fr hb,ag h.sp hb⟩
theorem Np.spot{ev pv':Value}{S:List SV}{s:SV}(h:Np w0 w gb a nv ev fv pv F S)(h1:w1.ownsRow w0.heap.size 207 4 pv' (S.length+1) (fl ES S++ES.enc s))(h2:w.grownBy w1 pv.ownBlock)(h0:gb<w0.heap.size):
    Np w0 (w1.setCell ⟨gb,4,none⟩ pv') gb a nv ev fv pv' F (S++[s]):=by
 have k2:=Kp.grownBy (S:=fun k=>pv.ownBlock=some k) h2 (fun _ h=>h);have hb:w1.heap[gb]? =some (.cells (dY a nv ev fv pv) 138 (0,0)):=(k2.block _ (ae h.blk) (fun e=>by have:=(aH h.sp gb e).1;omega)).trans h.blk;obtain⟨s1,s2⟩:=bE hb 4 pv';have hf:=ay k2 h.fr (fun k e e2=>aC h.fr h.sp (by decide) k e e2);exact⟨s1,(h.kp.trans ((k2.mono (T:=fun k=>k=gb\/pv.ownBlock=some k) (fun _ h=>Or.inr h)).trans s2 (fun _ _ h=>Or.inl h)) (fun j hj e=>by rcases e with e|e;exact e;have:=(aH h.sp j e).1;omega)),ay s2 hf (fun k e e2=>by have:=(aH hf k e).1;omega),ay s2 (aP h1 (by simp) (by rw[aS,dK])) (fun k e e2=>by have:=(aH h1 k e).1;omega)⟩
theorem Np.aaT{ev FN:Value}{S:List SV}(h:Np w0 w gb a nv ev fv pv F S)(h1:w1.ownsRow w0.heap.size 3 1 FN (F.length+1) (fl EI F++EI.enc x))(h2:w.grownBy w1 fv.ownBlock)(h0:gb<w0.heap.size):
    Np w0 (w1.setCell ⟨gb,3,none⟩ FN) gb a nv ev FN pv (F++[x]) S:=by
 have k2:=Kp.grownBy (S:=fun k=>fv.ownBlock=some k) h2 (fun _ h=>h);have hb:w1.heap[gb]? =some (.cells (dY a nv ev fv pv) 138 (0,0)):=(k2.block _ (ae h.blk) (fun e=>by have:=(aH h.fr gb e).1;omega)).trans h.blk;obtain⟨s1,s2⟩:=bE hb 3 FN;have hf:=ay k2 h.sp (fun k e e2=>aC h.sp h.fr (by decide) k e e2);exact⟨s1,(h.kp.trans ((k2.mono (T:=fun k=>k=gb\/fv.ownBlock=some k) (fun _ h=>Or.inr h)).trans s2 (fun _ _ h=>Or.inl h)) (fun j hj e=>by rcases e with e|e;exact e;have:=(aH h.fr j e).1;omega)),ay s2 (aP h1 (by simp) (by rw[aS,dK])) (fun k e e2=>by have:=(aH h1 k e).1;omega),ay s2 hf (fun k e e2=>by have:=(aH hf k e).1;omega)⟩
def Ke(i p:Nat):List SX:=(List.range p).map (fun p=>(i,p,true))
def BM(i p:Nat):List SX:=(List.range p).map (fun p=>(i,p,false))
theorem MR(i p:Nat):Ke i (p+1)=Ke i p++[(i,p,true)]:=by simp[Ke,List.range_succ]
theorem Jj(i p:Nat):BM i (p+1)=BM i p++[(i,p,false)]:=by simp[BM,List.range_succ]
theorem Np.re{ev:Value}{F':List Int}{S S':List SV}(h:Np w0 w gb a nv ev fv pv F S)(hF:F=F')(hS:S=S'):Np w0 w gb a nv ev fv pv F' S':=by subst hF;subst hS;exact h
theorem Bz{ns:List df}(h:Tc ns){n:df}(hj:ns[j]? =some n)(h24:ns.length<=24):(aV ns j).length+(n.ins.toNat+n.outs.toNat)<=192:=by
 have h1:=nH h (j+1);rw[rV hj]at h1;have:=(lG.1 hj).1;unfold bK at h1;omega
theorem EN{M:Nat}{eq:Option Addr}{em ec:Nat}{xs:List NV}(w:World)(hb:w.heap[gb]? =some (.cells (dY a nv (.slice eq em ec) (.slice none 0 0) (.slice none 0 0)) 138 (0,0)))(hN:Lz EV M w nv xs)(hgb:∀k,nv.ownBlock=some k->k≠gb)(h24:xs.length<=24)(hP:Tc (xs.map NV.n)):Calls Tryz.prog 70 #[.pointer (some ⟨gb,0,none⟩)] w fun r w'=>r= .returned (.tuple #[])/\∃fv pv,Np w w' gb a nv (.slice eq em ec) fv pv (bM (xs.map NV.n) xs.length) ((aV (xs.map NV.n) xs.length).map SV.of):=by
 have hmx:Tryz.prog.follows .mixedOrders=true:=by kernel_rfl
 have Km:=hid (ae hb);obtain⟨pn,cn,M6⟩:=hN.form;obtain⟨nl,hnl⟩:=aB (xs.length);rw[<-hnl]at M6 h24⊢;subst M6;have HN0:Hid (∀W,Kp (fun k=>k=gb) w W->Lz EV M W (.slice pn nl cn) xs):=fun W hk=>by
  rcases hN with⟨h,hm⟩|h
  ·exact Or.inl ⟨hk.ls h (fun k e=>hgb k e),hm⟩
  ·exact Or.inr h
 have lh:=hid hnl;have HP:=hid hP;obtain⟨ns,hns⟩:=aB (xs.map NV.n);rw[<-hns]at HP⊢;have Tj:Hid (ns=xs.map NV.n/\ns.length=nl):=⟨hns,by rw[hns,hnl,fG]⟩;have N0:Hid (Np w w gb a (.slice pn nl cn) (.slice eq em ec) (.slice none 0 0) (.slice none 0 0) [] []):=⟨hb,Kp.refl _ _,World.ownsRow_nil _ _ _ _,World.ownsRow_nil _ _ _ _⟩;have c0:=(aa hb).1;have l0:=ae hb;clear hb hN hgb hP hns hnl;go_enter Tryz.func70,Tryz.ntmps70;go_wp2_with fail;clear c0 l0;go_loopw [12] (fun s12 wr=>∃(j:Nat) (fv pv:Value),j<=nl/\s12= .int .i64 (j:Nat)/\Hid (Np w wr gb a (.slice pn nl cn) (.slice eq em ec) fv pv (bM ns j) ((aV ns j).map SV.of))) (fun s12 _=>nl-(RowKit.intOf s12).toNat);case atStart=>exact⟨0,_,_,Nat.zero_le _,rfl,N0.o⟩
 case round=>
  clear N0;obtain⟨j,fv,pv,hj,rfl,HI⟩:=hrel;by_cases hlt:j<nl
  ·have hltz:(j:Int)<(nl:Int):=(by omega);have hj0:(0:Int)<=(j:Int):=(by omega);obtain⟨y,hy⟩:∃y,xs[j]? =some y:=⟨xs[j]'(by have:=lh.o;omega),by simp⟩;have RD:Hid (ns[j]? =some y.n):=(by show _=_;rw[Tj.o.1];simp[hy]);obtain⟨b1,o1,q1,iI,qF,x0,x1,x2,x3,x4,x5,x6,x7,x8,x9⟩:=jN ((HN0.o wr HI.o.kp).ls hy) hy;simp only[vS]at iI;obtain⟨rfl,-,rfl⟩:=iI;have uh:=hid (Bz HP.o RD.o (by rw[Tj.o.2];exact h24));have HPY:=hid (HP.o y.n (lM RD.o));clear hy;obtain⟨fq,fm,fc,hfv⟩:=az HI.o.fr;obtain⟨sq,sm,sc,hsv⟩:=az HI.o.sp;subst hfv;subst hsv;have ZO:Hid (sm=(aV ns j).length):=by
    have:=(bA HI.o.sp _ _ _ rfl).1;show _=_;simpa using this
   obtain⟨yb,hyb⟩:=aB (wr.heap.size);obtain⟨W5,bT⟩:=aB (wr.alloc (.cells y.cells 149));have P5:Hid (Np w W5 gb a (.slice (some ⟨b1,o1,none⟩) nl cn) (.slice eq em ec) (.slice fq fm fc) (.slice sq sm sc) (bM ns j) ((aV ns j).map SV.of)/\W5.heap[yb]? =some (.cells y.cells 149 (0,0))/\w.heap.size<=yb):=by
    rw[bT,hyb];exact⟨HI.o.gr ((Gr.refl wr).alloc _).below,ai _ _,HI.o.kp.size⟩
   have gK:Hid (wr.alloc (.cells #[.int .i64 y.n.kind, .int .i64 y.n.ins, .int .i64 y.n.outs, .slice y.cq y.cm y.cc, .int .u64 (y.n.via.1:Nat), .int .u64 (y.n.via.2.1:Nat), .int .u64 (y.n.via.2.2:Nat), .int .u64 (y.n.bound:Nat), .slice y.dq y.dm y.dc, .bool y.n.start] 149)=W5/\wr.heap.size=yb):=⟨bT.symm,hyb.symm⟩;clear bT hyb;go_upto_region 3 with fail;rw[gK.o.1,gK.o.2];clear gK x0 x1 x2 x3 x4 x5 x6 x7 x8 x9 qF;go_cut [] (fun w'=>Hid (∃FN,Np w w' gb a (.slice (some ⟨b1,o1,none⟩) nl cn) (.slice eq em ec) FN (.slice sq sm sc) (bM ns (j+1)) ((aV ns j).map SV.of)/\w'.heap[yb]? =some (.cells y.cells 149 (0,0))));case first=>
    have BD:Hid (Below W5.heap.size W5 W5.drew):=(Gr.refl W5).drew.below;refine av (S:=fun W=>W.heap[gb]? =some (.cells (dY a (.slice (some ⟨b1,o1,none⟩) nl cn) (.slice eq em ec) (.slice fq fm fc) (.slice sq sm sc)) 138 (0,0))) (D:=[14]) hmx ?_;generalize W5.drew=Wd at BD⊢;have PD:=hid (P5.o.1.gr BD.o);have YD:=hid ((BD.o.block _ (ae P5.o.2.1)).trans P5.o.2.1);have hS0:=PD.o.blk;refine' au 0 hS0 ?_;refine' au 1 hS0 ?_;refine' au 2 hS0 ?_;refine' au 3 hS0 ?_;refine' aR 4 hS0 ?h ?_;case h=>(intro W hSw;have hc:=(aa hSw).1;have hl:=ae hSw;go_simp;try(with_reducible rfl))
    refine' au 5 hS0 ?_;refine' au 6 hS0 ?_;refine' au 7 hS0 ?_;refine' aR 8 hS0 ?h ?_;case h=>(intro W hSw;have hc:=(aa hSw).1;have hl:=ae hSw;go_simp;try(with_reducible rfl))
    refine' au 9 hS0 ?_;refine bF 10 fun K hK=> ?_;go_simp;have b6:=((Gr.refl Wd).alloc (.cells #[.int .i64 (sm:Nat)] 3)).below;have kV:=(b6.block _ (ae hS0)).trans hS0;clear b6;refine hK.o _ _ (fun hD=>kV) ?_;clear hK K;try simp only[Act.put,qI,q0,qS]
    refine bF 11 fun K hK=> ?_;refine bN EI Tryz.underlying97 lD rfl (by decide) rfl _ _ rfl w.heap.size _ (bM ns j).length _ rfl PD.o.fr (sm:Int) (by first|rfl|simp) (by rw[ic];omega) (by rw[ic];unfold maxLen;omega) PD.o.kp.size _ rfl _ ?_;intro g7 Ro w7 h7 k7 _;have N7:Hid (Np w (w7.setCell ⟨gb,3,none⟩ (.slice (some ⟨g7,0,none⟩) ((bM ns j).length+1) Ro)) gb a (.slice (some ⟨b1,o1,none⟩) nl cn) (.slice eq em ec) (.slice (some ⟨g7,0,none⟩) ((bM ns j).length+1) Ro) (.slice sq sm sc) (bM ns (j+1)) ((aV ns j).map SV.of)):=(PD.o.aaT h7.o k7.o Km.o).re (by rw[CS,bK,ZO.o]) rfl;have k2:=Kp.grownBy (S:=fun k=>(Value.slice fq fm fc).ownBlock=some k) k7.o (fun _ h=>h);have aX:w7.heap[gb]? =some (.cells (dY a (.slice (some ⟨b1,o1,none⟩) nl cn) (.slice eq em ec) (.slice fq fm fc) (.slice sq sm sc)) 138 (0,0)):=(k2.block _ (ae hS0) (fun e=>by have:=(aH PD.o.fr gb e).1;have:=Km.o;omega)).trans hS0;have hyw:w7.heap[yb]? =some (.cells y.cells 149 (0,0)):=(k2.block _ (ae YD.o) (fun e=>aD PD.o.fr YD.o (by decide) yb e rfl)).trans YD.o;have Y7:Hid ((w7.setCell ⟨gb,3,none⟩ (.slice (some ⟨g7,0,none⟩) ((bM ns j).length+1) Ro)).heap[yb]? =some (.cells y.cells 149 (0,0))):=((bE aX 3 _).2.block yb (ae hyw) (fun e=>by have:=P5.o.2.2;have:=Km.o;omega)).trans hyw;clear h7 k7 k2 hyw;generalize (bM ns j).length+1=fl7 at N7 Y7⊢;refine hK.o _ _ (fun hD=>aX) ?_;clear hK K;try simp only[Act.put,qI,q0,qS]
    refine bF 12 fun K hK=> ?_;go_simp;refine hK.o _ _ (fun hD=>aX) ?_;clear hK K;try simp only[Act.put,qI,q0,qS]
    refine' au 13 aX ?_;refine bF 14 fun K hK=> ?_;have c7:=(aa aX).1;have f7:=(aa aX).2;have l7:=ae aX;go_simp;generalize (w7.setCell ⟨gb,3,none⟩ (.slice (some ⟨g7,0,none⟩) fl7 Ro))=w9 at N7 Y7⊢;clear c7 f7 l7;refine hK.o _ _ (fun hD=>absurd (by decide) hD) ?_;clear hK K;try simp only[Act.put,qI,q0,qS]
    refine aj (by kernel_rfl) ?_ _;go_wp2_with fail;go_meet;exact⟨_,N7.o,Y7.o⟩
   case rest=>
    obtain⟨FN,NF,NY⟩:=hcut.o;rename_i wc;have HC:Hid (Np w wc gb a (.slice (some ⟨b1,o1,none⟩) nl cn) (.slice eq em ec) FN (.slice sq sm sc) (bM ns (j+1)) ((aV ns j).map SV.of)/\wc.heap[yb]? =some (.cells y.cells 149 (0,0))):=⟨NF,NY⟩;have cy:=(aa NY).1;have ly:=ae NY;clear hcut NF NY HI;go_upto_region 5 with fail;clear cy ly;obtain⟨ci,hci⟩:∃c:Nat,y.n.ins=(c:Int):=⟨y.n.ins.toNat,by have:=HPY.o;omega⟩;obtain⟨co,hco⟩:∃c:Nat,y.n.outs=(c:Int):=⟨y.n.outs.toNat,by have:=HPY.o;omega⟩;have J9:Hid (y.n.ins=(ci:Int)/\y.n.outs=(co:Int)/\ci<=4/\co<=4/\y.n.ins.toNat=ci/\y.n.outs.toNat=co):=⟨hci,hco,by have:=HPY.o;omega,by have:=HPY.o;omega,by omega,by omega⟩;have hci4:ci<=4:=J9.o.2.2.1;have hco4:co<=4:=J9.o.2.2.2.1;rw[hci];clear hci hco;go_loopw [33] (fun s33 wr=>∃(p:Nat) (pv:Value),p<=ci/\s33= .int .i64 (p:Nat)/\Hid (Np w wr gb a (.slice (some ⟨b1,o1,none⟩) nl cn) (.slice eq em ec) FN pv (bM ns (j+1)) ((aV ns j++Ke j p).map SV.of)/\wr.heap[yb]? =some (.cells y.cells 149 (0,0)))) (fun s33 _=>ci-(RowKit.intOf s33).toNat);case atStart=>exact⟨0,_,Nat.zero_le _,rfl,HC.o.1.re rfl (by simp[Ke]),HC.o.2⟩
    case round=>
     clear HC;obtain⟨p,pv,hp,rfl,HI⟩:=hrel;by_cases hpl:p<ci
     ·have aau:(p:Int)<(ci:Int):=(by omega);obtain⟨SL,Vr⟩:=aB ((aV ns j++Ke j p).map SV.of);rw[<-Vr]at HI;have Kl:=hid Vr;clear Vr;obtain⟨TR,T9,Uc,UT⟩:=az HI.o.1.sp;subst UT;have r9:Hid (SL.length=sm+p/\sm+p+1<=192):=by
       have h1:=uh.o;rw[J9.o.2.2.2.2.1,J9.o.2.2.2.2.2,<-ZO.o]at h1;refine⟨by rw[Kl.o];simp[Ke,ZO.o];try omega,by omega⟩
      have cg:=(aa HI.o.1.blk).1;have fg:=(aa HI.o.1.blk).2;have lg:=ae HI.o.1.blk;go_wp2_with (at_builtin;refine fM ES Tryz.underlying136 Cc rfl (by decide) rfl _ _ rfl w.heap.size _ SL.length _ rfl HI.o.1.sp (SV.of (j,p,true)) (by first|rfl|simp) (by rw[r9.o.1];have:=r9.o.2;omega) (by rw[r9.o.1];have:=r9.o.2;unfold maxLen;omega) HI.o.1.kp.size _ rfl _ ?_);intro g8 bB w8 h8 k8 _;have N8:Hid (Np w (w8.setCell ⟨gb,4,none⟩ (.slice (some ⟨g8,0,none⟩) (SL.length+1) bB)) gb a (.slice (some ⟨b1,o1,none⟩) nl cn) (.slice eq em ec) FN (.slice (some ⟨g8,0,none⟩) (SL.length+1) bB) (bM ns (j+1)) ((aV ns j++Ke j (p+1)).map SV.of)/\(w8.setCell ⟨gb,4,none⟩ (.slice (some ⟨g8,0,none⟩) (SL.length+1) bB)).heap[yb]? =some (.cells y.cells 149 (0,0))):=by
       refine⟨(HI.o.1.spot h8 k8 Km.o).re rfl (by rw[Kl.o,MR];simp), ?_⟩;have k2:=Kp.grownBy (S:=fun k=>(Value.slice TR T9 Uc).ownBlock=some k) k8 (fun _ h=>h);have dN:=(k2.block _ (ae HI.o.1.blk) (fun e=>by have:=(aH HI.o.1.sp gb e).1;have:=Km.o;omega)).trans HI.o.1.blk;rw[(bE dN 4 _).2.block yb (nL (ae HI.o.2) k2.size) (fun e=>by have:=P5.o.2.2;have:=Km.o;omega),k2.block yb (ae HI.o.2) (fun e=>aD HI.o.1.sp HI.o.2 (by decide) yb e rfl)];exact HI.o.2
      have dN:w8.heap[gb]? =some (.cells (dY a (.slice (some ⟨b1,o1,none⟩) nl cn) (.slice eq em ec) FN (.slice TR T9 Uc)) 138 (0,0)):=((Kp.grownBy (S:=fun k=>(Value.slice TR T9 Uc).ownBlock=some k) k8 (fun _ h=>h)).block _ (ae HI.o.1.blk) (fun e=>by have:=(aH HI.o.1.sp gb e).1;have:=Km.o;omega)).trans HI.o.1.blk;have c8:=(aa dN).1;have f8:=(aa dN).2;have l8:=ae dN;clear h8 k8 dN cg fg lg;generalize lL:SL.length+1=ll at N8⊢;clear lL;go_wp2_with fail;generalize (w8.setCell ⟨gb,4,none⟩ (.slice (some ⟨g8,0,none⟩) ll bB))=w9 at N8⊢;have FIN:=N8;clear N8 c8 f8 l8;go_wp2_with fail;go_roundw;case rel=>exact⟨p+1,_,by omega,by go_num,FIN.o⟩
      case measure=>simp[RowKit.intOf];omega
     ·have aau:¬(p:Int)<(ci:Int):=(by omega);obtain rfl:p=ci:=(by omega);have cy:=(aa HI.o.2).1;have ly:=ae HI.o.2;go_upto_region 10 with fail;rw[J9.o.2.1];clear cy ly;go_loopw [51] (fun Uf wr=>∃(p2:Nat) (pv:Value),p2<=co/\Uf= .int .i64 (p2:Nat)/\Hid (Np w wr gb a (.slice (some ⟨b1,o1,none⟩) nl cn) (.slice eq em ec) FN pv (bM ns (j+1)) ((aV ns j++Ke j p++BM j p2).map SV.of)/\wr.heap[yb]? =some (.cells y.cells 149 (0,0)))) (fun Uf _=>co-(RowKit.intOf Uf).toNat);case atStart=>exact⟨0,_,Nat.zero_le _,rfl,HI.o.1.re rfl (by simp[BM]),HI.o.2⟩
      case round=>
       clear HI;obtain⟨p2,pv,hp2,rfl,HI⟩:=hrel;by_cases j6:p2<co
       ·have Yp:(p2:Int)<(co:Int):=(by omega);obtain⟨SL,Vr⟩:=aB ((aV ns j++Ke j p++BM j p2).map SV.of);rw[<-Vr]at HI;have Kl:=hid Vr;clear Vr;obtain⟨TR,T9,Uc,UT⟩:=az HI.o.1.sp;subst UT;have r9:Hid (SL.length=sm+(p+p2)/\sm+(p+p2)+1<=192):=by
         have h1:=uh.o;rw[J9.o.2.2.2.2.1,J9.o.2.2.2.2.2,<-ZO.o]at h1;refine⟨by rw[Kl.o];simp[Ke,BM,ZO.o];try omega,by omega⟩
        have cg:=(aa HI.o.1.blk).1;have fg:=(aa HI.o.1.blk).2;have lg:=ae HI.o.1.blk;go_wp2_with (at_builtin;refine fM ES Tryz.underlying136 Cc rfl (by decide) rfl _ _ rfl w.heap.size _ SL.length _ rfl HI.o.1.sp (SV.of (j,p2,false)) (by first|rfl|simp) (by rw[r9.o.1];have:=r9.o.2;omega) (by rw[r9.o.1];have:=r9.o.2;unfold maxLen;omega) HI.o.1.kp.size _ rfl _ ?_);intro g8 bB w8 h8 k8 _;have N8:Hid (Np w (w8.setCell ⟨gb,4,none⟩ (.slice (some ⟨g8,0,none⟩) (SL.length+1) bB)) gb a (.slice (some ⟨b1,o1,none⟩) nl cn) (.slice eq em ec) FN (.slice (some ⟨g8,0,none⟩) (SL.length+1) bB) (bM ns (j+1)) ((aV ns j++Ke j p++BM j (p2+1)).map SV.of)/\(w8.setCell ⟨gb,4,none⟩ (.slice (some ⟨g8,0,none⟩) (SL.length+1) bB)).heap[yb]? =some (.cells y.cells 149 (0,0))):=by
         refine⟨(HI.o.1.spot h8 k8 Km.o).re rfl (by rw[Kl.o,Jj];simp), ?_⟩;have k2:=Kp.grownBy (S:=fun k=>(Value.slice TR T9 Uc).ownBlock=some k) k8 (fun _ h=>h);have dN:=(k2.block _ (ae HI.o.1.blk) (fun e=>by have:=(aH HI.o.1.sp gb e).1;have:=Km.o;omega)).trans HI.o.1.blk;rw[(bE dN 4 _).2.block yb (nL (ae HI.o.2) k2.size) (fun e=>by have:=P5.o.2.2;have:=Km.o;omega),k2.block yb (ae HI.o.2) (fun e=>aD HI.o.1.sp HI.o.2 (by decide) yb e rfl)];exact HI.o.2
        have dN:w8.heap[gb]? =some (.cells (dY a (.slice (some ⟨b1,o1,none⟩) nl cn) (.slice eq em ec) FN (.slice TR T9 Uc)) 138 (0,0)):=((Kp.grownBy (S:=fun k=>(Value.slice TR T9 Uc).ownBlock=some k) k8 (fun _ h=>h)).block _ (ae HI.o.1.blk) (fun e=>by have:=(aH HI.o.1.sp gb e).1;have:=Km.o;omega)).trans HI.o.1.blk;have c8:=(aa dN).1;have f8:=(aa dN).2;have l8:=ae dN;clear h8 k8 dN cg fg lg;generalize lL:SL.length+1=ll at N8⊢;clear lL;go_wp2_with fail;generalize (w8.setCell ⟨gb,4,none⟩ (.slice (some ⟨g8,0,none⟩) ll bB))=w9 at N8⊢;have FIN:=N8;clear N8 c8 f8 l8;go_wp2_with fail;go_roundw;case rel=>exact⟨p2+1,_,by omega,by go_num,FIN.o⟩
        case measure=>simp[RowKit.intOf];omega
       ·have Yp:¬(p2:Int)<(co:Int):=(by omega);have FIN:Hid (Np w wr gb a (.slice (some ⟨b1,o1,none⟩) nl cn) (.slice eq em ec) FN pv (bM ns (j+1)) ((aV ns (j+1)).map SV.of)):=HI.o.1.re rfl (by rw[jw RD.o,kK,J9.o.2.2.2.2.1,J9.o.2.2.2.2.2,show p2=co by omega,aA];rfl);go_wp2_with fail;go_roundw;case rel=>exact⟨j+1,_,_,by omega,by go_num,FIN.o⟩
        case measure=>simp[RowKit.intOf];omega
  ·have hltz:¬(j:Int)<(nl:Int):=(by omega);obtain rfl:j=nl:=(by omega);go_wp2_with fail;go_end0;exact⟨rfl,_,_,HI.o⟩
theorem vD{ts:List Int}(h:Ls EI w v ts)(hj:ts[j]? =some x):
    ∃b off c,v= .slice (some ⟨b,off,none⟩) ts.length c/\b<w.heap.size/\w.cell? ⟨b,off+j,none⟩=some (.int .i64 x):=by
 obtain⟨b,off,c,hv,hb,hc⟩:=h.get hj;refine⟨b,off,c,hv,hb, ?_⟩;have:=hc 0 _ (by decide) rfl;simpa[EI]using this
theorem Ms{ts:List SV}(h:Ls ES w v ts){s:SV}(hj:ts[j]? =some s):
    ∃b off c,v= .slice (some ⟨b,off,none⟩) ts.length c/\b<w.heap.size/\w.cell? ⟨b,off+j*4,none⟩=some (.int .i64 s.nd)/\w.cell? ⟨b,off+j*4+1,none⟩=some (.int .i64 s.pt)/\w.cell? ⟨b,off+j*4+2,none⟩=some (.bool s.cO)/\w.cell? ⟨b,off+j*4+3,none⟩=some s.ev:=by
 obtain⟨b,off,c,hv,hb,hc⟩:=h.get hj;exact⟨b,off,c,hv,hb,hc 0 _ (by decide) rfl,hc 1 _ (by decide) rfl,hc 2 _ (by decide) rfl,hc 3 _ (by decide) rfl⟩
structure Gb(w:World)(gb:Nat)(a:Int)(nv ev fv pv:Value)(xs:List NV):Prop where
 blk:w.heap[gb]? =some (.cells (dY a nv ev fv pv) 138 (0,0))
 nodes:Lz EV w.heap.size w nv xs
 fr:Ls EI w fv (bM (xs.map NV.n) xs.length)
 nl:xs.length<=24
 jW:Tc (xs.map NV.n)
theorem L8{xs:List NV}{n:df}(h:(xs.map NV.n)[j]? =some n):∃y,xs[j]? =some y/\y.n=n:=by
 simpa using h
theorem MQ{ev:Value}{xs:List NV}(i p:Int)(w:World)(h:Gb w gb a nv ev fv pv xs):Calls Tryz.prog 116 #[.pointer (some ⟨gb,0,none⟩), .int .i64 i, .int .i64 p] w fun r w'=>r= .returned (.int .i64 (OI (xs.map NV.n) i p))/\w'=w:=by
 have hc:=yG i p w h.nodes;rw[CE]at hc;have cg:=(aa h.blk).1;have lg:=ae h.blk;obtain⟨qn,cn,rfl⟩:=h.nodes.form;cases e:eP (xs.map NV.n) i p with
 | false=>
  generalize xs.length=nlen at hc cg;have HR:Hid (OI (xs.map NV.n) i p= -1):=by show _=_;unfold OI;rw[if_neg (by rw[e];decide)]
  rw[e]at hc;clear e h;go_enter Tryz.func116,Tryz.ntmps116;go_wp2_with fail;refine hc.mono ?_;rintro r w1 ⟨rfl,rfl⟩;go_wp2_with fail;go_ret;exact⟨by rw[HR.o];rfl,rfl⟩
 | true=>
  obtain⟨n,hn,hi0,hil,hp0,hpn⟩:=vO e;obtain⟨j,rfl⟩:∃j:Nat,i=(j:Int):=⟨i.toNat,by omega⟩;simp only[Int.toNat_natCast]at hn hil;have HR:Hid (OI (xs.map NV.n) (j:Int) p=bK (xs.map NV.n) j+p):=by show _=_;unfold OI;rw[if_pos e,Int.toNat_natCast]
  rw[e]at hc;have hjl:j<xs.length:=by simpa using hil
  obtain⟨b1,o1,c1,hv1,hb1,x1⟩:=vD h.fr (vW (xs.map NV.n) hjl);rw[ic]at hv1;have hf:=nH h.jW j;have hq:=h.jW n (lM hn);have hnl:=h.nl;subst hv1;obtain⟨m,hm⟩:=aB (bK (xs.map NV.n) j);rw[<-hm]at HR x1 hf;generalize xs.length=ml at hc cg hjl hnl;have hjz:(j:Int)<(ml:Int):=by omega
  have U3:m<=192:=by omega
  have hp4:p<4:=by omega
  clear e h hn hil hpn hm hf hq;go_enter Tryz.func116,Tryz.ntmps116;go_wp2_with fail;refine hc.mono ?_;rintro r w1 ⟨rfl,rfl⟩;go_wp2_with fail;go_ret;exact⟨by rw[HR.o];rfl,rfl⟩
theorem Ho{ev:Value}{xs:List NV}(i p:Int)(w:World)(h:Gb w gb a nv ev fv pv xs):Calls Tryz.prog 115 #[.pointer (some ⟨gb,0,none⟩), .int .i64 i, .int .i64 p] w fun r w'=>r= .returned (.int .i64 (xk (xs.map NV.n) i p))/\Gr w w':=by
 have hc:=vN i p w h.nodes;rw[CB]at hc;have cg:=(aa h.blk).1;have lg:=ae h.blk;obtain⟨qn,cn,rfl⟩:=h.nodes.form;cases e:eO (xs.map NV.n) i p with
 | false=>
  generalize xs.length=nlen at hc cg;have HR:Hid (xk (xs.map NV.n) i p= -1):=by show _=_;unfold xk;rw[if_neg (by rw[e];decide)]
  rw[e]at hc;clear e h;go_enter Tryz.func115,Tryz.ntmps115;go_wp2_with fail;refine hc.mono ?_;rintro r w1 ⟨rfl,rfl⟩;go_wp2_with fail;go_ret;exact⟨by rw[HR.o];rfl,Gr.refl _⟩
 | true=>
  obtain⟨n,hn,hi0,hil,hp0,hpn⟩:=qh e;obtain⟨j,rfl⟩:∃j:Nat,i=(j:Int):=⟨i.toNat,by omega⟩;simp only[Int.toNat_natCast]at hn hil;obtain⟨y,hy,hyn⟩:=L8 hn;subst hyn;have HR:Hid (xk (xs.map NV.n) (j:Int) p=bK (xs.map NV.n) j+y.n.ins+p):=by show _=_;unfold xk;rw[if_pos e,Int.toNat_natCast,hn]
  rw[e]at hc;have hjl:j<xs.length:=by simpa using hil
  obtain⟨b1,o1,c1,hv1,hb1,x1⟩:=vD h.fr (vW (xs.map NV.n) hjl);obtain⟨b2,o2,c2,Zj,hb2,z0,z1,-⟩:=jN (h.nodes.ls hy) hy;rw[ic]at hv1;have hf:=nH h.jW j;have hq:=h.jW y.n (lM hn);have hnl:=h.nl;subst hv1;simp only[vS]at Zj;obtain⟨rfl,-,rfl⟩:=Zj;obtain⟨m,hm⟩:=aB (bK (xs.map NV.n) j);rw[<-hm]at HR x1 hf;generalize xs.length=ml at hc cg hjl hnl;have hjz:(j:Int)<(ml:Int):=by omega
  have U3:m<=192:=by omega
  have hp4:p<4:=by omega
  have hq1:0<=y.n.ins:=hq.1;have hq2:y.n.ins<=4:=hq.2.1;clear e h hn hil hpn hm hf hq hy;go_enter Tryz.func115,Tryz.ntmps115;go_wp2_with fail;refine hc.mono ?_;rintro r w1 ⟨rfl,rfl⟩;go_upto_region 5 with fail;go_quiet (fail);go_wp2_with fail;go_ret;exact⟨by rw[HR.o];rfl,(Gr.refl _).drewN _⟩
end Df
namespace Hc
open Go.RowKit Go.Sort Hp
abbrev key(f:Th->Int):Th->Th->Bool:=fun a b=>decide (f a<f b)
theorem dX{f:Th->Int}{a b:It}:aT (key f) a b=false↔(f b.1<f a.1\/(f a.1=f b.1/\b.2<=a.2)):=by
 unfold aT key;split<;>simp<;>omega
theorem jm(f:Th->Int):yP (aT (key f)):=by
 refine⟨fun a b c h1 h2=> ?_,fun a b h=> ?_⟩
 ·rw[dX]at *;omega
 ·rw[dX];have:¬(aT (key f) a b=false):=by rw[h];simp
  rw[dX]at this;omega
structure Hq(w:World)(hb:Nat)(ff:Value)(v:Value)(f:Th->Int)(L:List It)(np:Nat):Prop where
 h:Hb w hb ff v L np
 hp:bW (aT (key f)) L
 nd:(L.map Prod.snd).Nodup
 lt:∀x∈L,x.2<np
theorem Hq.kp{f:Th->Int}{L:List It}{S:Nat->Prop}(h:Hq w hb ff v f L np)(hk:Kp S w w')(h1:¬S hb)(h2:∀k,v.ownBlock=some k->¬S k):Hq w' hb ff v f L np:=⟨h.h.kp hk h1 h2,h.hp,h.nd,h.lt⟩
theorem Hq.below{f:Th->Int}{L:List It}(h:Hq w hb ff v f L np)(hb':Below w.heap.size w w'):Hq w' hb ff v f L np:=⟨h.h.below hb',h.hp,h.nd,h.lt⟩
theorem ve(ff:Value)(f:Th->Int)(w:World):Calls Tryz.prog 85 #[Hc.fv ff] w fun e w'=>∃hb,e= .returned (.pointer (some ⟨hb,0,none⟩))/\w.heap.size<=hb/\Hq w' hb ff (.slice none 0 0) f [] 0/\Gr w w':=by
 refine(dB ff w).mono ?_;rintro e w' ⟨hb,rfl,h1,h2,h3⟩;exact⟨hb,rfl,h1,⟨h2,fun i x y _ hx=>by simp at hx,by simp,by simp⟩,h3⟩
theorem qP{f:Th->Int}{L:List It}(x:Th)(w:World)(hH:Hq w hb ff v f L np)(hl:(L.length+1)*48<=140737488355328)(Qx:np+1<18446744073709551616){K:World->Prop}{V:Th->Prop}(hF:dS K V ff (key f))(hk:K w)(hV:∀y∈L,V y.1)(hx:V x):
    Calls Tryz.prog 82 #[.pointer (some ⟨hb,0,none⟩),tv x] w fun e w'=>∃v' L',e= .returned (.tuple #[])/\Hq w' hb ff v' f L' (np+1)/\L'.Perm (L++[(x,np)])/\dO hb v v' w w':=by
 refine(uS x w hH.h hl Qx hF hk hV hx).mono ?_;rintro e w' ⟨v',L',rfl,h1,h2,h3,h4⟩;refine⟨v',L',rfl,⟨h1,h3 (jm f) hH.hp, ?_,fun y hy=> ?_⟩,h2,h4⟩
 ·rw[(h2.map Prod.snd).nodup_iff,DD,List.nodup_append];refine⟨hH.nd,by simp,fun a ha b hb e=> ?_⟩;obtain⟨y,hy,rfl⟩:=mM.1 ha;have:=hH.lt y hy;simp at hb;omega
 ·rcases jQ.1 (h2.mem_iff.1 hy)with h|h
  ·have:=hH.lt y h;omega
  ·simp at h;subst h;simp
theorem pX{f:Th->Int}{L:List It}{t:It}(w:World)(hH:Hq w hb ff v f L np)(ht:L[0]? =some t)(hl:L.length<=140737488355328){K:World->Prop}{V:Th->Prop}(hF:dS K V ff (key f))(hk:K w)(hV:∀y∈L,V y.1):
    Calls Tryz.prog 137 #[.pointer (some ⟨hb,0,none⟩)] w fun e w'=>∃v' L',e= .returned (ans t.1 true)/\Hq w' hb ff v' f L' np/\(t::L').Perm L/\(∀x∈L',f t.1<f x.1\/(f t.1=f x.1/\t.2<x.2))/\dO hb v v' w w':=by
 refine(zG w hH.h ht hl hF hk hV).mono ?_;rintro e w' ⟨rfl,v',L',h1,h2,h3,h4⟩;have hnd:((t::L').map Prod.snd).Nodup:=(h2.map Prod.snd).nodup_iff.2 hH.nd;rw[List.map_cons,List.nodup_cons]at hnd;refine⟨v',L',rfl,⟨h1,h3 (jm f) hH.hp,hnd.2,fun y hy=>hH.lt y (h2.mem_iff.1 (List.mem_cons_of_mem _ hy))⟩,h2,fun x hx=> ?_,h4⟩;obtain⟨i,hi⟩:=List.getElem?_of_mem (h2.mem_iff.1 (List.mem_cons_of_mem t hx));have:=dX.1 (bW.top (jm f) hH.hp ht i x hi);have hne:t.2≠x.2:=fun e=>hnd.1 (mM.2 ⟨x,hx,e.symm⟩);omega
theorem Hq.first{f:Th->Int}{L:List It}{t:It}(hH:Hq w hb ff v f L np)(ht:L[0]? =some t):t∈L/\∀x∈L,f t.1<f x.1\/(f t.1=f x.1/\t.2<=x.2):=by
 refine⟨lM ht,fun x hx=> ?_⟩;obtain⟨i,hi⟩:=List.getElem?_of_mem hx;have:=dX.1 (bW.top (jm f) hH.hp ht i x hi);omega
end Hc
namespace Rc
open Go.RowKit Go.Sort Pt
attribute [local go_sem ↓] Go.wp_at_zero Go.wp_at_succ
theorem hid{p:Prop}(h:p):Hid p:=h
theorem ae{o:Obj}(h:w.heap[b]? =some o):b<w.heap.size:=(aG.1 h).1
theorem bE(h:w.heap[b]? =some (.cells cs t (0,0)))(i:Nat)(x:Value):(w.setCell ⟨b,i,none⟩ x).heap[b]? =some (.cells (cs.setIfInBounds i x) t (0,0))/\Kp (fun k=>k=b) w (w.setCell ⟨b,i,none⟩ x):=by
 have e:=setCell_eq_setRow w b i _ _ _ x h;rw[e];exact⟨by rw[setRow_heap w b _ _ _ _ h],rfl,rfl,rfl,by simp[World.setRow],fun k _ hne=>setRow_other w b k _ (by omega)⟩
theorem aa(h:w.heap[b]? =some (.cells cs t (0,0))):(∀i,w.cell? ⟨b,i,none⟩=cs[i]?)/\∀i,w.frozen? ⟨b,i,none⟩=false:=by
 refine⟨fun i=>by simp[World.cell?,h],fun i=>by simp[World.frozen?,h]⟩
theorem oM(x:Int)(w:World):Calls Tryz.prog 195 #[.int .i64 x] w fun e w'=>e= .returned (.bool false)/\w'=w:=by
 go_enter Tryz.func195,Tryz.ntmps195;go_wp2;go_ret;exact⟨by simp,rfl⟩
theorem qz(x y:Int)(w:World):Calls Tryz.prog 136 #[.int .i64 x, .int .i64 y] w fun e w'=>e= .returned (.int .i64 (c64 x y))/\w'=w:=by
 have H:=fun v W=>oM v W;go_enter Tryz.func136,Tryz.ntmps136;go_wp2_with (go_at_call 195;refine(H _ _).mono ?_;rintro e w1 ⟨rfl,rfl⟩);all_goals go_ret
 all_goals refine⟨?_,rfl⟩
 all_goals refine zF ?_
 all_goals unfold c64
 all_goals (repeat split)<;>omega
def ER:El Nat where
 k:=1
 enc n:=[.int .i64 (n:Nat)]
 len _:=rfl
 one x u hu:=by
  simp at hu;rw[hu];rfl
theorem XY{ts:List Nat}(h:Ls ER w v ts){x:Nat}(hj:ts[j]? =some x):∃b off c,v= .slice (some ⟨b,off,none⟩) ts.length c/\b<w.heap.size/\w.cell? ⟨b,off+j*1,none⟩=some (.int .i64 (x:Nat)):=by
 obtain⟨b,off,c,hv,hb,hc⟩:=h.get hj;exact⟨b,off,c,hv,hb,hc 0 _ (by decide) rfl⟩
def lu(rs:List Nat)(p:Nat):Nat:=rs.getD p 0
theorem PT(p q r:Int):Kc p q r<0↔p<0\/(p=0/\(q<0\/(q=0/\r<0))):=by
 unfold Kc
 (repeat split)<;>omega
def Vp(N:Nat)(a:Hc.Th):Prop:=∃p:Nat,a.1=(p:Int)/\p<N
def kC(N:Nat)(rs:List Nat)(a:Hc.Th):Int:=(lX N (lu rs) (a.1.toNat,a.2.1):Nat)
theorem JG(hr:∀x∈rs,x<=N){p q:Nat}{x y:Nat}(hp:p<N)(hq:q<N)(h1:rs[p]? =some x)(h2:rs[q]? =some y)(t u:ah)(n m:Int):
    decide (Kc (kG t.1.1 t.1.2.1 t.1.2.2 u.1.1 u.1.2.1 u.1.2.2) (c64 (x:Nat) (y:Nat)) (c64 (p:Nat) (q:Nat))<0)=Hc.key (kC N rs) ((p:Int),t,n) ((q:Int),u,m):=by
 have e1:lu rs p=x:=by unfold lu;rw[List.getD_eq_getElem?_getD,h1];rfl
 have e2:lu rs q=y:=by unfold lu;rw[List.getD_eq_getElem?_getD,h2];rfl
 have l1:=hr x (lM h1);have l2:=hr y (lM h2);unfold Hc.key kC;simp only[Int.toNat_natCast];rw[decide_eq_decide,PT,pF,I4,ik,fJ,ik];have h:=uN (N:=N) (rk:=lu rs) (p:=p) (q:=q) (t:=t) (u:=u) (by omega) (by omega) (by omega) (by omega);rw[e1,e2]at h;have hx:PX.lq t u↔(t.1.1<u.1.1\/(t.1.1=u.1.1/\(t.1.2.1<u.1.2.1\/(t.1.2.1=u.1.2.1/\t.1.2.2<u.1.2.2)))):=Iff.rfl;have hy:t=u↔(t.1.1=u.1.1/\t.1.2.1=u.1.2.1/\t.1.2.2=u.1.2.2):=⟨fun e=>by rw[e];exact⟨rfl,rfl,rfl⟩,fun e=>bU e.1 e.2.1 e.2.2⟩;rw[hx,hy]at h;omega
abbrev wv(ar:Int)(sv rv:Value):Value:= .agg #[.int .i64 ar,sv,rv]
abbrev cc(a:Hc.Th):Array Value:=#[.int .i64 a.1, .int .u64 a.2.1.1.1, .int .u64 a.2.1.1.2.1, .int .u64 a.2.1.1.2.2, .int .i64 a.2.2]
def Fx(W:World)(b3 b4 b5:Nat)(ar:Int)(sv rv:Value)(a b:Hc.Th)(rs:List Nat):Prop:=W.heap[b3]? =some (.cells #[.int .i64 ar,sv,rv] 99 (0,0))/\W.heap[b4]? =some (.cells (cc a) 49 (0,0))/\W.heap[b5]? =some (.cells (cc b) 49 (0,0))/\Ls ER W rv rs
theorem Fx.below{W':World}{a b:Hc.Th}(h:Fx W b3 b4 b5 ar sv rv a b rs)(g:Below W.heap.size W W'):Fx W' b3 b4 b5 ar sv rv a b rs:=
 ⟨(g.block _ (ae h.1)).trans h.1,(g.block _ (ae h.2.1)).trans h.2.1,(g.block _ (ae h.2.2.1)).trans h.2.2.1,h.2.2.2.below g⟩
theorem Fx.c3{a b:Hc.Th}(h:Fx W b3 b4 b5 ar sv rv a b rs):W.cell? ⟨b3,2,none⟩=some rv/\b3<W.heap.size:=⟨((aa h.1).1 2).trans rfl,ae h.1⟩
theorem tY{a:Hc.Th}(h:W.heap[b4]? =some (.cells (cc a) 49 (0,0))):W.cell? ⟨b4,0,none⟩=some (.int .i64 a.1)/\W.cell? ⟨b4,1,none⟩=some (.int .u64 a.2.1.1.1)/\W.cell? ⟨b4,2,none⟩=some (.int .u64 a.2.1.1.2.1)/\W.cell? ⟨b4,3,none⟩=some (.int .u64 a.2.1.1.2.2)/\W.cell? ⟨b4,4,none⟩=some (.int .i64 a.2.2)/\b4<W.heap.size:=
 ⟨((aa h).1 0).trans rfl,((aa h).1 1).trans rfl,((aa h).1 2).trans rfl,((aa h).1 3).trans rfl,((aa h).1 4).trans rfl,ae h⟩
theorem JH(hr:∀x∈rs,x<=N)(hN:rs.length=N)(a b:Hc.Th)(w:World)(ha:Vp N a)(hb:Vp N b)(hk:Ls ER w rv rs):Calls Tryz.prog 86 #[wv ar sv rv,Hc.tv a,Hc.tv b] w fun e w'=>e= .returned (.bool (Hc.key (kC N rs) a b))/\Gr w w':=by
 have hmx:Tryz.prog.follows .mixedOrders=true:=by kernel_rfl
 obtain⟨p0,t,n⟩:=a;obtain⟨q0,u,m⟩:=b;obtain⟨p,e1,hp⟩:=ha;obtain⟨q,e2,hq⟩:=hb;simp only at e1 e2;subst e1 e2;obtain⟨x,hx⟩:∃x,rs[p]? =some x:=⟨rs[p]'(by omega),by rw[nY]⟩;obtain⟨y,hy⟩:∃y,rs[q]? =some y:=⟨rs[q]'(by omega),by rw[nY]⟩;rw[<-JG hr hp hq hx hy t u n m];have HX:=hid hx;have HY:=hid hy;have HN:=hid hN;obtain⟨pr,cr,Sq⟩:=hk.form;rw[hN]at Sq;have HRV:=hid Sq;have HC:=hid (fun W=>eX t.1.1 t.1.2.1 t.1.2.2 u.1.1 u.1.2.1 u.1.2.2 W);have H1:=hid (fun W=>qz (x:Nat) (y:Nat) W);have H2:=hid (fun W=>qz (p:Nat) (q:Nat) W);generalize kG t.1.1 t.1.2.1 t.1.2.2 u.1.1 u.1.2.1 u.1.2.2=r1 at HC⊢;generalize c64 (x:Nat) (y:Nat)=r2 at H1⊢;generalize c64 (p:Nat) (q:Nat)=r3 at H2⊢;have hpz:(0:Int)<=(p:Int):=by omega
 have hqz:(0:Int)<=(q:Int):=by omega
 have Qv:(p:Int)<(N:Int):=by omega
 have hqN:(q:Int)<(N:Int):=by omega
 obtain⟨W1,hW1⟩:=aB (((w.alloc (.cells #[.int .i64 ar,sv,rv] 99)).alloc (.cells (cc ((p:Int),t,n)) 49)).alloc (.cells (cc ((q:Int),u,m)) 49));obtain⟨b3,hb3⟩:=aB (w.heap.size);obtain⟨b4,hb4⟩:=aB (b3+1);obtain⟨b5,hb5⟩:=aB (b4+1);have G1:Hid (Gr w W1):=by rw[hW1];exact(((Gr.refl _).alloc _).alloc _).alloc _
 have hS0:(fun W:World=>Fx W b3 b4 b5 ar sv rv ((p:Int),t,n) ((q:Int),u,m) rs) W1.drew:=by
  have z1:(w.alloc (.cells #[.int .i64 ar,sv,rv] 99)).heap.size=b4:=by rw[hb4,hb3];simp
  have z2:((w.alloc (.cells #[.int .i64 ar,sv,rv] 99)).alloc (.cells (cc ((p:Int),t,n)) 49)).heap.size=b5:=by rw[hb5,hb4,hb3];simp
  have q1:=ai w (.cells #[.int .i64 ar,sv,rv] 99);have q2:=ai (w.alloc (.cells #[.int .i64 ar,sv,rv] 99)) (.cells (cc ((p:Int),t,n)) 49);have q3:=ai ((w.alloc (.cells #[.int .i64 ar,sv,rv] 99)).alloc (.cells (cc ((p:Int),t,n)) 49)) (.cells (cc ((q:Int),u,m)) 49);rw[z1]at q2;rw[z2]at q3;rw[<-hb3]at q1;have g2:=((Gr.refl (w.alloc (.cells #[.int .i64 ar,sv,rv] 99))).alloc (.cells (cc ((p:Int),t,n)) 49)).below;have g3:=((Gr.refl ((w.alloc (.cells #[.int .i64 ar,sv,rv] 99)).alloc (.cells (cc ((p:Int),t,n)) 49))).alloc (.cells (cc ((q:Int),u,m)) 49)).below;refine⟨?_, ?_, ?_,hk.below G1.o.drew.below⟩
  ·show W1.heap[b3]? =_;rw[hW1];exact(g3.block b3 (nL (ae q1) g2.size)).trans ((g2.block b3 (ae q1)).trans q1)
  ·show W1.heap[b4]? =_;rw[hW1];exact(g3.block b4 (ae q2)).trans q2
  ·show W1.heap[b5]? =_;rw[hW1];exact q3
 clear hk hx hy hr hN Sq HRV;simp only[cc]at hW1;simp only[wv,Hc.tv];go_enter Tryz.func86,Tryz.ntmps86;go_upto_region 1 with fail;rw[<-hb3,<-hb4,<-hb5,<-hW1];clear hW1 hb3 hb4 hb5;obtain⟨bi,oi,ci,hei⟩:∃bi oi ci,rv= .slice (some ⟨bi,oi,none⟩) N ci:=by
  obtain⟨bi,oi,ci,ei,zi,xi⟩:=XY hS0.2.2.2 HX.o;rw[HN.o]at ei;exact⟨bi,oi,ci,ei⟩
 have HE:=hid hei;have hld:∀(W:World) (j z:Nat),Ls ER W rv rs->rs[j]? =some z->W.cell? ⟨bi,oi+j,none⟩=some (.int .i64 (z:Nat))/\bi<W.heap.size:=fun W j z hl hj=>by
  obtain⟨b',o',c',e',z',x'⟩:=XY hl hj;rw[HE.o]at e';simp only[vS,oI,aI,and_true]at e';obtain⟨⟨rfl,rfl⟩,-,-⟩:=e';rw[Nat.mul_one]at x';exact⟨x',z'⟩
 have HL:=hid hld;clear hld;subst hei;refine av (S:=fun W:World=>Fx W b3 b4 b5 ar sv (.slice (some ⟨bi,oi,none⟩) N ci) ((p:Int),t,n) ((q:Int),u,m) rs) (D:=[]) hmx ?_;refine' au 0 hS0 ?_;refine' au 1 hS0 ?_;refine' aR 2 hS0 ?h ?_;case h=>(intro W hSw;obtain⟨y0,y1,y2,y3,y4,yz⟩:=tY hSw.2.1;simp only at y0 y1 y2 y3 y4;go_simp;try(with_reducible rfl))
 refine' au 3 hS0 ?_;refine' au 4 hS0 ?_;refine' aR 5 hS0 ?h ?_;case h=>(intro W hSw;obtain⟨y0,y1,y2,y3,y4,yz⟩:=tY hSw.2.2.1;simp only at y0 y1 y2 y3 y4;go_simp;try(with_reducible rfl))
 refine' au 7 hS0 ?_;refine' aR 8 hS0 ?h ?_;case h=>(intro W hSw;obtain⟨y0,yz⟩:=hSw.c3;go_simp;try(with_reducible rfl))
 refine' au 9 hS0 ?_;refine' au 10 hS0 ?_;refine' aR 11 hS0 ?h ?_;case h=>(intro W hSw;obtain⟨y0,y1,y2,y3,y4,yz⟩:=tY hSw.2.1;simp only at y0 y1 y2 y3 y4;go_simp;try(with_reducible rfl))
 refine' au 12 hS0 ?_;refine' aR 13 hS0 ?h ?_;case h=>(intro W hSw;obtain⟨xc,xz⟩:=HL.o W _ _ hSw.2.2.2 HX.o;go_simp;try(with_reducible rfl))
 refine' au 14 hS0 ?_;refine' aR 15 hS0 ?h ?_;case h=>(intro W hSw;obtain⟨y0,yz⟩:=hSw.c3;go_simp;try(with_reducible rfl))
 refine' au 16 hS0 ?_;refine' au 17 hS0 ?_;refine' aR 18 hS0 ?h ?_;case h=>(intro W hSw;obtain⟨y0,y1,y2,y3,y4,yz⟩:=tY hSw.2.2.1;simp only at y0 y1 y2 y3 y4;go_simp;try(with_reducible rfl))
 refine' au 19 hS0 ?_;refine' aR 20 hS0 ?h ?_;case h=>(intro W hSw;obtain⟨xc,xz⟩:=HL.o W _ _ hSw.2.2.2 HY.o;go_simp;try(with_reducible rfl))
 refine' au 22 hS0 ?_;refine' au 23 hS0 ?_;refine' aR 24 hS0 ?h ?_;case h=>(intro W hSw;obtain⟨y0,y1,y2,y3,y4,yz⟩:=tY hSw.2.1;simp only at y0 y1 y2 y3 y4;go_simp;try(with_reducible rfl))
 refine' au 25 hS0 ?_;refine' au 26 hS0 ?_;refine' aR 27 hS0 ?h ?_;case h=>(intro W hSw;obtain⟨y0,y1,y2,y3,y4,yz⟩:=tY hSw.2.2.1;simp only at y0 y1 y2 y3 y4;go_simp;try(with_reducible rfl))
 refine bF 6 fun K hK=> ?_;go_simp;refine(HC.o _).mono ?_;rintro e w2 ⟨rfl,g2⟩;have hS2:(fun W:World=>Fx W b3 b4 b5 ar sv (.slice (some ⟨bi,oi,none⟩) N ci) ((p:Int),t,n) ((q:Int),u,m) rs) w2:=Fx.below hS0 g2.below;go_wp2_with fail;refine hK.o _ _ (fun hD=>hS2) ?_;clear hK K;try simp only[Act.put,qI,q0,qS]
 refine bF 21 fun K hK=> ?_;go_simp;refine(H1.o _).mono ?_;rintro e w3 ⟨rfl,rfl⟩;go_wp2_with fail;refine hK.o _ _ (fun hD=>hS2) ?_;clear hK K;try simp only[Act.put,qI,q0,qS]
 refine bF 28 fun K hK=> ?_;go_simp;refine(H2.o _).mono ?_;rintro e w4 ⟨rfl,rfl⟩;go_wp2_with fail;refine hK.o _ _ (fun hD=>hS2) ?_;clear hK K;try simp only[Act.put,qI,q0,qS]
 refine bF 29 fun K hK=> ?_;go_simp;refine hK.o _ _ (fun hD=>(Fx.below hS2 ((Gr.refl _).alloc _).below)) ?_;clear hK K;try simp only[Act.put,qI,q0,qS]
 refine bF 30 fun K hK=> ?_;go_simp;have hor:=xZ r1 r2 r3 w4.heap.size (w4.alloc (.cells #[.int .i64 r1, .int .i64 r2, .int .i64 r3] 3)) (by simp) (by simp) (by simp);refine hor.mono ?_;rintro e w6 ⟨rfl,rfl⟩;go_wp2_with fail;refine hK.o _ _ (fun hD=>(Fx.below hS2 ((Gr.refl _).alloc _).below)) ?_;clear hK K;try simp only[Act.put,qI,q0,qS]
 refine' au 31 (Fx.below hS2 ((Gr.refl _).alloc _).below) ?_;refine' au 32 (Fx.below hS2 ((Gr.refl _).alloc _).below) ?_;refine aj (by kernel_rfl) ?_ _;go_wp2_with fail;go_ret;exact⟨rfl,G1.o.trans ((Gr.refl W1).drew.trans (g2.alloc _))⟩
theorem CU(hr:∀x∈rs,x<=N)(hN:rs.length=N):Hc.dS (fun W=>Ls ER W rv rs) (Vp N) (wv ar sv rv) (Hc.key (kC N rs)):=
 ⟨enters_of Tryz.func86 (by kernel_rfl) rfl,fun a b W ha hb hk=>JH hr hN a b W ha hb hk,fun _ _ h g=>h.below g.below⟩
end Rc
end Go.Proofs.YteekbpokkjjipaaGreat
