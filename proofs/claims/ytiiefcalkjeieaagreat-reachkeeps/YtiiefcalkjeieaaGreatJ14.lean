import Derived.Shelf.GgSortFunc.InsertionK
import Derived.Shelf.SlSortCmp.Kit1
import Derived.Test.YtiiefcalkjeieaaGreatJ13
import Derived.Test.YtiiefcalkjeieaaGreatJ12
import Derived.Test.YtiiefcalkjeieaaGreatMSo
import Derived.Test.YtiiefcalkjeieaaGreatRsSo
variable{w w0 w1:Go.World}{n gb g tb b base cap:Nat}{a:Int}{nv pv:Go.Value}{e:Go.TypeId}{F:List Int}
set_option maxHeartbeats 8000000
set_option maxRecDepth 100000
namespace Go.Proofs.YtiiefcalkjeieaaGreat
section
open Go.RowKit Go.Sort
theorem bQ{P:Program}{α:Type}(E:El α){sT:TypeId}{z:Value}{bt:Nat}(hu:P.underlying sT=some (.slice e))(hI:(P.info? e).map (fun i=>(i.zero,i.size,i.bytes))=some (some z,E.k,bt))(hz:z.cells.size=E.k)(hk:0<E.k)
    {w:World} {ops:Array Oper} {o:Oper} {a:Act} {K:Act->World->Prop} {Q:Exit->Act->World->Prop} {X:Prop} (hgd:o.guard=none) (s x:Operand)
    (ho:o.op= .call { callee:= .builtin .append,args:=#[s,x],argTypes:=#[sT,sT] })
    (base:Nat) (v:Value) (n:Nat) (xs:List Value) (hs:a.eval s=v) (hown:w.ownsRow base e E.k v n xs)
    (t:α) (hx:a.eval x= .slice (some ⟨w.heap.size,0,none⟩) 1 1) (hbig:(n+1)*bt<=140737488355328) (hmx:n+1<=maxLen) (hbase:base<=w.heap.size)
    (cs:Array Value) (hcs:cs.toList=E.enc t) (te:TypeId)
    (h:∀g cap w',Hid (w'.ownsRow base e E.k (.slice (some ⟨g,0,none⟩) (n+1) cap) (n+1) (xs++E.enc t))->Hid (w.grownBy w' v.ownBlock)->Hid (v.ownBlock=some g\/w.heap.size<=g)->K (a.put o.dst (.slice (some ⟨g,0,none⟩) (n+1) cap)) w') :
    if Region.wanted o (yielded ops a.tmps)=true then Oper.wp P o a (w.alloc (.cells cs te)) K Q else X:=by
 obtain⟨i0,hi,hz0,hz1,hz2⟩:=info_parts hI;refine step_append_lies _ hgd s x _ ho base e i0 _ E.k bt hu hi hz0 hz1 hz2 hz hk v n xs hs (hown.alloc _) ⟨w.heap.size,0,none⟩ 1 1 (E.enc t) hx (by rw[E.len,Nat.one_mul]) (by have:=World.news_of_block (ah w (.cells cs te));rw[hcs]at this;exact this) (E.one t) (by decide) hmx hbig (by simp;omega) _ rfl ?_;intro g cap w' h1 h2 h3 _;refine h g cap w' h1 ⟨h2.os,h2.tape,h2.output,nT (by simp) h2.size,fun k hk hne=>(h2.block k (by simp;omega) hne).trans ((World.grownBy_alloc w _ none).block k hk (by simp))⟩ ?_;rcases h3 with h3|h3
 ·exact Or.inl h3
 ·exact Or.inr (by rw[h3];simp)
end
namespace Df
open Go.RowKit Go.Sort
attribute[local go_sem ↓]wp_at_zero wp_at_succ
def EI:El Int where
 k:=1
 enc o:=[.int .i64 o]
 len _:=rfl
 one o u hu:=by
  simp at hu;subst hu;rfl
theorem mg:(Tryz.prog.info? 3).map (fun i=>(i.zero,i.size,i.bytes))=some (some (.int .i64 0),1,8):=by kernel_rfl
structure SV where
 nd:Int
 pt:Int
 df:Bool
 q:Option Addr
 m:Nat
 c:Nat
abbrev SV.ev(s:SV):Value:= .slice s.q s.m s.c
abbrev VS(a b:Int)(i:Bool)(v:Value):Array Value:=#[.int .i64 a, .int .i64 b, .bool i,v]
def ES:El SV where
 k:=4
 enc s:=(VS s.nd s.pt s.df s.ev).toList
 len _:=rfl
 one o u hu:=by
  simp at hu;rcases hu with rfl|rfl|rfl|rfl<;>rfl
theorem DX:(Tryz.prog.info? 207).map (fun i=>(i.zero,i.size,i.bytes))=some (some (.agg #[.int .i64 0, .int .i64 0, .bool false, .slice none 0 0]),4,48):=by kernel_rfl
def SV.of(t:Vg):SV:=⟨t.1,t.2.1,t.2.2,none,0,0⟩
abbrev eF(a:Int)(nv ev fv pv:Value):Array Value:=#[.int .i64 a,nv,ev,fv,pv]
structure Np(w0 w:World)(gb:Nat)(a:Int)(nv ev fv pv:Value)(F:List Int)(S:List SV):Prop where
 blk:w.heap[gb]? =some (.cells (eF a nv ev fv pv) 138 (0,0))
 kp:Kp (fun k=>k=gb) w0 w
 fr:w.ownsRow w0.heap.size 3 1 fv F.length (fl EI F)
 sp:w.ownsRow w0.heap.size 207 4 pv S.length (fl ES S)
theorem Np.gr{w':World}{ev fv:Value}{S:List SV}(h:Np w0 w gb a nv ev fv pv F S)(hb:Below w.heap.size w w'):Np w0 w' gb a nv ev fv pv F S:=
 ⟨(hb.block _ (ae h.blk)).trans h.blk,h.kp.trans (Kp.of_below hb) (fun _ _ h=>h),ag h.fr hb,ag h.sp hb⟩
theorem Np.spot{ev fv pv':Value}{S:List SV}{s:SV}(h:Np w0 w gb a nv ev fv pv F S)(h1:w1.ownsRow w0.heap.size 207 4 pv' (S.length+1) (fl ES S++ES.enc s))(h2:w.grownBy w1 pv.ownBlock)(h0:gb<w0.heap.size):
    Np w0 (w1.setCell ⟨gb,4,none⟩ pv') gb a nv ev fv pv' F (S++[s]):=by
 have k2:=Kp.grownBy (S:=fun k=>pv.ownBlock=some k) h2 (fun _ h=>h);have hb:w1.heap[gb]? =some (.cells (eF a nv ev fv pv) 138 (0,0)):=(k2.block _ (ae h.blk) (fun e=>by have:=(aK h.sp gb e).1;omega)).trans h.blk;obtain⟨s1,s2⟩:=bC hb 4 pv';have hf:=av k2 h.fr (fun k e e2=>aD h.fr h.sp (by decide) k e e2);exact⟨s1,(h.kp.trans ((k2.mono (T:=fun k=>k=gb\/pv.ownBlock=some k) (fun _ h=>Or.inr h)).trans s2 (fun _ _ h=>Or.inl h)) (fun j hj e=>by rcases e with e|e;exact e;have:=(aK h.sp j e).1;omega)),av s2 hf (fun k e e2=>by have:=(aK hf k e).1;omega),av s2 (aS h1 (by simp) (by rw[aQ,dK])) (fun k e e2=>by have:=(aK h1 k e).1;omega)⟩
theorem Np.abW{ev fv Ig:Value}{S:List SV}{x:Int}(h:Np w0 w gb a nv ev fv pv F S)(h1:w1.ownsRow w0.heap.size 3 1 Ig (F.length+1) (fl EI F++EI.enc x))(h2:w.grownBy w1 fv.ownBlock)(h0:gb<w0.heap.size):
    Np w0 (w1.setCell ⟨gb,3,none⟩ Ig) gb a nv ev Ig pv (F++[x]) S:=by
 have k2:=Kp.grownBy (S:=fun k=>fv.ownBlock=some k) h2 (fun _ h=>h);have hb:w1.heap[gb]? =some (.cells (eF a nv ev fv pv) 138 (0,0)):=(k2.block _ (ae h.blk) (fun e=>by have:=(aK h.fr gb e).1;omega)).trans h.blk;obtain⟨s1,s2⟩:=bC hb 3 Ig;have hf:=av k2 h.sp (fun k e e2=>aD h.sp h.fr (by decide) k e e2);exact⟨s1,(h.kp.trans ((k2.mono (T:=fun k=>k=gb\/fv.ownBlock=some k) (fun _ h=>Or.inr h)).trans s2 (fun _ _ h=>Or.inl h)) (fun j hj e=>by rcases e with e|e;exact e;have:=(aK h.fr j e).1;omega)),av s2 (aS h1 (by simp) (by rw[aQ,dK])) (fun k e e2=>by have:=(aK h1 k e).1;omega),av s2 hf (fun k e e2=>by have:=(aK hf k e).1;omega)⟩
def Mc(i p:Nat):List Vg:=(List.range p).map (fun p=>(i,p,true))
def DC(i p:Nat):List Vg:=(List.range p).map (fun p=>(i,p,false))
theorem OL(i p:Nat):Mc i (p+1)=Mc i p++[(i,p,true)]:=by simp[Mc,List.range_succ]
theorem Ky(i p:Nat):DC i (p+1)=DC i p++[(i,p,false)]:=by simp[DC,List.range_succ]
theorem Np.re{ev fv:Value}{F':List Int}{S S':List SV}(h:Np w0 w gb a nv ev fv pv F S)(hF:F=F')(hS:S=S'):Np w0 w gb a nv ev fv pv F' S':=by subst hF;subst hS;exact h
theorem Dq{ns:List dx}(h:Vi ns){j:Nat}{n:dx}(hj:ns[j]? =some n)(Xz:ns.length<=24):(aV ns j).length+(n.ins.toNat+n.outs.toNat)<=192:=by
 have h1:=oP h (j+1);rw[uw hj]at h1;have:=(lG.1 hj).1;unfold bM at h1;omega
theorem GA{M:Nat}{eq:Option Addr}{em ec:Nat}{xs:List NV}(w:World)(hb:w.heap[gb]? =some (.cells (eF a nv (.slice eq em ec) (.slice none 0 0) (.slice none 0 0)) 138 (0,0)))(hN:Lz EV M w nv xs)(hgb:∀k,nv.ownBlock=some k->k≠gb)(Xz:xs.length<=24)(hP:Vi (xs.map NV.n)):Calls Tryz.prog 70 #[.pointer (some ⟨gb,0,none⟩)] w fun r w'=>r= .returned (.tuple #[])/\∃fv pv,Np w w' gb a nv (.slice eq em ec) fv pv (bO (xs.map NV.n) xs.length) ((aV (xs.map NV.n) xs.length).map SV.of):=by
 have hmx:Tryz.prog.follows .mixedOrders=true:=by kernel_rfl
 have Mk:=hid (ae hb);obtain⟨pn,cn,O4⟩:=hN.form;obtain⟨nl,hnl⟩:=aC (xs.length);rw[<-hnl]at O4 Xz⊢;subst O4;have HN0:Hid (∀W,Kp (fun k=>k=gb) w W->Lz EV M W (.slice pn nl cn) xs):=fun W hk=>by
  rcases hN with⟨h,hm⟩|h
  ·exact Or.inl ⟨hk.ls h (fun k e=>hgb k e),hm⟩
  ·exact Or.inr h
 have lW:=hid hnl;have HP:=hid hP;obtain⟨ns,hns⟩:=aC (xs.map NV.n);rw[<-hns]at HP⊢;have Vn:Hid (ns=xs.map NV.n/\ns.length=nl):=⟨hns,by rw[hns,hnl,gK]⟩;have N0:Hid (Np w w gb a (.slice pn nl cn) (.slice eq em ec) (.slice none 0 0) (.slice none 0 0) [] []):=⟨hb,Kp.refl _ _,oN _ _ _ _,oN _ _ _ _⟩;have c0:=(aa hb).1;have l0:=ae hb;clear hb hN hgb hP hns hnl;go_enter Tryz.func70,Tryz.ntmps70;go_wp2_with fail;clear c0 l0;go_loopw [12] (fun s12 wr=>∃(j:Nat) (fv pv:Value),j<=nl/\s12= .int .i64 (j:Nat)/\Hid (Np w wr gb a (.slice pn nl cn) (.slice eq em ec) fv pv (bO ns j) ((aV ns j).map SV.of))) (fun s12 _=>nl-(intOf s12).toNat);case atStart=>exact⟨0,_,_,zL _,rfl,N0.o⟩
 case round=>
  clear N0;obtain⟨j,fv,pv,hj,rfl,HI⟩:=hrel;by_cases hlt:j<nl
  ·have hltz:(j:Int)<(nl:Int):=(by omega);have hj0:(0:Int)<=(j:Int):=(by omega);obtain⟨y,hy⟩:∃y,xs[j]? =some y:=⟨xs[j]'(by have:=lW.o;omega),by simp⟩;have Uo:Hid (ns[j]? =some y.n):=(by show _=_;rw[Vn.o.1];simp[hy]);obtain⟨b1,o1,q1,gN,rU,x0,x1,x2,x3,x4,x5,x6,x7,x8,x9⟩:=jY ((HN0.o wr HI.o.kp).ls hy) hy;simp only[vS]at gN;obtain⟨rfl,-,rfl⟩:=gN;have vK:=hid (Dq HP.o Uo.o (by rw[Vn.o.2];exact Xz));have HPY:=hid (HP.o y.n (lM Uo.o));clear hy;obtain⟨fq,fm,fc,hfv⟩:=aB HI.o.fr;obtain⟨sq,sm,sc,hsv⟩:=aB HI.o.sp;subst hfv;subst hsv;have HSM:Hid (sm=(aV ns j).length):=by
    have:=(aZ HI.o.sp _ _ _ rfl).1;show _=_;simpa using this
   obtain⟨yb,hyb⟩:=aC (wr.heap.size);obtain⟨W5,bU⟩:=aC (wr.alloc (.cells y.cells 149));have P5:Hid (Np w W5 gb a (.slice (some ⟨b1,o1,none⟩) nl cn) (.slice eq em ec) (.slice fq fm fc) (.slice sq sm sc) (bO ns j) ((aV ns j).map SV.of)/\W5.heap[yb]? =some (.cells y.cells 149 (0,0))/\w.heap.size<=yb):=by
    rw[bU,hyb];exact⟨HI.o.gr ((Gr.refl wr).alloc _).below,ah _ _,HI.o.kp.size⟩
   have gZ:Hid (wr.alloc (.cells #[.int .i64 y.n.kind, .int .i64 y.n.ins, .int .i64 y.n.outs, .slice y.cq y.cm y.cc, .int .u64 (y.n.via.1:Nat), .int .u64 (y.n.via.2.1:Nat), .int .u64 (y.n.via.2.2:Nat), .int .u64 (y.n.bound:Nat), .slice y.dq y.dm y.dc, .bool y.n.start] 149)=W5/\wr.heap.size=yb):=⟨bU.symm,hyb.symm⟩;clear bU hyb;go_upto_region 3 with fail;rw[gZ.o.1,gZ.o.2];clear gZ x0 x1 x2 x3 x4 x5 x6 x7 x8 x9 rU;go_cut [] (fun w'=>Hid (∃Ig,Np w w' gb a (.slice (some ⟨b1,o1,none⟩) nl cn) (.slice eq em ec) Ig (.slice sq sm sc) (bO ns (j+1)) ((aV ns j).map SV.of)/\w'.heap[yb]? =some (.cells y.cells 149 (0,0))));case first=>
    have BD:Hid (Below W5.heap.size W5 W5.drew):=(Gr.refl W5).drew.below;refine ax (S:=fun W=>W.heap[gb]? =some (.cells (eF a (.slice (some ⟨b1,o1,none⟩) nl cn) (.slice eq em ec) (.slice fq fm fc) (.slice sq sm sc)) 138 (0,0))) (D:=[14]) hmx ?_;generalize W5.drew=Wd at BD⊢;have PD:=hid (P5.o.1.gr BD.o);have YD:=hid ((BD.o.block _ (ae P5.o.2.1)).trans P5.o.2.1);have hS0:=PD.o.blk;refine' aj 0 hS0 ?_;refine' aj 1 hS0 ?_;refine' aj 2 hS0 ?_;refine' aj 3 hS0 ?_;refine' bu 4 hS0 ?h ?_;case h=>(intro W hSw;have hc:=(aa hSw).1;have hl:=ae hSw;go_simp;try(with_reducible rfl))
    refine' aj 5 hS0 ?_;refine' aj 6 hS0 ?_;refine' aj 7 hS0 ?_;refine' bu 8 hS0 ?h ?_;case h=>(intro W hSw;have hc:=(aa hSw).1;have hl:=ae hSw;go_simp;try(with_reducible rfl))
    refine' aj 9 hS0 ?_;refine bF 10 fun K hK=> ?_;go_simp;have b6:=((Gr.refl Wd).alloc (.cells #[.int .i64 (sm:Nat)] 3)).below;have pG:=(b6.block _ (ae hS0)).trans hS0;clear b6;refine hK.o _ _ (fun hD=>pG) ?_;clear hK K;try simp only[Act.put,qI,q0,qS]
    refine bF 11 fun K hK=> ?_;refine bQ EI Tryz.underlying97 mg rfl (by decide) rfl _ _ rfl w.heap.size _ (bO ns j).length _ rfl PD.o.fr (sm:Int) (by first|rfl|simp) (by rw[iC];omega) (by rw[iC];unfold maxLen;omega) PD.o.kp.size _ rfl _ ?_;intro g7 Uf w7 h7 k7 _;have N7:Hid (Np w (w7.setCell ⟨gb,3,none⟩ (.slice (some ⟨g7,0,none⟩) ((bO ns j).length+1) Uf)) gb a (.slice (some ⟨b1,o1,none⟩) nl cn) (.slice eq em ec) (.slice (some ⟨g7,0,none⟩) ((bO ns j).length+1) Uf) (.slice sq sm sc) (bO ns (j+1)) ((aV ns j).map SV.of)):=(PD.o.abW h7.o k7.o Mk.o).re (by rw[Eu,bM,HSM.o]) rfl;have k2:=Kp.grownBy (S:=fun k=>(Value.slice fq fm fc).ownBlock=some k) k7.o (fun _ h=>h);have aY:w7.heap[gb]? =some (.cells (eF a (.slice (some ⟨b1,o1,none⟩) nl cn) (.slice eq em ec) (.slice fq fm fc) (.slice sq sm sc)) 138 (0,0)):=(k2.block _ (ae hS0) (fun e=>by have:=(aK PD.o.fr gb e).1;have:=Mk.o;omega)).trans hS0;have hyw:w7.heap[yb]? =some (.cells y.cells 149 (0,0)):=(k2.block _ (ae YD.o) (fun e=>aF PD.o.fr YD.o (by decide) yb e rfl)).trans YD.o;have Y7:Hid ((w7.setCell ⟨gb,3,none⟩ (.slice (some ⟨g7,0,none⟩) ((bO ns j).length+1) Uf)).heap[yb]? =some (.cells y.cells 149 (0,0))):=((bC aY 3 _).2.block yb (ae hyw) (fun e=>by have:=P5.o.2.2;have:=Mk.o;omega)).trans hyw;clear h7 k7 k2 hyw;generalize (bO ns j).length+1=fl7 at N7 Y7⊢;refine hK.o _ _ (fun hD=>aY) ?_;clear hK K;try simp only[Act.put,qI,q0,qS]
    refine bF 12 fun K hK=> ?_;go_simp;refine hK.o _ _ (fun hD=>aY) ?_;clear hK K;try simp only[Act.put,qI,q0,qS]
    refine' aj 13 aY ?_;refine bF 14 fun K hK=> ?_;have c7:=(aa aY).1;have f7:=(aa aY).2;have l7:=ae aY;go_simp;generalize (w7.setCell ⟨gb,3,none⟩ (.slice (some ⟨g7,0,none⟩) fl7 Uf))=w9 at N7 Y7⊢;clear c7 f7 l7;refine hK.o _ _ (fun hD=>absurd (by decide) hD) ?_;clear hK K;try simp only[Act.put,qI,q0,qS]
    refine au (by kernel_rfl) ?_ _;go_wp2_with fail;go_meet;exact⟨_,N7.o,Y7.o⟩
   case rest=>
    obtain⟨Ig,NF,NY⟩:=hcut.o;rename_i wc;have HC:Hid (Np w wc gb a (.slice (some ⟨b1,o1,none⟩) nl cn) (.slice eq em ec) Ig (.slice sq sm sc) (bO ns (j+1)) ((aV ns j).map SV.of)/\wc.heap[yb]? =some (.cells y.cells 149 (0,0))):=⟨NF,NY⟩;have cy:=(aa NY).1;have ly:=ae NY;clear hcut NF NY HI;go_upto_region 5 with fail;clear cy ly;obtain⟨ci,hci⟩:∃c:Nat,y.n.ins=(c:Int):=⟨y.n.ins.toNat,by have:=HPY.o;omega⟩;obtain⟨co,hco⟩:∃c:Nat,y.n.outs=(c:Int):=⟨y.n.outs.toNat,by have:=HPY.o;omega⟩;have LX:Hid (y.n.ins=(ci:Int)/\y.n.outs=(co:Int)/\ci<=4/\co<=4/\y.n.ins.toNat=ci/\y.n.outs.toNat=co):=⟨hci,hco,by have:=HPY.o;omega,by have:=HPY.o;omega,by omega,by omega⟩;have hci4:ci<=4:=LX.o.2.2.1;have hco4:co<=4:=LX.o.2.2.2.1;rw[hci];clear hci hco;go_loopw [33] (fun s33 wr=>∃(p:Nat) (pv:Value),p<=ci/\s33= .int .i64 (p:Nat)/\Hid (Np w wr gb a (.slice (some ⟨b1,o1,none⟩) nl cn) (.slice eq em ec) Ig pv (bO ns (j+1)) ((aV ns j++Mc j p).map SV.of)/\wr.heap[yb]? =some (.cells y.cells 149 (0,0)))) (fun s33 _=>ci-(intOf s33).toNat);case atStart=>exact⟨0,_,zL _,rfl,HC.o.1.re rfl (by simp[Mc]),HC.o.2⟩
    case round=>
     clear HC;obtain⟨p,pv,hp,rfl,HI⟩:=hrel;by_cases hpl:p<ci
     ·have aby:(p:Int)<(ci:Int):=(by omega);obtain⟨SL,Xu⟩:=aC ((aV ns j++Mc j p).map SV.of);rw[<-Xu]at HI;have Mj:=hid Xu;clear Xu;obtain⟨VJ,VQ,VT,WN⟩:=aB HI.o.1.sp;subst WN;have uC:Hid (SL.length=sm+p/\sm+p+1<=192):=by
       have h1:=vK.o;rw[LX.o.2.2.2.2.1,LX.o.2.2.2.2.2,<-HSM.o]at h1;refine⟨by rw[Mj.o];simp[Mc,HSM.o];try omega,by omega⟩
      have cg:=(aa HI.o.1.blk).1;have fg:=(aa HI.o.1.blk).2;have lg:=ae HI.o.1.blk;go_wp2_with (at_builtin;refine gu ES Tryz.underlying136 DX rfl (by decide) rfl _ _ rfl w.heap.size _ SL.length _ rfl HI.o.1.sp (SV.of (j,p,true)) (by first|rfl|simp) (by rw[uC.o.1];have:=uC.o.2;omega) (by rw[uC.o.1];have:=uC.o.2;unfold maxLen;omega) HI.o.1.kp.size _ rfl _ ?_);intro g8 bB w8 h8 k8 _;have N8:Hid (Np w (w8.setCell ⟨gb,4,none⟩ (.slice (some ⟨g8,0,none⟩) (SL.length+1) bB)) gb a (.slice (some ⟨b1,o1,none⟩) nl cn) (.slice eq em ec) Ig (.slice (some ⟨g8,0,none⟩) (SL.length+1) bB) (bO ns (j+1)) ((aV ns j++Mc j (p+1)).map SV.of)/\(w8.setCell ⟨gb,4,none⟩ (.slice (some ⟨g8,0,none⟩) (SL.length+1) bB)).heap[yb]? =some (.cells y.cells 149 (0,0))):=by
       refine⟨(HI.o.1.spot h8 k8 Mk.o).re rfl (by rw[Mj.o,OL];simp), ?_⟩;have k2:=Kp.grownBy (S:=fun k=>(Value.slice VJ VQ VT).ownBlock=some k) k8 (fun _ h=>h);have dN:=(k2.block _ (ae HI.o.1.blk) (fun e=>by have:=(aK HI.o.1.sp gb e).1;have:=Mk.o;omega)).trans HI.o.1.blk;rw[(bC dN 4 _).2.block yb (nL (ae HI.o.2) k2.size) (fun e=>by have:=P5.o.2.2;have:=Mk.o;omega),k2.block yb (ae HI.o.2) (fun e=>aF HI.o.1.sp HI.o.2 (by decide) yb e rfl)];exact HI.o.2
      have dN:w8.heap[gb]? =some (.cells (eF a (.slice (some ⟨b1,o1,none⟩) nl cn) (.slice eq em ec) Ig (.slice VJ VQ VT)) 138 (0,0)):=((Kp.grownBy (S:=fun k=>(Value.slice VJ VQ VT).ownBlock=some k) k8 (fun _ h=>h)).block _ (ae HI.o.1.blk) (fun e=>by have:=(aK HI.o.1.sp gb e).1;have:=Mk.o;omega)).trans HI.o.1.blk;have c8:=(aa dN).1;have f8:=(aa dN).2;have l8:=ae dN;clear h8 k8 dN cg fg lg;generalize mK:SL.length+1=ll at N8⊢;clear mK;go_wp2_with fail;generalize (w8.setCell ⟨gb,4,none⟩ (.slice (some ⟨g8,0,none⟩) ll bB))=w9 at N8⊢;have FIN:=N8;clear N8 c8 f8 l8;go_wp2_with fail;go_roundw;case rel=>exact⟨p+1,_,by omega,by go_num,FIN.o⟩
      case measure=>simp[intOf];omega
     ·have aby:¬(p:Int)<(ci:Int):=(by omega);obtain rfl:p=ci:=(by omega);have cy:=(aa HI.o.2).1;have ly:=ae HI.o.2;go_upto_region 10 with fail;rw[LX.o.2.1];clear cy ly;go_loopw [51] (fun VW wr=>∃(p2:Nat) (pv:Value),p2<=co/\VW= .int .i64 (p2:Nat)/\Hid (Np w wr gb a (.slice (some ⟨b1,o1,none⟩) nl cn) (.slice eq em ec) Ig pv (bO ns (j+1)) ((aV ns j++Mc j p++DC j p2).map SV.of)/\wr.heap[yb]? =some (.cells y.cells 149 (0,0)))) (fun VW _=>co-(intOf VW).toNat);case atStart=>exact⟨0,_,zL _,rfl,HI.o.1.re rfl (by simp[DC]),HI.o.2⟩
      case round=>
       clear HI;obtain⟨p2,pv,hp2,rfl,HI⟩:=hrel;by_cases kL:p2<co
       ·have aah:(p2:Int)<(co:Int):=(by omega);obtain⟨SL,Xu⟩:=aC ((aV ns j++Mc j p++DC j p2).map SV.of);rw[<-Xu]at HI;have Mj:=hid Xu;clear Xu;obtain⟨VJ,VQ,VT,WN⟩:=aB HI.o.1.sp;subst WN;have uC:Hid (SL.length=sm+(p+p2)/\sm+(p+p2)+1<=192):=by
         have h1:=vK.o;rw[LX.o.2.2.2.2.1,LX.o.2.2.2.2.2,<-HSM.o]at h1;refine⟨by rw[Mj.o];simp[Mc,DC,HSM.o];try omega,by omega⟩
        have cg:=(aa HI.o.1.blk).1;have fg:=(aa HI.o.1.blk).2;have lg:=ae HI.o.1.blk;go_wp2_with (at_builtin;refine gu ES Tryz.underlying136 DX rfl (by decide) rfl _ _ rfl w.heap.size _ SL.length _ rfl HI.o.1.sp (SV.of (j,p2,false)) (by first|rfl|simp) (by rw[uC.o.1];have:=uC.o.2;omega) (by rw[uC.o.1];have:=uC.o.2;unfold maxLen;omega) HI.o.1.kp.size _ rfl _ ?_);intro g8 bB w8 h8 k8 _;have N8:Hid (Np w (w8.setCell ⟨gb,4,none⟩ (.slice (some ⟨g8,0,none⟩) (SL.length+1) bB)) gb a (.slice (some ⟨b1,o1,none⟩) nl cn) (.slice eq em ec) Ig (.slice (some ⟨g8,0,none⟩) (SL.length+1) bB) (bO ns (j+1)) ((aV ns j++Mc j p++DC j (p2+1)).map SV.of)/\(w8.setCell ⟨gb,4,none⟩ (.slice (some ⟨g8,0,none⟩) (SL.length+1) bB)).heap[yb]? =some (.cells y.cells 149 (0,0))):=by
         refine⟨(HI.o.1.spot h8 k8 Mk.o).re rfl (by rw[Mj.o,Ky];simp), ?_⟩;have k2:=Kp.grownBy (S:=fun k=>(Value.slice VJ VQ VT).ownBlock=some k) k8 (fun _ h=>h);have dN:=(k2.block _ (ae HI.o.1.blk) (fun e=>by have:=(aK HI.o.1.sp gb e).1;have:=Mk.o;omega)).trans HI.o.1.blk;rw[(bC dN 4 _).2.block yb (nL (ae HI.o.2) k2.size) (fun e=>by have:=P5.o.2.2;have:=Mk.o;omega),k2.block yb (ae HI.o.2) (fun e=>aF HI.o.1.sp HI.o.2 (by decide) yb e rfl)];exact HI.o.2
        have dN:w8.heap[gb]? =some (.cells (eF a (.slice (some ⟨b1,o1,none⟩) nl cn) (.slice eq em ec) Ig (.slice VJ VQ VT)) 138 (0,0)):=((Kp.grownBy (S:=fun k=>(Value.slice VJ VQ VT).ownBlock=some k) k8 (fun _ h=>h)).block _ (ae HI.o.1.blk) (fun e=>by have:=(aK HI.o.1.sp gb e).1;have:=Mk.o;omega)).trans HI.o.1.blk;have c8:=(aa dN).1;have f8:=(aa dN).2;have l8:=ae dN;clear h8 k8 dN cg fg lg;generalize mK:SL.length+1=ll at N8⊢;clear mK;go_wp2_with fail;generalize (w8.setCell ⟨gb,4,none⟩ (.slice (some ⟨g8,0,none⟩) ll bB))=w9 at N8⊢;have FIN:=N8;clear N8 c8 f8 l8;go_wp2_with fail;go_roundw;case rel=>exact⟨p2+1,_,by omega,by go_num,FIN.o⟩
        case measure=>simp[intOf];omega
       ·have aah:¬(p2:Int)<(co:Int):=(by omega);have FIN:Hid (Np w wr gb a (.slice (some ⟨b1,o1,none⟩) nl cn) (.slice eq em ec) Ig pv (bO ns (j+1)) ((aV ns (j+1)).map SV.of)):=HI.o.1.re rfl (by rw[jL Uo.o,kX,LX.o.2.2.2.2.1,LX.o.2.2.2.2.2,show p2=co by omega,aA];rfl);go_wp2_with fail;go_roundw;case rel=>exact⟨j+1,_,_,by omega,by go_num,FIN.o⟩
        case measure=>simp[intOf];omega
  ·have hltz:¬(j:Int)<(nl:Int):=(by omega);obtain rfl:j=nl:=(by omega);go_wp2_with fail;go_end0;exact⟨rfl,_,_,HI.o⟩
end Df
section
open Go.RowKit Go.Sort Go.Shelf Go.Lib
section
variable {α:Type} [Inhabited α] {E:El α}
theorem Ep(hk:0<E.k)(ts:List α):flatK E.enc E.k ts.toArray=(fl E ts).toArray:=by
 refine ext_get! (by rw[size_flatK];simp[fM]) fun t ht=> ?_;rw[size_flatK]at ht;have ht':t<ts.length*E.k:=by simpa using ht
 have hq:t/E.k<ts.length:=(Nat.div_lt_iff_lt_mul hk).2 ht';rw[get_flatK _ _ _ t ht];have h1:=jA E ts (t/E.k) (t%E.k) ts[t/E.k] (by simp) (Nat.mod_lt _ hk);rw[Nat.div_add_mod']at h1;have h3:(ts.toArray)[t/E.k]! =ts[t/E.k]:=by simp[hq]
 rw[h3];have h4:((fl E ts).toArray)[t]! =((fl E ts)[t]?).getD default:=by simp
 rw[h4,h1];simp
theorem nI(hk:0<E.k){ts:List α}(h:w.ownsRow base e E.k (.slice (some ⟨g,0,none⟩) ts.length cap) ts.length (fl E ts)):HoldsK E.enc E.k w g 0 ts.toArray:=by
 obtain⟨_,⟨h0,_⟩|⟨g',cap',cur,hv,hg,hh,hc1,hc2,hsz,htk⟩⟩:=id h
 ·cases h0
 cases hv;unfold HoldsK;rw[Ep hk];intro j hj;have hj':j<(fl E ts).length:=by simpa using hj
 refine⟨?_, ?_⟩
 ·have:=h.cells (g:=g) rfl j _ (pW hj');rw[yV]at this;rw[this];simp[hj']
 ·simp only[World.frozen?,hh];simp
theorem uL(hk:0<E.k){os:Array Obj}{cur:Array Value}(us:List α)(hb:w.heap[g]? =some (.cells cur e (0,0))):
    (sortWorldK E.enc E.k w g 0 n us.toArray os).heap[g]? =some (.cells (putCells id 0 (fl E us).toArray cur) e (0,0)):=by
 have hg:g<w.heap.size:=(aG.1 hb).1;unfold sortWorldK putRowK;rw[Ep hk,heap_grow_old _ _ (by simpa using hg)];simp[putRow,mapBlock,Sort.ahead,Array.getElem?_modify,hb,onCells]
theorem De(cur:Array Value)(vs:List Value)(h:vs.length<=cur.size):(putCells id 0 vs.toArray cur).toList.take vs.length=vs:=by
 apply List.ext_getElem?;intro j;by_cases hj:j<vs.length
 ·rw[List.getElem?_take_of_lt hj,Array.getElem?_toList];simp[putCells,hj,show j<cur.size by omega]
 ·rw[List.getElem?_take_eq_none (by omega),lQ (by omega)]
theorem ui(hk:0<E.k){ts us:List α}{os:Array Obj}(h:w.ownsRow base e E.k (.slice (some ⟨g,0,none⟩) ts.length cap) ts.length (fl E ts))(hl:us.length=ts.length):
    (sortWorldK E.enc E.k w g 0 n us.toArray os).ownsRow base e E.k (.slice (some ⟨g,0,none⟩) ts.length cap) ts.length (fl E us):=by
 obtain⟨_,⟨h0,_⟩|⟨g',cap',cur,hv,hg,hh,hc1,hc2,hsz,htk⟩⟩:=id h
 ·cases h0
 cases hv;have hle:(fl E us).length<=cur.size:=by rw[fM,hl,hsz];exact nM _ hc1
 refine⟨by rw[fM,hl], .inr ⟨g,cap,_,rfl,hg,uL hk us hh,hc1,hc2,by simp[putCells,hsz], ?_⟩⟩;have:=De cur (fl E us) hle
 rwa [fM,hl]at this
theorem zN{us:List α}{os:Array Obj}:Kp (fun k=>k=g) w (sortWorldK E.enc E.k w g 0 n us.toArray os):=by
 refine⟨rfl,rfl,rfl,by simp[sortWorldK,putRowK,putRow,mapBlock,Sort.ahead,grow],fun k hk hne=> ?_⟩;unfold sortWorldK putRowK;rw[heap_grow_old _ _ (by simpa[putRow,mapBlock,Sort.ahead]using hk)];have:g≠k:=fun e=>hne e.symm;simp[putRow,mapBlock,Sort.ahead,Array.getElem?_modify,this]
end
section
variable {K:Type}
def qL(cf:K->K->Int)(ks:List K):List K:=ks.mergeSort fun x y=> !(ltOf cf) y x
theorem dB(cf:K->K->Int)(ks:List K):(qL cf ks).length=ks.length:=List.length_mergeSort ..
theorem ik(cf:K->K->Int)(ks:List K):(qL cf ks).Perm ks:=List.mergeSort_perm ..
theorem jl{cf:K->K->Int}{ks:List K}{x:K}:x∈qL cf ks↔x∈ks:=(ik cf ks).mem_iff
theorem iY{cf:K->K->Int}(hO:SWO (ltOf cf))(a:List K):(qL cf a).Pairwise fun x y=>(!(ltOf cf) y x)=true:=by
 refine List.pairwise_mergeSort (fun x y z h1 h2=> ?_) (fun x y=> ?_) a
 ·simp only[Bool.not_eq_true']at *;exact hO.ntrans z y x h2 h1
 ·cases h1:ltOf cf y x with
  | false => simp
  | true=>
   cases h2:ltOf cf x y with
   | false => simp
   | true => have:=hO.trans x y x h2 h1;rw[hO.irrefl]at this;cases this
theorem yH{cf:K->K->Int}(hO:SWO (ltOf cf))(hT:∀x y,ltOf cf x y=false->ltOf cf y x=false->x=y){a b:List K}(h:a.Perm b):qL cf a=qL cf b:=by
 refine List.Perm.eq_of_pairwise (le:=fun x y=>(!(ltOf cf) y x)=true) (fun x y _ _ h1 h2=> ?_) (iY hO a) (iY hO b) (((ik cf a).trans h).trans (ik cf b).symm);simp only[Bool.not_eq_true']at h1 h2;exact hT x y h2 h1
end
end
section
open Go.RowKit Go.Sort Go.Maps Go.Shelf Go.Lib
open Tt (Tl dV dH)
attribute[local go_sem ↓]wp_at_zero wp_at_succ
theorem xu(x y:Tm):ltOf AQ x y=dI x y:=rfl
theorem VF:SWO (ltOf AQ) where
 irrefl x:=pz.qj x
 trans x y z h1 h2:=pz.tr x y z h1 h2
 ntrans x y z h1 h2:=by
  rw[xu,Az]at *;omega
theorem ZA(x y:Tm)(h1:ltOf AQ x y=false)(h2:ltOf AQ y x=false):x=y:=by
 by_cases e:x=y
 ·exact e
 ·have:=pz.tot x y e h1;rw[xu]at h2;rw[this]at h2;cases h2
theorem PZ(blk off size:Nat)(w:World):CmpLays Tryz.prog 17 #[] ET.enc 3 AQ blk off size w:=
 fun _ _ _ _ x y=>gI x.1.1 x.1.2.1 x.1.2.2 y.1.1 y.1.2.1 y.1.2.2 _
abbrev jk(ks:List Tm):List Tm:=qL AQ ks
theorem qb{ks:List Tm}(h:ks.Nodup):(jk ks).Pairwise fun a b=>dI a b=true:=by
 have h1:=iY VF ks;have h2:(jk ks).Nodup:=(ik AQ ks).nodup_iff.2 h;refine List.Pairwise.imp₂ (R:=fun x y=>(!(ltOf AQ) y x)=true) (S:=fun x y=>x≠y) (fun {a b} ha hb=> ?_) h1 h2;have ha':dI b a=false:=by simpa[xu]using ha
 exact pz.tot b a (fun e=>hb e.symm) ha'
theorem wC(g cap base:Nat)(ts:List Tm)(w:World)(h:w.ownsRow base 45 3 (.slice (some ⟨g,0,none⟩) ts.length cap) ts.length (eO ts))(hsz:ts.length<4611686018427387904):
    Calls Tryz.prog 211 #[.slice (some ⟨g,0,none⟩) ts.length cap, .func (.func 17) #[] #[]] w fun e w'=>e= .returned (.tuple #[])/\w'.ownsRow base 45 3 (.slice (some ⟨g,0,none⟩) ts.length cap) ts.length (eO (jk ts))/\Kp (fun k=>k=g) w w':=by
 have eg:∀args w,(callFunc 17 args).run Tryz.prog w= .ok (.enter 17 args) w:=enters_of Tryz.func17 (by kernel_rfl) rfl;have hg:g<w.heap.size:=(h.lt g rfl).2;have hcon:=AnyQ.slices_SortFunc_total Tryz.lSortT 3 Tryz.isAgg45 Tryz.sizeOf45 ET.enc (fun _=>rfl) ET.one AQ VF 17 #[] g 0 cap ts.toArray w eg (PZ g 0 _ w) (nI (E:=ET) (by decide) h) hg (by simpa using hsz) ZA;change Calls Tryz.prog 211 _ _ _ at hcon;rw[List.size_toArray]at hcon;refine hcon.mono ?_;rintro e w' ⟨rfl,n,os,rfl⟩;exact⟨rfl,ui (E:=ET) (by decide) h (dB AQ ts),zN (E:=ET)⟩
theorem xy{f:Tm->Int}(w:World)(h:Tl w tb b 17 n f)(hn:n*24<=140737488355328):
    Calls Tryz.prog 151 #[.pointer (some ⟨tb,0,none⟩)] w fun e w'=>∃(v:Value) (ks:List Tm),qz f ks/\e= .returned v/\
     w'.ownsRow w.heap.size 45 3 v (jk ks).length (eO (jk ks))/\v≠ .slice none 0 0/\Below w.heap.size w w':=by
 obtain⟨i0,hi,hz0,hz1,hz2⟩:=info_parts GU;have HT:Hid (Tl w tb b 17 n f):=h;have c0:=h.c0;have c1:=h.c1;have hlt:=h.lt;obtain⟨D,hown,h1,h2⟩:=h.ta;have hbl:=hown.lt;have hsz:=hown.size_le;have hlen:=fun ty=>hown.len Tryz.underlying301 ty;clear h h1;go_enter Tryz.func151,Tryz.ntmps151;go_wp2_with (first
  | (at_make;refine wpList_make_own _ rfl _ _ 39 rfl w.heap.size 45 i0 (.agg #[.int .u64 0, .int .u64 0, .int .u64 0]) 3 Tryz.underlying39 hi hz0 hz1 _ _ _ (Maps.size D) rfl rfl rfl (by rw[hz2];omega) (by unfold maxLen;omega) (nR _) ?_;intro w1 D9 hg1
     have c1b:=(HT.o.kp (Kp.grownBy (S:=fun _=>False) hg1 (fun k hk=>by cases hk)) (fun h=>h) (fun h=>h)).c1)
  | (at_range;refine wpList_range_own _ rfl _ 301 rfl 45 2 ZT.law Tryz.underlying301 _ b n _ rfl (hown.kept hg1 (by simp)) ?_;intro w0 hrg0 hg0 hs0)
  | go_in)
 go_frame;go_loopw [3,4] (fun v _ wr=>∃(left:Lit->Bool) (cnt:Nat) (ss:List Tm),wr.ranges Tryz.prog 45 (plainElem Tryz.prog 2) b w1.heap.size n D left cnt/\ss.length+cnt<=Maps.size D/\
     wr.ownsRow w.heap.size 45 3 v ss.length (eO ss)/\v≠ .slice none 0 0/\ou ZT D left ss/\Below w.heap.size w wr)
  (fun _ _ wr=>wr.rangeLeft b w1.heap.size)
 case atStart=>
  exact⟨_,_,[],hrg0,by simp,D9.kept hg0 (Or.inr (by simp[Value.ownBlock])),by simp,ou.start D,
   ((Below.refl _ _).grown hg1 (nR _) (fun j hj=>by cases hj)).grown hg0 hg1.size (fun j hj=>by cases hj)⟩
 case round=>
  obtain⟨left,cnt,ss,hrg,hcs,hrow,hnn,hC,hnx⟩:=hrel;go_wp2_with (first
   | (at_next; refine wpList_next_ranges _ rfl _ rfl 45 ZT.law (plainElem Tryz.prog 2) tv (Value.int .i64) (fun key kl hk => MB hk) (fun v y hv=>by obtain⟨c,rfl,_⟩:=plainElem_int_inv Tryz.underlying2 hv;exact⟨c,rfl⟩) b w1.heap.size n _ _ _ rfl hrg ?_ ?_)
   | go_in)
  ·intro hc0 hl0;rcases hrow.2 with⟨hnil,_⟩|⟨gb,cap,cur,rfl,hbase,hb,h3,h4,h5,h6⟩
   ·exact absurd hnil hnn
   have hS:=hC.sup h2 hl0;have c0r:=(hnx.cell (p:=⟨tb,0,none⟩) hlt).trans c0;have hc:=wC gb cap w.heap.size ss wr hrow (by omega);clear h6 hb h5;go_wp2_with (go_at_call 211;refine hc.mono ?_;rintro e w' ⟨rfl,ho',hk'⟩);go_ret;refine⟨_,ss,hS,rfl,by rw[dB];exact ho',by simp, ?_⟩;exact hnx.trans (hk'.below hnx.size (fun k hk=>by rw[hk];exact hbase))
  ·intro ta mr tc tp c kl yd yp w2 cnt2 hkey hlk hv hat hrg2 hlt2 hg2 hs2 hen;obtain⟨x,hx⟩:∃x:Tm,x=⟨(ta,mr,tc),tp⟩:=⟨_,rfl⟩;rw[<-hx]at hkey hen⊢;clear hx tp ta mr tc;obtain rfl:kl=ZT.lit x:=by
    have h7:=(ZT.key x).symm.trans hkey;exact(oJ h7).symm
   have hrow2:=hrow.kept hg2 (Or.inr (row_ne_iter hrow hrg).symm);have B2:Below w.heap.size w w2:=hnx.grown hg2 hnx.size (fun j hj=>by cases hj;exact hg1.size);have IQ:=hC.step hlk hat;clear hs2 hv hat hkey hlk;go_wp2_with (first
    | (at_builtin;refine Cz.gu true rfl _ _ rfl w.heap.size _ ss.length _ rfl (hrow2.alloc _) x (by show Value.slice (some ⟨w2.heap.size+1,0,none⟩) 1 1=_;simp) (by omega) (by have:=B2.size;simp;omega) ?_;intro g' cap' w3 ho3 hg3 hl3)
    | go_in)
   have hrg3:=(hrg2.alloc _).kept hg3 (row_ne_low hrow2 hbl) (row_ne_iter hrow2 hrg2);go_roundw;case rel=>
    refine⟨_,cnt2,ss++[x],hrg3,by simp;omega, ?_,by simp,IQ, ?_⟩
    ·rw[jB,vF,dO];exact ho3
    ·exact(B2.alloc B2.size _).grown hg3 (by have:=B2.size;simp;omega) (fun j hj=>(hrow2.lt j hj).1)
   case measure=>rw[hrg3.left_eq,hrg.left_eq];exact hlt2
theorem xk{f:Tm->Int}(w:World)(h:Tl w tb b 17 n f)(hn:n*24<=140737488355328):
    Calls Tryz.prog 88 #[cv tb] w fun e w'=>∃(v:Value) (ks:List Tm),qz f ks/\e= .returned v/\
     w'.ownsRow w.heap.size 45 3 v (jk ks).length (eO (jk ks))/\v≠ .slice none 0 0/\Below w.heap.size w w':=by
 have hk:=fun o=>xy _ (h.gr ((Gr.refl w).alloc o)) hn;have HG:Hid (∀o,Gr w (w.alloc o)):=fun o=>(Gr.refl w).alloc o;clear h;go_enter Tryz.func88,Tryz.ntmps88;go_wp2_with fail;refine(hk _).mono ?_;rintro e w1 ⟨v,ks,hS,rfl,ho,hv,hb⟩;go_wp2;go_ret;exact⟨_,ks,hS,rfl,aL ho (by simp),hv,(HG.o _).below.trans (hb.mono (by simp))⟩
end
namespace Rs
open Go.RowKit Go.Sort Go.Maps
attribute[local go_sem ↓]wp_at_zero wp_at_succ
theorem Sd(p q:Int)(b:Nat)(w:World)(h0:w.cell? ⟨b,0,none⟩=some (.int .i64 p))(h1:w.cell? ⟨b,1,none⟩=some (.int .i64 q)):
    Calls Tryz.prog 50 #[.slice (some ⟨b,0,none⟩) 2 2] w fun e w'=>e= .returned (.int .i64 (Wi p q))/\w'=w:=by
 by_cases e0:p=0
 ·subst e0;by_cases e1:q=0
  ·subst e1;go_enter Tryz.func50,Tryz.ntmps50;go_wp2;refine wp_loop_rounds 3 ?_;rw[rounds_succ];go_wp2;rw[rounds_succ];go_wp2;rw[rounds_succ];go_wp2;go_ret;exact⟨rfl,rfl⟩
  ·have b1:(q != 0)=true:=(by rw[bne_iff_ne];exact e1);have hr:Wi 0 q=q:=(by simp[Wi]);rw[hr];clear hr;go_enter Tryz.func50,Tryz.ntmps50;go_wp2;refine wp_loop_rounds 2 ?_;rw[rounds_succ];go_wp2;rw[rounds_succ];go_wp2;go_ret;exact⟨rfl,rfl⟩
 ·have b0:(p != 0)=true:=by rw[bne_iff_ne];exact e0
  have hr:Wi p q=p:=by simp[Wi,e0]
  rw[hr];clear hr;go_enter Tryz.func50,Tryz.ntmps50;go_wp2;refine wp_loop_rounds 1 ?_;rw[rounds_succ];go_wp2;go_ret;exact⟨rfl,rfl⟩
theorem qi(x:Int)(w:World):Calls Tryz.prog 195 #[.int .i64 x] w fun e w'=>e= .returned (.bool false)/\w'=w:=by
 go_enter Tryz.func195,Tryz.ntmps195;go_wp2;go_ret;exact⟨rfl,rfl⟩
theorem rM(x y:Int)(w:World):Calls Tryz.prog 136 #[.int .i64 x, .int .i64 y] w fun e w'=>e= .returned (.int .i64 (c64 x y))/\w'=w:=by
 have H:=fun v W=>qi v W;go_enter Tryz.func136,Tryz.ntmps136;go_wp2_with (go_at_call 195;refine(H _ _).mono ?_;rintro e w1 ⟨rfl,rfl⟩);all_goals go_ret
 all_goals refine⟨?_,rfl⟩
 all_goals refine Bh ?_
 all_goals unfold c64
 all_goals (repeat split)<;>omega
theorem jm(s t:Sm)(w:World):Calls Tryz.prog 78 #[mv s,mv t] w fun e w'=>e= .returned (.int .i64 (Gj s t))/\Gr w w':=by
 have hmx:Tryz.prog.follows .mixedOrders=true:=by kernel_rfl
 have H1:=fun W=>rM s.1.1 t.1.1 W;have H2:=fun W=>gI s.1.2.1 s.1.2.2.1 s.1.2.2.2 t.1.2.1 t.1.2.2.1 t.1.2.2.2 W;unfold Gj;generalize c64 s.1.1 t.1.1=p at *;generalize mi s.1.2.1 s.1.2.2.1 s.1.2.2.2 t.1.2.1 t.1.2.2.1 t.1.2.2.2=q at *;obtain⟨W0,hW0⟩:=aC (((w.alloc (.cells #[.int .i64 s.1.1, .int .u64 s.1.2.1, .int .u64 s.1.2.2.1, .int .u64 s.1.2.2.2] 47)).alloc (.cells #[.int .i64 t.1.1, .int .u64 t.1.2.1, .int .u64 t.1.2.2.1, .int .u64 t.1.2.2.2] 47)).drew);have hz0:w.heap.size+1<W0.heap.size:=by rw[hW0];show _<((w.alloc _).alloc _).heap.size;simp
 have S0:(W0.cell? ⟨w.heap.size,0,none⟩=some (.int .i64 s.1.1)/\W0.cell? ⟨w.heap.size,1,none⟩=some (.int .u64 s.1.2.1)/\W0.cell? ⟨w.heap.size,2,none⟩=some (.int .u64 s.1.2.2.1)/\W0.cell? ⟨w.heap.size,3,none⟩=some (.int .u64 s.1.2.2.2)/\W0.cell? ⟨w.heap.size+1,0,none⟩=some (.int .i64 t.1.1)/\W0.cell? ⟨w.heap.size+1,1,none⟩=some (.int .u64 t.1.2.1)/\W0.cell? ⟨w.heap.size+1,2,none⟩=some (.int .u64 t.1.2.2.1)/\W0.cell? ⟨w.heap.size+1,3,none⟩=some (.int .u64 t.1.2.2.2))/\Gr W0 W0:=by
  refine⟨?_,Gr.refl _⟩;rw[hW0];have b0:((w.alloc (.cells #[.int .i64 s.1.1, .int .u64 s.1.2.1, .int .u64 s.1.2.2.1, .int .u64 s.1.2.2.2] 47)).alloc (.cells #[.int .i64 t.1.1, .int .u64 t.1.2.1, .int .u64 t.1.2.2.1, .int .u64 t.1.2.2.2] 47)).drew.heap[w.heap.size]? =some (.cells #[.int .i64 s.1.1, .int .u64 s.1.2.1, .int .u64 s.1.2.2.1, .int .u64 s.1.2.2.2] 47 (0,0)):=(Below.heap_alloc _ _ _ (by simp)).trans (ah _ _);have b1:((w.alloc (.cells #[.int .i64 s.1.1, .int .u64 s.1.2.1, .int .u64 s.1.2.2.1, .int .u64 s.1.2.2.2] 47)).alloc (.cells #[.int .i64 t.1.1, .int .u64 t.1.2.1, .int .u64 t.1.2.2.1, .int .u64 t.1.2.2.2] 47)).drew.heap[w.heap.size+1]? =some (.cells #[.int .i64 t.1.1, .int .u64 t.1.2.1, .int .u64 t.1.2.2.1, .int .u64 t.1.2.2.2] 47 (0,0)):=by
   have:=ah (w.alloc (.cells #[.int .i64 s.1.1, .int .u64 s.1.2.1, .int .u64 s.1.2.2.1, .int .u64 s.1.2.2.2] 47)) (.cells #[.int .i64 t.1.1, .int .u64 t.1.2.1, .int .u64 t.1.2.2.1, .int .u64 t.1.2.2.2] 47);rw[show(w.alloc (.cells #[.int .i64 s.1.1, .int .u64 s.1.2.1, .int .u64 s.1.2.2.1, .int .u64 s.1.2.2.2] 47)).heap.size=w.heap.size+1 by simp]at this;exact this
  refine⟨?_, ?_, ?_, ?_, ?_, ?_, ?_, ?_⟩<;>(simp only[World.cell?,b0,b1];rfl)
 have kK:∀W W':World,((W.cell? ⟨w.heap.size,0,none⟩=some (.int .i64 s.1.1)/\W.cell? ⟨w.heap.size,1,none⟩=some (.int .u64 s.1.2.1)/\W.cell? ⟨w.heap.size,2,none⟩=some (.int .u64 s.1.2.2.1)/\W.cell? ⟨w.heap.size,3,none⟩=some (.int .u64 s.1.2.2.2)/\W.cell? ⟨w.heap.size+1,0,none⟩=some (.int .i64 t.1.1)/\W.cell? ⟨w.heap.size+1,1,none⟩=some (.int .u64 t.1.2.1)/\W.cell? ⟨w.heap.size+1,2,none⟩=some (.int .u64 t.1.2.2.1)/\W.cell? ⟨w.heap.size+1,3,none⟩=some (.int .u64 t.1.2.2.2))/\Gr W0 W)->Gr W W'->((W'.cell? ⟨w.heap.size,0,none⟩=some (.int .i64 s.1.1)/\W'.cell? ⟨w.heap.size,1,none⟩=some (.int .u64 s.1.2.1)/\W'.cell? ⟨w.heap.size,2,none⟩=some (.int .u64 s.1.2.2.1)/\W'.cell? ⟨w.heap.size,3,none⟩=some (.int .u64 s.1.2.2.2)/\W'.cell? ⟨w.heap.size+1,0,none⟩=some (.int .i64 t.1.1)/\W'.cell? ⟨w.heap.size+1,1,none⟩=some (.int .u64 t.1.2.1)/\W'.cell? ⟨w.heap.size+1,2,none⟩=some (.int .u64 t.1.2.2.1)/\W'.cell? ⟨w.heap.size+1,3,none⟩=some (.int .u64 t.1.2.2.2))/\Gr W0 W'):=fun W W' h hb=>by
  have q0:w.heap.size<W.heap.size:=by have:=h.2.size;omega
  have q1:w.heap.size+1<W.heap.size:=by have:=h.2.size;omega
  exact⟨⟨(hb.cell q0).trans h.1.1,(hb.cell q0).trans h.1.2.1,(hb.cell q0).trans h.1.2.2.1,(hb.cell q0).trans h.1.2.2.2.1,(hb.cell q1).trans h.1.2.2.2.2.1,(hb.cell q1).trans h.1.2.2.2.2.2.1,(hb.cell q1).trans h.1.2.2.2.2.2.2.1,(hb.cell q1).trans h.1.2.2.2.2.2.2.2⟩,h.2.trans hb⟩
 have HG:Gr w W0:=by rw[hW0];exact(((Gr.refl _).alloc _).alloc _).drew
 go_enter Tryz.func78,Tryz.ntmps78;go_wp2_with fail;go_region_held3 (fun W=>(W.cell? ⟨w.heap.size,0,none⟩=some (.int .i64 s.1.1)/\W.cell? ⟨w.heap.size,1,none⟩=some (.int .u64 s.1.2.1)/\W.cell? ⟨w.heap.size,2,none⟩=some (.int .u64 s.1.2.2.1)/\W.cell? ⟨w.heap.size,3,none⟩=some (.int .u64 s.1.2.2.2)/\W.cell? ⟨w.heap.size+1,0,none⟩=some (.int .i64 t.1.1)/\W.cell? ⟨w.heap.size+1,1,none⟩=some (.int .u64 t.1.2.1)/\W.cell? ⟨w.heap.size+1,2,none⟩=some (.int .u64 t.1.2.2.1)/\W.cell? ⟨w.heap.size+1,3,none⟩=some (.int .u64 t.1.2.2.2))/\Gr W0 W)
  (first|(rw[<-hW0];exact S0)|exact kK _ _ (by assumption) (by assumption)|exact kK _ _ (by assumption) ((Gr.refl _).alloc _)|assumption)
  (first|(go_at_call 136;refine(H1 _).mono ?_;rintro e w1 ⟨rfl,rfl⟩)|(go_at_call 17;refine(H2 _).mono ?_;rintro e w2 ⟨rfl,g2⟩)|(go_at_call 50;refine(Sd p q _ _ (by simp) (by simp)).mono ?_;rintro e w3 ⟨rfl,rfl⟩))
 go_wp2;go_ret;rw[<-hW0]at g2;exact⟨rfl,HG.trans (g2.alloc _)⟩
end Rs
namespace Rs
open Go.RowKit Go.Sort Go.Maps Go.Shelf
def slt(s t:Sm):Bool:=ltOf Gj s t
theorem oG(s t:Sm):slt s t=true↔s.1.1<t.1.1\/(s.1.1=t.1.1/\(s.1.2.1<t.1.2.1\/(s.1.2.1=t.1.2.1/\(s.1.2.2.1<t.1.2.2.1\/(s.1.2.2.1=t.1.2.2.1/\s.1.2.2.2<t.1.2.2.2))))):=by
 unfold slt ltOf Gj;have h1:=iE s.1.1 t.1.1;have h2:=fZ s.1.1 t.1.1;have h3:=qJ s.1.2.1 s.1.2.2.1 s.1.2.2.2 t.1.2.1 t.1.2.2.1 t.1.2.2.2;rw[decide_eq_true_iff];unfold Wi;generalize c64 s.1.1 t.1.1=p at *;generalize mi s.1.2.1 s.1.2.2.1 s.1.2.2.2 t.1.2.1 t.1.2.2.1 t.1.2.2.2=q at *;split<;>omega
theorem Bb(s t:Sm):slt s t=false↔¬(s.1.1<t.1.1\/(s.1.1=t.1.1/\(s.1.2.1<t.1.2.1\/(s.1.2.1=t.1.2.1/\(s.1.2.2.1<t.1.2.2.1\/(s.1.2.2.1=t.1.2.2.1/\s.1.2.2.2<t.1.2.2.2)))))):=by
 rw[<-oG,Bool.not_eq_true]
theorem q8(x y:Sm):ltOf Gj x y=slt x y:=rfl
theorem ZB(x y:Sm)(h1:ltOf Gj x y=false)(h2:ltOf Gj y x=false):x=y:=by
 rw[q8,Bb]at h1 h2;exact M4 (by omega) (by omega) (by omega) (by omega)
theorem ZE:SWO (ltOf Gj) where
 irrefl x:=by rw[q8,Bb];omega
 trans x y z h1 h2:=by rw[q8,oG]at *;omega
 ntrans x y z h1 h2:=by rw[q8,Bb]at *;omega
abbrev iP(ks:List Sm):List Sm:=qL Gj ks
theorem Gc{ks:List Sm}(h:ks.Nodup):(iP ks).Pairwise fun a b=>slt a b=true:=by
 have h1:=iY ZE ks;have h2:(iP ks).Nodup:=(ik Gj ks).nodup_iff.2 h;refine List.Pairwise.imp₂ (R:=fun x y=>(!(ltOf Gj) y x)=true) (S:=fun x y=>x≠y) (fun {a b} ha hb=> ?_) h1 h2;have ha':ltOf Gj b a=false:=by simpa using ha
 cases hq:slt a b with
 | true => rfl
 | false => exact absurd (ZB a b hq ha') hb
end Rs
namespace Rs
open Go.RowKit Go.Sort Go.Maps Go.Shelf Go.Lib
open Rs.Tt (Tl)
attribute[local go_sem ↓]wp_at_zero wp_at_succ
theorem P8(blk off size:Nat)(w:World):CmpLays Tryz.prog 78 #[] ES.enc 4 Gj blk off size w:=
 fun _ _ _ _ x y=>jm x y _
theorem wC(g cap base:Nat)(ts:List Sm)(w:World)(h:w.ownsRow base 47 4 (.slice (some ⟨g,0,none⟩) ts.length cap) ts.length (fl ES ts))(hsz:ts.length<4611686018427387904):
    Calls Tryz.prog 210 #[.slice (some ⟨g,0,none⟩) ts.length cap, .func (.func 78) #[] #[]] w fun e w'=>e= .returned (.tuple #[])/\w'.ownsRow base 47 4 (.slice (some ⟨g,0,none⟩) ts.length cap) ts.length (fl ES (iP ts))/\Kp (fun k=>k=g) w w':=by
 have eg:∀args w,(callFunc 78 args).run Tryz.prog w= .ok (.enter 78 args) w:=enters_of Tryz.func78 (by kernel_rfl) rfl;have hg:g<w.heap.size:=(h.lt g rfl).2;have hcon:=AnyQ.slices_SortFunc_total Tryz.lSortS 4 Tryz.isAgg47 Tryz.sizeOf47 ES.enc (fun _=>rfl) ES.one Gj ZE 78 #[] g 0 cap ts.toArray w eg (P8 g 0 _ w) (nI (E:=ES) (by decide) h) hg (by simpa using hsz) ZB;change Calls Tryz.prog 210 _ _ _ at hcon;rw[List.size_toArray]at hcon;refine hcon.mono ?_;rintro e w' ⟨rfl,n,os,rfl⟩;exact⟨rfl,ui (E:=ES) (by decide) h (dB Gj ts),zN (E:=ES)⟩
theorem xy{f:Sm->Int}(w:World)(h:Tl w tb b 78 n f)(hn:n*32<=140737488355328):
    Calls Tryz.prog 148 #[.pointer (some ⟨tb,0,none⟩)] w fun e w'=>∃(v:Value) (ks:List Sm),qz f ks/\e= .returned v/\
     w'.ownsRow w.heap.size 47 4 v (iP ks).length (fl ES (iP ks))/\v≠ .slice none 0 0/\Below w.heap.size w w':=by
 obtain⟨i0,hi,hz0,hz1,hz2⟩:=info_parts DX;have HT:Hid (Tl w tb b 78 n f):=h;have c0:=h.c0;have c1:=h.c1;have hlt:=h.lt;obtain⟨D,hown,h1,h2⟩:=h.ta;have hbl:=hown.lt;have hsz:=hown.size_le;have hlen:=fun ty=>hown.len Tryz.underlying235 ty;clear h h1;go_enter Tryz.func148,Tryz.ntmps148;go_wp2_with (first
  | (at_make;refine wpList_make_own _ rfl _ _ 190 rfl w.heap.size 47 i0 (.agg #[.int .i64 0, .int .u64 0, .int .u64 0, .int .u64 0]) 4 Tryz.underlying190 hi hz0 hz1 _ _ _ (Maps.size D) rfl rfl rfl (by rw[hz2];omega) (by unfold maxLen;omega) (nR _) ?_;intro w1 D9 hg1
     have c1b:=(HT.o.kp (Kp.grownBy (S:=fun _=>False) hg1 (fun k hk=>by cases hk)) (fun h=>h) (fun h=>h)).c1)
  | (at_range;refine wpList_range_own _ rfl _ 235 rfl 47 2 ZM.law Tryz.underlying235 _ b n _ rfl (hown.kept hg1 (by simp)) ?_;intro w0 hrg0 hg0 hs0)
  | go_in)
 go_frame;go_loopw [3,4] (fun v _ wr=>∃(left:Lit->Bool) (cnt:Nat) (ss:List Sm),wr.ranges Tryz.prog 47 (plainElem Tryz.prog 2) b w1.heap.size n D left cnt/\ss.length+cnt<=Maps.size D/\
     wr.ownsRow w.heap.size 47 4 v ss.length (fl ES ss)/\v≠ .slice none 0 0/\ou ZM D left ss/\Below w.heap.size w wr)
  (fun _ _ wr=>wr.rangeLeft b w1.heap.size)
 case atStart=>
  exact⟨_,_,[],hrg0,by simp,D9.kept hg0 (Or.inr (by simp[Value.ownBlock])),by simp,ou.start D,
   ((Below.refl _ _).grown hg1 (nR _) (fun j hj=>by cases hj)).grown hg0 hg1.size (fun j hj=>by cases hj)⟩
 case round=>
  obtain⟨left,cnt,ss,hrg,hcs,hrow,hnn,hC,hnx⟩:=hrel;go_wp2_with (first
   | (at_next; refine wpList_next_ranges _ rfl _ rfl 47 ZM.law (plainElem Tryz.prog 2) mv (Value.int .i64) (fun key kl hk => UQ key kl hk) (fun v y hv=>by obtain⟨c,rfl,_⟩:=plainElem_int_inv Tryz.underlying2 hv;exact⟨c,rfl⟩) b w1.heap.size n _ _ _ rfl hrg ?_ ?_)
   | go_in)
  ·intro hc0 hl0;rcases hrow.2 with⟨hnil,_⟩|⟨gb,cap,cur,rfl,hbase,hb,h3,h4,h5,h6⟩
   ·exact absurd hnil hnn
   have hS:=hC.sup h2 hl0;have c0r:=(hnx.cell (p:=⟨tb,0,none⟩) hlt).trans c0;have hc:=wC gb cap w.heap.size ss wr hrow (by omega);clear h6 hb h5;go_wp2_with (go_at_call 210;refine hc.mono ?_;rintro e w' ⟨rfl,ho',hk'⟩);go_ret;refine⟨_,ss,hS,rfl,by rw[dB];exact ho',by simp, ?_⟩;exact hnx.trans (hk'.below hnx.size (fun k hk=>by rw[hk];exact hbase))
  ·intro ta mr tc td tp c kl yd yp w2 cnt2 hkey hlk hv hat hrg2 hlt2 hg2 hs2 hen;obtain⟨x,hx⟩:∃x:Sm,x=⟨(ta,mr,tc,td),tp⟩:=⟨_,rfl⟩;rw[<-hx]at hkey hen⊢;clear hx tp ta mr tc td;obtain rfl:kl=ZM.lit x:=by
    have h7:=(ZM.key x).symm.trans hkey;exact(oJ h7).symm
   have hrow2:=hrow.kept hg2 (Or.inr (row_ne_iter hrow hrg).symm);have B2:Below w.heap.size w w2:=hnx.grown hg2 hnx.size (fun j hj=>by cases hj;exact hg1.size);have IQ:=hC.step hlk hat;clear hs2 hv hat hkey hlk;go_wp2_with (first
    | (at_builtin;refine gu (E:=ES) Tryz.underlying190 DX rfl (by decide) rfl _ _ rfl w.heap.size _ ss.length _ rfl (hrow2.alloc _) x (by show Value.slice (some ⟨w2.heap.size+1,0,none⟩) 1 1=_;simp) (by omega) (by unfold maxLen;omega) (by have:=B2.size;simp;omega) _ rfl _ ?_;intro g' cap' w3 ho3 hg3 hl3)
    | go_in)
   have hrg3:=(hrg2.alloc _).kept hg3 (row_ne_low hrow2 hbl) (row_ne_iter hrow2 hrg2);go_roundw;case rel=>
    refine⟨_,cnt2,ss++[x],hrg3,by simp;omega, ?_,by simp,IQ, ?_⟩
    ·rw[aQ,dK,dO];exact ho3
    ·exact(B2.alloc B2.size _).grown hg3 (by have:=B2.size;simp;omega) (fun j hj=>(hrow2.lt j hj).1)
   case measure=>rw[hrg3.left_eq,hrg.left_eq];exact hlt2
end Rs
end Go.Proofs.YtiiefcalkjeieaaGreat
