import Derived.Test.YtiiefcalkjeieaaGreatJ10
import Derived.ProofKit
import Derived.Lay
import Derived.LaidMore
import Derived.Deep.DeepHandedRow
import Derived.Lib.SmallJoins
import Derived.OpenShut
import Derived.Deep.Slices
import Derived.ChangeOld
variable{H:Type}{x:Int}{fuel:Nat}{c:Go.Value}
set_option maxRecDepth 100000
namespace Go.Proofs.YtiiefcalkjeieaaGreat
open Go.ChangeShapes Go.WideShapes Go.ChangeAt Go.RowKit Go.Joins
def uA:List (String×DataW Unit):=[]
theorem own:ownKnob Tryz.prog.godebug=none:=by kernel_rfl
theorem laidK:laidOutB Tryz.prog=true:=by kernel_rfl
theorem witness{enc:TypeId×Value->H}{os:Os}{f:FuncId}{fn:Func}{s:OpenSpec}{conds:List PathCond}{apart:Bool}(args:Array Value)
    (hsh:((World.laidAll Tryz.prog os uA).forCall (fun _ _=>0) ⟨#[],args,[]⟩).Shaped Tryz.prog)
    (hok:Input.okWideB Tryz.prog ((World.laidAll Tryz.prog os uA).forCall (fun _ _=>0) ⟨#[],args,[]⟩) f ⟨#[],args,[]⟩=true)
    (hrow:s.preRow enc Tryz.prog fn conds apart uA ((World.laidAll Tryz.prog os uA).forCall (fun _ _=>0) ⟨#[],args,[]⟩).memory args) :
    ∃(w:World) (tape:Tape) (i:Input),w.os=os/\(w.forCall tape i).Shaped Tryz.prog/\i.vars=[]/\Input.okWide Tryz.prog (w.forCall tape i) .any w.heap.size f i/\
     s.preRow enc Tryz.prog fn conds apart uA (w.forCall tape i).memory i.args/\({}:Assume).holds Tryz.prog (lone (Frame.enter Tryz.prog f i.args .normal) [] (w.forCall tape i)):=
 ⟨World.laidAll Tryz.prog os uA,fun _ _=>0,⟨#[],args,[]⟩,World.laidAll_os _ _ _,hsh,(Input.okWide_of_okWideB (base:=0) hok).1,(Input.okWide_of_okWideB hok).2,hrow,by
  simp only[Assume.holds];exact⟨by simp,by simp,by simp,by simp,by simp⟩⟩
theorem OB(os:Os)(args:Array Value):laidMetH Tryz.prog uA ((World.laidAll Tryz.prog os uA).forCall (fun _ _=>0) ⟨#[],args,[]⟩).memory:=by
 rw[MakeChecks.laidMetH_plain _ _ _ (by kernel_rfl)];exact laidMet_laidAll _ (by kernel_rfl) (by kernel_rfl)
theorem WS(h:(Lit.int .i64 x).wf=true): -9223372036854775808<=x/\x<=9223372036854775807:=by
 simpa[Lit.wf,IntKind.min,IntKind.max,IntKind.signed,IntKind.bits]using h
theorem VK(h:(Lit.int .u64 x).wf=true):0<=x/\x<=18446744073709551615:=by
 simpa[Lit.wf,IntKind.min,IntKind.max,IntKind.signed,IntKind.bits]using h
end Go.Proofs.YtiiefcalkjeieaaGreat
namespace Go.Proofs.YtiiefcalkjeieaaGreat.Df
open Go.ChangeShapes Go.WideShapes Go.ChangeAt Go.RowKit Go.Joins
theorem Uk{W:World}{a:Addr}{u:Value}(h:W.cell? a=some u):a.spot=none/\a.block<W.heap.size:=by
 unfold World.cell? at h;split at h
 ·rename_i hh;refine⟨?_,(aG.1 hh).1⟩;split at h
  ·cases h
  ·rename_i hs;simpa using hs
 ·cases h
theorem Dh{P:Program}{e:TypeId}{l:List (DataW H)}{d:DataW H}(hd:d∈l){n:Nat}(hn:n∈d.weights P e):n∈DataW.weightsAll P e l:=by
 induction l with
 | nil => cases hd
 | cons x l ih=>
  simp only[DataW.weightsAll,kr];rcases gq.1 hd with rfl|hd
  ·exact Or.inl hn
  ·exact Or.inr (ih hd)
def Yr{H:Type}(P:Program)(t:TypeId)(d:DataW H):Prop:=∀n∈d.weights P t,n<=reachBytes
theorem jo{P:Program}{α:Type}[Inhabited α](E:El α)(Pr:α->Prop){sT eT:TypeId}(hu:P.underlying sT=some (.slice eT))(hc:P.cellsOf eT=E.k)(hk:0<E.k)
    {H:Type} {enc:TypeId×Value->H} {W:World} {base:Nat} {sp:Nat->Bool} {held:Bool}
    (hel:∀fuel cs y,cs.length=E.k->DataW.trod enc P W base sp held fuel eT cs=some y->Yr P eT y.1->∃x,cs=E.enc x/\Pr x)
    (fuel:Nat) (cs:List Value) (y:DataW H×List MemPlace) (h:DataW.trod enc P W base sp held fuel sT cs=some y) (hw:Yr P sT y.1) :
    ∃(q:Option Addr) (c:Nat) (ts:List α),cs=[.slice q ts.length c]/\Lz E W.heap.size W (.slice q ts.length c) ts/\(∀x∈ts,Pr x)/\ts.length*P.bytesOf eT<=reachBytes/\ts.length<=c:=by
 rcases Deep.open_slice hu h with⟨hcs,hx⟩|⟨a,len,cap,m,n,D,Pl,hcs,hb,hl,hm,hmm,hx,hall⟩
 ·exact⟨none,0,[],hcs,Lz.nil _ _ _,fun _ h=>(by cases h),by simp,nR _⟩
 ·have hlm:len<=m:=by rw[hmm];split<;>omega
  have hws:Yr P sT (.slice ((List.range len).map D) ((List.range (m-len)).map fun j=>D (len+j))):=by rw[hx]at hw;exact hw
  have hsz:len*P.bytesOf eT<=reachBytes:=by
   have h1:=hws (((List.range len).map D).length*P.bytesOf eT+((List.range (m-len)).map fun j=>D (len+j)).length*P.bytesOf eT) (by simp[DataW.weights,hu,Nat.add_mul]);simp only[gQ,List.length_range]at h1;omega
  by_cases h0:len=0
  ·subst h0;exact⟨some a,cap,[],hcs,Or.inr ⟨rfl,_,_,rfl⟩,fun _ h=>(by cases h),by simp,zL _⟩
  ·obtain⟨cs0,g1,_⟩:=hall 0 (by omega);rw[hc]at g1;obtain⟨_,hl0,hc0⟩:=World.cells?_some g1;have g0:=hc0 0 hk;rw[show(a.add (0*E.k)).add 0=a by simp[Addr.add]]at g0;obtain⟨u0,hu0⟩:∃u,cs0[0]? =some u:=⟨cs0[0]'(by omega),by simp⟩;obtain⟨hsp,hlt⟩:=Uk (g0.trans hu0);clear g0 hc0 hl0 g1 hu0;obtain⟨b,off,spot⟩:=a;simp only at hsp hlt;subst hsp;obtain⟨V,hV⟩:=Deep.choose_lt (α:=α) (p:=fun i t=>(∀j u,j<E.k->(E.enc t)[j]? =some u->W.cell? ⟨b,off+i*E.k+j,none⟩=some u)/\Pr t) (n:=len) (fun i hi=>by
    obtain⟨cs',h1,h2⟩:=hall i (by omega);rw[hc]at h1;obtain⟨_,hl3,hc'⟩:=World.cells?_some h1;have hwi:Yr P eT (D i):=fun n hn=>hws n (by
     simp only[DataW.weights,hu,gq,kr];exact Or.inr (Or.inl (Dh (mM.2 ⟨i,mR.2 hi,rfl⟩) hn)))
    obtain⟨x,rfl,hPr⟩:=hel _ _ _ hl3 h2 hwi;refine⟨x,fun j u hj hu'=> ?_,hPr⟩;have g0:=hc' j hj;rw[Deep.add_add,ze]at g0;rw[<-Nat.add_assoc]at g0;rw[g0];exact hu')
   refine⟨some ⟨b,off,none⟩,cap,(List.range len).map V,by simpa using hcs,Or.inl ⟨Or.inr ⟨b,off,cap,rfl,hlt,fun j u hj=> ?_⟩,fun k hk=> ?_⟩,fun x hx=> ?_,by simpa using hsz,by simpa using hl⟩
   ·have hjl:j<len*E.k:=by
      have:=(lG.1 hj).1;rw[fP]at this;simpa using this
    have hi:j/E.k<len:=(Nat.div_lt_iff_lt_mul hk).2 hjl;have hg:=jE E ((List.range len).map V) (j/E.k) (j%E.k) (V (j/E.k)) (by simp[hi]) (Nat.mod_lt _ hk);rw[Nat.div_add_mod',hj]at hg;have:=(hV (j/E.k) hi).1 (j%E.k) u (Nat.mod_lt _ hk) hg.symm
    rwa [Nat.add_assoc,Nat.div_add_mod']at this
   ·simp[Value.ownBlock]at hk;omega
   ·obtain⟨i,hi,rfl⟩:=mM.1 hx;exact(hV i (mR.1 hi)).2
theorem Zh:Tryz.prog.cellsOf 3=1:=by kernel_rfl
theorem c1b:Tryz.prog.cellsOf 4=1:=by kernel_rfl
theorem c1u:Tryz.prog.cellsOf 43=1:=by kernel_rfl
theorem c3p:Tryz.prog.cellsOf 52=3:=by kernel_rfl
theorem c1o:Tryz.prog.cellsOf 146=1:=by kernel_rfl
theorem c1c:Tryz.prog.cellsOf 147=1:=by kernel_rfl
instance:Inhabited Zj:=⟨⟨0,0⟩⟩
instance:Inhabited dN:=⟨⟨0,0,(0,0,0)⟩⟩
instance:Inhabited dR:=⟨⟨0,0,0,0,false⟩⟩
instance:Inhabited NV:=⟨⟨⟨0,0,0,[],(0,0,0),0,[],false⟩,none,0,0,none,0,0⟩⟩
section
variable {H:Type} {enc:TypeId×Value->H} {W:World} {base:Nat} {sp:Nat->Bool} {held:Bool}
theorem iR{y:DataW H×List MemPlace}(h:DataW.trod enc Tryz.prog W base sp held fuel 3 [c]=some y):∃n:Int,c=iV n/\Mt n:=by
 obtain⟨u,e,_,w⟩:=DataW.trod_int Tryz.underlying3 h;simp at e;exact⟨u,e,WS w⟩
theorem wm{y:DataW H×List MemPlace}(h:DataW.trod enc Tryz.prog W base sp held fuel 43 [c]=some y):∃n:Nat,c=uV (n:Nat)/\Fs n:=by
 obtain⟨u,e,_,w⟩:=DataW.trod_int Tryz.underlying43 h;have b:=VK w;simp at e;exact⟨u.toNat,by rw[e,Int.toNat_of_nonneg b.1],by unfold Fs;omega⟩
theorem Dm(fuel:Nat)(c0 c1 c2:Value)(y:DataW H×List MemPlace)(h:DataW.trod enc Tryz.prog W base sp held fuel 52 [c0,c1,c2]=some y):∃p:ou,c0=uV (p.1:Nat)/\c1=uV (p.2.1:Nat)/\c2=uV (p.2.2:Nat)/\ib p:=by
 obtain⟨xs,k,_,_,_,hxl,mQ⟩:=DataW.trod_struct Tryz.underlying52 h
 match xs,hxl with
 | [y0,y1,y2],_=>
  have k0:DataW.trod enc Tryz.prog W base sp held k 43 (([c0,c1,c2].drop 0).take (Tryz.prog.cellsOf 43))=some y0:=mQ 0 _ rfl;have k1:DataW.trod enc Tryz.prog W base sp held k 43 (([c0,c1,c2].drop 1).take (Tryz.prog.cellsOf 43))=some y1:=mQ 1 _ rfl;have k2:DataW.trod enc Tryz.prog W base sp held k 43 (([c0,c1,c2].drop 2).take (Tryz.prog.cellsOf 43))=some y2:=mQ 2 _ rfl;rw[c1u]at k0 k1 k2;obtain⟨a,ea,ta⟩:=wm k0;obtain⟨b,eb,tb⟩:=wm k1;obtain⟨c,ec,tc⟩:=wm k2;exact⟨(a,b,c),ea,eb,ec,ta,tb,tc⟩
theorem ML(fuel:Nat)(cs:List Value)(y:DataW H×List MemPlace)(hl:cs.length=2)(h:DataW.trod enc Tryz.prog W base sp held fuel 202 cs=some y):∃o:Zj,cs=EO.enc o/\Yw o:=by
 obtain⟨xs,k,_,_,_,hxl,mQ⟩:=DataW.trod_struct Tryz.underlying202 h
 match cs,hl,xs,hxl with
 | [c0,c1],_,[y0,y1],_=>
  have k0:DataW.trod enc Tryz.prog W base sp held k 3 (([c0,c1].drop 0).take (Tryz.prog.cellsOf 3))=some y0:=mQ 0 _ rfl;have k1:DataW.trod enc Tryz.prog W base sp held k 43 (([c0,c1].drop 1).take (Tryz.prog.cellsOf 43))=some y1:=mQ 1 _ rfl;rw[Zh]at k0;rw[c1u]at k1;obtain⟨a,rfl,ta⟩:=iR k0;obtain⟨b,rfl,tb⟩:=wm k1;exact⟨⟨a,b⟩,rfl,ta,tb⟩
theorem MN(fuel:Nat)(cs:List Value)(y:DataW H×List MemPlace)(hl:cs.length=5)(h:DataW.trod enc Tryz.prog W base sp held fuel 205 cs=some y):∃o:dN,cs=EC.enc o/\YT o:=by
 obtain⟨xs,k,_,_,_,hxl,mQ⟩:=DataW.trod_struct Tryz.underlying205 h
 match cs,hl,xs,hxl with
 | [c0,c1,c2,c3,c4],_,[y0,y1,y2],_=>
  have k0:DataW.trod enc Tryz.prog W base sp held k 3 (([c0,c1,c2,c3,c4].drop 0).take (Tryz.prog.cellsOf 3))=some y0:=mQ 0 _ rfl;have k1:DataW.trod enc Tryz.prog W base sp held k 3 (([c0,c1,c2,c3,c4].drop 1).take (Tryz.prog.cellsOf 3))=some y1:=mQ 1 _ rfl;have k2:DataW.trod enc Tryz.prog W base sp held k 52 (([c0,c1,c2,c3,c4].drop 2).take (Tryz.prog.cellsOf 52))=some y2:=mQ 2 _ rfl;rw[Zh]at k0 k1;rw[c3p]at k2;obtain⟨a,rfl,ta⟩:=iR k0;obtain⟨b,rfl,tb⟩:=iR k1;obtain⟨p,rfl,rfl,rfl,tp⟩:=Dm _ _ _ _ _ k2;exact⟨⟨a,b,p⟩,rfl,ta,tb,tp⟩
theorem MM(fuel:Nat)(cs:List Value)(y:DataW H×List MemPlace)(hl:cs.length=5)(h:DataW.trod enc Tryz.prog W base sp held fuel 151 cs=some y):∃o:dR,cs=ED.enc o/\UK o:=by
 obtain⟨xs,k,_,_,_,hxl,mQ⟩:=DataW.trod_struct Tryz.underlying151 h
 match cs,hl,xs,hxl with
 | [c0,c1,c2,c3,c4],_,[y0,y1,y2,y3,y4],_=>
  have k0:DataW.trod enc Tryz.prog W base sp held k 3 (([c0,c1,c2,c3,c4].drop 0).take (Tryz.prog.cellsOf 3))=some y0:=mQ 0 _ rfl;have k1:DataW.trod enc Tryz.prog W base sp held k 3 (([c0,c1,c2,c3,c4].drop 1).take (Tryz.prog.cellsOf 3))=some y1:=mQ 1 _ rfl;have k2:DataW.trod enc Tryz.prog W base sp held k 3 (([c0,c1,c2,c3,c4].drop 2).take (Tryz.prog.cellsOf 3))=some y2:=mQ 2 _ rfl;have k3:DataW.trod enc Tryz.prog W base sp held k 3 (([c0,c1,c2,c3,c4].drop 3).take (Tryz.prog.cellsOf 3))=some y3:=mQ 3 _ rfl;have k4:DataW.trod enc Tryz.prog W base sp held k 4 (([c0,c1,c2,c3,c4].drop 4).take (Tryz.prog.cellsOf 4))=some y4:=mQ 4 _ rfl;rw[Zh]at k0 k1 k2 k3;rw[c1b]at k4;obtain⟨a,rfl,ta⟩:=iR k0;obtain⟨b,rfl,tb⟩:=iR k1;obtain⟨c,rfl,tc⟩:=iR k2;obtain⟨d,rfl,td⟩:=iR k3;obtain⟨e,he,_⟩:=DataW.trod_bool Tryz.underlying4 k4;simp at he;subst he;exact⟨⟨a,b,c,d,e⟩,rfl,ta,tb,tc,td⟩
end
end Go.Proofs.YtiiefcalkjeieaaGreat.Df
namespace Go.Proofs.YtiiefcalkjeieaaGreat.Df
open Go.ChangeShapes Go.WideShapes Go.ChangeAt Go.RowKit Go.Joins
section
variable {H:Type} {enc:TypeId×Value->H} {W:World} {base:Nat} {sp:Nat->Bool} {held:Bool}
def Vt(W:World)(x:NV):Prop:=aa3 x.n/\NR W.heap.size W x/\x.n.code.length*16<=140737488351232/\x.n.bV.length*40<=140737488351232/\x.n.bV.length<=x.dc
def Sz(xs:List NV)(es:List dR):Prop:=xs.length*112<=140737488351232/\es.length*40<=140737488351232/\∀x∈xs,x.n.code.length*16<=140737488351232/\x.n.bV.length*40<=140737488351232
theorem Kg(fuel:Nat)(cs:List Value)(y:DataW H×List MemPlace)(hl:cs.length=10)(h:DataW.trod enc Tryz.prog W base sp held fuel 149 cs=some y)(hw:Yr Tryz.prog 149 y.1):∃x:NV,cs=EV.enc x/\Vt W x:=by
 obtain⟨xs,k,_,hxy,_,hxl,mQ⟩:=DataW.trod_struct Tryz.underlying149 h
 match cs,hl,xs,hxl with
 | [c0,c1,c2,c3,c4,c5,c6,c7,c8,c9],_,[y0,y1,y2,y3,y4,y5,y6,y7],_=>
  have Tu:∀n∈DataW.weightsEach Tryz.prog [3,3,3,146,52,43,147,4] [y0.1,y1.1,y2.1,y3.1,y4.1,y5.1,y6.1,y7.1],n<=reachBytes:=fun n hn=>hw n (by
   rw[hxy];simp only[DataW.weights,Tryz.underlying149];exact hn)
  have k0:DataW.trod enc Tryz.prog W base sp held k 3 (([c0,c1,c2,c3,c4,c5,c6,c7,c8,c9].drop 0).take (Tryz.prog.cellsOf 3))=some y0:=mQ 0 _ rfl;have k1:DataW.trod enc Tryz.prog W base sp held k 3 (([c0,c1,c2,c3,c4,c5,c6,c7,c8,c9].drop 1).take (Tryz.prog.cellsOf 3))=some y1:=mQ 1 _ rfl;have k2:DataW.trod enc Tryz.prog W base sp held k 3 (([c0,c1,c2,c3,c4,c5,c6,c7,c8,c9].drop 2).take (Tryz.prog.cellsOf 3))=some y2:=mQ 2 _ rfl;have k3:DataW.trod enc Tryz.prog W base sp held k 146 (([c0,c1,c2,c3,c4,c5,c6,c7,c8,c9].drop 3).take (Tryz.prog.cellsOf 146))=some y3:=mQ 3 _ rfl;have k4:DataW.trod enc Tryz.prog W base sp held k 52 (([c0,c1,c2,c3,c4,c5,c6,c7,c8,c9].drop 4).take (Tryz.prog.cellsOf 52))=some y4:=mQ 4 _ rfl;have k5:DataW.trod enc Tryz.prog W base sp held k 43 (([c0,c1,c2,c3,c4,c5,c6,c7,c8,c9].drop 7).take (Tryz.prog.cellsOf 43))=some y5:=mQ 5 _ rfl;have k6:DataW.trod enc Tryz.prog W base sp held k 147 (([c0,c1,c2,c3,c4,c5,c6,c7,c8,c9].drop 8).take (Tryz.prog.cellsOf 147))=some y6:=mQ 6 _ rfl;have k7:DataW.trod enc Tryz.prog W base sp held k 4 (([c0,c1,c2,c3,c4,c5,c6,c7,c8,c9].drop 9).take (Tryz.prog.cellsOf 4))=some y7:=mQ 7 _ rfl;rw[Zh]at k0 k1 k2;rw[c1o]at k3;rw[c3p]at k4;rw[c1u]at k5;rw[c1c]at k6;rw[c1b]at k7;obtain⟨a,rfl,ta⟩:=iR k0;obtain⟨b,rfl,tb⟩:=iR k1;obtain⟨c,rfl,tc⟩:=iR k2;obtain⟨q3,d3,l3,e3,z3,p3,s3,_⟩:=jo EO Yw Tryz.underlying146 (by kernel_rfl) (by decide) (fun fuel cs y hl h _=>ML fuel cs y hl h) _ _ _ k3 (fun n hn=>Tu n (DataW.weights_mem_each (j:=3) rfl rfl n hn));obtain⟨p,rfl,rfl,rfl,tp⟩:=Dm _ _ _ _ _ k4;obtain⟨u,rfl,tu⟩:=wm k5;obtain⟨q6,d6,l6,e6,z6,p6,s6,t6⟩:=jo EC YT Tryz.underlying147 (by kernel_rfl) (by decide) (fun fuel cs y hl h _=>MN fuel cs y hl h) _ _ _ k6 (fun n hn=>Tu n (DataW.weights_mem_each (j:=6) rfl rfl n hn));obtain⟨e,he,_⟩:=DataW.trod_bool Tryz.underlying4 k7;simp at he e3 e6;subst he e3 e6;rw[show Tryz.prog.bytesOf 202=16 by kernel_rfl]at s3;rw[show Tryz.prog.bytesOf 205=40 by kernel_rfl]at s6;have hrb:reachBytes<=140737488351232:=by decide
  exact⟨⟨⟨a,b,c,l3,p,u,l6,e⟩,q3,l3.length,d3,q6,l6.length,d6⟩,rfl,⟨ta,tb,tc,p3,tp,tu,p6⟩,⟨z3,z6⟩,by simp only;omega,by simp only;omega,t6⟩
end
end Go.Proofs.YtiiefcalkjeieaaGreat.Df
