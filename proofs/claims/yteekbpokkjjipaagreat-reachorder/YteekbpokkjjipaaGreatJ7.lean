import Derived.Maps.AppendAt
import Derived.Deep.RegionWith
import Derived.Test.YteekbpokkjjipaaGreatJ6
import Derived.Lib.SliceRun
variable{v:Go.Value}{w:Go.World}{a a':Go.Act}{n i cb fb ff j:Nat}{α:Type}{d:Option Nat}{o:Go.Op}{ty:Go.TypeId}{oi:Go.Oper}{z:Bool}
set_option maxHeartbeats 2000000
set_option maxRecDepth 100000
namespace Go.Proofs.YteekbpokkjjipaaGreat
section
open Go.RowKit
section
variable {P:Program} {ops:Array Oper} {Q:Exit->Act->World->Prop} {md:Region.Mode} {S:World->Prop} {D:List Nat}
def dI(P:Program)(md:Region.Mode)(ops:Array Oper)(Q:Exit->Act->World->Prop)(S:World->Prop)(D:List Nat):Nat->Array Bool->Act->World->Prop
 | 0, ls, a, w => Region.ready md ops ls=[]/\Q .normal a w
 | n + 1, ls, a, w => (Region.ready md ops ls=[]->Q .normal a w)/\∀j∈Region.ready md ops ls,wpOp P ops Q j (fun b u=>(j∉D->S u)/\dI P md ops Q S D n (ls.setIfInBounds j true) b u) a w
theorem JJ(n:Nat):∀(ls:Array Bool) (a:Act) (w:World),dI P md ops Q S D n ls a w->wpAny P md ops Q n ls a w:=by
 induction n with
 | zero => intro _ _ _ h;exact h
 | succ n ih=>
  intro ls a w h;exact⟨h.1,fun j hj=>wpOp_mono (fun b u x=>ih _ b u x.2) (h.2 j hj)⟩
def Behind(md:Region.Mode)(ops:Array Oper)(i:Nat)(D:List Nat):Bool:=D.all fun j=>match ops[j]? with
 | some o => o.after.toList.any fun e=>Region.binds md e&&(e.on==i||D.contains e.on)
 | none => true
theorem Ie{ls:Array Bool}(hD:Behind md ops i D=true)(hi:ls.getD i false=false)(hl:∀k∈D,ls.getD k false=false)(hj:j∈Region.ready md ops ls):j∉D:=fun hjD=>by
 obtain⟨_,o,ho,hall⟩:=mem_ready.1 hj;have h1:=List.all_eq_true.1 hD j hjD;rw[ho]at h1;obtain⟨x,hx,h2⟩:=List.any_eq_true.1 h1;rw[bA,Bool.or_eq_true]at h2;have h3:=hall x (Array.mem_toList_iff.1 hx) h2.1;rcases h2.2 with h4|h4
 ·rw[beq_iff_eq]at h4;rw[h4,hi]at h3;cases h3
 ·rw[hl _ (by simpa using h4)]at h3;cases h3
theorem zY(hi:ops[i]? =some oi)(hs:Region.noSelect ops=true)(hQ:∀c a w,Q (.panic c) (a.put oi.dst v) w->Q (.panic c) a w)(hD:Behind md ops i D=true)(hiD:D.contains i=false)(n:Nat):
    ∀(ls:Array Bool) (a:Act) (w:World),(∀j oj,ops[j]? =some oj->j≠i->ls.getD j true=false->(∀e∈oj.after,Region.binds md e=true->e.on≠i)->oi.apart ops oj=true)->(∀k∈D,ls.getD k false=false)->i∈Region.ready md ops ls->YieldsIf P ops S oi v a->S w->
     dI P md ops Q S D n (ls.setIfInBounds i true) (a.put oi.dst v) w->dI P md ops Q S D (n+1) ls a w:=by
 have hsel:=Region.noSelect_spec hs;have hin:i∉D:=by simpa using hiD
 induction n with
 | zero=>
  intro ls a w _ _ hr hy hS H;refine⟨fun h0=>(by rw[h0]at hr;cases hr),fun j hj=> ?_⟩;by_cases e:j=i
  ·rw[e];exact hy.wpOp hi hS ⟨fun _=>hS,H⟩
  ·have h1:=ready_mono hj e;rw[H.1]at h1;cases h1
 | succ n ih=>
  intro ls a w hfree hun hr hy hS H;refine⟨fun h0=>(by rw[h0]at hr;cases hr),fun j hj=> ?_⟩;by_cases e:j=i
  ·rw[e];exact hy.wpOp hi hS ⟨fun _=>hS,H⟩
  ·obtain⟨hju,oj,hoj,hall⟩:=mem_ready.1 hj;have hi0:ls.getD i false=false:=by
    have:=(mem_ready.1 hr).1;rcases Nat.lt_or_ge i ls.size with h|h
    ·simp[h]at this⊢;exact this
    ·simp[Array.getElem?_eq_none h]
   have hjD:=Ie hD hi0 hun hj;have hno:∀x∈oj.after,Region.binds md x=true->x.on≠i:=fun x hx hb e2=>by
    have:=hall x hx hb;rw[e2,hi0]at this;cases this
   have h2:=wpOp_putIf hoj (hfree j oj hoj e hju hno) (fun cs b=>hsel i oi cs b hi) (fun cs b=>hsel j oj cs b hoj) hQ hy (H.2 j (ready_mono hj e));refine wpOp_mono (fun b u h3=>⟨fun _=>h3.2.1 hjD,ih _ b u ?_ ?_ (ready_mono hr (Ne.symm e)) h3.1 (h3.2.1 hjD) ?_⟩) h2
   ·intro k ok hk hki hku hkn;refine hfree k ok hk hki ?_ hkn;by_cases e3:j=k
    ·exact e3 ▸ hju
    ·rw[getD_set_ne true e3]at hku;exact hku
   ·intro k hk;have hne:j≠k:=fun e3=>hjD (by rw[e3];exact hk);rw[getD_set_ne false hne];exact hun k hk
   ·rw[Array.setIfInBounds_comm _ _ e];exact h3.2.2
theorem aC{ls:Array Bool}(hi:ops[i]? =some oi)(hs:Region.noSelect ops=true)(hf:Region.free md ops ls i=true)(hr:(Region.ready md ops ls).contains i=true)
    (hQ:∀c a w,Q (.panic c) (a.put oi.dst v) w->Q (.panic c) a w) (hD:(Behind md ops i D && !D.contains i&&D.all fun k=> !ls.getD k false)=true) (hy:YieldsIf P ops S oi v a) (hS:S w)
    (h:dI P md ops Q S D n (ls.setIfInBounds i true) (a.put oi.dst v) w):dI P md ops Q S D (n+1) ls a w:=by
 rw[bA,bA]at hD;exact zY hi hs hQ hD.1.1 (by simpa using hD.1.2) n ls a w (Region.free_spec hi hf) (fun k hk=>by simpa using List.all_eq_true.1 hD.2 k hk) (by simpa using hr) hy hS h
theorem kN{o:Oper}{ls:Array Bool}(hr:Region.ready md ops ls=[i])(ho:ops[i]? =some o)
    (h:∀K':Act->World->Prop,Shut (∀b u,(i∉D->S u)->dI P md ops Q S D n (ls.setIfInBounds i true) b u->K' b u)->if Region.wanted o (yielded ops a.tmps)=true then Oper.wp P o a w K' Q else K' (a.put o.dst undef) w):dI P md ops Q S D (n+1) ls a w:=by
 refine⟨fun h0=>(by rw[h0]at hr;cases hr),fun j hj=> ?_⟩;rw[hr,vF]at hj;subst hj;exact wpOp_step ho (fun K' hK=>h K' (fun b u h1 h2=>hK b u ⟨h1,h2⟩))
theorem ak{ls:Array Bool}(hr:Region.ready md ops ls=[])(h:Q .normal a w)(n:Nat):dI P md ops Q S D n ls a w:=by
 cases n with
 | zero => exact⟨hr,h⟩
 | succ n => exact⟨fun _=>h,fun j hj=>by rw[hr]at hj;cases hj⟩
theorem ay{id:Nat}(hm:P.follows .mixedOrders=true)(h:dI P .any ops Q S D ops.size (Array.replicate ops.size false) a w.drew):(Code.region id ops true).wp P Q a w:=
 wp_region_any hm (JJ _ _ _ _ h)
end
theorem Sd{p:Prop}(h:p):Hid p:=h
theorem qI{l:List α}{a:α}:l.toArray.setIfInBounds i a=(l.set i a).toArray:=by simp
theorem q0{a b:α}{l:List α}:(a::l).set 0 b=b::l:=rfl
theorem qS{a b:α}{l:List α}:(a::l).set (n+1) b=a::l.set n b:=rfl
section
variable {P:Program} {ops:Array Oper} {Q:Exit->Act->World->Prop} {md:Region.Mode} {S:World->Prop} {D:List Nat}
theorem drop_at{l:List α}{x:α}{r:List α}(h:l.drop i=x::r):l[i]? =some x:=by
 have:=List.getElem?_drop (xs:=l) (i:=i) (j:=0);rw[h]at this;simpa using this.symm
theorem bB(i:Nat){pos:String}{af:Array Edge}{gd:Option (Nat×Bool)}{r:List Oper}{ls ls':Array Bool}(hS:S w)
    (hy:∀w,S w->(execOp a.eval ⟨d,o,ty,"",#[],gd⟩).run P w= .ok (.value v) w)
    (h:dI P md ops Q S D n ls' a' w) (hi:ops.toList.drop i=⟨d,o,ty,pos,af,gd⟩::r:=by exact rfl) (hl:ls.setIfInBounds i true=ls':=by(try simp only[qI,q0,qS]);exact rfl) (ha:a.put d v=a':=by(try simp only[Act.put,qI,q0,qS]);exact rfl) (hs:Region.noSelect ops=true:=by kernel_rfl) (hf:Region.free md ops ls i=true:=by kernel_rfl) (hr:(Region.ready md ops ls).contains i=true:=by kernel_rfl)
    (hQ:∀c a w,Q (.panic c) (a.put d v) w->Q (.panic c) a w:=by exact fun _ _ _ h=>h) (hD:(Behind md ops i D && !D.contains i&&D.all fun k=> !ls.getD k false)=true:=by kernel_rfl) (hw:Region.wanted ⟨d,o,ty,"",#[],gd⟩ (yielded ops a.tmps)=true:=by rfl):dI P md ops Q S D (n+1) ls a w:=
 aC (oi:=⟨d,o,ty,pos,af,gd⟩) (by simpa using drop_at hi) hs hf hr hQ hD (Or.inl ⟨hw,hy⟩) hS (by subst hl ha;exact h)
theorem av(i:Nat){pos:String}{af:Array Edge}{gd:Option (Nat×Bool)}{r:List Oper}{ls ls':Array Bool}(hS:S w)
    (h:dI P md ops Q S D n ls' a' w) (hi:ops.toList.drop i=⟨d,o,ty,pos,af,gd⟩::r:=by exact rfl)
    (hy:∀w,S w->(execOp a.eval ⟨d,o,ty,"",#[],gd⟩).run P w= .ok (.value v) w:=by intro W hSw;(try dsimp only at hSw);(try have hk:=HP.o W hSw);go_simp;try(with_reducible rfl)) (hl:ls.setIfInBounds i true=ls':=by(try simp only[qI,q0,qS]);exact rfl) (ha:a.put d v=a':=by(try simp only[Act.put,qI,q0,qS]);exact rfl) (hs:Region.noSelect ops=true:=by kernel_rfl) (hf:Region.free md ops ls i=true:=by kernel_rfl) (hr:(Region.ready md ops ls).contains i=true:=by kernel_rfl)
    (hQ:∀c a w,Q (.panic c) (a.put d v) w->Q (.panic c) a w:=by exact fun _ _ _ h=>h) (hD:(Behind md ops i D && !D.contains i&&D.all fun k=> !ls.getD k false)=true:=by kernel_rfl) (hw:Region.wanted ⟨d,o,ty,"",#[],gd⟩ (yielded ops a.tmps)=true:=by rfl):dI P md ops Q S D (n+1) ls a w:=
 bB i hS hy h hi hl ha hs hf hr hQ hD hw
theorem je(i:Nat){pos:String}{af:Array Edge}{gd:Option (Nat×Bool)}{r:List Oper}{ls ls':Array Bool}(hS:S w)
    (h:dI P md ops Q S D n ls' a' w) (hi:ops.toList.drop i=⟨d,o,ty,pos,af,gd⟩::r:=by exact rfl) (hl:ls.setIfInBounds i true=ls':=by(try simp only[qI,q0,qS]);exact rfl) (ha:a.put d undef=a':=by(try simp only[Act.put,qI,q0,qS]);exact rfl) (hs:Region.noSelect ops=true:=by kernel_rfl) (hf:Region.free md ops ls i=true:=by kernel_rfl) (hr:(Region.ready md ops ls).contains i=true:=by kernel_rfl)
    (hQ:∀c a w,Q (.panic c) (a.put d undef) w->Q (.panic c) a w:=by exact fun _ _ _ h=>h) (hD:(Behind md ops i D && !D.contains i&&D.all fun k=> !ls.getD k false)=true:=by kernel_rfl) (hw:Region.wanted ⟨d,o,ty,"",#[],gd⟩ (yielded ops a.tmps)=false:=by rfl):dI P md ops Q S D (n+1) ls a w:=
 aC (oi:=⟨d,o,ty,pos,af,gd⟩) (by simpa using drop_at hi) hs hf hr hQ hD (Or.inr ⟨hw,rfl⟩) hS (by subst hl ha;exact h)
theorem bN(i:Nat){pos:String}{af:Array Edge}{gd:Option (Nat×Bool)}{r:List Oper}{ls:Array Bool}
    (h:∀K':Act->World->Prop,Shut (∀b u,(i∉D->S u)->dI P md ops Q S D n (ls.setIfInBounds i true) b u->K' b u)->if Region.wanted ⟨d,o,ty,pos,af,gd⟩ (yielded ops a.tmps)=true then Oper.wp P ⟨d,o,ty,pos,af,gd⟩ a w K' Q else K' (a.put d undef) w)
    (ho:ops.toList.drop i=⟨d,o,ty,pos,af,gd⟩::r:=by exact rfl) (hr:Region.ready md ops ls=[i]:=by kernel_rfl):dI P md ops Q S D (n+1) ls a w:=
 kN hr (by simpa using drop_at ho) h
end
section
variable {P:Program} {ops:Array Oper} {Q:Exit->Act->World->Prop} {md:Region.Mode} {S:World->Prop} {D:List Nat}
theorem vH{oj:Oper}{ls:Array Bool}(hr:Region.ready md ops ls=[i,j])(hi:ops[i]? =some oi)(hj:ops[j]? =some oj)
    (h1:∀K':Act->World->Prop,Shut (∀b u,(i∉D->S u)->dI P md ops Q S D n (ls.setIfInBounds i true) b u->K' b u)->if Region.wanted oi (yielded ops a.tmps)=true then Oper.wp P oi a w K' Q else K' (a.put oi.dst undef) w)
    (h2:∀K':Act->World->Prop,Shut (∀b u,(j∉D->S u)->dI P md ops Q S D n (ls.setIfInBounds j true) b u->K' b u)->if Region.wanted oj (yielded ops a.tmps)=true then Oper.wp P oj a w K' Q else K' (a.put oj.dst undef) w):dI P md ops Q S D (n+1) ls a w:=by
 refine⟨fun h0=>(by rw[h0]at hr;cases hr),fun k hk=> ?_⟩;rw[hr]at hk;simp only[eO,List.not_mem_nil,or_false]at hk;rcases hk with rfl|rfl
 ·exact wpOp_step hi (fun K' hK=>h1 K' (fun b u h1 h2=>hK b u ⟨h1,h2⟩))
 ·exact wpOp_step hj (fun K' hK=>h2 K' (fun b u h1 h2=>hK b u ⟨h1,h2⟩))
end
end
section
open Go.RowKit Go.Sort
end
namespace Df
open Go.RowKit Go.Sort
section
variable {α:Type} {E:El α} {T:TypeId} {W W':World} {v:Value} {l:List α} {m:α}
end
section
variable {w W W':World} {gv cv:Array Value} {u:Value} {xs:List NV}
end
theorem uK{P:Program}(w:World)(t ty:TypeId)(v:Value)(c:Nat):(Builtin.append_ #[t,t] ty #[v, .slice none 0 c]).run P w=(Builtin.append_ #[t,t] ty #[v, .slice none 0 0]).run P w:=rfl
section
variable {w W W':World} {gv cv:Array Value} {nv:Value} {ys:List NV}
end
end Df
namespace Cz
open Go.RowKit Go.Sort
attribute[local go_sem ↓]wp_at_zero wp_at_succ
def TV(z:Bool)(w:World)(cb fb ff:Nat)(v:Value):Prop:=w.heap[cb]? =some (.cells #[fv fb,fv ff,v] (nm z).t3 (0,0))
theorem TV.set{v2:Value}{l2:List Tm}(h:TV z w cb fb ff v)(ho:w.ownsRow 0 (nm z).t1 3 v2 l2.length (eG l2))(hoff:v2.ownBlock≠some cb):Ch z (w.setCell ⟨cb,2,none⟩ v2) cb fb ff v2 l2/\Kp (fun k=>k=cb) w (w.setCell ⟨cb,2,none⟩ v2):=by
 have e:=setCell_eq_setRow w cb 2 _ _ _ v2 h;have hk:Kp (fun k=>k=cb) w (w.setCell ⟨cb,2,none⟩ v2):=by
  rw[e];exact⟨rfl,rfl,rfl,by simp[World.setRow],fun k _ hne=>setRow_other w cb k _ (by omega)⟩
 refine⟨⟨?_,ax hk ho (fun k hk he=>hoff (he ▸ hk)),hoff⟩,hk⟩;rw[e,setRow_heap w cb _ _ _ _ h];simp
theorem TV.cells(h:TV z w cb fb ff v):w.cell? ⟨cb,2,none⟩=some v/\w.frozen? ⟨cb,2,none⟩=false/\cb<w.heap.size:=by
 unfold TV at h;exact⟨by simp[World.cell?,h],by simp[World.frozen?,h],(aG.1 h).1⟩
theorem jr{l:List Tm}{au fst:Tm->Tm->Bool}(x:Tm)(w:World)(hc:Ch z w cb fb ff v l)(hl:(l.length+1)*24<=140737488355328)(hB:dW fb au)(hF:dW ff fst):
    Calls Tryz.prog (nm z).is #[.pointer (some ⟨cb,0,none⟩),tv x] w fun e w'=>∃v',e= .returned (.bool (!bG au l x))/\Ch z w' cb fb ff v' (gq au fst l x)/\dS cb v v' w w':=by
 let zq:=z
 rcases Bool.eq_false_or_eq_true z with rfl|rfl;all_goals
  (try dsimp only[nm])
  obtain⟨W1,hW1⟩:=aD (w.alloc (.cells #[.int .u64 x.1.1, .int .u64 x.1.2.1, .int .u64 x.1.2.2] (nm zq).t1));dsimp only[nm,zq]at hW1;have G1:Gr w W1:=by rw[hW1];exact(Gr.refl _).alloc _
  have hz:w.heap.size<W1.heap.size:=by rw[hW1];simp
  have HB1:Hid (W1.cell? ⟨w.heap.size,0,none⟩=some (.int .u64 x.1.1)):=by rw[hW1];simp[Hid]
  have HB2:Hid (W1.cell? ⟨w.heap.size,1,none⟩=some (.int .u64 x.1.2.1)):=by rw[hW1];simp[Hid]
  have HB3:Hid (W1.cell? ⟨w.heap.size,2,none⟩=some (.int .u64 x.1.2.2)):=by rw[hW1];simp[Hid]
  have hc1:=hc.below G1.below;have h1:=qg x W1 hc1 (by omega) hB;have HC:Hid (Ch zq w cb fb ff v l):=hc;have HZ:Hid (w.heap.size<W1.heap.size):=hz;cases hcv:bG au l x with
  | true=>
   have HE:Hid (gq au fst l x=l):=(by unfold gq;rw[hcv];simp[Hid]);rw[hcv]at h1;rw[HE.o];clear hcv hc hc1 hz;subst hW1;first|go_enter Tryz.func207,Tryz.ntmps207|go_enter Tryz.func128,Tryz.ntmps128
   go_wp2_with fail;refine h1.mono ?_;rintro e w2 ⟨rfl,hg2⟩;go_wp2;go_ret;exact⟨v,rfl,HC.o.below (G1.trans hg2).below,dS.of_below (G1.trans hg2).below⟩
  | false=>
   have HE:Hid (gq au fst l x=xH fst (dF au l x) x):=(by unfold gq;rw[hcv];simp[Hid]);rw[hcv]at h1;rw[HE.o];have h2:=fun(W:World) (hW:Gr W1 W)=>tQ (au:=au) x W (hc1.below hW.below) (by omega) hB;have q8:=gF (au:=au) l x;generalize hm:dF au l x=m at *;clear hcv hc hc1 hz hm;subst hW1;first|go_enter Tryz.func207,Tryz.ntmps207|go_enter Tryz.func128,Tryz.ntmps128
   go_wp2_with fail;refine h1.mono ?_;rintro e w2 ⟨rfl,hg2⟩;have a1:=(hg2.cell HZ.o).trans HB1.o;have a2:=(hg2.cell HZ.o).trans HB2.o;have a4:=(hg2.cell HZ.o).trans HB3.o;have a3:=nL HZ.o hg2.size;have h2':=h2 w2 hg2;have A2:Hid (Below w.heap.size w w2):=(G1.trans hg2).below;clear h1 h2;go_wp2_with fail;refine h2'.mono ?_;rintro e w3 ⟨v3,rfl,ho3,hb3,hor⟩;have b1:=(hb3.cell (p:=⟨w.heap.size,0,none⟩) a3).trans a1;have b2:=(hb3.cell (p:=⟨w.heap.size,1,none⟩) a3).trans a2;have b4:=(hb3.cell (p:=⟨w.heap.size,2,none⟩) a3).trans a4;have b3:=nL a3 hb3.size;have A3:Hid (Below w.heap.size w w3):=A2.o.trans (hb3.mono (Nat.le_of_lt a3));have hc3:Hid (Ch zq w3 cb fb ff v l):=HC.o.below A3.o;have h3:=J4 x w3 hc3.o (dC ho3) (by omega) hF;have hpl:m.findIdx (fun y=>fst x y)<=m.length:=List.findIdx_le_length;have BU:Hid (xH fst m x=m.take (m.findIdx fun y=>fst x y)++x::m.drop (m.findIdx fun y=>fst x y)):=rfl;generalize List.findIdx (fun y=>fst x y) m=at_ at *;have UR:Hid (w3.ownsRow 0 (nm zq).t1 3 v3 m.length (eG m)):=ho3;have HOR:Hid (v3=v\/∀g,v3.ownBlock=some g->w2.heap.size<=g):=hor;clear a1 a2 a4 h2' ho3 hor;go_wp2_with fail;refine h3.mono ?_;rintro e w4 ⟨rfl,hg4⟩;have c1:=(hg4.cell b3).trans b1;have c2:=(hg4.cell b3).trans b2;have c4:=(hg4.cell b3).trans b4;have c3:=nL b3 hg4.size;have h4:=Q9 zq v3 m at_ x w4 (ag UR.o hg4.below) hpl (by omega);clear b1 b2 b4 h3;go_wp2_with fail;refine h4.mono ?_;rintro e w5 ⟨g,cap,rfl,DF,hk5,ZX⟩;have hlt:=HC.o.lt;have Jn:v3.ownBlock≠some cb:=by
    intro h;rcases HOR.o with rfl|h'
    ·exact HC.o.off h
    ·have:=h' cb h;omega
   have A4:Hid (Below w.heap.size w w4):=A3.o.trans (hg4.below.mono (Nat.le_of_lt b3));have aah:TV zq w4 cb fb ff v:=(HC.o.below A4.o).blk;have hblk5:TV zq w5 cb fb ff v:=(hk5.block cb (nU hlt c3) Jn).trans aah;obtain⟨d1,d2,d3⟩:=hblk5.cells;clear c1 c2 c4 h4;go_wp2;go_ret;have abq:(Value.slice (some ⟨g,0,none⟩) (m.length+1) cap).ownBlock≠some cb:=by
    simp only[Value.ownBlock];intro h;rcases ZX with h'|h'
    ·exact Jn (h'.trans h)
    ·simp at h;omega
   have hlen:(xH fst m x).length=m.length+1:=uj m x;obtain⟨hch,hks⟩:=hblk5.set (v2:= .slice (some ⟨g,0,none⟩) (m.length+1) cap) (l2:=xH fst m x) (by rw[hlen,BU.o];exact DF) abq;refine⟨_,rfl,hch,⟨?_, ?_⟩⟩
   ·refine((Kp.of_below A4.o).trans hk5 (fun j hj h=> ?_)).trans hks (fun j _ h=>Or.inl h);rcases HOR.o with rfl|h'
    ·exact Or.inr h
    ·have:=h' j h;omega
   ·intro g' hg';simp[Value.ownBlock]at hg';subst hg';rcases ZX with h'|h'
    ·rcases HOR.o with rfl|h''
     ·exact Or.inl h'
     ·right;have:=h'' _ h';omega
    ·right;omega
end Cz
namespace Cn
open Cz
open Go.RowKit Go.Sort
attribute[local go_sem ↓]wp_at_zero wp_at_succ
theorem sS(v:Value)(l:List Tm)(w:World)(hv:nK w v l)(hl:l.length*24<=140737488355328):
    Calls Tryz.prog 150 #[v] w fun e w'=>∃v',e= .returned v'/\w'.ownsRow w.heap.size 45 3 v' l.length (eG l)/\Below w.heap.size w w':=by
 have HV:Hid (nK w v l):=hv;have hen:=fun(W:World) (a:Option Addr) (n c:Nat)=>Lib.run_eql_slice_nil (P:=Tryz.prog) W 39 45 a n c 0 0 Tryz.underlying39;rcases hv with⟨rfl,rfl⟩|⟨b,off,c,rfl,hb,ht⟩
 ·go_enter Tryz.func150,Tryz.ntmps150;go_wp2;go_ret;exact⟨_,rfl,oN _ _ _ _,Below.refl _ _⟩
 ·clear ht;go_enter Tryz.func150,Tryz.ntmps150;go_wp2_with (at_builtin;refine Cz.pJ true rfl _ _ rfl w.heap.size (.slice (some ⟨w.heap.size,0,none⟩) 0 0) 0 [] rfl (World.ownsRow_made w #[] 0 (nR _) (by unfold maxLen;omega) rfl) _ l rfl (HV.o.below ((Gr.refl w).alloc _).below) (by omega) (by simp) ?_);intro v' w' h1 h2;go_wp2;go_ret;refine⟨_,rfl,by simpa using h1, ?_⟩;exact((Gr.refl w).alloc _).below.trans ((Kp.grownBy (S:=fun k=>w.heap.size<=k) h2 (fun k hk=>by simp[Value.ownBlock]at hk;omega)).below (by simp) (fun _ h=>h))
theorem kE{l:List Tm}(w:World)(hc:Ch true w cb fb ff v l)(hl:l.length*24<=140737488355328):
    Calls Tryz.prog 87 #[.pointer (some ⟨cb,0,none⟩)] w fun e w'=>∃v',e= .returned v'/\w'.ownsRow w.heap.size 45 3 v' l.length (eG l)/\Below w.heap.size w w':=by
 have h:=sS v l w hc.qy hl;have k2:=hc.c2;have kl:=hc.lt;clear hc;go_enter Tryz.func87,Tryz.ntmps87;go_wp2_with fail;refine h.mono ?_;rintro e w1 ⟨v',rfl,h1,h2⟩;go_wp2;go_ret;exact⟨_,rfl,h1,h2⟩
theorem Ei{au fst:Tm->Tm->Bool}(l vs us:List Tm):kI au fst l (vs++us)=kI au fst l vs+kI au fst (bu au fst l vs) us:=by
 induction vs generalizing l with
 | nil => simp[kI,bu]
 | cons v vs ih => rw[List.cons_append,kI,ih,kI,xO,Nat.add_assoc]
theorem xK{au fst:Tm->Tm->Bool}{l vs:List Tm}{k:Nat}{x:Tm}(h:vs[k]? =some x):kI au fst l (vs.take (k+1))=kI au fst l (vs.take k)+(if bG au (bu au fst l (vs.take k)) x then 0 else 1):=by
 rw[tO,h,Ei];simp[kI]
theorem Tc{au fst:Tm->Tm->Bool}(l vs:List Tm):kI au fst l vs<=vs.length:=by
 induction vs generalizing l with
 | nil => simp[kI]
 | cons v vs ih => rw[kI,lC];have:=ih (gq au fst l v);split <;> omega
theorem NT{u:Value}{l vs:List Tm}{au fst:Tm->Tm->Bool}(w:World)(hc:Ch true w cb fb ff v l)(hu:nK w u vs)(hap:∀k,u.ownBlock=some k->k≠cb/\v.ownBlock≠some k)(hl:(l.length+vs.length)*24<=140737488355328)(hB:dW fb au)(hF:dW ff fst):
    Calls Tryz.prog 203 #[.pointer (some ⟨cb,0,none⟩),u] w fun e w'=>e= .returned (.int .i64 (kI au fst l vs:Nat))/\∃v',Ch true w' cb fb ff v' (bu au fst l vs)/\dS cb v v' w w':=by
 obtain⟨pu,cu,rfl⟩:=hu.form;have HU:Hid (nK w (.slice pu vs.length cu) vs):=hu;have HA:Hid (∀k,(Value.slice pu vs.length cu).ownBlock=some k->k≠cb/\v.ownBlock≠some k):=hap;have HC:Hid (Ch true w cb fb ff v l):=hc;clear hu hap hc;go_enter Tryz.func203,Tryz.ntmps203;go_wp2_with fail;go_loopw [5,7,10] (fun s5 _ s10 wr=>∃(k:Nat) (vr:Value),k<=vs.length/\s10= .int .i64 k/\s5= .int .i64 (kI au fst l (vs.take k):Nat)/\Hid (Ch true wr cb fb ff vr (bu au fst l (vs.take k))/\dS cb v vr w wr)) (fun _ _ s10 _=>vs.length-(intOf s10).toNat);case atStart=>exact⟨0,v,zL _,rfl,rfl,HC.o,dS.refl _ _ _⟩
 case round=>
  obtain⟨k,vr,hk,rfl,rfl,HI⟩:=hrel;obtain⟨hch,Qd⟩:=HI.o;by_cases hlt:k<vs.length
  ·have hltz:(k:Int)<(vs.length:Int):=(by omega);obtain⟨x,hx⟩:∃x,vs[k]? =some x:=⟨vs[k],by simp⟩;have HLw:nK wr (.slice pu vs.length cu) vs:=Qd.1.ls HU.o (fun j hj hs=>by
    obtain⟨h1,h2⟩:=HA.o j hj;rcases hs with hs|hs
    ·exact h1 hs
    ·exact h2 hs)
   obtain⟨b1,o1,c1,e1,z1,x1,x2,x3⟩:=HLw.at3 hx;simp only[vS]at e1;obtain⟨rfl,-,rfl⟩:=e1;clear HLw;have hjl:=gN (au:=au) (fst:=fst) l (vs.take k);have htl:(vs.take k).length=k:=(by simp;omega);have HJ:Hid (bu au fst l (vs.take (k+1))=gq au fst (bu au fst l (vs.take k)) x):=uJ hx;have HN:Hid (kI au fst l (vs.take (k+1))=kI au fst l (vs.take k)+(if bG au (bu au fst l (vs.take k)) x then 0 else 1)):=xK hx
   have hnl:=Tc (au:=au) (fst:=fst) l (vs.take k);rw[htl]at hjl hnl;clear hx;generalize bu au fst l (vs.take k)=f at *;generalize kI au fst l (vs.take k)=q at *;have hi:=jr x (wr.alloc (.cells #[.int .u64 x.1.1, .int .u64 x.1.2.1, .int .u64 x.1.2.2] 45)) (hch.below ((Gr.refl _).alloc _).below) (by omega) hB hF;have HT:Hid (dS cb v vr w (wr.alloc (.cells #[.int .u64 x.1.1, .int .u64 x.1.2.1, .int .u64 x.1.2.2] 45))):=Qd.trans (dS.of_below ((Gr.refl _).alloc _).below);clear hch Qd HI;cases hq:bG au f x with
   | true=>
    rw[hq]at hi;have HN':Hid (kI au fst l (vs.take (k+1))=q):=(by rw[HN.o,hq];simp[Hid]);go_wp2_with fail;refine hi.mono ?_;rintro e w2 ⟨v2,rfl,WR,Wu⟩;go_wp2;refine⟨⟨k+1,v2,by omega,by go_num,by rw[HN'.o],by rw[HJ.o];exact WR,HT.o.trans Wu⟩,by simp[intOf];omega⟩
   | false=>
    rw[hq]at hi;have HN':Hid (kI au fst l (vs.take (k+1))=q+1):=(by rw[HN.o,hq];simp[Hid]);go_wp2_with fail;refine hi.mono ?_;rintro e w2 ⟨v2,rfl,WR,Wu⟩;go_wp2;refine⟨⟨k+1,v2,by omega,by go_num,by rw[HN'.o];go_num,by rw[HJ.o];exact WR,HT.o.trans Wu⟩,by simp[intOf];omega⟩
  ·have hltz:¬(k:Int)<(vs.length:Int):=(by omega);rw[tL (by omega)]at hch;have HE:Hid (vs.take k=vs):=tL (by omega);go_wp2;go_ret;exact⟨by rw[HE.o];rfl,vr,hch,Qd⟩
theorem Jw{l:List Tm}{au:Tm->Tm->Bool}(x:Tm)(w:World)(hc:Ch true w cb fb ff v l)(hl:l.length*24<=140737488355328)(hB:dW fb au):
    Calls Tryz.prog 200 #[.pointer (some ⟨cb,0,none⟩),tv x] w fun e w'=>∃v',e= .returned (.int .i64 ((l.length-(dF au l x).length:Nat):Int))/\Ch true w' cb fb ff v' (dF au l x)/\Kp (fun k=>k=cb) w w'/\∀g,v'.ownBlock=some g->v.ownBlock=some g\/w.heap.size<=g:=by
 obtain⟨W1,hW1⟩:=aD (w.alloc (.cells #[.int .u64 x.1.1, .int .u64 x.1.2.1, .int .u64 x.1.2.2] 45));have G1:Gr w W1:=by rw[hW1];exact(Gr.refl _).alloc _
 have HZ:Hid (w.heap.size<W1.heap.size):=by rw[hW1];simp[Hid]
 have hc1:=hc.below G1.below;have h1:=tQ (au:=au) x W1 hc1 hl hB;have q8:=gF (au:=au) l x;generalize hm:dF au l x=m at *;have HC:Hid (Ch true w cb fb ff v l):=hc;obtain⟨pl,cl,rfl⟩:=hc.qy.form;clear hm hc hc1;subst hW1;go_enter Tryz.func200,Tryz.ntmps200;go_wp2_with fail;refine h1.mono ?_;rintro e w3 ⟨v3,rfl,ho3,hb3,hor⟩;have A3:Hid (Below w.heap.size w w3):=G1.below.trans (hb3.mono (Nat.le_of_lt HZ.o));obtain⟨d1,d2,d3⟩:=TV.cells (HC.o.below A3.o).blk;obtain⟨p3,c3,rfl⟩:=(dC ho3).form;have zz:IntKind.i64.wrap ((l.length:Int)-(m.length:Int))=((l.length-m.length:Nat):Int):=by rw[IntKind.wrap_i64];omega
 clear h1;go_wp2;go_ret;have hlt:=HC.o.lt;have Jn:(Value.slice p3 m.length c3).ownBlock≠some cb:=by
  intro h;rcases hor with h'|h'
  ·exact HC.o.off (h' ▸ h)
  ·have:=h' cb h;have:=HZ.o;omega
 obtain⟨hch,hks⟩:=TV.set (HC.o.below A3.o).blk (v2:= .slice p3 m.length c3) (l2:=m) ho3 Jn;refine⟨_,by first|rfl|simp,hch,(Kp.of_below A3.o).trans hks (fun _ _ h=>h),fun g hg=> ?_⟩;rcases hor with h'|h'
 ·left;rw[<-h'];exact hg
 ·right;have:=h' g hg;have:=HZ.o;omega
theorem gI{l:List Tm}(w:World)(hc:Ch true w cb fb ff v l):
    Calls Tryz.prog 201 #[.pointer (some ⟨cb,0,none⟩)] w fun e w'=>e= .returned (.int .i64 (l.length:Nat))/\w'=w:=by
 obtain⟨pl,cl,rfl⟩:=hc.qy.form;have k2:=hc.c2;have kl:=hc.lt;go_enter Tryz.func201,Tryz.ntmps201;go_wp2;go_ret;exact⟨rfl,rfl⟩
end Cn
end Go.Proofs.YteekbpokkjjipaaGreat
