import Derived.Test.YteekbpokkjjipaaGreatJ12
import Derived.Lib.OwnKind
import Derived.Laws.OwnMore
variable{w w':Go.World}{B size n B' j:Nat}{nv ev v:Go.Value}{e T:Go.TypeId}{xs:List Go.Value}{α:Type}{a:Int}
set_option maxHeartbeats 8000000
set_option maxRecDepth 100000
namespace Go.Proofs.YteekbpokkjjipaaGreat.Df
open Go.RowKit Go.Sort
attribute[local go_sem ↓]wp_at_zero wp_at_succ
structure Cg(B:Nat)(w:World)(nv ev:Value)(ys:List NV)(es:List dN):Prop where
 nodes:w.ownsRow B 149 10 nv ys.length (fl EV ys)
 aN:w.ownsRow B 151 5 ev es.length (fl ED es)
 each:∀y∈ys,w.ownsRow B 202 2 y.cv y.n.code.length (fl EO y.n.code)/\w.ownsRow B 205 5 y.dv y.n.bT.length (fl EC y.n.bT)
theorem aH{b:Nat}{cs:Array Value}{z:Nat×Nat}(h:w.ownsRow B e size v n xs)(hb:w.heap[b]? =some (.cells cs T z))(hT:e≠T):∀k,v.ownBlock=some k->k≠b:=fun k hk e2=>by
 obtain⟨c,f,hc⟩:=Lib.ownsRow_kind h k hk;rw[e2,hb]at hc;simp only[oI,Obj.cells.injEq]at hc;exact hT hc.2.1.symm
theorem aF{e':TypeId}{size' n':Nat}{v':Value}{xs':List Value}(h:w.ownsRow B e size v n xs)(h':w.ownsRow B' e' size' v' n' xs')(hT:e≠e'):∀k,v.ownBlock=some k->v'.ownBlock≠some k:=fun k hk hk'=>by
 obtain⟨c,f,hc⟩:=Lib.ownsRow_kind h' k hk';exact aH h hc hT k hk rfl
theorem Cg.base{ys:List NV}{es:List dN}(h:Cg B w nv ev ys es)(hb:B'<=B):Cg B' w nv ev ys es:=
 ⟨aM h.nodes hb,aM h.aN hb,fun y hy=>⟨aM (h.each y hy).1 hb,aM (h.each y hy).2 hb⟩⟩
theorem Cg.kp{S:Nat->Prop}{ys:List NV}{es:List dN}(h:Cg B w nv ev ys es)(hk:Kp S w w')(hS:∀k,B<=k->k<w.heap.size->¬S k):Cg B w' nv ev ys es:=
 ⟨ax hk h.nodes (fun k e=>hS k (aL h.nodes k e).1 (aL h.nodes k e).2),ax hk h.aN (fun k e=>hS k (aL h.aN k e).1 (aL h.aN k e).2),fun y hy=>⟨ax hk (h.each y hy).1 (fun k e=>hS k (aL (h.each y hy).1 k e).1 (aL (h.each y hy).1 k e).2),ax hk (h.each y hy).2 (fun k e=>hS k (aL (h.each y hy).2 k e).1 (aL (h.each y hy).2 k e).2)⟩⟩
theorem iW{E:El α}{l:List α}(h:w.ownsRow B T E.k v l.length (fl E l)):Lz E w.heap.size w v l:=Or.inl ⟨aJ h,fun k hk=>(aL h k hk).2⟩
theorem Cg.gr{ys:List NV}{es:List dN}(h:Cg B w nv ev ys es)(hw:ys.length<=140737488355328/\es.length<=140737488355328)(hg:∀y∈ys,y.n.code.length<=140737488355328/\y.n.bT.length<=140737488355328):GR w.heap.size w nv ev ys es:=
 ⟨iW (E:=EV) h.nodes,iW (E:=ED) h.aN,fun y hy=>⟨iW (E:=EO) (h.each y hy).1,iW (E:=EC) (h.each y hy).2⟩,hg,hw⟩
theorem aU{base:Nat}(h:w.ownsRow base e size v n xs):∀p m c,v= .slice p m c->m=n/\n<=c:=by
 intro p m c hv;rcases h.2 with⟨h0,h1⟩|⟨g,cap,cur,h0,_,_,hn,_⟩
 ·rw[h0]at hv;simp only[vS]at hv;omega
 ·rw[h0]at hv;simp only[vS]at hv;omega
structure Cq(B:Nat)(w:World)(cb:Nat)(a:Int)(nv ev:Value)(zs:List NV)(es:List dN)(j:Nat):Prop where
 blk:w.heap[cb]? =some (.cells (iQ a nv ev) 25 (0,0))
 low:B<=cb
 nodes:w.ownsRow B 149 10 nv zs.length (fl EV zs)
 aN:w.ownsRow B 151 5 ev es.length (fl ED es)
 each:∀y∈zs.take j,w.ownsRow B 202 2 y.cv y.n.code.length (fl EO y.n.code)/\w.ownsRow B 205 5 y.dv y.n.bT.length (fl EC y.n.bT)
theorem Cq.below{cb:Nat}{ys:List NV}{es:List dN}(h:Cq B w cb a nv ev ys es j)(hb:Below w.heap.size w w'):Cq B w' cb a nv ev ys es j:=
 ⟨(hb.block _ (ae h.blk)).trans h.blk,h.low,ag h.nodes hb,ag h.aN hb,fun y hy=>⟨ag (h.each y hy).1 hb,ag (h.each y hy).2 hb⟩⟩
def NV.dX(y:NV)(q:Option Addr)(m c:Nat):NV:={ y with cq:=q,cm:=m,cc:=c }
def NV.jf(y:NV)(q:Option Addr)(m c:Nat):NV:={ y with dq:=q,dm:=m,dc:=c }
theorem Jr(zs:List NV)(i k:Nat)(y y':NV)(u:Value)(hi:zs[i]? =some y)(hk:k<10)(he:(EV.enc y).set k u=EV.enc y'):(fl EV zs).set (i*10+k) u=fl EV (zs.set i y'):=by
 induction zs generalizing i with
 | nil => simp at hi
 | cons z zs ih=>
  rw[aV];cases i with
  | zero=>
   simp at hi;subst hi;rw[qz,aV,<-he,Nat.zero_mul,nZ,List.set_append_left _ _ (by rw[EV.len];exact hk)]
  | succ i=>
   rw[jD,aV,<-ih i (by simpa using hi),show(i+1)*10+k=10+(i*10+k)by omega,List.set_append_right _ _ (by rw[EV.len];show 10<=_;omega)];rw[EV.len,show EV.k=10 from rfl,Nat.add_sub_cancel_left]
theorem MK{l:List α}{x:α}(h:l[j]? =some x):l.set j x=l:=by
 refine List.ext_getElem? fun k=> ?_;rw[List.getElem?_set];split
 ·rename_i e;subst e;rw[if_pos (lG.1 h).1,h]
 ·rfl
theorem jo{base:Nat}{g cap:Nat}(h:w.ownsRow base e size (.slice (some ⟨g,0,none⟩) n cap) n xs)(j:Nat)(u:Value):(w.setCell ⟨g,j,none⟩ u).ownsRow base e size (.slice (some ⟨g,0,none⟩) n cap) n (xs.set j u)/\Kp (fun k=>k=g) w (w.setCell ⟨g,j,none⟩ u):=by
 obtain⟨hx,hr⟩:=h;rcases hr with⟨h0,_⟩|⟨g',cap',cur,hv,hg,hh,hn,hm,hs,ht⟩
 ·cases h0
 ·simp only[vS,oI,aI]at hv;obtain⟨⟨rfl,-,-⟩,-,rfl⟩:=hv;have h2:=setCell_eq_setRow w g j _ _ _ u hh;have hk:Kp (fun k=>k=g) w (w.setCell ⟨g,j,none⟩ u):=by
   rw[h2];exact⟨rfl,rfl,rfl,by simp[World.setRow],fun k _ hne=>setRow_other w g k _ (by omega)⟩
  refine⟨⟨by simp[hx],Or.inr ⟨g,cap,cur.setIfInBounds j u,rfl,hg,by rw[h2,setRow_heap w g _ _ _ _ hh],hn,hm,by simp[hs], ?_⟩⟩,hk⟩;rw[Array.toList_setIfInBounds,List.take_set,ht]
def Cpd(w:World)(a:Int)(xs:List NV)(es:List dN)(r:Ending)(w':World):Prop:=∃Ud ev' ys,r= .returned (.agg (iQ a Ud ev'))/\Below w.heap.size w w'/\ys.map NV.n=xs.map NV.n/\Cg w.heap.size w' Ud ev' ys es
theorem lF{M:Nat}{xs:List NV}{es:List dN}(w:World)(hG:GR M w nv ev xs es)(hbg:xs.length*112<=140737488351232/\es.length*40<=140737488351232/\∀x∈xs,x.n.code.length*16<=140737488351232/\x.n.bT.length*40<=140737488351232):Calls Tryz.prog 69 #[.agg (iQ a nv ev)] w (Cpd w a xs es):=by
 have hmx:Tryz.prog.follows .mixedOrders=true:=by kernel_rfl
 obtain⟨pn,cn,Ow⟩:=hG.nodes.form;obtain⟨pe,ce,hev⟩:=hG.aN.form;obtain⟨nl,hnl⟩:=aD (xs.length);obtain⟨el,hel⟩:=aD (es.length);rw[<-hnl]at Ow;rw[<-hel]at hev;subst Ow;subst hev;have Ym:=hid hbg;have lL:=hid hnl;obtain⟨W0,hW0⟩:=aD ((w.alloc (.cells (iQ a (.slice pn nl cn) (.slice pe el ce)) 25)).alloc (.cells (iQ 0 (.slice none 0 0) (.slice none 0 0)) 25));have g0:=((Gr.refl w).alloc (.cells (iQ a (.slice pn nl cn) (.slice pe el ce)) 25)).alloc (.cells (iQ 0 (.slice none 0 0) (.slice none 0 0)) 25);have N1:Hid (W0.heap[w.heap.size]? =some (.cells (iQ a (.slice pn nl cn) (.slice pe el ce)) 25 (0,0))):=by rw[hW0];exact VS w _ _
 have N2:Hid (W0.heap[w.heap.size+1]? =some (.cells (iQ 0 (.slice none 0 0) (.slice none 0 0)) 25 (0,0))):=by rw[hW0];exact VR w _ _
 have HW:Hid ((w.alloc (.cells #[.int .i64 a, .slice pn nl cn, .slice pe el ce] 25)).alloc (.cells #[.int .i64 0, .slice none 0 0, .slice none 0 0] 25)=W0):=hW0.symm;rw[<-hW0]at g0;have HG:=hid (hG.below g0.below);have B0:=hid g0.below;clear hG g0 hW0 hnl hel hbg;go_enter Tryz.func69,Tryz.ntmps69;go_upto_region 1 with fail;rw[HW.o];clear HW;go_cut [3] (fun s3 w'=>∃cb Ud ev',s3= .pointer (some ⟨cb,0,none⟩)/\Hid (Below W0.heap.size W0 w'/\Cq W0.heap.size w' cb a Ud ev' xs es 0));case first=>
  have BD:Hid (Below W0.heap.size W0 W0.drew):=(Gr.refl _).drew.below;refine ay (S:=fun W=>Below W0.heap.size W0 W) (D:=[]) hmx ?_;generalize W0.drew=Wd at BD⊢;refine' av 0 BD.o ?_;refine' bB 1 BD.o ?h ?_;case h=>(intro W hSw;have hb:=(hSw.block _ (ae N1.o)).trans N1.o;have hc:=(aa hb).1;have hl:=ae hb;go_simp;try(with_reducible rfl))
  refine' av 2 BD.o ?_;refine' bB 3 BD.o ?h ?_;case h=>(intro W hSw;have hb:=(hSw.block _ (ae N1.o)).trans N1.o;have hc:=(aa hb).1;have hl:=ae hb;go_simp;try(with_reducible rfl))
  refine' av 5 BD.o ?_;refine' bB 6 BD.o ?h ?_;case h=>(intro W hSw;have hb:=(hSw.block _ (ae N1.o)).trans N1.o;have hc:=(aa hb).1;have hl:=ae hb;go_simp;try(with_reducible rfl))
  refine vH (i:=4) (j:=9) (oi:={dst:=some 10,op:= .call {callee:= .value (.func 111),args:=#[.tmp 9],argTypes:=#[22]},type:=22,pos:= "graph.go:153",after:=#[{on:=3,ground:= .data}],guard:=none}) (oj:={dst:=some 3,op:= .alloc 25,type:=0,pos:= "graph.go:153",after:=#[],guard:=none}) (by kernel_rfl) rfl rfl (fun K hK=> ?_) (fun K hK=> ?_)
  ·go_simp;refine(zO _ (HG.o.nodes.below BD.o) Ym.o.1).mono ?_;rintro r v7 ⟨d7,rfl,b7,o7⟩;have B7:=hid (BD.o.trans (b7.mono BD.o.size));have OV7:=hid (aM o7 BD.o.size);obtain⟨YC,YE,YF,hd7⟩:=aB o7;subst hd7;clear b7 o7;go_wp2_with fail;refine hK.o _ _ (fun hD=>B7.o) ?_;clear hK K;try simp only[Act.put,qI,q0,qS]
   refine vH (i:=7) (j:=9) (oi:={dst:=some 13,op:= .call {callee:= .value (.func 112),args:=#[.tmp 12],argTypes:=#[23]},type:=23,pos:= "graph.go:153",after:=#[{on:=6,ground:= .data},{on:=4,ground:= .chain}],guard:=none}) (oj:={dst:=some 3,op:= .alloc 25,type:=0,pos:= "graph.go:153",after:=#[],guard:=none}) (by kernel_rfl) rfl rfl (fun K hK=> ?_) (fun K hK=> ?_)
   ·go_simp;refine(sQ _ (HG.o.aN.below B7.o) Ym.o.2.1).mono ?_;rintro r v8 ⟨d8,rfl,b8,o8⟩;have B8:=hid (B7.o.trans (b8.mono B7.o.size));have OD8:=hid (aM o8 B7.o.size);have OV8:=hid (ag OV7.o b8);obtain⟨dp8,dm8,dc8,hd8⟩:=aB o8;subst hd8;clear b8 o8;go_wp2_with fail;refine hK.o _ _ (fun hD=>B8.o) ?_;clear hK K;try simp only[Act.put,qI,q0,qS]
    refine' av 8 B8.o ?_;refine bN 9 fun K hK=> ?_;go_simp;have g10:=(Gr.refl v8).alloc (.cells (iQ 0 (.slice none 0 0) (.slice none 0 0)) 25);have Yr:=hid (ai v8 (.cells (iQ 0 (.slice none 0 0) (.slice none 0 0)) 25));have aaK:=hid B8.o.size;obtain⟨cb,hcb⟩:=aD (v8.heap.size);obtain⟨V10,Sn⟩:=aD (v8.alloc (.cells (iQ 0 (.slice none 0 0) (.slice none 0 0)) 25));have HV:Hid (v8.alloc (.cells #[.int .i64 0, .slice none 0 0, .slice none 0 0] 25)=V10/\v8.heap.size=cb):=⟨Sn.symm,hcb.symm⟩;rw[<-Sn,<-hcb]at Yr;rw[<-Sn]at g10;rw[<-hcb]at aaK;rw[HV.o.1,HV.o.2];have B10:=hid (B8.o.trans (g10.below.mono B8.o.size));have aaC:=hid (ag OV8.o g10.below);have aaF:=hid (ag OD8.o g10.below);clear g10 Sn hcb HV;refine hK.o _ _ (fun hD=>B10.o) ?_;clear hK K;try simp only[Act.put,qI,q0,qS]
    refine bN 10 fun K hK=> ?_;have e1:=(aa Yr.o).1;have e2:=(aa Yr.o).2;have e3:=ae Yr.o;go_simp;obtain⟨wf,hwf⟩:=aD (((V10.setCell ⟨cb,0,none⟩ (.int .i64 a)).setCell ⟨cb,1,none⟩ (.slice YC YE YF)).setCell ⟨cb,2,none⟩ (.slice dp8 dm8 dc8));rw[<-hwf];have F:=D9 Yr.o (.int .i64 a) (.slice YC YE YF) (.slice dp8 dm8 dc8);rw[<-hwf]at F;clear hwf e1 e2 e3;have hlow:=aaK.o;have FB:Below W0.heap.size W0 wf:=B10.o.trans (F.2.below B10.o.size (fun k e=>by omega));have FQ:Hid (Cq W0.heap.size wf cb a (.slice YC YE YF) (.slice dp8 dm8 dc8) xs es 0):=⟨F.1,hlow,ax F.2 aaC.o (fun k e e2=>aH aaC.o Yr.o (by decide) k e e2),ax F.2 aaF.o (fun k e e2=>aH aaF.o Yr.o (by decide) k e e2),fun y hy=>(by simp at hy)⟩;refine hK.o _ _ (fun hD=>FB) ?_;clear hK K;try simp only[Act.put,qI,q0,qS]
    refine ak (by kernel_rfl) ?_ _;go_wp2_with fail;go_meet;exact⟨cb,_,_,rfl,FB,FQ.o⟩
   ·go_simp;have g12:=(Gr.refl v7).alloc (.cells (iQ 0 (.slice none 0 0) (.slice none 0 0)) 25);have C12:=hid (ai v7 (.cells (iQ 0 (.slice none 0 0) (.slice none 0 0)) 25));have aaJ:=hid B7.o.size;obtain⟨cb,hcb⟩:=aD (v7.heap.size);obtain⟨V12,Sl⟩:=aD (v7.alloc (.cells (iQ 0 (.slice none 0 0) (.slice none 0 0)) 25));have HV:Hid (v7.alloc (.cells #[.int .i64 0, .slice none 0 0, .slice none 0 0] 25)=V12/\v7.heap.size=cb):=⟨Sl.symm,hcb.symm⟩;rw[<-Sl,<-hcb]at C12;rw[<-Sl]at g12;rw[<-hcb]at aaJ;rw[HV.o.1,HV.o.2];have B12:=hid (B7.o.trans (g12.below.mono B7.o.size));have abJ:=hid (ag OV7.o g12.below);clear g12 Sl hcb HV;refine hK.o _ _ (fun hD=>B12.o) ?_;clear hK K;try simp only[Act.put,qI,q0,qS]
    refine bN 7 fun K hK=> ?_;go_simp;refine(sQ _ (HG.o.aN.below B12.o) Ym.o.2.1).mono ?_;rintro r v13 ⟨d13,rfl,b13,o13⟩;have B13:=hid (B12.o.trans (b13.mono B12.o.size));have aaE:=hid (aM o13 B12.o.size);have aaB:=hid (ag abJ.o b13);have Y5:=hid ((b13.block _ (ae C12.o)).trans C12.o);obtain⟨Xt,Xx,XB,abw⟩:=aB o13;subst abw;clear b13 o13;go_wp2_with fail;refine hK.o _ _ (fun hD=>B13.o) ?_;clear hK K;try simp only[Act.put,qI,q0,qS]
    refine' av 8 B13.o ?_;refine bN 10 fun K hK=> ?_;have e1:=(aa Y5.o).1;have e2:=(aa Y5.o).2;have e3:=ae Y5.o;go_simp;obtain⟨wf,hwf⟩:=aD (((v13.setCell ⟨cb,0,none⟩ (.int .i64 a)).setCell ⟨cb,1,none⟩ (.slice YC YE YF)).setCell ⟨cb,2,none⟩ (.slice Xt Xx XB));rw[<-hwf];have F:=D9 Y5.o (.int .i64 a) (.slice YC YE YF) (.slice Xt Xx XB);rw[<-hwf]at F;clear hwf e1 e2 e3;have hlow:=aaJ.o;have FB:Below W0.heap.size W0 wf:=B13.o.trans (F.2.below B13.o.size (fun k e=>by omega));have FQ:Hid (Cq W0.heap.size wf cb a (.slice YC YE YF) (.slice Xt Xx XB) xs es 0):=⟨F.1,hlow,ax F.2 aaB.o (fun k e e2=>aH aaB.o Y5.o (by decide) k e e2),ax F.2 aaE.o (fun k e e2=>aH aaE.o Y5.o (by decide) k e e2),fun y hy=>(by simp at hy)⟩;refine hK.o _ _ (fun hD=>FB) ?_;clear hK K;try simp only[Act.put,qI,q0,qS]
    refine ak (by kernel_rfl) ?_ _;go_wp2_with fail;go_meet;exact⟨cb,_,_,rfl,FB,FQ.o⟩
  ·go_simp;have g16:=(Gr.refl Wd).alloc (.cells (iQ 0 (.slice none 0 0) (.slice none 0 0)) 25);have C16:=hid (ai Wd (.cells (iQ 0 (.slice none 0 0) (.slice none 0 0)) 25));have aaI:=hid BD.o.size;obtain⟨cb,hcb⟩:=aD (Wd.heap.size);obtain⟨V16,Sk⟩:=aD (Wd.alloc (.cells (iQ 0 (.slice none 0 0) (.slice none 0 0)) 25));have HV:Hid (Wd.alloc (.cells #[.int .i64 0, .slice none 0 0, .slice none 0 0] 25)=V16/\Wd.heap.size=cb):=⟨Sk.symm,hcb.symm⟩;rw[<-Sk,<-hcb]at C16;rw[<-Sk]at g16;rw[<-hcb]at aaI;rw[HV.o.1,HV.o.2];have B16:=hid (BD.o.trans (g16.below.mono BD.o.size));clear g16 Sk hcb HV;refine hK.o _ _ (fun hD=>B16.o) ?_;clear hK K;try simp only[Act.put,qI,q0,qS]
   refine bN 4 fun K hK=> ?_;go_simp;refine(zO _ (HG.o.nodes.below B16.o) Ym.o.1).mono ?_;rintro r v17 ⟨d17,rfl,b17,o17⟩;have B17:=hid (B16.o.trans (b17.mono B16.o.size));have abI:=hid (aM o17 B16.o.size);have C17:=hid ((b17.block _ (ae C16.o)).trans C16.o);obtain⟨Xr,Xw,XA,abv⟩:=aB o17;subst abv;clear b17 o17;go_wp2_with fail;refine hK.o _ _ (fun hD=>B17.o) ?_;clear hK K;try simp only[Act.put,qI,q0,qS]
   refine bN 7 fun K hK=> ?_;go_simp;refine(sQ _ (HG.o.aN.below B17.o) Ym.o.2.1).mono ?_;rintro r v18 ⟨d18,rfl,b18,o18⟩;have B18:=hid (B17.o.trans (b18.mono B17.o.size));have aaD:=hid (aM o18 B17.o.size);have aaA:=hid (ag abI.o b18);have Y4:=hid ((b18.block _ (ae C17.o)).trans C17.o);obtain⟨Xq,Xv,Xz,abu⟩:=aB o18;subst abu;clear b18 o18;go_wp2_with fail;refine hK.o _ _ (fun hD=>B18.o) ?_;clear hK K;try simp only[Act.put,qI,q0,qS]
   refine' av 8 B18.o ?_;refine bN 10 fun K hK=> ?_;have e1:=(aa Y4.o).1;have e2:=(aa Y4.o).2;have e3:=ae Y4.o;go_simp;obtain⟨wf,hwf⟩:=aD (((v18.setCell ⟨cb,0,none⟩ (.int .i64 a)).setCell ⟨cb,1,none⟩ (.slice Xr Xw XA)).setCell ⟨cb,2,none⟩ (.slice Xq Xv Xz));rw[<-hwf];have F:=D9 Y4.o (.int .i64 a) (.slice Xr Xw XA) (.slice Xq Xv Xz);rw[<-hwf]at F;clear hwf e1 e2 e3;have hlow:=aaI.o;have FB:Below W0.heap.size W0 wf:=B18.o.trans (F.2.below B18.o.size (fun k e=>by omega));have FQ:Hid (Cq W0.heap.size wf cb a (.slice Xr Xw XA) (.slice Xq Xv Xz) xs es 0):=⟨F.1,hlow,ax F.2 aaA.o (fun k e e2=>aH aaA.o Y4.o (by decide) k e e2),ax F.2 aaD.o (fun k e e2=>aH aaD.o Y4.o (by decide) k e e2),fun y hy=>(by simp at hy)⟩;refine hK.o _ _ (fun hD=>FB) ?_;clear hK K;try simp only[Act.put,qI,q0,qS]
   refine ak (by kernel_rfl) ?_ _;go_wp2_with fail;go_meet;exact⟨cb,_,_,rfl,FB,FQ.o⟩
 case rest=>
  obtain⟨cb,Ud,ev',rfl,HQ⟩:=hcut;have rU:=hid B0.o.size;have hq:=HQ.o.2;obtain⟨qn,mn,YG,hv9⟩:=aB hq.nodes;obtain rfl:mn=nl:=by
   have h:=(aU hq.nodes _ _ _ hv9).1;have:=lL.o;omega
  subst hv9;have c1:=(aa hq.blk).1;have l1:=ae hq.blk;clear hq;go_upto_region 3 with fail;clear c1 l1;go_loopw [18] (fun Vy wr=>∃(j:Nat) (zs:List NV),j<=mn/\Vy= .int .i64 (j:Nat)/\Hid (Below W0.heap.size W0 wr/\Cq W0.heap.size wr cb a (.slice qn mn YG) ev' zs es j/\zs.map NV.n=xs.map NV.n/\zs.drop j=xs.drop j)) (fun Vy _=>mn-(intOf Vy).toNat);case atStart=>exact⟨0,xs,zL _,rfl,HQ.o.1,HQ.o.2,rfl,rfl⟩
  case round=>
   clear HQ;obtain⟨j,zs,hj,rfl,HI⟩:=hrel;have HZL:Hid (zs.length=mn):=by
    have h:=congrArg List.length HI.o.2.2.1;simp only[fQ]at h;show _=_;rw[h,lL.o]
   by_cases hlt:j<mn
   ·have hltz:(j:Int)<(mn:Int):=(by omega);have hj0:(0:Int)<=(j:Int):=(by omega);have Ur:mn<=140737488351232:=(by have:=Ym.o.1;have:=lL.o;omega);obtain⟨y,hy⟩:∃y,zs[j]? =some y:=⟨zs[j]'(by have:=HZL.o;omega),by simp⟩;have hyx:xs[j]? =some y:=by
     have h:=congrArg List.head? HI.o.2.2.2;rw[List.head?_drop,List.head?_drop,hy]at h;exact h.symm
    have hym:=lM hyx;obtain⟨b1,o1,q1,fO,rP,x0,x1,x2,x3,x4,x5,x6,x7,x8,x9⟩:=jX (aJ (E:=EV) HI.o.2.1.nodes) hy;have hq0:q1=YG/\o1=0:=by
     rcases HI.o.2.1.nodes.2 with⟨h0,_⟩|⟨g,cap,cur,h0,_⟩
     ·rw[fO]at h0;cases h0
     ·rw[fO]at h0;simp only[vS,oI,aI]at h0 fO;exact⟨fO.2.2.symm,h0.1.2.1⟩
    obtain⟨rfl,rfl⟩:=hq0;simp only[vS]at fO;obtain⟨rfl,-,-⟩:=fO;simp only[nZ]at x0 x1 x2 x3 x4 x5 x6 x7 x8 x9;have HY:Hid (zs[j]? =some y/\xs[j]? =some y):=⟨hy,hyx⟩;have NRY:=hid ((HG.o.each y hym).below (HI.o.1));have HSZ:=hid (Ym.o.2.2 y hym);clear hy hyx hym;obtain⟨yb,hyb⟩:=aD (wr.heap.size);obtain⟨W5,bV⟩:=aD (wr.alloc (.cells y.cells 149));have P5:Hid (Below wr.heap.size wr W5/\W5.heap[yb]? =some (.cells y.cells 149 (0,0))/\wr.heap.size<=yb):=by
     rw[bV,hyb];exact⟨((Gr.refl wr).alloc _).below,ai _ _,nR _⟩
    have gU:Hid (wr.alloc (.cells #[.int .i64 y.n.kind, .int .i64 y.n.ins, .int .i64 y.n.outs, .slice y.cq y.cm y.cc, .int .u64 (y.n.via.1:Nat), .int .u64 (y.n.via.2.1:Nat), .int .u64 (y.n.via.2.2:Nat), .int .u64 (y.n.bound:Nat), .slice y.dq y.dm y.dc, .bool y.n.start] 149)=W5/\wr.heap.size=yb):=⟨bV.symm,hyb.symm⟩;clear bV hyb;go_upto_region 5 with fail;rw[gU.o.1,gU.o.2];clear gU x0 x1 x2 x3 x4 x5 x6 x7 x8 x9 rP;have Q5:=hid (HI.o.2.1.below P5.o.1);have YL:=hid (HI.o.1.trans (P5.o.1.mono HI.o.1.size));have NR5:=hid (NRY.o.below P5.o.1);have hS0:W5.drew.heap[cb]? =some (.cells (iQ a (.slice (some ⟨b1,0,none⟩) mn q1) ev') 25 (0,0))/\W5.drew.heap[yb]? =some (.cells y.cells 149 (0,0)):=⟨Q5.o.blk,P5.o.2.1⟩;refine ay (S:=fun W=>W.heap[cb]? =some (.cells (iQ a (.slice (some ⟨b1,0,none⟩) mn q1) ev') 25 (0,0))/\W.heap[yb]? =some (.cells y.cells 149 (0,0))) (D:=[]) hmx ?_;refine' av 0 hS0 ?_;refine' bB 1 hS0 ?h ?_;case h=>(intro W hSw;have hc:=(aa hSw.1).1;have hl:=ae hSw.1;go_simp;try(with_reducible rfl))
    refine' av 2 hS0 ?_;refine' av 3 hS0 ?_;refine' bB 4 hS0 ?h ?_;case h=>(intro W hSw;have hc:=(aa hSw.1).1;have hl:=ae hSw.1;go_simp;try(with_reducible rfl))
    refine' av 5 hS0 ?_;refine' av 6 hS0 ?_;refine' bB 7 hS0 ?h ?_;case h=>(intro W hSw;have hc:=(aa hSw.2).1;have hl:=ae hSw.2;go_simp;try(with_reducible rfl))
    refine' av 9 hS0 ?_;refine' bB 10 hS0 ?h ?_;case h=>(intro W hSw;have hc:=(aa hSw.2).1;have hl:=ae hSw.2;go_simp;try(with_reducible rfl))
    refine bN 8 fun K hK=> ?_;go_simp;refine(KH _ (NR5.o.code.below (Gr.refl W5).drew.below) HSZ.o.1).mono ?_;rintro r w6 ⟨v31,rfl,b6,o6⟩;have B6:=hid ((Gr.refl W5).drew.below.trans (b6.mono (Gr.refl W5).drew.size));have O6:=hid (aM o6 (nT YL.o.size (Gr.refl W5).drew.size));have L6:Hid (∀k,v31.ownBlock=some k->W5.heap.size<=k):=fun k e=>(aL o6 k e).1;have oW:=(show _/\_ from⟨(b6.block _ (ae hS0.1)).trans hS0.1,(b6.block _ (ae hS0.2)).trans hS0.2⟩);obtain⟨IU,Jc,c31,hv31⟩:=aB o6;subst hv31;clear b6 o6;go_wp2_with fail;refine hK.o _ _ (fun hD=>oW) ?_;clear hK K;try simp only[Act.put,qI,q0,qS]
    refine bN 11 fun K hK=> ?_;go_simp;refine(zP _ (NR5.o.bT.below B6.o) HSZ.o.2).mono ?_;rintro r w7 ⟨v34,rfl,b7,o7⟩;have B7:=hid (B6.o.trans (b7.mono B6.o.size));have O7:=hid (aM o7 (nT YL.o.size B6.o.size));have O67:=hid (ag O6.o b7);have bf:=(show _/\_ from⟨(b7.block _ (ae oW.1)).trans oW.1,(b7.block _ (ae oW.2)).trans oW.2⟩);obtain⟨Q8,RH,c34,hv34⟩:=aB o7;subst hv34;clear b7 o7;go_wp2_with fail;refine hK.o _ _ (fun hD=>bf) ?_;clear hK K;try simp only[Act.put,qI,q0,qS]
    refine' av 12 bf ?_;refine' av 13 bf ?_;refine bN 14 fun K hK=> ?_;have QN:=hid (Q5.o.below B7.o);have Z4:=HZL.o;have QM:w7.ownsRow W0.heap.size 149 10 (.slice (some ⟨b1,0,none⟩) zs.length q1) zs.length (fl EV zs):=by
     have h:=QN.o.nodes;rw[<-Z4]at h;exact h
    have fr:=QM.frozenAt;have hlb:=(aL QN.o.nodes b1 rfl).2;have WS:w7.cell? ⟨b1,j*10+3,none⟩=some (.slice y.cq y.cm y.cc):=by
     obtain⟨b9,o9,q9,e9,-,-,-,-,h3,-⟩:=jX (aJ (E:=EV) QN.o.nodes) HY.o.1;simp only[vS,oI,aI]at e9;obtain⟨⟨rfl,rfl,-⟩,-,rfl⟩:=e9;rw[nZ]at h3;exact h3
    go_simp;have O14:=jo (u:= .slice IU Jc c31) QM (j*10+3);obtain⟨w8,hw8⟩:=aD (w7.setCell ⟨b1,j*10+3,none⟩ (.slice IU Jc c31));rw[<-hw8]at O14;rw[<-hw8];have N14:Hid (w8.ownsRow W0.heap.size 149 10 (.slice (some ⟨b1,0,none⟩) zs.length q1) zs.length (fl EV (zs.set j (y.dX IU Jc c31)))):=aS O14.1 rfl (Jr zs j 3 y _ _ HY.o.1 (by decide) rfl);have K14:=hid O14.2;have iP:w8.heap[cb]? =some (.cells (iQ a (.slice (some ⟨b1,0,none⟩) mn q1) ev') 25 (0,0))/\w8.heap[yb]? =some (.cells y.cells 149 (0,0)):=⟨(K14.o.block _ (ae bf.1) (fun e=>aH QN.o.nodes bf.1 (by decide) b1 rfl e.symm)).trans bf.1,(K14.o.block _ (ae bf.2) (fun e=>by have h1:=P5.o.2.2;have h2:=(aL HI.o.2.1.nodes b1 rfl).2;omega)).trans bf.2⟩;clear O14 hw8 fr hlb WS Z4 QM;refine hK.o _ _ (fun hD=>iP) ?_;clear hK K;try simp only[Act.put,qI,q0,qS]
    refine' av 15 iP ?_;refine' av 16 iP ?_;refine bN 17 fun K hK=> ?_;have fr:=N14.o.frozenAt;have hlb:=(aL N14.o b1 rfl).2;have hzl:(zs.set j (y.dX IU Jc c31)).length=zs.length:=(by simp);have WS:w8.cell? ⟨b1,j*10+8,none⟩=some (.slice y.dq y.dm y.dc):=by
     obtain⟨b9,o9,q9,e9,-,-,-,-,-,-,-,-,-,h3,-⟩:=jX (ts:=zs.set j (y.dX IU Jc c31)) (x:=y.dX IU Jc c31) (aJ (E:=EV) (aS N14.o hzl.symm rfl)) (by rw[List.getElem?_set_self (lG.1 HY.o.1).1]);simp only[vS,oI,aI]at e9;obtain⟨⟨rfl,rfl,-⟩,-,rfl⟩:=e9;rw[nZ]at h3;exact h3
    go_simp;have YK:=jo (u:= .slice Q8 RH c34) N14.o (j*10+8);obtain⟨w9,yB⟩:=aD (w8.setCell ⟨b1,j*10+8,none⟩ (.slice Q8 RH c34));rw[<-yB]at YK;rw[<-yB];have N17:Hid (w9.ownsRow W0.heap.size 149 10 (.slice (some ⟨b1,0,none⟩) zs.length q1) zs.length (fl EV (zs.set j ((y.dX IU Jc c31).jf Q8 RH c34)))):=aS YK.1 rfl (by rw[Jr (zs.set j (y.dX IU Jc c31)) j 8 (y.dX IU Jc c31) ((y.dX IU Jc c31).jf Q8 RH c34) (.slice Q8 RH c34) (by rw[List.getElem?_set_self (lG.1 HY.o.1).1]) (by decide) rfl,List.set_set]);have K17:=hid (K14.o.trans YK.2 (fun _ _ h=>h));have jG:w9.heap[cb]? =some (.cells (iQ a (.slice (some ⟨b1,0,none⟩) mn q1) ev') 25 (0,0))/\w9.heap[yb]? =some (.cells y.cells 149 (0,0)):=⟨(YK.2.block _ (ae iP.1) (fun e=>aH N14.o iP.1 (by decide) b1 rfl e.symm)).trans iP.1,(YK.2.block _ (ae iP.2) (fun e=>by have h1:=P5.o.2.2;have h2:=(aL HI.o.2.1.nodes b1 rfl).2;omega)).trans iP.2⟩;clear YK yB fr hlb WS hzl;have FIN:Hid (Below W0.heap.size W0 w9/\Cq W0.heap.size w9 cb a (.slice (some ⟨b1,0,none⟩) mn q1) ev' (zs.set j ((y.dX IU Jc c31).jf Q8 RH c34)) es (j+1)/\(zs.set j ((y.dX IU Jc c31).jf Q8 RH c34)).map NV.n=xs.map NV.n/\(zs.set j ((y.dX IU Jc c31).jf Q8 RH c34)).drop (j+1)=xs.drop (j+1)):=by
     have hjl:=(lG.1 HY.o.1).1;have Qg:=YL.o.trans (B7.o.mono YL.o.size);have neq:∀{e:TypeId} {size n:Nat} {v:Value} {vs:List Value},w7.ownsRow W0.heap.size e size v n vs->e≠149->w9.ownsRow W0.heap.size e size v n vs:=fun h hT=>ax K17.o h (fun k e e2=>aF h QN.o.nodes hT k e (by rw[e2];rfl));refine⟨Qg.trans (K17.o.below Qg.size (fun k e=>by rw[e];exact(aL QN.o.nodes b1 rfl).1)),⟨jG.1,QN.o.low,aS (n:=zs.length) (by have h:=N17.o;rw[show(Value.slice (some ⟨b1,0,none⟩) zs.length q1)= .slice (some ⟨b1,0,none⟩) mn q1 by rw[HZL.o]]at h;exact h) (by simp) rfl,neq QN.o.aN (by decide),fun x hx=> ?_⟩, ?_, ?_⟩
     ·rw[tO,List.take_set_of_le (nR _),List.getElem?_set_self hjl]at hx;rcases j3.1 hx with hx|hx
      ·exact⟨neq (QN.o.each x hx).1 (by decide),neq (QN.o.each x hx).2 (by decide)⟩
      ·simp at hx;subst hx;exact⟨neq O67.o (by decide),neq O7.o (by decide)⟩
     ·rw[List.map_set];have:(zs.map NV.n)[j]? =some y.n:=(by simp[HY.o.1]);show(zs.map NV.n).set j y.n=_;rw[MK this];exact HI.o.2.2.1
     ·rw[List.drop_set_of_lt (by omega)];have h:=congrArg List.tail HI.o.2.2.2
      rwa [List.tail_drop,List.tail_drop]at h
    refine hK.o _ _ (fun hD=>jG) ?_;clear hK K;try simp only[Act.put,qI,q0,qS]
    refine ak (by kernel_rfl) ?_ _;clear hS0 oW bf iP jG;go_wp2_with fail;go_roundw;case rel=>exact⟨j+1,zs.set j ((y.dX IU Jc c31).jf Q8 RH c34),by omega,by go_num,FIN.o⟩
    case measure=>simp[intOf];omega
   ·have hltz:¬(j:Int)<(mn:Int):=(by omega);have HE:Hid (∀y∈zs,wr.ownsRow W0.heap.size 202 2 y.cv y.n.code.length (fl EO y.n.code)/\wr.ownsRow W0.heap.size 205 5 y.dv y.n.bT.length (fl EC y.n.bT)):=fun y hy=>HI.o.2.1.each y (by rw[tL (by have:=HZL.o;omega)];exact hy);have hn2:=(HI.o.1.block _ (ae N2.o)).trans N2.o;have c2:=(aa hn2).1;have f2:=(aa hn2).2;have l2:=ae hn2;have c1:=(aa HI.o.2.1.blk).1;have l1:=ae HI.o.2.1.blk;obtain⟨qe,me,cee,abt⟩:=aB HI.o.2.1.aN;subst abt;have HN2:=hid hn2;clear hn2;go_wp2_with fail;obtain⟨wf,hwf⟩:=aD (((wr.setCell ⟨w.heap.size+1,0,none⟩ (.int .i64 a)).setCell ⟨w.heap.size+1,1,none⟩ (.slice qn mn YG)).setCell ⟨w.heap.size+1,2,none⟩ (.slice qe me cee));rw[<-hwf];obtain⟨hbf,hkf⟩:wf.heap[w.heap.size+1]? =some (.cells #[.int .i64 a, .slice qn mn YG, .slice qe me cee] 25 (0,0))/\Kp (fun k=>k=w.heap.size+1) wr wf:=by
     rw[hwf];exact D9 HN2.o _ _ _
    clear hwf c1 c2 l1 l2 f2;obtain⟨qf,-⟩:=aa hbf;have hlf:=ae hbf;refine bR (v:= .agg #[.int .i64 a, .slice qn mn YG, .slice qe me cee]) (by simp[results,Tryz.results69,go_sem,qf]) rfl ?_;have hlo:=ae N2.o;have hbw:=B0.o.trans (HI.o.1.mono B0.o.size);have hC:Cg W0.heap.size wr (.slice qn mn YG) (.slice qe me cee) zs es:=⟨HI.o.2.1.nodes,HI.o.2.1.aN,HE.o⟩;exact⟨_,_,zs,rfl,hbw.trans (hkf.below hbw.size (fun k e=>by omega)),HI.o.2.2.1,(hC.kp hkf (fun k h1 h2 e=>by omega)).base B0.o.size⟩
end Go.Proofs.YteekbpokkjjipaaGreat.Df
