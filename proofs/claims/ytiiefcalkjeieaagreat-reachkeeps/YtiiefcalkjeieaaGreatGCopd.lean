import Derived.Test.YtiiefcalkjeieaaGreatJ10
import Derived.Lib.OwnKind
import Derived.Laws.OwnMore
variable{w w':Go.World}{B size n B' j:Nat}{nv ev v:Go.Value}{e T:Go.TypeId}{xs:List Go.Value}{α:Type}{a:Int}
set_option maxHeartbeats 8000000
set_option maxRecDepth 100000
namespace Go.Proofs.YtiiefcalkjeieaaGreat.Df
open Go.RowKit Go.Sort
attribute[local go_sem ↓]wp_at_zero wp_at_succ
structure Cg(B:Nat)(w:World)(nv ev:Value)(ys:List NV)(es:List dQ):Prop where
 nodes:w.ownsRow B 149 10 nv ys.length (fl EV ys)
 aM:w.ownsRow B 151 5 ev es.length (fl ED es)
 each:∀y∈ys,w.ownsRow B 202 2 y.cv y.n.code.length (fl EO y.n.code)/\w.ownsRow B 205 5 y.dv y.n.bT.length (fl EC y.n.bT)
theorem aF{b:Nat}{cs:Array Value}{z:Nat×Nat}(h:w.ownsRow B e size v n xs)(hb:w.heap[b]? =some (.cells cs T z))(hT:e≠T):∀k,v.ownBlock=some k->k≠b:=fun k hk e2=>by
 obtain⟨c,f,hc⟩:=Lib.ownsRow_kind h k hk;rw[e2,hb]at hc;simp only[oI,Obj.cells.injEq]at hc;exact hT hc.2.1.symm
theorem aD{e':TypeId}{size' n':Nat}{v':Value}{xs':List Value}(h:w.ownsRow B e size v n xs)(h':w.ownsRow B' e' size' v' n' xs')(hT:e≠e'):∀k,v.ownBlock=some k->v'.ownBlock≠some k:=fun k hk hk'=>by
 obtain⟨c,f,hc⟩:=Lib.ownsRow_kind h' k hk';exact aF h hc hT k hk rfl
theorem Cg.base{ys:List NV}{es:List dQ}(h:Cg B w nv ev ys es)(hb:B'<=B):Cg B' w nv ev ys es:=
 ⟨aL h.nodes hb,aL h.aM hb,fun y hy=>⟨aL (h.each y hy).1 hb,aL (h.each y hy).2 hb⟩⟩
theorem Cg.kp{S:Nat->Prop}{ys:List NV}{es:List dQ}(h:Cg B w nv ev ys es)(hk:Kp S w w')(hS:∀k,B<=k->k<w.heap.size->¬S k):Cg B w' nv ev ys es:=
 ⟨av hk h.nodes (fun k e=>hS k (aK h.nodes k e).1 (aK h.nodes k e).2),av hk h.aM (fun k e=>hS k (aK h.aM k e).1 (aK h.aM k e).2),fun y hy=>⟨av hk (h.each y hy).1 (fun k e=>hS k (aK (h.each y hy).1 k e).1 (aK (h.each y hy).1 k e).2),av hk (h.each y hy).2 (fun k e=>hS k (aK (h.each y hy).2 k e).1 (aK (h.each y hy).2 k e).2)⟩⟩
theorem iZ{E:El α}{l:List α}(h:w.ownsRow B T E.k v l.length (fl E l)):Lz E w.heap.size w v l:=Or.inl ⟨aH h,fun k hk=>(aK h k hk).2⟩
theorem Cg.gr{ys:List NV}{es:List dQ}(h:Cg B w nv ev ys es)(hw:ys.length<=140737488355328/\es.length<=140737488355328)(hg:∀y∈ys,y.n.code.length<=140737488355328/\y.n.bT.length<=140737488355328):GR w.heap.size w nv ev ys es:=
 ⟨iZ (E:=EV) h.nodes,iZ (E:=ED) h.aM,fun y hy=>⟨iZ (E:=EO) (h.each y hy).1,iZ (E:=EC) (h.each y hy).2⟩,hg,hw⟩
theorem aZ{base:Nat}(h:w.ownsRow base e size v n xs):∀p m c,v= .slice p m c->m=n/\n<=c:=by
 intro p m c hv;rcases h.2 with⟨h0,h1⟩|⟨g,cap,cur,h0,_,_,hn,_⟩
 ·rw[h0]at hv;simp only[vS]at hv;omega
 ·rw[h0]at hv;simp only[vS]at hv;omega
structure Cq(B:Nat)(w:World)(cb:Nat)(a:Int)(nv ev:Value)(zs:List NV)(es:List dQ)(j:Nat):Prop where
 blk:w.heap[cb]? =some (.cells (jc a nv ev) 25 (0,0))
 low:B<=cb
 nodes:w.ownsRow B 149 10 nv zs.length (fl EV zs)
 aM:w.ownsRow B 151 5 ev es.length (fl ED es)
 each:∀y∈zs.take j,w.ownsRow B 202 2 y.cv y.n.code.length (fl EO y.n.code)/\w.ownsRow B 205 5 y.dv y.n.bT.length (fl EC y.n.bT)
theorem Cq.below{cb:Nat}{ys:List NV}{es:List dQ}(h:Cq B w cb a nv ev ys es j)(hb:Below w.heap.size w w'):Cq B w' cb a nv ev ys es j:=
 ⟨(hb.block _ (ae h.blk)).trans h.blk,h.low,ag h.nodes hb,ag h.aM hb,fun y hy=>⟨ag (h.each y hy).1 hb,ag (h.each y hy).2 hb⟩⟩
def NV.dZ(y:NV)(q:Option Addr)(m c:Nat):NV:={ y with cq:=q,cm:=m,cc:=c }
def NV.jh(y:NV)(q:Option Addr)(m c:Nat):NV:={ y with dq:=q,dm:=m,dc:=c }
theorem JL(zs:List NV)(i k:Nat)(y y':NV)(u:Value)(hi:zs[i]? =some y)(hk:k<10)(he:(EV.enc y).set k u=EV.enc y'):(fl EV zs).set (i*10+k) u=fl EV (zs.set i y'):=by
 induction zs generalizing i with
 | nil => simp at hi
 | cons z zs ih=>
  rw[aO];cases i with
  | zero=>
   simp at hi;subst hi;rw[List.set_cons_zero,aO,<-he,Nat.zero_mul,nZ,List.set_append_left _ _ (by rw[EV.len];exact hk)]
  | succ i=>
   rw[List.set_cons_succ,aO,<-ih i (by simpa using hi),show(i+1)*10+k=10+(i*10+k)by omega,List.set_append_right _ _ (by rw[EV.len];show 10<=_;omega)];rw[EV.len,show EV.k=10 from rfl,Nat.add_sub_cancel_left]
theorem Ng{l:List α}{x:α}(h:l[j]? =some x):l.set j x=l:=by
 refine List.ext_getElem? fun k=> ?_;rw[List.getElem?_set];split
 ·rename_i e;subst e;rw[if_pos (lG.1 h).1,h]
 ·rfl
theorem jr{base:Nat}{g cap:Nat}(h:w.ownsRow base e size (.slice (some ⟨g,0,none⟩) n cap) n xs)(j:Nat)(u:Value):(w.setCell ⟨g,j,none⟩ u).ownsRow base e size (.slice (some ⟨g,0,none⟩) n cap) n (xs.set j u)/\Kp (fun k=>k=g) w (w.setCell ⟨g,j,none⟩ u):=by
 obtain⟨hx,hr⟩:=h;rcases hr with⟨h0,_⟩|⟨g',cap',cur,hv,hg,hh,hn,hm,hs,ht⟩
 ·cases h0
 ·simp only[vS,oI,aI]at hv;obtain⟨⟨rfl,-,-⟩,-,rfl⟩:=hv;have h2:=setCell_eq_setRow w g j _ _ _ u hh;have hk:Kp (fun k=>k=g) w (w.setCell ⟨g,j,none⟩ u):=by
   rw[h2];exact⟨rfl,rfl,rfl,by simp[World.setRow],fun k _ hne=>setRow_other w g k _ (by omega)⟩
  refine⟨⟨by simp[hx],Or.inr ⟨g,cap,cur.setIfInBounds j u,rfl,hg,by rw[h2,setRow_heap w g _ _ _ _ hh],hn,hm,by simp[hs], ?_⟩⟩,hk⟩;rw[Array.toList_setIfInBounds,List.take_set,ht]
def Cpd(w:World)(a:Int)(xs:List NV)(es:List dQ)(r:Ending)(w':World):Prop:=∃UM ev' ys,r= .returned (.agg (jc a UM ev'))/\Below w.heap.size w w'/\ys.map NV.n=xs.map NV.n/\Cg w.heap.size w' UM ev' ys es
theorem lJ{M:Nat}{xs:List NV}{es:List dQ}(w:World)(hG:GR M w nv ev xs es)(hbg:xs.length*112<=140737488351232/\es.length*40<=140737488351232/\∀x∈xs,x.n.code.length*16<=140737488351232/\x.n.bT.length*40<=140737488351232):Calls Tryz.prog 69 #[.agg (jc a nv ev)] w (Cpd w a xs es):=by
 have hmx:Tryz.prog.follows .mixedOrders=true:=by kernel_rfl
 obtain⟨pn,cn,O4⟩:=hG.nodes.form;obtain⟨pe,ce,hev⟩:=hG.aM.form;obtain⟨nl,hnl⟩:=aC (xs.length);obtain⟨el,hel⟩:=aC (es.length);rw[<-hnl]at O4;rw[<-hel]at hev;subst O4;subst hev;have YH:=hid hbg;have lW:=hid hnl;obtain⟨W0,hW0⟩:=aC ((w.alloc (.cells (jc a (.slice pn nl cn) (.slice pe el ce)) 25)).alloc (.cells (jc 0 (.slice none 0 0) (.slice none 0 0)) 25));have g0:=((Gr.refl w).alloc (.cells (jc a (.slice pn nl cn) (.slice pe el ce)) 25)).alloc (.cells (jc 0 (.slice none 0 0) (.slice none 0 0)) 25);have N1:Hid (W0.heap[w.heap.size]? =some (.cells (jc a (.slice pn nl cn) (.slice pe el ce)) 25 (0,0))):=by rw[hW0];exact Wo w _ _
 have N2:Hid (W0.heap[w.heap.size+1]? =some (.cells (jc 0 (.slice none 0 0) (.slice none 0 0)) 25 (0,0))):=by rw[hW0];exact Wn w _ _
 have HW:Hid ((w.alloc (.cells #[.int .i64 a, .slice pn nl cn, .slice pe el ce] 25)).alloc (.cells #[.int .i64 0, .slice none 0 0, .slice none 0 0] 25)=W0):=hW0.symm;rw[<-hW0]at g0;have HG:=hid (hG.below g0.below);have B0:=hid g0.below;clear hG g0 hW0 hnl hel hbg;go_enter Tryz.func69,Tryz.ntmps69;go_upto_region 1 with fail;rw[HW.o];clear HW;go_cut [3] (fun s3 w'=>∃cb UM ev',s3= .pointer (some ⟨cb,0,none⟩)/\Hid (Below W0.heap.size W0 w'/\Cq W0.heap.size w' cb a UM ev' xs es 0));case first=>
  have BD:Hid (Below W0.heap.size W0 W0.drew):=(Gr.refl _).drew.below;refine ax (S:=fun W=>Below W0.heap.size W0 W) (D:=[]) hmx ?_;generalize W0.drew=Wd at BD⊢;refine' aj 0 BD.o ?_;refine' bu 1 BD.o ?h ?_;case h=>(intro W hSw;have hb:=(hSw.block _ (ae N1.o)).trans N1.o;have hc:=(aa hb).1;have hl:=ae hb;go_simp;try(with_reducible rfl))
  refine' aj 2 BD.o ?_;refine' bu 3 BD.o ?h ?_;case h=>(intro W hSw;have hb:=(hSw.block _ (ae N1.o)).trans N1.o;have hc:=(aa hb).1;have hl:=ae hb;go_simp;try(with_reducible rfl))
  refine' aj 5 BD.o ?_;refine' bu 6 BD.o ?h ?_;case h=>(intro W hSw;have hb:=(hSw.block _ (ae N1.o)).trans N1.o;have hc:=(aa hb).1;have hl:=ae hb;go_simp;try(with_reducible rfl))
  refine vO (i:=4) (j:=9) (oi:={dst:=some 10,op:= .call {callee:= .value (.func 111),args:=#[.tmp 9],argTypes:=#[22]},type:=22,pos:= "graph.go:153",after:=#[{on:=3,ground:= .data}],guard:=none}) (oj:={dst:=some 3,op:= .alloc 25,type:=0,pos:= "graph.go:153",after:=#[],guard:=none}) (by kernel_rfl) rfl rfl (fun K hK=> ?_) (fun K hK=> ?_)
  ·go_simp;refine(Ai _ (HG.o.nodes.below BD.o) YH.o.1).mono ?_;rintro r v7 ⟨d7,rfl,b7,o7⟩;have B7:=hid (BD.o.trans (b7.mono BD.o.size));have OV7:=hid (aL o7 BD.o.size);obtain⟨Y4,Y5,Y6,hd7⟩:=aB o7;subst hd7;clear b7 o7;go_wp2_with fail;refine hK.o _ _ (fun hD=>B7.o) ?_;clear hK K;try simp only[Act.put,qI,q0,qS]
   refine vO (i:=7) (j:=9) (oi:={dst:=some 13,op:= .call {callee:= .value (.func 112),args:=#[.tmp 12],argTypes:=#[23]},type:=23,pos:= "graph.go:153",after:=#[{on:=6,ground:= .data},{on:=4,ground:= .chain}],guard:=none}) (oj:={dst:=some 3,op:= .alloc 25,type:=0,pos:= "graph.go:153",after:=#[],guard:=none}) (by kernel_rfl) rfl rfl (fun K hK=> ?_) (fun K hK=> ?_)
   ·go_simp;refine(sZ _ (HG.o.aM.below B7.o) YH.o.2.1).mono ?_;rintro r v8 ⟨d8,rfl,b8,o8⟩;have B8:=hid (B7.o.trans (b8.mono B7.o.size));have OD8:=hid (aL o8 B7.o.size);have OV8:=hid (ag OV7.o b8);obtain⟨dp8,dm8,dc8,hd8⟩:=aB o8;subst hd8;clear b8 o8;go_wp2_with fail;refine hK.o _ _ (fun hD=>B8.o) ?_;clear hK K;try simp only[Act.put,qI,q0,qS]
    refine' aj 8 B8.o ?_;refine bF 9 fun K hK=> ?_;go_simp;have g10:=(Gr.refl v8).alloc (.cells (jc 0 (.slice none 0 0) (.slice none 0 0)) 25);have YM:=hid (ah v8 (.cells (jc 0 (.slice none 0 0) (.slice none 0 0)) 25));have aa4:=hid B8.o.size;obtain⟨cb,hcb⟩:=aC (v8.heap.size);obtain⟨V10,Ty⟩:=aC (v8.alloc (.cells (jc 0 (.slice none 0 0) (.slice none 0 0)) 25));have HV:Hid (v8.alloc (.cells #[.int .i64 0, .slice none 0 0, .slice none 0 0] 25)=V10/\v8.heap.size=cb):=⟨Ty.symm,hcb.symm⟩;rw[<-Ty,<-hcb]at YM;rw[<-Ty]at g10;rw[<-hcb]at aa4;rw[HV.o.1,HV.o.2];have B10:=hid (B8.o.trans (g10.below.mono B8.o.size));have aaV:=hid (ag OV8.o g10.below);have aaY:=hid (ag OD8.o g10.below);clear g10 Ty hcb HV;refine hK.o _ _ (fun hD=>B10.o) ?_;clear hK K;try simp only[Act.put,qI,q0,qS]
    refine bF 10 fun K hK=> ?_;have e1:=(aa YM.o).1;have e2:=(aa YM.o).2;have e3:=ae YM.o;go_simp;obtain⟨wf,hwf⟩:=aC (((V10.setCell ⟨cb,0,none⟩ (.int .i64 a)).setCell ⟨cb,1,none⟩ (.slice Y4 Y5 Y6)).setCell ⟨cb,2,none⟩ (.slice dp8 dm8 dc8));rw[<-hwf];have F:=Ex YM.o (.int .i64 a) (.slice Y4 Y5 Y6) (.slice dp8 dm8 dc8);rw[<-hwf]at F;clear hwf e1 e2 e3;have hlow:=aa4.o;have FB:Below W0.heap.size W0 wf:=B10.o.trans (F.2.below B10.o.size (fun k e=>by omega));have FQ:Hid (Cq W0.heap.size wf cb a (.slice Y4 Y5 Y6) (.slice dp8 dm8 dc8) xs es 0):=⟨F.1,hlow,av F.2 aaV.o (fun k e e2=>aF aaV.o YM.o (by decide) k e e2),av F.2 aaY.o (fun k e e2=>aF aaY.o YM.o (by decide) k e e2),fun y hy=>(by simp at hy)⟩;refine hK.o _ _ (fun hD=>FB) ?_;clear hK K;try simp only[Act.put,qI,q0,qS]
    refine au (by kernel_rfl) ?_ _;go_wp2_with fail;go_meet;exact⟨cb,_,_,rfl,FB,FQ.o⟩
   ·go_simp;have g12:=(Gr.refl v7).alloc (.cells (jc 0 (.slice none 0 0) (.slice none 0 0)) 25);have C12:=hid (ah v7 (.cells (jc 0 (.slice none 0 0) (.slice none 0 0)) 25));have aa3:=hid B7.o.size;obtain⟨cb,hcb⟩:=aC (v7.heap.size);obtain⟨V12,Tx⟩:=aC (v7.alloc (.cells (jc 0 (.slice none 0 0) (.slice none 0 0)) 25));have HV:Hid (v7.alloc (.cells #[.int .i64 0, .slice none 0 0, .slice none 0 0] 25)=V12/\v7.heap.size=cb):=⟨Tx.symm,hcb.symm⟩;rw[<-Tx,<-hcb]at C12;rw[<-Tx]at g12;rw[<-hcb]at aa3;rw[HV.o.1,HV.o.2];have B12:=hid (B7.o.trans (g12.below.mono B7.o.size));have ab1:=hid (ag OV7.o g12.below);clear g12 Tx hcb HV;refine hK.o _ _ (fun hD=>B12.o) ?_;clear hK K;try simp only[Act.put,qI,q0,qS]
    refine bF 7 fun K hK=> ?_;go_simp;refine(sZ _ (HG.o.aM.below B12.o) YH.o.2.1).mono ?_;rintro r v13 ⟨d13,rfl,b13,o13⟩;have B13:=hid (B12.o.trans (b13.mono B12.o.size));have aaX:=hid (aL o13 B12.o.size);have aaU:=hid (ag ab1.o b13);have Zv:=hid ((b13.block _ (ae C12.o)).trans C12.o);obtain⟨XO,XR,XW,abO⟩:=aB o13;subst abO;clear b13 o13;go_wp2_with fail;refine hK.o _ _ (fun hD=>B13.o) ?_;clear hK K;try simp only[Act.put,qI,q0,qS]
    refine' aj 8 B13.o ?_;refine bF 10 fun K hK=> ?_;have e1:=(aa Zv.o).1;have e2:=(aa Zv.o).2;have e3:=ae Zv.o;go_simp;obtain⟨wf,hwf⟩:=aC (((v13.setCell ⟨cb,0,none⟩ (.int .i64 a)).setCell ⟨cb,1,none⟩ (.slice Y4 Y5 Y6)).setCell ⟨cb,2,none⟩ (.slice XO XR XW));rw[<-hwf];have F:=Ex Zv.o (.int .i64 a) (.slice Y4 Y5 Y6) (.slice XO XR XW);rw[<-hwf]at F;clear hwf e1 e2 e3;have hlow:=aa3.o;have FB:Below W0.heap.size W0 wf:=B13.o.trans (F.2.below B13.o.size (fun k e=>by omega));have FQ:Hid (Cq W0.heap.size wf cb a (.slice Y4 Y5 Y6) (.slice XO XR XW) xs es 0):=⟨F.1,hlow,av F.2 aaU.o (fun k e e2=>aF aaU.o Zv.o (by decide) k e e2),av F.2 aaX.o (fun k e e2=>aF aaX.o Zv.o (by decide) k e e2),fun y hy=>(by simp at hy)⟩;refine hK.o _ _ (fun hD=>FB) ?_;clear hK K;try simp only[Act.put,qI,q0,qS]
    refine au (by kernel_rfl) ?_ _;go_wp2_with fail;go_meet;exact⟨cb,_,_,rfl,FB,FQ.o⟩
  ·go_simp;have g16:=(Gr.refl Wd).alloc (.cells (jc 0 (.slice none 0 0) (.slice none 0 0)) 25);have C16:=hid (ah Wd (.cells (jc 0 (.slice none 0 0) (.slice none 0 0)) 25));have aa2:=hid BD.o.size;obtain⟨cb,hcb⟩:=aC (Wd.heap.size);obtain⟨V16,Tw⟩:=aC (Wd.alloc (.cells (jc 0 (.slice none 0 0) (.slice none 0 0)) 25));have HV:Hid (Wd.alloc (.cells #[.int .i64 0, .slice none 0 0, .slice none 0 0] 25)=V16/\Wd.heap.size=cb):=⟨Tw.symm,hcb.symm⟩;rw[<-Tw,<-hcb]at C16;rw[<-Tw]at g16;rw[<-hcb]at aa2;rw[HV.o.1,HV.o.2];have Q3:=hid (BD.o.trans (g16.below.mono BD.o.size));clear g16 Tw hcb HV;refine hK.o _ _ (fun hD=>Q3.o) ?_;clear hK K;try simp only[Act.put,qI,q0,qS]
   refine bF 4 fun K hK=> ?_;go_simp;refine(Ai _ (HG.o.nodes.below Q3.o) YH.o.1).mono ?_;rintro r v17 ⟨d17,rfl,b17,o17⟩;have QZ:=hid (Q3.o.trans (b17.mono Q3.o.size));have ab0:=hid (aL o17 Q3.o.size);have C17:=hid ((b17.block _ (ae C16.o)).trans C16.o);obtain⟨XN,XQ,XV,abN⟩:=aB o17;subst abN;clear b17 o17;go_wp2_with fail;refine hK.o _ _ (fun hD=>QZ.o) ?_;clear hK K;try simp only[Act.put,qI,q0,qS]
   refine bF 7 fun K hK=> ?_;go_simp;refine(sZ _ (HG.o.aM.below QZ.o) YH.o.2.1).mono ?_;rintro r v18 ⟨d18,rfl,b18,o18⟩;have UE:=hid (QZ.o.trans (b18.mono QZ.o.size));have aaW:=hid (aL o18 QZ.o.size);have aaT:=hid (ag ab0.o b18);have Zu:=hid ((b18.block _ (ae C17.o)).trans C17.o);obtain⟨XM,XP,XU,abM⟩:=aB o18;subst abM;clear b18 o18;go_wp2_with fail;refine hK.o _ _ (fun hD=>UE.o) ?_;clear hK K;try simp only[Act.put,qI,q0,qS]
   refine' aj 8 UE.o ?_;refine bF 10 fun K hK=> ?_;have e1:=(aa Zu.o).1;have e2:=(aa Zu.o).2;have e3:=ae Zu.o;go_simp;obtain⟨wf,hwf⟩:=aC (((v18.setCell ⟨cb,0,none⟩ (.int .i64 a)).setCell ⟨cb,1,none⟩ (.slice XN XQ XV)).setCell ⟨cb,2,none⟩ (.slice XM XP XU));rw[<-hwf];have F:=Ex Zu.o (.int .i64 a) (.slice XN XQ XV) (.slice XM XP XU);rw[<-hwf]at F;clear hwf e1 e2 e3;have hlow:=aa2.o;have FB:Below W0.heap.size W0 wf:=UE.o.trans (F.2.below UE.o.size (fun k e=>by omega));have FQ:Hid (Cq W0.heap.size wf cb a (.slice XN XQ XV) (.slice XM XP XU) xs es 0):=⟨F.1,hlow,av F.2 aaT.o (fun k e e2=>aF aaT.o Zu.o (by decide) k e e2),av F.2 aaW.o (fun k e e2=>aF aaW.o Zu.o (by decide) k e e2),fun y hy=>(by simp at hy)⟩;refine hK.o _ _ (fun hD=>FB) ?_;clear hK K;try simp only[Act.put,qI,q0,qS]
   refine au (by kernel_rfl) ?_ _;go_wp2_with fail;go_meet;exact⟨cb,_,_,rfl,FB,FQ.o⟩
 case rest=>
  obtain⟨cb,UM,ev',rfl,HQ⟩:=hcut;have rZ:=hid B0.o.size;have hq:=HQ.o.2;obtain⟨qn,mn,Y8,hv9⟩:=aB hq.nodes;obtain rfl:mn=nl:=by
   have h:=(aZ hq.nodes _ _ _ hv9).1;have:=lW.o;omega
  subst hv9;have c1:=(aa hq.blk).1;have l1:=ae hq.blk;clear hq;go_upto_region 3 with fail;clear c1 l1;go_loopw [18] (fun VY wr=>∃(j:Nat) (zs:List NV),j<=mn/\VY= .int .i64 (j:Nat)/\Hid (Below W0.heap.size W0 wr/\Cq W0.heap.size wr cb a (.slice qn mn Y8) ev' zs es j/\zs.map NV.n=xs.map NV.n/\zs.drop j=xs.drop j)) (fun VY _=>mn-(intOf VY).toNat);case atStart=>exact⟨0,xs,zL _,rfl,HQ.o.1,HQ.o.2,rfl,rfl⟩
  case round=>
   clear HQ;obtain⟨j,zs,hj,rfl,HI⟩:=hrel;have HZL:Hid (zs.length=mn):=by
    have h:=congrArg List.length HI.o.2.2.1;simp only[gK]at h;show _=_;rw[h,lW.o]
   by_cases hlt:j<mn
   ·have hltz:(j:Int)<(mn:Int):=(by omega);have hj0:(0:Int)<=(j:Int):=(by omega);have WU:mn<=140737488351232:=(by have:=YH.o.1;have:=lW.o;omega);obtain⟨y,hy⟩:∃y,zs[j]? =some y:=⟨zs[j]'(by have:=HZL.o;omega),by simp⟩;have hyx:xs[j]? =some y:=by
     have h:=congrArg List.head? HI.o.2.2.2;rw[List.head?_drop,List.head?_drop,hy]at h;exact h.symm
    have hym:=lM hyx;obtain⟨b1,o1,q1,gN,rU,x0,x1,x2,x3,x4,x5,x6,x7,x8,x9⟩:=jY (aH (E:=EV) HI.o.2.1.nodes) hy;have hq0:q1=Y8/\o1=0:=by
     rcases HI.o.2.1.nodes.2 with⟨h0,_⟩|⟨g,cap,cur,h0,_⟩
     ·rw[gN]at h0;cases h0
     ·rw[gN]at h0;simp only[vS,oI,aI]at h0 gN;exact⟨gN.2.2.symm,h0.1.2.1⟩
    obtain⟨rfl,rfl⟩:=hq0;simp only[vS]at gN;obtain⟨rfl,-,-⟩:=gN;simp only[nZ]at x0 x1 x2 x3 x4 x5 x6 x7 x8 x9;have HY:Hid (zs[j]? =some y/\xs[j]? =some y):=⟨hy,hyx⟩;have NRY:=hid ((HG.o.each y hym).below (HI.o.1));have HSZ:=hid (YH.o.2.2 y hym);clear hy hyx hym;obtain⟨yb,hyb⟩:=aC (wr.heap.size);obtain⟨W5,bU⟩:=aC (wr.alloc (.cells y.cells 149));have P5:Hid (Below wr.heap.size wr W5/\W5.heap[yb]? =some (.cells y.cells 149 (0,0))/\wr.heap.size<=yb):=by
     rw[bU,hyb];exact⟨((Gr.refl wr).alloc _).below,ah _ _,nR _⟩
    have gZ:Hid (wr.alloc (.cells #[.int .i64 y.n.kind, .int .i64 y.n.ins, .int .i64 y.n.outs, .slice y.cq y.cm y.cc, .int .u64 (y.n.via.1:Nat), .int .u64 (y.n.via.2.1:Nat), .int .u64 (y.n.via.2.2:Nat), .int .u64 (y.n.bound:Nat), .slice y.dq y.dm y.dc, .bool y.n.start] 149)=W5/\wr.heap.size=yb):=⟨bU.symm,hyb.symm⟩;clear bU hyb;go_upto_region 5 with fail;rw[gZ.o.1,gZ.o.2];clear gZ x0 x1 x2 x3 x4 x5 x6 x7 x8 x9 rU;have Q5:=hid (HI.o.2.1.below P5.o.1);have Ze:=hid (HI.o.1.trans (P5.o.1.mono HI.o.1.size));have NR5:=hid (NRY.o.below P5.o.1);have hS0:W5.drew.heap[cb]? =some (.cells (jc a (.slice (some ⟨b1,0,none⟩) mn q1) ev') 25 (0,0))/\W5.drew.heap[yb]? =some (.cells y.cells 149 (0,0)):=⟨Q5.o.blk,P5.o.2.1⟩;refine ax (S:=fun W=>W.heap[cb]? =some (.cells (jc a (.slice (some ⟨b1,0,none⟩) mn q1) ev') 25 (0,0))/\W.heap[yb]? =some (.cells y.cells 149 (0,0))) (D:=[]) hmx ?_;refine' aj 0 hS0 ?_;refine' bu 1 hS0 ?h ?_;case h=>(intro W hSw;have hc:=(aa hSw.1).1;have hl:=ae hSw.1;go_simp;try(with_reducible rfl))
    refine' aj 2 hS0 ?_;refine' aj 3 hS0 ?_;refine' bu 4 hS0 ?h ?_;case h=>(intro W hSw;have hc:=(aa hSw.1).1;have hl:=ae hSw.1;go_simp;try(with_reducible rfl))
    refine' aj 5 hS0 ?_;refine' aj 6 hS0 ?_;refine' bu 7 hS0 ?h ?_;case h=>(intro W hSw;have hc:=(aa hSw.2).1;have hl:=ae hSw.2;go_simp;try(with_reducible rfl))
    refine' aj 9 hS0 ?_;refine' bu 10 hS0 ?h ?_;case h=>(intro W hSw;have hc:=(aa hSw.2).1;have hl:=ae hSw.2;go_simp;try(with_reducible rfl))
    refine bF 8 fun K hK=> ?_;go_simp;refine(Lg _ (NR5.o.code.below (Gr.refl W5).drew.below) HSZ.o.1).mono ?_;rintro r w6 ⟨v31,rfl,b6,o6⟩;have B6:=hid ((Gr.refl W5).drew.below.trans (b6.mono (Gr.refl W5).drew.size));have O6:=hid (aL o6 (nT Ze.o.size (Gr.refl W5).drew.size));have L6:Hid (∀k,v31.ownBlock=some k->W5.heap.size<=k):=fun k e=>(aK o6 k e).1;have pG:=(show _/\_ from⟨(b6.block _ (ae hS0.1)).trans hS0.1,(b6.block _ (ae hS0.2)).trans hS0.2⟩);obtain⟨Jg,Ju,c31,hv31⟩:=aB o6;subst hv31;clear b6 o6;go_wp2_with fail;refine hK.o _ _ (fun hD=>pG) ?_;clear hK K;try simp only[Act.put,qI,q0,qS]
    refine bF 11 fun K hK=> ?_;go_simp;refine(Aj _ (NR5.o.bT.below B6.o) HSZ.o.2).mono ?_;rintro r w7 ⟨v34,rfl,b7,o7⟩;have B7:=hid (B6.o.trans (b7.mono B6.o.size));have O7:=hid (aL o7 (nT Ze.o.size B6.o.size));have O67:=hid (ag O6.o b7);have aY:=(show _/\_ from⟨(b7.block _ (ae pG.1)).trans pG.1,(b7.block _ (ae pG.2)).trans pG.2⟩);obtain⟨RY,SC,c34,hv34⟩:=aB o7;subst hv34;clear b7 o7;go_wp2_with fail;refine hK.o _ _ (fun hD=>aY) ?_;clear hK K;try simp only[Act.put,qI,q0,qS]
    refine' aj 12 aY ?_;refine' aj 13 aY ?_;refine bF 14 fun K hK=> ?_;have QN:=hid (Q5.o.below B7.o);have aam:=HZL.o;have QM:w7.ownsRow W0.heap.size 149 10 (.slice (some ⟨b1,0,none⟩) zs.length q1) zs.length (fl EV zs):=by
     have h:=QN.o.nodes;rw[<-aam]at h;exact h
    have fr:=QM.frozenAt;have hlb:=(aK QN.o.nodes b1 rfl).2;have Xk:w7.cell? ⟨b1,j*10+3,none⟩=some (.slice y.cq y.cm y.cc):=by
     obtain⟨b9,o9,q9,e9,-,-,-,-,h3,-⟩:=jY (aH (E:=EV) QN.o.nodes) HY.o.1;simp only[vS,oI,aI]at e9;obtain⟨⟨rfl,rfl,-⟩,-,rfl⟩:=e9;rw[nZ]at h3;exact h3
    go_simp;have O14:=jr (u:= .slice Jg Ju c31) QM (j*10+3);obtain⟨w8,hw8⟩:=aC (w7.setCell ⟨b1,j*10+3,none⟩ (.slice Jg Ju c31));rw[<-hw8]at O14;rw[<-hw8];have N14:Hid (w8.ownsRow W0.heap.size 149 10 (.slice (some ⟨b1,0,none⟩) zs.length q1) zs.length (fl EV (zs.set j (y.dZ Jg Ju c31)))):=aS O14.1 rfl (JL zs j 3 y _ _ HY.o.1 (by decide) rfl);have K14:=hid O14.2;have iV:w8.heap[cb]? =some (.cells (jc a (.slice (some ⟨b1,0,none⟩) mn q1) ev') 25 (0,0))/\w8.heap[yb]? =some (.cells y.cells 149 (0,0)):=⟨(K14.o.block _ (ae aY.1) (fun e=>aF QN.o.nodes aY.1 (by decide) b1 rfl e.symm)).trans aY.1,(K14.o.block _ (ae aY.2) (fun e=>by have h1:=P5.o.2.2;have h2:=(aK HI.o.2.1.nodes b1 rfl).2;omega)).trans aY.2⟩;clear O14 hw8 fr hlb Xk aam QM;refine hK.o _ _ (fun hD=>iV) ?_;clear hK K;try simp only[Act.put,qI,q0,qS]
    refine' aj 15 iV ?_;refine' aj 16 iV ?_;refine bF 17 fun K hK=> ?_;have fr:=N14.o.frozenAt;have hlb:=(aK N14.o b1 rfl).2;have hzl:(zs.set j (y.dZ Jg Ju c31)).length=zs.length:=(by simp);have Xk:w8.cell? ⟨b1,j*10+8,none⟩=some (.slice y.dq y.dm y.dc):=by
     obtain⟨b9,o9,q9,e9,-,-,-,-,-,-,-,-,-,h3,-⟩:=jY (ts:=zs.set j (y.dZ Jg Ju c31)) (x:=y.dZ Jg Ju c31) (aH (E:=EV) (aS N14.o hzl.symm rfl)) (by rw[List.getElem?_set_self (lG.1 HY.o.1).1]);simp only[vS,oI,aI]at e9;obtain⟨⟨rfl,rfl,-⟩,-,rfl⟩:=e9;rw[nZ]at h3;exact h3
    go_simp;have Zc:=jr (u:= .slice RY SC c34) N14.o (j*10+8);obtain⟨w9,vC⟩:=aC (w8.setCell ⟨b1,j*10+8,none⟩ (.slice RY SC c34));rw[<-vC]at Zc;rw[<-vC];have N17:Hid (w9.ownsRow W0.heap.size 149 10 (.slice (some ⟨b1,0,none⟩) zs.length q1) zs.length (fl EV (zs.set j ((y.dZ Jg Ju c31).jh RY SC c34)))):=aS Zc.1 rfl (by rw[JL (zs.set j (y.dZ Jg Ju c31)) j 8 (y.dZ Jg Ju c31) ((y.dZ Jg Ju c31).jh RY SC c34) (.slice RY SC c34) (by rw[List.getElem?_set_self (lG.1 HY.o.1).1]) (by decide) rfl,List.set_set]);have K17:=hid (K14.o.trans Zc.2 (fun _ _ h=>h));have jF:w9.heap[cb]? =some (.cells (jc a (.slice (some ⟨b1,0,none⟩) mn q1) ev') 25 (0,0))/\w9.heap[yb]? =some (.cells y.cells 149 (0,0)):=⟨(Zc.2.block _ (ae iV.1) (fun e=>aF N14.o iV.1 (by decide) b1 rfl e.symm)).trans iV.1,(Zc.2.block _ (ae iV.2) (fun e=>by have h1:=P5.o.2.2;have h2:=(aK HI.o.2.1.nodes b1 rfl).2;omega)).trans iV.2⟩;clear Zc vC fr hlb Xk hzl;have FIN:Hid (Below W0.heap.size W0 w9/\Cq W0.heap.size w9 cb a (.slice (some ⟨b1,0,none⟩) mn q1) ev' (zs.set j ((y.dZ Jg Ju c31).jh RY SC c34)) es (j+1)/\(zs.set j ((y.dZ Jg Ju c31).jh RY SC c34)).map NV.n=xs.map NV.n/\(zs.set j ((y.dZ Jg Ju c31).jh RY SC c34)).drop (j+1)=xs.drop (j+1)):=by
     have hjl:=(lG.1 HY.o.1).1;have YW:=Ze.o.trans (B7.o.mono Ze.o.size);have neq:∀{e:TypeId} {size n:Nat} {v:Value} {vs:List Value},w7.ownsRow W0.heap.size e size v n vs->e≠149->w9.ownsRow W0.heap.size e size v n vs:=fun h hT=>av K17.o h (fun k e e2=>aD h QN.o.nodes hT k e (by rw[e2];rfl));refine⟨YW.trans (K17.o.below YW.size (fun k e=>by rw[e];exact(aK QN.o.nodes b1 rfl).1)),⟨jF.1,QN.o.low,aS (n:=zs.length) (by have h:=N17.o;rw[show(Value.slice (some ⟨b1,0,none⟩) zs.length q1)= .slice (some ⟨b1,0,none⟩) mn q1 by rw[HZL.o]]at h;exact h) (by simp) rfl,neq QN.o.aM (by decide),fun x hx=> ?_⟩, ?_, ?_⟩
     ·rw[tO,List.take_set_of_le (nR _),List.getElem?_set_self hjl]at hx;rcases j4.1 hx with hx|hx
      ·exact⟨neq (QN.o.each x hx).1 (by decide),neq (QN.o.each x hx).2 (by decide)⟩
      ·simp at hx;subst hx;exact⟨neq O67.o (by decide),neq O7.o (by decide)⟩
     ·rw[List.map_set];have:(zs.map NV.n)[j]? =some y.n:=(by simp[HY.o.1]);show(zs.map NV.n).set j y.n=_;rw[Ng this];exact HI.o.2.2.1
     ·rw[List.drop_set_of_lt (by omega)];have h:=congrArg List.tail HI.o.2.2.2
      rwa [List.tail_drop,List.tail_drop]at h
    refine hK.o _ _ (fun hD=>jF) ?_;clear hK K;try simp only[Act.put,qI,q0,qS]
    refine au (by kernel_rfl) ?_ _;clear hS0 pG aY iV jF;go_wp2_with fail;go_roundw;case rel=>exact⟨j+1,zs.set j ((y.dZ Jg Ju c31).jh RY SC c34),by omega,by go_num,FIN.o⟩
    case measure=>simp[intOf];omega
   ·have hltz:¬(j:Int)<(mn:Int):=(by omega);have HE:Hid (∀y∈zs,wr.ownsRow W0.heap.size 202 2 y.cv y.n.code.length (fl EO y.n.code)/\wr.ownsRow W0.heap.size 205 5 y.dv y.n.bT.length (fl EC y.n.bT)):=fun y hy=>HI.o.2.1.each y (by rw[tL (by have:=HZL.o;omega)];exact hy);have hn2:=(HI.o.1.block _ (ae N2.o)).trans N2.o;have c2:=(aa hn2).1;have f2:=(aa hn2).2;have l2:=ae hn2;have c1:=(aa HI.o.2.1.blk).1;have l1:=ae HI.o.2.1.blk;obtain⟨qe,me,cee,abL⟩:=aB HI.o.2.1.aM;subst abL;have HN2:=hid hn2;clear hn2;go_wp2_with fail;obtain⟨wf,hwf⟩:=aC (((wr.setCell ⟨w.heap.size+1,0,none⟩ (.int .i64 a)).setCell ⟨w.heap.size+1,1,none⟩ (.slice qn mn Y8)).setCell ⟨w.heap.size+1,2,none⟩ (.slice qe me cee));rw[<-hwf];obtain⟨hbf,hkf⟩:wf.heap[w.heap.size+1]? =some (.cells #[.int .i64 a, .slice qn mn Y8, .slice qe me cee] 25 (0,0))/\Kp (fun k=>k=w.heap.size+1) wr wf:=by
     rw[hwf];exact Ex HN2.o _ _ _
    clear hwf c1 c2 l1 l2 f2;obtain⟨qf,-⟩:=aa hbf;have hlf:=ae hbf;refine bR (v:= .agg #[.int .i64 a, .slice qn mn Y8, .slice qe me cee]) (by simp[results,Tryz.results69,go_sem,qf]) rfl ?_;have hlo:=ae N2.o;have hbw:=B0.o.trans (HI.o.1.mono B0.o.size);have hC:Cg W0.heap.size wr (.slice qn mn Y8) (.slice qe me cee) zs es:=⟨HI.o.2.1.nodes,HI.o.2.1.aM,HE.o⟩;exact⟨_,_,zs,rfl,hbw.trans (hkf.below hbw.size (fun k e=>by omega)),HI.o.2.2.1,(hC.kp hkf (fun k h1 h2 e=>by omega)).base B0.o.size⟩
end Go.Proofs.YtiiefcalkjeieaaGreat.Df
