import Derived.Test.YtiiefcalkjeieaaGreatJ10
import Derived.Lib.OwnKind
import Derived.Laws.OwnMore
variable{w w':Go.World}{B size n B' j:Nat}{nv ev v:Go.Value}{e T:Go.TypeId}{xs:List Go.Value}{α:Type}{a:Int}
set_option maxHeartbeats 8000000
set_option maxRecDepth 100000
namespace Go.Proofs.YtiiefcalkjeieaaGreat.Df
open Go.RowKit Go.Sort
attribute[local go_sem ↓]wp_at_zero wp_at_succ
structure Cg(B:Nat)(w:World)(nv ev:Value)(ys:List NV)(es:List dR):Prop where
 nodes:w.ownsRow B 149 10 nv ys.length (fl EV ys)
 aO:w.ownsRow B 151 5 ev es.length (fl ED es)
 each:∀y∈ys,w.ownsRow B 202 2 y.cv y.n.code.length (fl EO y.n.code)/\w.ownsRow B 205 5 y.dv y.n.bV.length (fl EC y.n.bV)
theorem aJ{b:Nat}{cs:Array Value}{z:Nat×Nat}(h:w.ownsRow B e size v n xs)(hb:w.heap[b]? =some (.cells cs T z))(hT:e≠T):∀k,v.ownBlock=some k->k≠b:=fun k hk e2=>by
 obtain⟨c,f,hc⟩:=Lib.ownsRow_kind h k hk;rw[e2,hb]at hc;simp only[oI,Obj.cells.injEq]at hc;exact hT hc.2.1.symm
theorem aH{e':TypeId}{size' n':Nat}{v':Value}{xs':List Value}(h:w.ownsRow B e size v n xs)(h':w.ownsRow B' e' size' v' n' xs')(hT:e≠e'):∀k,v.ownBlock=some k->v'.ownBlock≠some k:=fun k hk hk'=>by
 obtain⟨c,f,hc⟩:=Lib.ownsRow_kind h' k hk';exact aJ h hc hT k hk rfl
theorem Cg.base{ys:List NV}{es:List dR}(h:Cg B w nv ev ys es)(hb:B'<=B):Cg B' w nv ev ys es:=
 ⟨aN h.nodes hb,aN h.aO hb,fun y hy=>⟨aN (h.each y hy).1 hb,aN (h.each y hy).2 hb⟩⟩
theorem Cg.kp{S:Nat->Prop}{ys:List NV}{es:List dR}(h:Cg B w nv ev ys es)(hk:Kp S w w')(hS:∀k,B<=k->k<w.heap.size->¬S k):Cg B w' nv ev ys es:=
 ⟨ax hk h.nodes (fun k e=>hS k (aM h.nodes k e).1 (aM h.nodes k e).2),ax hk h.aO (fun k e=>hS k (aM h.aO k e).1 (aM h.aO k e).2),fun y hy=>⟨ax hk (h.each y hy).1 (fun k e=>hS k (aM (h.each y hy).1 k e).1 (aM (h.each y hy).1 k e).2),ax hk (h.each y hy).2 (fun k e=>hS k (aM (h.each y hy).2 k e).1 (aM (h.each y hy).2 k e).2)⟩⟩
theorem jd{E:El α}{l:List α}(h:w.ownsRow B T E.k v l.length (fl E l)):Lz E w.heap.size w v l:=Or.inl ⟨aK h,fun k hk=>(aM h k hk).2⟩
theorem Cg.gr{ys:List NV}{es:List dR}(h:Cg B w nv ev ys es)(hw:ys.length<=140737488355328/\es.length<=140737488355328)(hg:∀y∈ys,y.n.code.length<=140737488355328/\y.n.bV.length<=140737488355328):GR w.heap.size w nv ev ys es:=
 ⟨jd (E:=EV) h.nodes,jd (E:=ED) h.aO,fun y hy=>⟨jd (E:=EO) (h.each y hy).1,jd (E:=EC) (h.each y hy).2⟩,hg,hw⟩
theorem bz{base:Nat}(h:w.ownsRow base e size v n xs):∀p m c,v= .slice p m c->m=n/\n<=c:=by
 intro p m c hv;rcases h.2 with⟨h0,h1⟩|⟨g,cap,cur,h0,_,_,hn,_⟩
 ·rw[h0]at hv;simp only[vS]at hv;omega
 ·rw[h0]at hv;simp only[vS]at hv;omega
structure Cq(B:Nat)(w:World)(cb:Nat)(a:Int)(nv ev:Value)(zs:List NV)(es:List dR)(j:Nat):Prop where
 blk:w.heap[cb]? =some (.cells (jg a nv ev) 25 (0,0))
 low:B<=cb
 nodes:w.ownsRow B 149 10 nv zs.length (fl EV zs)
 aO:w.ownsRow B 151 5 ev es.length (fl ED es)
 each:∀y∈zs.take j,w.ownsRow B 202 2 y.cv y.n.code.length (fl EO y.n.code)/\w.ownsRow B 205 5 y.dv y.n.bV.length (fl EC y.n.bV)
theorem Cq.below{cb:Nat}{ys:List NV}{es:List dR}(h:Cq B w cb a nv ev ys es j)(hb:Bw w w'):Cq B w' cb a nv ev ys es j:=
 ⟨(hb.block _ (ae h.blk)).trans h.blk,h.low,ag h.nodes hb,ag h.aO hb,fun y hy=>⟨ag (h.each y hy).1 hb,ag (h.each y hy).2 hb⟩⟩
def NV.eu(y:NV)(q:Option Addr)(m c:Nat):NV:={ y with cq:=q,cm:=m,cc:=c }
def NV.jm(y:NV)(q:Option Addr)(m c:Nat):NV:={ y with dq:=q,dm:=m,dc:=c }
theorem JR(zs:List NV)(i k:Nat)(y y':NV)(u:Value)(hi:zs[i]? =some y)(hk:k<10)(he:(EV.enc y).set k u=EV.enc y'):(fl EV zs).set (i*10+k) u=fl EV (zs.set i y'):=by
 induction zs generalizing i with
 | nil => simp at hi
 | cons z zs ih=>
  rw[aR];cases i with
  | zero=>
   simp at hi;subst hi;rw[List.set_cons_zero,aR,<-he,Nat.zero_mul,nZ,List.set_append_left _ _ (by rw[EV.len];exact hk)]
  | succ i=>
   rw[List.set_cons_succ,aR,<-ih i (by simpa using hi),show(i+1)*10+k=10+(i*10+k)by omega,List.set_append_right _ _ (by rw[EV.len];show 10<=_;omega)];rw[EV.len,show EV.k=10 from rfl,Nat.add_sub_cancel_left]
theorem Nq{l:List α}{x:α}(h:l[j]? =some x):l.set j x=l:=by
 refine List.ext_getElem? fun k=> ?_;rw[List.getElem?_set];split
 ·rename_i e;subst e;rw[if_pos (lG.1 h).1,h]
 ·rfl
theorem jA{base:Nat}{g cap:Nat}(h:w.ownsRow base e size (sO g n cap) n xs)(j:Nat)(u:Value):(w.setCell ⟨g,j,none⟩ u).ownsRow base e size (sO g n cap) n (xs.set j u)/\Kp (fun k=>k=g) w (w.setCell ⟨g,j,none⟩ u):=by
 obtain⟨hx,hr⟩:=h;rcases hr with⟨h0,_⟩|⟨g',cap',cur,hv,hg,hh,hn,hm,hs,ht⟩
 ·cases h0
 ·simp only[vS,oI,aI]at hv;obtain⟨⟨rfl,-,-⟩,-,rfl⟩:=hv;have h2:=setCell_eq_setRow w g j _ _ _ u hh;have hk:Kp (fun k=>k=g) w (w.setCell ⟨g,j,none⟩ u):=by
   rw[h2];exact⟨rfl,rfl,rfl,by simp[World.setRow],fun k _ hne=>setRow_other w g k _ (by omega)⟩
  refine⟨⟨by simp[hx],Or.inr ⟨g,cap,cur.setIfInBounds j u,rfl,hg,by rw[h2,setRow_heap w g _ _ _ _ hh],hn,hm,by simp[hs], ?_⟩⟩,hk⟩;rw[Array.toList_setIfInBounds,List.take_set,ht]
def Cpd(w:World)(a:Int)(xs:List NV)(es:List dR)(r:Ending)(w':World):Prop:=∃UX ev' ys,r= .returned (.agg (jg a UX ev'))/\Bw w w'/\ys.map NV.n=xs.map NV.n/\Cg w.heap.size w' UX ev' ys es
theorem lT{M:Nat}{xs:List NV}{es:List dR}(w:World)(hG:GR M w nv ev xs es)(hbg:xs.length*112<=140737488351232/\es.length*40<=140737488351232/\∀x∈xs,x.n.code.length*16<=140737488351232/\x.n.bV.length*40<=140737488351232):CL 69 #[.agg (jg a nv ev)] w (Cpd w a xs es):=by
 have hmx:Tryz.prog.follows .mixedOrders=true:=by kernel_rfl
 obtain⟨pn,cn,Pf⟩:=hG.nodes.form;obtain⟨pe,ce,hev⟩:=hG.aO.form;obtain⟨nl,hnl⟩:=aF (xs.length);obtain⟨el,hel⟩:=aF (es.length);rw[<-hnl]at Pf;rw[<-hel]at hev;subst Pf;subst hev;have YP:=hid hbg;have mf:=hid hnl;obtain⟨W0,hW0⟩:=aF ((w.alloc (.cells (jg a (.slice pn nl cn) (.slice pe el ce)) 25)).alloc (.cells (jg 0 (.slice none 0 0) (.slice none 0 0)) 25));have g0:=((Gr.refl w).alloc (.cells (jg a (.slice pn nl cn) (.slice pe el ce)) 25)).alloc (.cells (jg 0 (.slice none 0 0) (.slice none 0 0)) 25);have N1:Hid (W0.heap[w.heap.size]? =some (.cells (jg a (.slice pn nl cn) (.slice pe el ce)) 25 (0,0))):=by rw[hW0];exact WA w _ _
 have N2:Hid (W0.heap[w.heap.size+1]? =some (.cells (jg 0 (.slice none 0 0) (.slice none 0 0)) 25 (0,0))):=by rw[hW0];exact Wz w _ _
 have HW:Hid ((w.alloc (.cells #[iV a, .slice pn nl cn, .slice pe el ce] 25)).alloc (.cells #[iV 0, .slice none 0 0, .slice none 0 0] 25)=W0):=hW0.symm;rw[<-hW0]at g0;have HG:=hid (hG.below g0.below);have B0:=hid g0.below;clear hG g0 hW0 hnl hel hbg;go_enter Tryz.func69,Tryz.ntmps69;go_upto_region 1 with fail;rw[HW.o];clear HW;go_cut [3] (fun s3 w'=>∃cb UX ev',s3=aB cb/\Hid (Bw W0 w'/\Cq W0.heap.size w' cb a UX ev' xs es 0));case first=>
  have BD:Hid (Bw W0 W0.drew):=(Gr.refl _).drew.below;refine ay (S:=fun W=>Bw W0 W) (D:=[]) hmx ?_;generalize W0.drew=Wd at BD⊢;refine' ak 0 BD.o ?_;refine' bD 1 BD.o ?h ?_;case h=>(intro W hSw;have hb:=(hSw.block _ (ae N1.o)).trans N1.o;have hc:=(aa hb).1;have hl:=ae hb;go_simp;try(with_reducible rfl))
  refine' ak 2 BD.o ?_;refine' bD 3 BD.o ?h ?_;case h=>(intro W hSw;have hb:=(hSw.block _ (ae N1.o)).trans N1.o;have hc:=(aa hb).1;have hl:=ae hb;go_simp;try(with_reducible rfl))
  refine' ak 5 BD.o ?_;refine' bD 6 BD.o ?h ?_;case h=>(intro W hSw;have hb:=(hSw.block _ (ae N1.o)).trans N1.o;have hc:=(aa hb).1;have hl:=ae hb;go_simp;try(with_reducible rfl))
  refine vV (i:=4) (j:=9) (oi:={dst:=some 10,op:= .call {callee:= .value (.func 111),args:=#[.tmp 9],argTypes:=#[22]},type:=22,pos:= "graph.go:153",after:=#[{on:=3,ground:= .data}],guard:=none}) (oj:={dst:=some 3,op:= .alloc 25,type:=0,pos:= "graph.go:153",after:=#[],guard:=none}) (by kernel_rfl) rfl rfl (fun K hK=> ?_) (fun K hK=> ?_)
  ·go_simp;refine(Ap _ (HG.o.nodes.below BD.o) YP.o.1).mono ?_;rintro r v7 ⟨d7,rfl,b7,o7⟩;have B7:=hid (BD.o.trans (b7.mono BD.o.size));have OV7:=hid (aN o7 BD.o.size);obtain⟨Zd,Ze,Zf,hd7⟩:=aD o7;subst hd7;clear b7 o7;go_wp2_with fail;refine hK.o _ _ (fun hD=>B7.o) ?_;clear hK K;try simp only[Act.put,qI,q0,qS]
   refine vV (i:=7) (j:=9) (oi:={dst:=some 13,op:= .call {callee:= .value (.func 112),args:=#[.tmp 12],argTypes:=#[23]},type:=23,pos:= "graph.go:153",after:=#[{on:=6,ground:= .data},{on:=4,ground:= .chain}],guard:=none}) (oj:={dst:=some 3,op:= .alloc 25,type:=0,pos:= "graph.go:153",after:=#[],guard:=none}) (by kernel_rfl) rfl rfl (fun K hK=> ?_) (fun K hK=> ?_)
   ·go_simp;refine(tV _ (HG.o.aO.below B7.o) YP.o.2.1).mono ?_;rintro r v8 ⟨d8,rfl,b8,o8⟩;have B8:=hid (B7.o.trans (b8.mono B7.o.size));have OD8:=hid (aN o8 B7.o.size);have OV8:=hid (ag OV7.o b8);obtain⟨dp8,dm8,dc8,hd8⟩:=aD o8;subst hd8;clear b8 o8;go_wp2_with fail;refine hK.o _ _ (fun hD=>B8.o) ?_;clear hK K;try simp only[Act.put,qI,q0,qS]
    refine' ak 8 B8.o ?_;refine fV 9 fun K hK=> ?_;go_simp;have g10:=(Gr.refl v8).alloc (.cells (jg 0 (.slice none 0 0) (.slice none 0 0)) 25);have YU:=hid (ah v8 (.cells (jg 0 (.slice none 0 0) (.slice none 0 0)) 25));have aa8:=hid B8.o.size;obtain⟨cb,hcb⟩:=aF (v8.heap.size);obtain⟨V10,TG⟩:=aF (v8.alloc (.cells (jg 0 (.slice none 0 0) (.slice none 0 0)) 25));have HV:Hid (v8.alloc (.cells #[iV 0, .slice none 0 0, .slice none 0 0] 25)=V10/\v8.heap.size=cb):=⟨TG.symm,hcb.symm⟩;rw[<-TG,<-hcb]at YU;rw[<-TG]at g10;rw[<-hcb]at aa8;rw[HV.o.1,HV.o.2];have B10:=hid (B8.o.trans (g10.below.mono B8.o.size));have aaZ:=hid (ag OV8.o g10.below);have aa2:=hid (ag OD8.o g10.below);clear g10 TG hcb HV;refine hK.o _ _ (fun hD=>B10.o) ?_;clear hK K;try simp only[Act.put,qI,q0,qS]
    refine fV 10 fun K hK=> ?_;have e1:=(aa YU.o).1;have e2:=(aa YU.o).2;have e3:=ae YU.o;go_simp;obtain⟨wf,hwf⟩:=aF (((V10.setCell ⟨cb,0,none⟩ (iV a)).setCell ⟨cb,1,none⟩ (.slice Zd Ze Zf)).setCell ⟨cb,2,none⟩ (.slice dp8 dm8 dc8));rw[<-hwf];have F:=EN YU.o (iV a) (.slice Zd Ze Zf) (.slice dp8 dm8 dc8);rw[<-hwf]at F;clear hwf e1 e2 e3;have hlow:=aa8.o;have FB:Bw W0 wf:=B10.o.trans (F.2.below B10.o.size (fun k e=>by omega));have FQ:Hid (Cq W0.heap.size wf cb a (.slice Zd Ze Zf) (.slice dp8 dm8 dc8) xs es 0):=⟨F.1,hlow,ax F.2 aaZ.o (fun k e e2=>aJ aaZ.o YU.o (by decide) k e e2),ax F.2 aa2.o (fun k e e2=>aJ aa2.o YU.o (by decide) k e e2),fun y hy=>(by simp at hy)⟩;refine hK.o _ _ (fun hD=>FB) ?_;clear hK K;try simp only[Act.put,qI,q0,qS]
    refine av (by kernel_rfl) ?_ _;go_wp2_with fail;go_meet;exact⟨cb,_,_,rfl,FB,FQ.o⟩
   ·go_simp;have g12:=(Gr.refl v7).alloc (.cells (jg 0 (.slice none 0 0) (.slice none 0 0)) 25);have C12:=hid (ah v7 (.cells (jg 0 (.slice none 0 0) (.slice none 0 0)) 25));have aa7:=hid B7.o.size;obtain⟨cb,hcb⟩:=aF (v7.heap.size);obtain⟨V12,TF⟩:=aF (v7.alloc (.cells (jg 0 (.slice none 0 0) (.slice none 0 0)) 25));have HV:Hid (v7.alloc (.cells #[iV 0, .slice none 0 0, .slice none 0 0] 25)=V12/\v7.heap.size=cb):=⟨TF.symm,hcb.symm⟩;rw[<-TF,<-hcb]at C12;rw[<-TF]at g12;rw[<-hcb]at aa7;rw[HV.o.1,HV.o.2];have B12:=hid (B7.o.trans (g12.below.mono B7.o.size));have ab5:=hid (ag OV7.o g12.below);clear g12 TF hcb HV;refine hK.o _ _ (fun hD=>B12.o) ?_;clear hK K;try simp only[Act.put,qI,q0,qS]
    refine wpC 7 (tV _ (HG.o.aO.below B12.o) YP.o.2.1) ?_;rintro r v13 ⟨d13,rfl,b13,o13⟩;have B13:=hid (B12.o.trans (b13.mono B12.o.size));have aa1:=hid (aN o13 B12.o.size);have aaY:=hid (ag ab5.o b13);have ZE:=hid ((b13.block _ (ae C12.o)).trans C12.o);obtain⟨XX,X0,X7,abS⟩:=aD o13;subst abS;clear b13 o13;refine⟨_,rfl,B13.o, ?_⟩;refine' ak 8 B13.o ?_;refine fV 10 fun K hK=> ?_;have e1:=(aa ZE.o).1;have e2:=(aa ZE.o).2;have e3:=ae ZE.o;go_simp;obtain⟨wf,hwf⟩:=aF (((v13.setCell ⟨cb,0,none⟩ (iV a)).setCell ⟨cb,1,none⟩ (.slice Zd Ze Zf)).setCell ⟨cb,2,none⟩ (.slice XX X0 X7));rw[<-hwf];have F:=EN ZE.o (iV a) (.slice Zd Ze Zf) (.slice XX X0 X7);rw[<-hwf]at F;clear hwf e1 e2 e3;have hlow:=aa7.o;have FB:Bw W0 wf:=B13.o.trans (F.2.below B13.o.size (fun k e=>by omega));have FQ:Hid (Cq W0.heap.size wf cb a (.slice Zd Ze Zf) (.slice XX X0 X7) xs es 0):=⟨F.1,hlow,ax F.2 aaY.o (fun k e e2=>aJ aaY.o ZE.o (by decide) k e e2),ax F.2 aa1.o (fun k e e2=>aJ aa1.o ZE.o (by decide) k e e2),fun y hy=>(by simp at hy)⟩;refine hK.o _ _ (fun hD=>FB) ?_;clear hK K;try simp only[Act.put,qI,q0,qS]
    refine av (by kernel_rfl) ?_ _;go_wp2_with fail;go_meet;exact⟨cb,_,_,rfl,FB,FQ.o⟩
  ·go_simp;have g16:=(Gr.refl Wd).alloc (.cells (jg 0 (.slice none 0 0) (.slice none 0 0)) 25);have C16:=hid (ah Wd (.cells (jg 0 (.slice none 0 0) (.slice none 0 0)) 25));have aa6:=hid BD.o.size;obtain⟨cb,hcb⟩:=aF (Wd.heap.size);obtain⟨V16,TE⟩:=aF (Wd.alloc (.cells (jg 0 (.slice none 0 0) (.slice none 0 0)) 25));have HV:Hid (Wd.alloc (.cells #[iV 0, .slice none 0 0, .slice none 0 0] 25)=V16/\Wd.heap.size=cb):=⟨TE.symm,hcb.symm⟩;rw[<-TE,<-hcb]at C16;rw[<-TE]at g16;rw[<-hcb]at aa6;rw[HV.o.1,HV.o.2];have Rh:=hid (BD.o.trans (g16.below.mono BD.o.size));clear g16 TE hcb HV;refine hK.o _ _ (fun hD=>Rh.o) ?_;clear hK K;try simp only[Act.put,qI,q0,qS]
   refine wpC 4 (Ap _ (HG.o.nodes.below Rh.o) YP.o.1) ?_;rintro r v17 ⟨d17,rfl,b17,o17⟩;have Rf:=hid (Rh.o.trans (b17.mono Rh.o.size));have ab4:=hid (aN o17 Rh.o.size);have C17:=hid ((b17.block _ (ae C16.o)).trans C16.o);obtain⟨XW,XZ,X6,abR⟩:=aD o17;subst abR;clear b17 o17;refine⟨_,rfl,Rf.o, ?_⟩;refine wpC 7 (tV _ (HG.o.aO.below Rf.o) YP.o.2.1) ?_;rintro r v18 ⟨d18,rfl,b18,o18⟩;have UM:=hid (Rf.o.trans (b18.mono Rf.o.size));have aa0:=hid (aN o18 Rf.o.size);have aaX:=hid (ag ab4.o b18);have ZC:=hid ((b18.block _ (ae C17.o)).trans C17.o);obtain⟨XV,XY,X5,abQ⟩:=aD o18;subst abQ;clear b18 o18;refine⟨_,rfl,UM.o, ?_⟩;refine' ak 8 UM.o ?_;refine fV 10 fun K hK=> ?_;have e1:=(aa ZC.o).1;have e2:=(aa ZC.o).2;have e3:=ae ZC.o;go_simp;obtain⟨wf,hwf⟩:=aF (((v18.setCell ⟨cb,0,none⟩ (iV a)).setCell ⟨cb,1,none⟩ (.slice XW XZ X6)).setCell ⟨cb,2,none⟩ (.slice XV XY X5));rw[<-hwf];have F:=EN ZC.o (iV a) (.slice XW XZ X6) (.slice XV XY X5);rw[<-hwf]at F;clear hwf e1 e2 e3;have hlow:=aa6.o;have FB:Bw W0 wf:=UM.o.trans (F.2.below UM.o.size (fun k e=>by omega));have FQ:Hid (Cq W0.heap.size wf cb a (.slice XW XZ X6) (.slice XV XY X5) xs es 0):=⟨F.1,hlow,ax F.2 aaX.o (fun k e e2=>aJ aaX.o ZC.o (by decide) k e e2),ax F.2 aa0.o (fun k e e2=>aJ aa0.o ZC.o (by decide) k e e2),fun y hy=>(by simp at hy)⟩;refine hK.o _ _ (fun hD=>FB) ?_;clear hK K;try simp only[Act.put,qI,q0,qS]
   refine av (by kernel_rfl) ?_ _;go_wp2_with fail;go_meet;exact⟨cb,_,_,rfl,FB,FQ.o⟩
 case rest=>
  obtain⟨cb,UX,ev',rfl,HQ⟩:=hcut;have sw:=hid B0.o.size;have hq:=HQ.o.2;obtain⟨qn,mn,Zg,hv9⟩:=aD hq.nodes;obtain rfl:mn=nl:=by
   have h:=(bz hq.nodes _ _ _ hv9).1;have:=mf.o;omega
  subst hv9;have c1:=(aa hq.blk).1;have l1:=ae hq.blk;clear hq;go_upto_region 3 with fail;clear c1 l1;go_loopw [18] (fun V9 wr=>∃(j:Nat) (zs:List NV),j<=mn/\V9=iV (j:Nat)/\Hid (Bw W0 wr/\Cq W0.heap.size wr cb a (.slice qn mn Zg) ev' zs es j/\zs.map NV.n=xs.map NV.n/\zs.drop j=xs.drop j)) (fun V9 _=>mn-(intOf V9).toNat);case atStart=>exact⟨0,xs,zL _,rfl,HQ.o.1,HQ.o.2,rfl,rfl⟩
  case round=>
   clear HQ;obtain⟨j,zs,hj,rfl,HI⟩:=hrel;have HZL:Hid (zs.length=mn):=by
    have h:=congrArg List.length HI.o.2.2.1;simp only[gQ]at h;show _=_;rw[h,mf.o]
   by_cases hlt:j<mn
   ·have hltz:(j:Int)<(mn:Int):=(by omega);have hj0:(0:Int)<=(j:Int):=(by omega);have Xc:mn<=140737488351232:=(by have:=YP.o.1;have:=mf.o;omega);obtain⟨y,hy⟩:∃y,zs[j]? =some y:=⟨zs[j]'(by have:=HZL.o;omega),by simp⟩;have hyx:xs[j]? =some y:=by
     have h:=congrArg List.head? HI.o.2.2.2;rw[List.head?_drop,List.head?_drop,hy]at h;exact h.symm
    have hym:=lM hyx;obtain⟨b1,o1,q1,gU,rY,x0,x1,x2,x3,x4,x5,x6,x7,x8,x9⟩:=j5 (aK (E:=EV) HI.o.2.1.nodes) hy;have hq0:q1=Zg/\o1=0:=by
     rcases HI.o.2.1.nodes.2 with⟨h0,_⟩|⟨g,cap,cur,h0,_⟩
     ·rw[gU]at h0;cases h0
     ·rw[gU]at h0;simp only[vS,oI,aI]at h0 gU;exact⟨gU.2.2.symm,h0.1.2.1⟩
    obtain⟨rfl,rfl⟩:=hq0;simp only[vS]at gU;obtain⟨rfl,-,-⟩:=gU;simp only[nZ]at x0 x1 x2 x3 x4 x5 x6 x7 x8 x9;have HY:Hid (zs[j]? =some y/\xs[j]? =some y):=⟨hy,hyx⟩;have NRY:=hid ((HG.o.each y hym).below (HI.o.1));have HSZ:=hid (YP.o.2.2 y hym);clear hy hyx hym;obtain⟨yb,hyb⟩:=aF (wr.heap.size);obtain⟨W5,bW⟩:=aF (wr.alloc (.cells y.cells 149));have P5:Hid (Bw wr W5/\W5.heap[yb]? =some (.cells y.cells 149 (0,0))/\wr.heap.size<=yb):=by
     rw[bW,hyb];exact⟨((Gr.refl wr).alloc _).below,ah _ _,nR _⟩
    have ig:Hid (wr.alloc (.cells #[iV y.n.kind,iV y.n.ins,iV y.n.outs, .slice y.cq y.cm y.cc,uV (y.n.via.1:Nat),uV (y.n.via.2.1:Nat),uV (y.n.via.2.2:Nat),uV (y.n.bound:Nat), .slice y.dq y.dm y.dc, .bool y.n.start] 149)=W5/\wr.heap.size=yb):=⟨bW.symm,hyb.symm⟩;clear bW hyb;go_upto_region 5 with fail;rw[ig.o.1,ig.o.2];clear ig x0 x1 x2 x3 x4 x5 x6 x7 x8 x9 rY;have Q5:=hid (HI.o.2.1.below P5.o.1);have Zm:=hid (HI.o.1.trans (P5.o.1.mono HI.o.1.size));have NR5:=hid (NRY.o.below P5.o.1);have hS0:W5.drew.heap[cb]? =some (.cells (jg a (sO b1 mn q1) ev') 25 (0,0))/\W5.drew.heap[yb]? =some (.cells y.cells 149 (0,0)):=⟨Q5.o.blk,P5.o.2.1⟩;refine ay (S:=fun W=>W.heap[cb]? =some (.cells (jg a (sO b1 mn q1) ev') 25 (0,0))/\W.heap[yb]? =some (.cells y.cells 149 (0,0))) (D:=[]) hmx ?_;refine' ak 0 hS0 ?_;refine' bD 1 hS0 ?h ?_;case h=>(intro W hSw;have hc:=(aa hSw.1).1;have hl:=ae hSw.1;go_simp;try(with_reducible rfl))
    refine' ak 2 hS0 ?_;refine' ak 3 hS0 ?_;refine' bD 4 hS0 ?h ?_;case h=>(intro W hSw;have hc:=(aa hSw.1).1;have hl:=ae hSw.1;go_simp;try(with_reducible rfl))
    refine' ak 5 hS0 ?_;refine' ak 6 hS0 ?_;refine' bD 7 hS0 ?h ?_;case h=>(intro W hSw;have hc:=(aa hSw.2).1;have hl:=ae hSw.2;go_simp;try(with_reducible rfl))
    refine' ak 9 hS0 ?_;refine' bD 10 hS0 ?h ?_;case h=>(intro W hSw;have hc:=(aa hSw.2).1;have hl:=ae hSw.2;go_simp;try(with_reducible rfl))
    refine wpC 8 (Lu _ (NR5.o.code.below (Gr.refl W5).drew.below) HSZ.o.1) ?_;rintro r w6 ⟨v31,rfl,b6,o6⟩;have B6:=hid ((Gr.refl W5).drew.below.trans (b6.mono (Gr.refl W5).drew.size));have O6:=hid (aN o6 (nT Zm.o.size (Gr.refl W5).drew.size));have L6:Hid (∀k,v31.ownBlock=some k->W5.heap.size<=k):=fun k e=>(aM o6 k e).1;have pM:=(show _/\_ from⟨(b6.block _ (ae hS0.1)).trans hS0.1,(b6.block _ (ae hS0.2)).trans hS0.2⟩);obtain⟨Jm,JB,c31,hv31⟩:=aD o6;subst hv31;clear b6 o6;refine⟨_,rfl,pM, ?_⟩;refine wpC 11 (Aq _ (NR5.o.bV.below B6.o) HSZ.o.2) ?_;rintro r w7 ⟨v34,rfl,b7,o7⟩;have B7:=hid (B6.o.trans (b7.mono B6.o.size));have O7:=hid (aN o7 (nT Zm.o.size B6.o.size));have O67:=hid (ag O6.o b7);have bu:=(show _/\_ from⟨(b7.block _ (ae pM.1)).trans pM.1,(b7.block _ (ae pM.2)).trans pM.2⟩);obtain⟨Si,SQ,c34,hv34⟩:=aD o7;subst hv34;clear b7 o7;refine⟨_,rfl,bu, ?_⟩;refine' ak 12 bu ?_;refine' ak 13 bu ?_;refine fV 14 fun K hK=> ?_;have QN:=hid (Q5.o.below B7.o);have aaq:=HZL.o;have QM:w7.ownsRow W0.heap.size 149 10 (sO b1 zs.length q1) zs.length (fl EV zs):=by
     have h:=QN.o.nodes;rw[<-aaq]at h;exact h
    have fr:=QM.frozenAt;have hlb:=(aM QN.o.nodes b1 rfl).2;have Xt:aj w7 b1 (j*10+3) (.slice y.cq y.cm y.cc):=by
     obtain⟨b9,o9,q9,e9,-,-,-,-,h3,-⟩:=j5 (aK (E:=EV) QN.o.nodes) HY.o.1;simp only[vS,oI,aI]at e9;obtain⟨⟨rfl,rfl,-⟩,-,rfl⟩:=e9;rw[nZ]at h3;exact h3
    go_simp;have O14:=jA (u:= .slice Jm JB c31) QM (j*10+3);obtain⟨w8,hw8⟩:=aF (w7.setCell ⟨b1,j*10+3,none⟩ (.slice Jm JB c31));rw[<-hw8]at O14;rw[<-hw8];have N14:Hid (w8.ownsRow W0.heap.size 149 10 (sO b1 zs.length q1) zs.length (fl EV (zs.set j (y.eu Jm JB c31)))):=aV O14.1 rfl (JR zs j 3 y _ _ HY.o.1 (by decide) rfl);have K14:=hid O14.2;have iZ:w8.heap[cb]? =some (.cells (jg a (sO b1 mn q1) ev') 25 (0,0))/\w8.heap[yb]? =some (.cells y.cells 149 (0,0)):=⟨(K14.o.block _ (ae bu.1) (fun e=>aJ QN.o.nodes bu.1 (by decide) b1 rfl e.symm)).trans bu.1,(K14.o.block _ (ae bu.2) (fun e=>by have h1:=P5.o.2.2;have h2:=(aM HI.o.2.1.nodes b1 rfl).2;omega)).trans bu.2⟩;clear O14 hw8 fr hlb Xt aaq QM;refine hK.o _ _ (fun hD=>iZ) ?_;clear hK K;try simp only[Act.put,qI,q0,qS]
    refine' ak 15 iZ ?_;refine' ak 16 iZ ?_;refine fV 17 fun K hK=> ?_;have fr:=N14.o.frozenAt;have hlb:=(aM N14.o b1 rfl).2;have hzl:(zs.set j (y.eu Jm JB c31)).length=zs.length:=(by simp);have Xt:aj w8 b1 (j*10+8) (.slice y.dq y.dm y.dc):=by
     obtain⟨b9,o9,q9,e9,-,-,-,-,-,-,-,-,-,h3,-⟩:=j5 (ts:=zs.set j (y.eu Jm JB c31)) (x:=y.eu Jm JB c31) (aK (E:=EV) (aV N14.o hzl.symm rfl)) (by rw[List.getElem?_set_self (lG.1 HY.o.1).1]);simp only[vS,oI,aI]at e9;obtain⟨⟨rfl,rfl,-⟩,-,rfl⟩:=e9;rw[nZ]at h3;exact h3
    go_simp;have Zk:=jA (u:= .slice Si SQ c34) N14.o (j*10+8);obtain⟨w9,vI⟩:=aF (w8.setCell ⟨b1,j*10+8,none⟩ (.slice Si SQ c34));rw[<-vI]at Zk;rw[<-vI];have N17:Hid (w9.ownsRow W0.heap.size 149 10 (sO b1 zs.length q1) zs.length (fl EV (zs.set j ((y.eu Jm JB c31).jm Si SQ c34)))):=aV Zk.1 rfl (by rw[JR (zs.set j (y.eu Jm JB c31)) j 8 (y.eu Jm JB c31) ((y.eu Jm JB c31).jm Si SQ c34) (.slice Si SQ c34) (by rw[List.getElem?_set_self (lG.1 HY.o.1).1]) (by decide) rfl,List.set_set]);have K17:=hid (K14.o.tr Zk.2);have jJ:w9.heap[cb]? =some (.cells (jg a (sO b1 mn q1) ev') 25 (0,0))/\w9.heap[yb]? =some (.cells y.cells 149 (0,0)):=⟨(Zk.2.block _ (ae iZ.1) (fun e=>aJ N14.o iZ.1 (by decide) b1 rfl e.symm)).trans iZ.1,(Zk.2.block _ (ae iZ.2) (fun e=>by have h1:=P5.o.2.2;have h2:=(aM HI.o.2.1.nodes b1 rfl).2;omega)).trans iZ.2⟩;clear Zk vI fr hlb Xt hzl;have FIN:Hid (Bw W0 w9/\Cq W0.heap.size w9 cb a (sO b1 mn q1) ev' (zs.set j ((y.eu Jm JB c31).jm Si SQ c34)) es (j+1)/\(zs.set j ((y.eu Jm JB c31).jm Si SQ c34)).map NV.n=xs.map NV.n/\(zs.set j ((y.eu Jm JB c31).jm Si SQ c34)).drop (j+1)=xs.drop (j+1)):=by
     have hjl:=(lG.1 HY.o.1).1;have Y8:=Zm.o.trans (B7.o.mono Zm.o.size);have neq:∀{e:TypeId} {size n:Nat} {v:Value} {vs:List Value},w7.ownsRow W0.heap.size e size v n vs->e≠149->w9.ownsRow W0.heap.size e size v n vs:=fun h hT=>ax K17.o h (fun k e e2=>aH h QN.o.nodes hT k e (by rw[e2];rfl));refine⟨Y8.trans (K17.o.below Y8.size (fun k e=>by rw[e];exact(aM QN.o.nodes b1 rfl).1)),⟨jJ.1,QN.o.low,aV (n:=zs.length) (by have h:=N17.o;rw[show(sO b1 zs.length q1)=sO b1 mn q1 by rw[HZL.o]]at h;exact h) (by simp) rfl,neq QN.o.aO (by decide),fun x hx=> ?_⟩, ?_, ?_⟩
     ·rw[tO,List.take_set_of_le (nR _),List.getElem?_set_self hjl]at hx;rcases kr.1 hx with hx|hx
      ·exact⟨neq (QN.o.each x hx).1 (by decide),neq (QN.o.each x hx).2 (by decide)⟩
      ·simp at hx;subst hx;exact⟨neq O67.o (by decide),neq O7.o (by decide)⟩
     ·rw[List.map_set];have:(zs.map NV.n)[j]? =some y.n:=(by simp[HY.o.1]);show(zs.map NV.n).set j y.n=_;rw[Nq this];exact HI.o.2.2.1
     ·rw[List.drop_set_of_lt (by omega)];have h:=congrArg List.tail HI.o.2.2.2
      rwa [List.tail_drop,List.tail_drop]at h
    refine hK.o _ _ (fun hD=>jJ) ?_;clear hK K;try simp only[Act.put,qI,q0,qS]
    refine av (by kernel_rfl) ?_ _;clear hS0 pM bu iZ jJ;go_wp2_with fail;go_roundw;case rel=>exact⟨j+1,zs.set j ((y.eu Jm JB c31).jm Si SQ c34),by omega,by go_num,FIN.o⟩
    case measure=>simp[intOf];omega
   ·have hltz:¬(j:Int)<(mn:Int):=(by omega);have HE:Hid (∀y∈zs,wr.ownsRow W0.heap.size 202 2 y.cv y.n.code.length (fl EO y.n.code)/\wr.ownsRow W0.heap.size 205 5 y.dv y.n.bV.length (fl EC y.n.bV)):=fun y hy=>HI.o.2.1.each y (by rw[tL (by have:=HZL.o;omega)];exact hy);have hn2:=(HI.o.1.block _ (ae N2.o)).trans N2.o;have c2:=(aa hn2).1;have f2:=(aa hn2).2;have l2:=ae hn2;have c1:=(aa HI.o.2.1.blk).1;have l1:=ae HI.o.2.1.blk;obtain⟨qe,me,cee,abP⟩:=aD HI.o.2.1.aO;subst abP;have HN2:=hid hn2;clear hn2;go_wp2_with fail;obtain⟨wf,hwf⟩:=aF (((wr.setCell ⟨w.heap.size+1,0,none⟩ (iV a)).setCell ⟨w.heap.size+1,1,none⟩ (.slice qn mn Zg)).setCell ⟨w.heap.size+1,2,none⟩ (.slice qe me cee));rw[<-hwf];obtain⟨hbf,hkf⟩:wf.heap[w.heap.size+1]? =some (.cells #[iV a, .slice qn mn Zg, .slice qe me cee] 25 (0,0))/\Kp (fun k=>k=w.heap.size+1) wr wf:=by
     rw[hwf];exact EN HN2.o _ _ _
    clear hwf c1 c2 l1 l2 f2;obtain⟨qf,-⟩:=aa hbf;have hlf:=ae hbf;refine bR (v:= .agg #[iV a, .slice qn mn Zg, .slice qe me cee]) (by simp[results,Tryz.results69,go_sem,qf]) rfl ?_;have hlo:=ae N2.o;have hbw:=B0.o.trans (HI.o.1.mono B0.o.size);have hC:Cg W0.heap.size wr (.slice qn mn Zg) (.slice qe me cee) zs es:=⟨HI.o.2.1.nodes,HI.o.2.1.aO,HE.o⟩;exact⟨_,_,zs,rfl,hbw.trans (hkf.below hbw.size (fun k e=>by omega)),HI.o.2.2.1,(hC.kp hkf (fun k h1 h2 e=>by omega)).base B0.o.size⟩
end Go.Proofs.YtiiefcalkjeieaaGreat.Df
