import Derived.Test.YteekbpokkjjipaaGreatGHang
variable{B k:Nat}{w w':Go.World}{nv ev fv pv:Go.Value}{a:Int}{S:Nat->Prop}
set_option maxHeartbeats 4000000
namespace Go.Proofs.YteekbpokkjjipaaGreat
namespace Df
open Go.RowKit Go.Sort
attribute [local go_sem ↓] Go.wp_at_zero Go.wp_at_succ
theorem mE{n:df}(h:ek a n=0):n.code.length<=16/\n.bP.length<=16:=by
 unfold ek at h;split at h
 ·cases h
 ·split at h
  ·cases h
  ·split at h
   ·cases h
   ·rename_i h1 h2 h3;simp only[sI,has,Bool.or_eq_true,decide_eq_true_eq,not_or,Nat.not_lt,Nat.le_zero_eq]at h3;obtain⟨⟨⟨⟨c1,-⟩,-⟩,c4⟩,-⟩:=h3;unfold jB at h;constructor
    ·by_cases hk:n.kind=2\/n.kind=3
     ·rw[if_pos hk]at h;split at h
      ·cases h
      ·omega
     ·rw[if_neg hk]at c1;omega
    ·by_cases hk:n.kind=8
     ·rw[if_neg (by omega),if_neg (by omega),if_pos hk]at h;split at h
      ·rename_i hc;exact(tX.1 hc).1
      ·cases h
     ·rw[if_neg hk]at c4;omega
theorem gI.lists{g:bI}(h:gI g):∀n∈g.nodes,n.code.length<=16/\n.bP.length<=16:=fun n hn=>by
 obtain⟨i,hi,rfl⟩:=List.mem_iff_getElem.1 hn;exact mE (h.ng i _ hi (by simp))
theorem Hg.base{B' gb:Nat}{ns:List df}{ss:List SV}{L:Nat->List Int}(h:Hg B w gb a nv ev fv pv ns ss L)(hb:B'<=B):Hg B' w gb a nv ev fv pv ns ss L:=
 ⟨h.blk,aK h.fr hb,aK h.sp hb,h.len,h.shape,fun k s hk=>aK (h.each k s hk) hb,h.apart⟩
theorem Hg.kp{gb:Nat}{ns:List df}{ss:List SV}{L:Nat->List Int}(h:Hg B w gb a nv ev fv pv ns ss L)(hg:B<=gb)(hk:Kp S w w')(hS:∀k,B<=k->k<w.heap.size->¬S k):Hg B w' gb a nv ev fv pv ns ss L:=
 ⟨(hk.block _ (ae h.blk) (hS _ hg (ae h.blk))).trans h.blk,ay hk h.fr (fun k e=>hS k (aH h.fr k e).1 (aH h.fr k e).2),ay hk h.sp (fun k e=>hS k (aH h.sp k e).1 (aH h.sp k e).2),h.len,h.shape,fun k s hs=>ay hk (h.each k s hs) (fun k e=>hS k (aH (h.each _ s hs) k e).1 (aH (h.each _ s hs) k e).2),h.apart⟩
structure Gp(B:Nat)(w:World)(gb:Nat)(g:bI)(nv ev fv pv:Value)(ys:List NV)(ss:List SV):Prop where
 low:B<=gb
 raw:Cg B w nv ev ys g.aL
 Jn:ys.map NV.n=g.nodes
 rows:Hg B w gb g.arity nv ev fv pv g.nodes ss (fun k=>gY g.nodes g.aL k g.aL.length)
 ok:gI g
def Gm(B:Nat)(w:World)(gb:Nat)(g:bI):Prop:=∃nv ev fv pv ys ss,Gp B w gb g nv ev fv pv ys ss
theorem Gp.kp{gb:Nat}{g:bI}{ys:List NV}{ss:List SV}(h:Gp B w gb g nv ev fv pv ys ss)(hk:Kp S w w')(hS:∀k,B<=k->k<w.heap.size->¬S k):Gp B w' gb g nv ev fv pv ys ss:=
 ⟨h.low,h.raw.kp hk hS,h.Jn,h.rows.kp h.low hk hS,h.ok⟩
theorem Gp.below{gb:Nat}{g:bI}{ys:List NV}{ss:List SV}(h:Gp B w gb g nv ev fv pv ys ss)(hb:Below w.heap.size w w'):Gp B w' gb g nv ev fv pv ys ss:=h.kp (S:=fun _=>False) (Kp.of_below hb) (fun _ _ _ h=>h)
theorem Gm.kp{gb:Nat}{g:bI}(h:Gm B w gb g)(hk:Kp S w w')(hS:∀k,B<=k->k<w.heap.size->¬S k):Gm B w' gb g:=by
 obtain⟨nv,ev,fv,pv,ys,ss,h⟩:=h;exact⟨nv,ev,fv,pv,ys,ss,h.kp hk hS⟩
theorem Gm.below{gb:Nat}{g:bI}(h:Gm B w gb g)(hb:Below w.heap.size w w'):Gm B w' gb g:=h.kp (S:=fun _=>False) (Kp.of_below hb) (fun _ _ _ h=>h)
def Nw(w:World)(g:bI)(r:Ending)(w':World):Prop:=Below w.heap.size w w'/\∃e t,Fl g e t/\((e≠0/\r= .returned (.tuple #[.pointer none, .int .i64 e, .int .i64 t]))\/(e=0/\∃gb,r= .returned (.tuple #[.pointer (some ⟨gb,0,none⟩), .int .i64 0, .int .i64 0])/\Gm w.heap.size w' gb g))
theorem Lc{t:List SX}{s:SV}(h:(t.map SV.of)[k]? =some s):t[k]? =some (s.nd.toNat,s.pt.toNat,s.cO)/\0<=s.nd/\0<=s.pt:=by
 rw[gM]at h;cases e:t[k]? with
 | none => rw[e]at h;cases h
 | some x=>
  rw[e]at h;cases h;simp[SV.of]
theorem Sa{t:List SX}{s:SV}(h:(t.map SV.of)[k]? =some s):s.ev= .slice none 0 0:=by
 rw[gM]at h;cases e:t[k]? with
 | none => rw[e]at h;cases h
 | some x=>
  rw[e]at h;cases h;rfl
theorem dB{M:Nat}{xs:List NV}{es:List dI}(w:World)(hG:GR M w nv ev xs es)(hC:wP ev xs):Calls Tryz.prog 32 #[.agg (iO a nv ev)] w (Nw w (jG a xs es)):=by
 have g0:=(Gr.refl w).alloc (.cells (iO a nv ev) 25);have HG:=hid (hG.below g0.below);have HB:=hid (ai w (.cells (iO a nv ev) 25));have B0:=hid g0.below;obtain⟨W0,hW0⟩:=aB (w.alloc (.cells (iO a nv ev) 25));have HW:Hid (w.alloc (.cells #[.int .i64 a,nv,ev] 25)=W0):=hW0.symm;rw[<-hW0]at HG HB B0;have HCP:=hid hC;have hf:=FO (a:=a) W0 HG.o hC;obtain⟨pn,cn,rfl⟩:=hG.nodes.form;obtain⟨pe,ce,rfl⟩:=hG.aL.form;have c0:=(aa HB.o).1;have l0:=ae HB.o;generalize hnl:xs.length=nl at *;generalize hel:es.length=el at *;have lh:=hid hnl;have AV:=hid hel;clear hG g0 hW0 hC hnl hel;go_enter Tryz.func32,Tryz.ntmps32;go_upto_region 1 with fail;rw[HW.o];clear HW;go_wp2_with fail;refine hf.mono ?_;rintro r w1 ⟨e,t,rfl,hF,b1⟩;have B1:=hid (B0.o.trans (b1.mono B0.o.size));have HF:=hid hF;by_cases he:e=0
 ·subst he;have jg:=hid (hF.ok.1 rfl);have hn1:=(b1.block _ (ae HB.o)).trans HB.o;have c1:=(aa hn1).1;have l1:=ae hn1;have G1:=HG.o.below b1;have Na:=kX (a:=a) w1 G1 ⟨by have h:=jg.o.nl;simp at h;omega,by have h:=jg.o.el;simp at h;omega,fun x hx=>by have h:=jg.o.lists x.n (List.mem_map_of_mem hx);omega⟩;clear hF b1 hf c0 l0 hn1 G1;go_wp2_with fail;refine Na.mono ?_;rintro r w2 ⟨Sb,ev',ys,rfl,b2,hys,hcg⟩;have B2:=hid (B1.o.trans (b2.mono B1.o.size));have CG:=hid (hcg.base B1.o.size);have ZG:=hid hys;obtain⟨qn,mn,kn,hn⟩:=az hcg.nodes;obtain⟨qe,me,ke,hq⟩:=az hcg.aL;subst hn;subst hq;clear b2 hcg hys Na c1 l1;obtain⟨gb,hgb⟩:=aB (w2.heap.size);obtain⟨W3,hW3⟩:=aB (w2.alloc (.cells (dY a (.slice qn mn kn) (.slice qe me ke) (.slice none 0 0) (.slice none 0 0)) 138));have P3:Hid (Below w2.heap.size w2 W3/\W3.heap[gb]? =some (.cells (dY a (.slice qn mn kn) (.slice qe me ke) (.slice none 0 0) (.slice none 0 0)) 138 (0,0))/\gb=w2.heap.size/\W3.heap.size=gb+1):=by
   rw[hW3,hgb];exact⟨((Gr.refl w2).alloc _).below,ai _ _,rfl,by simp⟩
  have HW3:Hid (w2.alloc (.cells #[.int .i64 a, .slice qn mn kn, .slice qe me ke, .slice none 0 0, .slice none 0 0] 138)=W3/\w2.heap.size=gb):=⟨hW3.symm,hgb.symm⟩;clear hW3 hgb;have hpo:Tc (ys.map NV.n):=by rw[ZG.o];exact jg.o.jW
  have hyl:ys.length=xs.length:=by have:=congrArg List.length ZG.o;simpa using this
  have hxl:xs.length<=24:=by have:=jg.o.nl;simpa using this
  have hN3:Lz EV w2.heap.size W3 (.slice qn mn kn) ys:=Or.inl ⟨(aJ (E:=EV) CG.o.nodes).below P3.o.1,fun k e=>(aH CG.o.nodes k e).2⟩;have hE3:Lz ED w2.heap.size W3 (.slice qe me ke) es:=Or.inl ⟨(aJ (E:=ED) CG.o.aL).below P3.o.1,fun k e=>(aH CG.o.aL k e).2⟩;have Yv:=EN W3 P3.o.2.1 hN3 (fun k e e2=>by have:=(aH CG.o.nodes k e).2;have:=P3.o.2.2.1;omega) (by omega) hpo;have HN3:=hid hN3;have HE3:=hid hE3;clear hN3 hE3;go_upto_region 5 with fail;rw[HW3.o.1,HW3.o.2];clear HW3;go_wp2_with fail;refine Yv.mono ?_;rintro r w4 ⟨rfl,fv,pv,QH⟩;have HNP:=hid QH;have hH4:Hg W3.heap.size w4 gb a (.slice qn mn kn) (.slice qe me ke) fv pv (ys.map NV.n) ((aV (ys.map NV.n) ys.length).map SV.of) (fun _=>[]):=by
   have hl:(ys.map NV.n).length=ys.length:=(by simp);refine⟨QH.blk,by rw[hl];exact QH.fr,QH.sp,by simp,fun k s hk=>by rw[hl];exact Lc hk,fun k s hk=> ?_,fun k s hk b hb=> ?_⟩
   ·rw[Sa hk];exact World.ownsRow_nil _ _ _ _
   ·rw[Sa hk]at hb;cases hb
  have keep:∀k,k<w2.heap.size->w4.heap[k]? =W3.heap[k]? :=fun k hk=>QH.kp.block k (nL hk P3.o.1.size) (fun e=>by have:=P3.o.2.2.1;omega);have hN4:Lz EV w2.heap.size w4 (.slice qn mn kn) ys:=by
   rcases HN3.o with⟨h,hm⟩|h
   ·exact Or.inl ⟨h.kept QH.kp.size (fun k e=>keep k (hm k e)),hm⟩
   ·exact Or.inr h
  have hE4:Lz ED w2.heap.size w4 (.slice qe me ke) es:=by
   rcases HE3.o with⟨h,hm⟩|h
   ·exact Or.inl ⟨h.kept QH.kp.size (fun k e=>keep k (hm k e)),hm⟩
   ·exact Or.inr h
  have Sw:=Ng (a:=a) w4 hH4 (by have:=P3.o.2.2.2;omega) QH.kp.size (by have:=P3.o.2.2;omega) hN4 hE4 (by have h:=jg.o;unfold jG at h⊢;rw[ZG.o];exact h);clear Yv QH hH4 keep hN4 hE4 hpo hyl hxl;go_wp2_with fail;refine Sw.mono ?_;rintro r w5 ⟨rfl,ss,hH5,k5⟩;have KK:Kp (fun k=>w2.heap.size<=k) w2 w5:=((Kp.of_below P3.o.1).trans (HNP.o.kp) (fun j _ e=>by have:=P3.o.2.2.1;omega)).trans k5 (fun j _ e=>by have:=P3.o.2.2;omega);have FIN:Hid (Below w.heap.size w w5/\Gm w.heap.size w5 gb (jG a xs es)):=by
   refine⟨B2.o.trans (KK.below B2.o.size (fun k e=>nT B2.o.size e)),_,_,fv,pv,ys,ss,by have:=P3.o.2.2.1;have:=B2.o.size;omega,CG.o.kp KK (fun k _ h e=>by omega),ZG.o, ?_,jg.o⟩;have h:=hH5.base (B':=w.heap.size) (by have:=P3.o.2.2;have:=B2.o.size;omega);rw[ZG.o]at h;exact h
  clear Sw hH5 k5 KK;go_wp2_with fail;refine bodyPost_ret (v:= .tuple #[.pointer (some ⟨gb,0,none⟩), .int .i64 0, .int .i64 0]) (by simp[results,Tryz.results32,go_sem]) rfl ?_;exact⟨FIN.o.1,0,t,HF.o,Or.inr ⟨rfl,gb,rfl,FIN.o.2⟩⟩
 ·have hb:(e==0)=false:=by simp[he]
  have hb':(e != 0)=true:=by simp[he]
  have HE:=hid he;clear hF b1 hf c0 l0 he;go_wp2_with fail;refine bodyPost_ret (v:= .tuple #[.pointer none, .int .i64 e, .int .i64 t]) (by simp[results,Tryz.results32,go_sem]) rfl ?_;exact⟨B1.o,e,t,HF.o,Or.inl ⟨HE.o,rfl⟩⟩
theorem Gp.gb{gb:Nat}{g:bI}{ys:List NV}{ss:List SV}(h:Gp B w gb g nv ev fv pv ys ss):Gb w gb g.arity nv ev fv pv ys:=by
 have hl:ys.length=g.nodes.length:=by rw[<-h.Jn,fG]
 refine⟨h.rows.blk,iM (E:=EV) h.raw.nodes, ?_,by rw[hl];exact h.ok.nl,by rw[h.Jn];exact h.ok.jW⟩;rw[h.Jn,hl];exact aJ (E:=EI) h.rows.fr
theorem ql{gb:Nat}{g:bI}(i p:Int)(w:World)(h:Gm B w gb g):Calls Tryz.prog 116 #[.pointer (some ⟨gb,0,none⟩), .int .i64 i, .int .i64 p] w fun r w'=>r= .returned (.int .i64 (OI g.nodes i p))/\w'=w:=by
 obtain⟨nv,ev,fv,pv,ys,ss,h⟩:=h;have:=MQ i p w h.gb;rw[h.Jn]at this;exact this
theorem mK{gb:Nat}{g:bI}(i p:Int)(w:World)(h:Gm B w gb g):Calls Tryz.prog 115 #[.pointer (some ⟨gb,0,none⟩), .int .i64 i, .int .i64 p] w fun r w'=>r= .returned (.int .i64 (xk g.nodes i p))/\Gr w w':=by
 obtain⟨nv,ev,fv,pv,ys,ss,h⟩:=h;have:=Ho i p w h.gb;rw[h.Jn]at this;exact this
def bg(ns:List df):Nat:=(aV ns ns.length).length
theorem iw{gb:Nat}{g:bI}(w:World)(h:Gm B w gb g):Calls Tryz.prog 66 #[.pointer (some ⟨gb,0,none⟩)] w fun r w'=>r= .returned (.int .i64 (bg g.nodes:Nat))/\w'=w:=by
 obtain⟨nv,ev,fv,pv,ys,ss,h⟩:=h;have HL:Hid (ss.length=bg g.nodes):=h.rows.len;have cg:=(aa h.rows.blk).1;have lg:=ae h.rows.blk;obtain⟨p,n,c,rfl⟩:=az h.rows.sp;have HN:=hid (bA h.rows.sp _ _ _ rfl).1;clear h;go_enter Tryz.func66,Tryz.ntmps66;go_wp2_with fail;go_ret;exact⟨by rw[<-HL.o,<-HN.o];rfl,rfl⟩
theorem jb{gb:Nat}{g:bI}(w:World)(h:Gm B w gb g):Calls Tryz.prog 120 #[.pointer (some ⟨gb,0,none⟩)] w fun r w'=>r= .returned (.int .i64 (g.nodes.length:Nat))/\w'=w:=by
 obtain⟨nv,ev,fv,pv,ys,ss,h⟩:=h;have HL:Hid (ys.length=g.nodes.length):=by show _=_;rw[<-h.Jn,fG]
 have cg:=(aa h.rows.blk).1;have lg:=ae h.rows.blk;obtain⟨p,n,c,rfl⟩:=az h.raw.nodes;have HN:=hid (bA h.raw.nodes _ _ _ rfl).1;clear h;go_enter Tryz.func120,Tryz.ntmps120;go_wp2_with fail;go_ret;exact⟨by rw[<-HL.o,<-HN.o];rfl,rfl⟩
theorem vQ{gb:Nat}{g:bI}(w:World)(h:Gm B w gb g):Calls Tryz.prog 119 #[.pointer (some ⟨gb,0,none⟩)] w fun r w'=>∃nv ev ys,Hid (r= .returned (.agg (iO g.arity nv ev))/\Below w.heap.size w w'/\ys.map NV.n=g.nodes/\Cg w.heap.size w' nv ev ys g.aL):=by
 obtain⟨nv,ev,fv,pv,ys,ss,h⟩:=h;have hyl:ys.length=g.nodes.length:=by rw[<-h.Jn,fG]
 have hnl:=h.ok.nl;have hel:=h.ok.el;have DT:∀y∈ys,y.n.code.length<=16/\y.n.bP.length<=16:=fun y hy=>h.ok.lists y.n (by rw[<-h.Jn];exact List.mem_map_of_mem hy);have aa1:=hid h.Jn;obtain⟨W0,hW0⟩:=aB (w.alloc (.cells (iO 0 (.slice none 0 0) (.slice none 0 0)) 25));have b0:Below w.heap.size w W0:=by rw[hW0];exact((Gr.refl w).alloc _).below
 have N0:Hid (W0.heap[w.heap.size]? =some (.cells (iO 0 (.slice none 0 0) (.slice none 0 0)) 25 (0,0))/\Below w.heap.size w W0):=by rw[hW0];exact⟨ai _ _,((Gr.refl w).alloc _).below⟩
 have HW:Hid (w.alloc (.cells #[.int .i64 0, .slice none 0 0, .slice none 0 0] 25)=W0):=hW0.symm;have h0:=h.below b0;have hgr:GR W0.heap.size W0 nv ev ys g.aL:=h0.raw.gr ⟨by omega,by omega⟩ (fun y hy=>by have:=DT y hy;omega);have Na:=kX (a:=g.arity) W0 hgr ⟨by omega,by omega,fun y hy=>by have:=DT y hy;omega⟩;have cg:=(aa h0.rows.blk).1;have lg:=ae h0.rows.blk;have HG:Hid (nv=nv):=rfl;obtain⟨p1,n1,c1,rfl⟩:=az h.raw.nodes;obtain⟨p2,n2,c2,rfl⟩:=az h.raw.aL;clear h h0 hgr b0 hW0 DT hyl hnl hel HG;go_enter Tryz.func119,Tryz.ntmps119;go_upto_region 1 with fail;rw[HW.o];clear HW;go_wp2_with fail;refine Na.mono ?_;rintro r w2 ⟨Sb,ev',zs,rfl,b2,hys,hcg⟩;have HC:Hid (Below W0.heap.size W0 w2/\zs.map NV.n=g.nodes/\Cg W0.heap.size w2 Sb ev' zs g.aL):=⟨b2,hys.trans aa1.o,hcg⟩;obtain⟨q1,m1,k1,hq1⟩:=az hcg.nodes;obtain⟨q2,m2,k2,hq2⟩:=az hcg.aL;subst hq1;subst hq2;have hn2:=(b2.block _ (ae N0.o.1)).trans N0.o.1;have c2:=(aa hn2).1;have f2:=(aa hn2).2;have l2:=ae hn2;have ZX:=hid hn2;clear b2 hys hcg hn2 Na cg lg;go_wp2_with fail;obtain⟨wf,hwf⟩:=aB (((w2.setCell ⟨w.heap.size,0,none⟩ (.int .i64 g.arity)).setCell ⟨w.heap.size,1,none⟩ (.slice q1 m1 k1)).setCell ⟨w.heap.size,2,none⟩ (.slice q2 m2 k2));rw[<-hwf];obtain⟨hbf,YE⟩:wf.heap[w.heap.size]? =some (.cells #[.int .i64 g.arity, .slice q1 m1 k1, .slice q2 m2 k2] 25 (0,0))/\Kp (fun k=>k=w.heap.size) w2 wf:=by
  rw[hwf];exact CV ZX.o _ _ _
 clear hwf c2 f2 l2;obtain⟨qf,-⟩:=aa hbf;have hlf:=ae hbf;refine bodyPost_ret (v:= .agg #[.int .i64 g.arity, .slice q1 m1 k1, .slice q2 m2 k2]) (by simp[results,Tryz.results119,go_sem,qf]) rfl ?_;have hlo:=ae N0.o.1;have hbw:=N0.o.2.trans (HC.o.1.mono N0.o.2.size);exact⟨_,_,zs,rfl,hbw.trans (YE.below hbw.size (fun k e=>by omega)),HC.o.2.1,(HC.o.2.2.kp YE (fun k h1 h2 e=>by omega)).base N0.o.2.size⟩
def nP(i p:Nat):List dF:=(List.range p).map fun(o:Nat)=>⟨(i:Int),(o:Int),(0,0,0)⟩
def kv(o:Nat):Nat->List dF
 | 0 => []
 | i + 1 => kv o i++nP i o
theorem xR(i p:Nat):nP i (p+1)=nP i p++[⟨(i:Int),(p:Int),(0,0,0)⟩]:=by simp[nP,List.range_succ]
theorem rY(o i:Nat):(kv o i).length=i*o:=by
 induction i with
 | zero => simp[kv]
 | succ i ih => rw[kv,dH,ih,Nat.succ_mul];simp[nP]
theorem Gh(k:Int)(ci co:Nat)(cq:Option Addr)(cm cc:Nat)(via:mW)(bd:Nat)(dq:Option Addr)(dm dc:Nat)(st:Bool)(hi:ci<=4)(ho:co<=4)(w:World):Calls Tryz.prog 233 #[.agg (aM k (ci:Int) (co:Int) (.slice cq cm cc) via bd (.slice dq dm dc) st)] w (Cp EC 205 w (kv co ci)):=by
 have B0:=hid ((Gr.refl w).alloc (.cells (aM k (ci:Int) (co:Int) (.slice cq cm cc) via bd (.slice dq dm dc) st) 149)).below;have N0:=hid (ai w (.cells (aM k (ci:Int) (co:Int) (.slice cq cm cc) via bd (.slice dq dm dc) st) 149));obtain⟨W0,hW0⟩:=aB (w.alloc (.cells (aM k (ci:Int) (co:Int) (.slice cq cm cc) via bd (.slice dq dm dc) st) 149));have HW:Hid (w.alloc (.cells #[.int .i64 k, .int .i64 (ci:Int), .int .i64 (co:Int), .slice cq cm cc, .int .u64 (via.1:Nat), .int .u64 (via.2.1:Nat), .int .u64 (via.2.2:Nat), .int .u64 (bd:Nat), .slice dq dm dc, .bool st] 149)=W0):=hW0.symm;rw[<-hW0]at B0 N0;have c0:=(aa N0.o).1;have l0:=ae N0.o;clear hW0;go_enter Tryz.func233,Tryz.ntmps233;go_upto_region 1 with fail;rw[HW.o];clear HW;go_wp2_with fail;clear c0 l0;go_loopw [8,3] (fun s8 s3 wr=>∃(i:Nat),i<=ci/\s8= .int .i64 (i:Nat)/\Hid (Below W0.heap.size W0 wr/\wr.ownsRow W0.heap.size 205 5 s3 (kv co i).length (fl EC (kv co i)))) (fun s8 _ _=>ci-(RowKit.intOf s8).toNat);case atStart=>exact⟨0,Nat.zero_le _,rfl,Below.refl _ _,World.ownsRow_nil _ _ _ _⟩
 case round=>
  obtain⟨i,hil,rfl,HI⟩:=hrel;rename_i s8 s3;obtain⟨q3,m3,k3,hs3⟩:=az HI.o.2;subst hs3;by_cases hlt:i<ci
  ·have hltz:(i:Int)<(ci:Int):=(by omega);have hn:=(HI.o.1.block _ (ae N0.o)).trans N0.o;have c1:=(aa hn).1;have l1:=ae hn;clear hn;go_upto_region 6 with fail;clear c1 l1;go_loopw [13,3] (fun s13 s3 wr=>∃(p:Nat),p<=co/\s13= .int .i64 (p:Nat)/\Hid (Below W0.heap.size W0 wr/\wr.ownsRow W0.heap.size 205 5 s3 (kv co i++nP i p).length (fl EC (kv co i++nP i p)))) (fun s13 _ _=>co-(RowKit.intOf s13).toNat);case atStart=>exact⟨0,Nat.zero_le _,rfl,HI.o.1,aP HI.o.2 (by simp[nP]) (by simp[nP])⟩
   case round=>
    clear HI;obtain⟨p,hpl,rfl,HI⟩:=hrel;rename_i s13 s3';obtain⟨q4,m4,k4,hs4⟩:=az HI.o.2;subst hs4;by_cases hlp:p<co
    ·have aaC:(p:Int)<(co:Int):=(by omega);obtain⟨LL,lL⟩:=aB (kv co i++nP i p);rw[<-lL]at HI;have ug:=hid lL;have r9:Hid (LL.length<=20):=by
      show _<=_;have h1:i*co<=4*4:=Nat.mul_le_mul (by omega) ho;rw[lL,dH,rY];simp[nP];omega
     clear lL;go_wp2_with (at_builtin;refine fM EC Tryz.underlying147 vH rfl (by decide) rfl _ _ rfl W0.heap.size _ LL.length _ rfl HI.o.2 ⟨(i:Int),(p:Int),(0,0,0)⟩ (by first|rfl|simp) (by have:=r9.o;omega) (by have:=r9.o;unfold maxLen;omega) HI.o.1.size _ rfl _ ?_);intro g8 bB w8 h8 k8 _;have FIN:Hid (Below W0.heap.size W0 w8/\w8.ownsRow W0.heap.size 205 5 (.slice (some ⟨g8,0,none⟩) (LL.length+1) bB) (kv co i++nP i (p+1)).length (fl EC (kv co i++nP i (p+1)))):=by
      have k2:=Kp.grownBy (S:=fun k=>(Value.slice q4 m4 k4).ownBlock=some k) k8 (fun _ h=>h);refine⟨HI.o.1.trans (k2.below HI.o.1.size (fun k e=>(aH HI.o.2 k e).1)),aP h8 (by rw[ug.o,xR];simp;omega) (by rw[ug.o,xR,<-aA,aS EC (kv co i++nP i p),dK])⟩
     clear h8 k8;generalize LL.length+1=ll at FIN⊢;go_wp2_with fail;go_roundw;case rel=>exact⟨p+1,by omega,by go_num,FIN.o⟩
     case measure=>simp[RowKit.intOf];omega
    ·have aaC:¬(p:Int)<(co:Int):=(by omega);have FIN:Hid (Below W0.heap.size W0 wr/\wr.ownsRow W0.heap.size 205 5 (.slice q4 m4 k4) (kv co (i+1)).length (fl EC (kv co (i+1)))):=by
      have h:=HI.o.2;rw[show p=co by omega]at h;exact⟨HI.o.1,h⟩
     go_wp2_with fail;go_roundw;case rel=>exact⟨i+1,by omega,by go_num,FIN.o⟩
     case measure=>simp[RowKit.intOf];omega
  ·have hltz:¬(i:Int)<(ci:Int):=(by omega);obtain rfl:i=ci:=(by omega);go_wp2_with fail;go_ret;exact⟨_,rfl,B0.o.trans (HI.o.1.mono B0.o.size),aK HI.o.2 B0.o.size⟩
end Df
end Go.Proofs.YteekbpokkjjipaaGreat
