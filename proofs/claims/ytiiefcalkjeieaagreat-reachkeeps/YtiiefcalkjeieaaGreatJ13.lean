import Derived.Test.YtiiefcalkjeieaaGreatGHang
variable{B k M:Nat}{w w':Go.World}{nv ev fv pv:Go.Value}{a:Int}{S:Nat->Prop}
set_option maxHeartbeats 4000000
namespace Go.Proofs.YtiiefcalkjeieaaGreat
namespace Df
open Go.RowKit Go.Sort
attribute[local go_sem ↓]wp_at_zero wp_at_succ
theorem nH{n:dC}(h:eP a n=0):n.code.length<=16/\n.bV.length<=16:=by
 unfold eP at h;split at h
 ·cases h
 ·split at h
  ·cases h
  ·split at h
   ·cases h
   ·rename_i h1 h2 h3;simp only[uQ,has,Bool.or_eq_true,dE,not_or,Nat.not_lt,Nat.le_zero_eq]at h3;obtain⟨⟨⟨⟨c1,-⟩,-⟩,c4⟩,-⟩:=h3;unfold jS at h;constructor
    ·by_cases hk:n.kind=2\/n.kind=3
     ·rw[if_pos hk]at h;split at h
      ·cases h
      ·omega
     ·rw[if_neg hk]at c1;omega
    ·by_cases hk:n.kind=8
     ·rw[if_neg (by omega),if_neg (by omega),if_pos hk]at h;split at h
      ·rename_i hc;exact(vM.1 hc).1
      ·cases h
     ·rw[if_neg hk]at c4;omega
theorem ic.lists{g:bG}(h:ic g):∀n∈g.nodes,n.code.length<=16/\n.bV.length<=16:=fun n hn=>by
 obtain⟨i,hi,rfl⟩:=List.mem_iff_getElem.1 hn;exact nH (h.ng i _ hi (by simp))
theorem Hg.base{B' gb:Nat}{ns:List dC}{ss:List SV}{L:Nat->List Int}(h:Hg B w gb a nv ev fv pv ns ss L)(hb:B'<=B):Hg B' w gb a nv ev fv pv ns ss L:=
 ⟨h.blk,aN h.fr hb,aN h.sp hb,h.len,h.shape,fun k s hk=>aN (h.each k s hk) hb,h.apart⟩
theorem Hg.kp{gb:Nat}{ns:List dC}{ss:List SV}{L:Nat->List Int}(h:Hg B w gb a nv ev fv pv ns ss L)(hg:B<=gb)(hk:Kp S w w')(hS:∀k,B<=k->k<w.heap.size->¬S k):Hg B w' gb a nv ev fv pv ns ss L:=
 ⟨(hk.block _ (ae h.blk) (hS _ hg (ae h.blk))).trans h.blk,ax hk h.fr (fun k e=>hS k (aM h.fr k e).1 (aM h.fr k e).2),ax hk h.sp (fun k e=>hS k (aM h.sp k e).1 (aM h.sp k e).2),h.len,h.shape,fun k s hs=>ax hk (h.each k s hs) (fun k e=>hS k (aM (h.each _ s hs) k e).1 (aM (h.each _ s hs) k e).2),h.apart⟩
structure Gp(B:Nat)(w:World)(gb:Nat)(g:bG)(nv ev fv pv:Value)(ys:List NV)(ss:List SV):Prop where
 low:B<=gb
 raw:Cg B w nv ev ys g.aO
 KJ:ys.map NV.n=g.nodes
 rows:Hg B w gb g.arity nv ev fv pv g.nodes ss (fun k=>iC g.nodes g.aO k g.aO.length)
 ok:ic g
def Gm(B:Nat)(w:World)(gb:Nat)(g:bG):Prop:=∃nv ev fv pv ys ss,Gp B w gb g nv ev fv pv ys ss
theorem Gp.kp{gb:Nat}{g:bG}{ys:List NV}{ss:List SV}(h:Gp B w gb g nv ev fv pv ys ss)(hk:Kp S w w')(hS:∀k,B<=k->k<w.heap.size->¬S k):Gp B w' gb g nv ev fv pv ys ss:=
 ⟨h.low,h.raw.kp hk hS,h.KJ,h.rows.kp h.low hk hS,h.ok⟩
theorem Gp.below{gb:Nat}{g:bG}{ys:List NV}{ss:List SV}(h:Gp B w gb g nv ev fv pv ys ss)(hb:Bw w w'):Gp B w' gb g nv ev fv pv ys ss:=h.kp (S:=fun _=>False) (Kp.of_below hb) (fun _ _ _ h=>h)
theorem Gm.kp{gb:Nat}{g:bG}(h:Gm B w gb g)(hk:Kp S w w')(hS:∀k,B<=k->k<w.heap.size->¬S k):Gm B w' gb g:=by
 obtain⟨nv,ev,fv,pv,ys,ss,h⟩:=h;exact⟨nv,ev,fv,pv,ys,ss,h.kp hk hS⟩
theorem Gm.below{gb:Nat}{g:bG}(h:Gm B w gb g)(hb:Bw w w'):Gm B w' gb g:=h.kp (S:=fun _=>False) (Kp.of_below hb) (fun _ _ _ h=>h)
def Nw(w:World)(g:bG)(r:Ending)(w':World):Prop:=Bw w w'/\∃e t,Fl g e t/\((e≠0/\r= .returned (.tuple #[.pointer none,iV e,iV t]))\/(e=0/\∃gb,r= .returned (.tuple #[aB gb,iV 0,iV 0])/\Gm w.heap.size w' gb g))
theorem Nl{t:List Vo}{s:SV}(h:(t.map SV.of)[k]? =some s):t[k]? =some (s.nd.toNat,s.pt.toNat,s.dx)/\0<=s.nd/\0<=s.pt:=by
 rw[gM]at h;cases e:t[k]? with
 | none => rw[e]at h;cases h
 | some x=>
  rw[e]at h;cases h;simp[SV.of]
theorem UW{t:List Vo}{s:SV}(h:(t.map SV.of)[k]? =some s):s.ev= .slice none 0 0:=by
 rw[gM]at h;cases e:t[k]? with
 | none => rw[e]at h;cases h
 | some x=>
  rw[e]at h;cases h;rfl
theorem dI{xs:List NV}{es:List dR}(w:World)(hG:GR M w nv ev xs es)(hC:yC ev xs):CL 32 #[.agg (jg a nv ev)] w (Nw w (jW a xs es)):=by
 have g0:=(Gr.refl w).alloc (.cells (jg a nv ev) 25);have HG:=hid (hG.below g0.below);have HB:=hid (ah w (.cells (jg a nv ev) 25));have B0:=hid g0.below;obtain⟨W0,hW0⟩:=aF (w.alloc (.cells (jg a nv ev) 25));have HW:Hid (w.alloc (.cells #[iV a,nv,ev] 25)=W0):=hW0.symm;rw[<-hW0]at HG HB B0;have HCP:=hid hC;have hf:=Ip (a:=a) W0 HG.o hC;obtain⟨pn,cn,rfl⟩:=hG.nodes.form;obtain⟨pe,ce,rfl⟩:=hG.aO.form;have c0:=(aa HB.o).1;have l0:=ae HB.o;generalize hnl:xs.length=nl at *;generalize hel:es.length=el at *;have mf:=hid hnl;have CV:=hid hel;clear hG g0 hW0 hC hnl hel;go_enter Tryz.func32,Tryz.ntmps32;go_upto_region 1 with fail;rw[HW.o];clear HW;go_wp2_with fail;refine hf.mono ?_;rintro r w1 ⟨e,t,rfl,hF,b1⟩;have B1:=hid (B0.o.trans (b1.mono B0.o.size));have HF:=hid hF;by_cases he:e=0
 ·subst he;have iP:=hid (hF.ok.1 rfl);have hn1:=(b1.block _ (ae HB.o)).trans HB.o;have c1:=(aa hn1).1;have l1:=ae hn1;have G1:=HG.o.below b1;have Pm:=lT (a:=a) w1 G1 ⟨by have h:=iP.o.nl;simp at h;omega,by have h:=iP.o.el;simp at h;omega,fun x hx=>by have h:=iP.o.lists x.n (List.mem_map_of_mem hx);omega⟩;clear hF b1 hf c0 l0 hn1 G1;go_wp2_with fail;refine Pm.mono ?_;rintro r w2 ⟨UX,ev',ys,rfl,b2,hys,hcg⟩;have B2:=hid (B1.o.trans (b2.mono B1.o.size));have CG:=hid (hcg.base B1.o.size);have HYS:=hid hys;obtain⟨qn,mn,kn,hn⟩:=aD hcg.nodes;obtain⟨qe,me,ke,hq⟩:=aD hcg.aO;subst hn;subst hq;clear b2 hcg hys Pm c1 l1;obtain⟨gb,hgb⟩:=aF (w2.heap.size);obtain⟨W3,hW3⟩:=aF (w2.alloc (.cells (eH a (.slice qn mn kn) (.slice qe me ke) (.slice none 0 0) (.slice none 0 0)) 138));have P3:Hid (Bw w2 W3/\W3.heap[gb]? =some (.cells (eH a (.slice qn mn kn) (.slice qe me ke) (.slice none 0 0) (.slice none 0 0)) 138 (0,0))/\gb=w2.heap.size/\W3.heap.size=gb+1):=by
   rw[hW3,hgb];exact⟨((Gr.refl w2).alloc _).below,ah _ _,rfl,by simp⟩
  have HW3:Hid (w2.alloc (.cells #[iV a, .slice qn mn kn, .slice qe me ke, .slice none 0 0, .slice none 0 0] 138)=W3/\w2.heap.size=gb):=⟨hW3.symm,hgb.symm⟩;clear hW3 hgb;have hpo:Vs (ys.map NV.n):=by rw[HYS.o];exact iP.o.kI
  have hyl:ys.length=xs.length:=by have:=congrArg List.length HYS.o;simpa using this
  have hxl:xs.length<=24:=by have:=iP.o.nl;simpa using this
  have hN3:Lz EV w2.heap.size W3 (.slice qn mn kn) ys:=Or.inl ⟨(aK (E:=EV) CG.o.nodes).below P3.o.1,fun k e=>(aM CG.o.nodes k e).2⟩;have hE3:Lz ED w2.heap.size W3 (.slice qe me ke) es:=Or.inl ⟨(aK (E:=ED) CG.o.aO).below P3.o.1,fun k e=>(aM CG.o.aO k e).2⟩;have aap:=GL W3 P3.o.2.1 hN3 (fun k e e2=>by have:=(aM CG.o.nodes k e).2;have:=P3.o.2.2.1;omega) (by omega) hpo;have HN3:=hid hN3;have HE3:=hid hE3;clear hN3 hE3;go_upto_region 5 with fail;rw[HW3.o.1,HW3.o.2];clear HW3;go_wp2_with fail;refine aap.mono ?_;rintro r w4 ⟨rfl,fv,pv,TI⟩;have HNP:=hid TI;have hH4:Hg W3.heap.size w4 gb a (.slice qn mn kn) (.slice qe me ke) fv pv (ys.map NV.n) ((aY (ys.map NV.n) ys.length).map SV.of) (fun _=>[]):=by
   have hl:(ys.map NV.n).length=ys.length:=(by simp);refine⟨TI.blk,by rw[hl];exact TI.fr,TI.sp,by simp,fun k s hk=>by rw[hl];exact Nl hk,fun k s hk=> ?_,fun k s hk b hb=> ?_⟩
   ·rw[UW hk];exact oN _ _ _ _
   ·rw[UW hk]at hb;cases hb
  have keep:∀k,k<w2.heap.size->w4.heap[k]? =W3.heap[k]? :=fun k hk=>TI.kp.block k (nL hk P3.o.1.size) (fun e=>by have:=P3.o.2.2.1;omega);have hN4:Lz EV w2.heap.size w4 (.slice qn mn kn) ys:=by
   rcases HN3.o with⟨h,hm⟩|h
   ·exact Or.inl ⟨h.kept TI.kp.size (fun k e=>keep k (hm k e)),hm⟩
   ·exact Or.inr h
  have hE4:Lz ED w2.heap.size w4 (.slice qe me ke) es:=by
   rcases HE3.o with⟨h,hm⟩|h
   ·exact Or.inl ⟨h.kept TI.kp.size (fun k e=>keep k (hm k e)),hm⟩
   ·exact Or.inr h
  have U7:=Pv (a:=a) w4 hH4 (by have:=P3.o.2.2.2;omega) TI.kp.size (by have:=P3.o.2.2;omega) hN4 hE4 (by have h:=iP.o;unfold jW at h⊢;rw[HYS.o];exact h);clear aap TI hH4 keep hN4 hE4 hpo hyl hxl;go_wp2_with fail;refine U7.mono ?_;rintro r w5 ⟨rfl,ss,hH5,k5⟩;have KK:Kp (fun k=>w2.heap.size<=k) w2 w5:=((Kp.of_below P3.o.1).trans (HNP.o.kp) (fun j _ e=>by have:=P3.o.2.2.1;omega)).trans k5 (fun j _ e=>by have:=P3.o.2.2;omega);have FIN:Hid (Bw w w5/\Gm w.heap.size w5 gb (jW a xs es)):=by
   refine⟨B2.o.trans (KK.below B2.o.size (fun k e=>nT B2.o.size e)),_,_,fv,pv,ys,ss,by have:=P3.o.2.2.1;have:=B2.o.size;omega,CG.o.kp KK (fun k _ h e=>by omega),HYS.o, ?_,iP.o⟩;have h:=hH5.base (B':=w.heap.size) (by have:=P3.o.2.2;have:=B2.o.size;omega);rw[HYS.o]at h;exact h
  clear U7 hH5 k5 KK;go_wp2_with fail;refine bR (v:= .tuple #[aB gb,iV 0,iV 0]) (by simp[results,Tryz.results32,go_sem]) rfl ?_;exact⟨FIN.o.1,0,t,HF.o,Or.inr ⟨rfl,gb,rfl,FIN.o.2⟩⟩
 ·have hb:(e==0)=false:=by simp[he]
  have hb':(e != 0)=true:=by simp[he]
  have HE:=hid he;clear hF b1 hf c0 l0 he;go_wp2_with fail;refine bR (v:= .tuple #[.pointer none,iV e,iV t]) (by simp[results,Tryz.results32,go_sem]) rfl ?_;exact⟨B1.o,e,t,HF.o,Or.inl ⟨HE.o,rfl⟩⟩
theorem Gp.gb{gb:Nat}{g:bG}{ys:List NV}{ss:List SV}(h:Gp B w gb g nv ev fv pv ys ss):Gb w gb g.arity nv ev fv pv ys:=by
 have hl:ys.length=g.nodes.length:=by rw[<-h.KJ,gQ]
 refine⟨h.rows.blk,jd (E:=EV) h.raw.nodes, ?_,by rw[hl];exact h.ok.nl,by rw[h.KJ];exact h.ok.kI⟩;rw[h.KJ,hl];exact aK (E:=EI) h.rows.fr
theorem rH{gb:Nat}{g:bG}(i p:Int)(w:World)(h:Gm B w gb g):CL 116 #[aB gb,iV i,iV p] w fun r w'=>r= .returned (iV (QQ g.nodes i p))/\w'=w:=by
 obtain⟨nv,ev,fv,pv,ys,ss,h⟩:=h;have:=OU i p w h.gb;rw[h.KJ]at this;exact this
theorem nS{gb:Nat}{g:bG}(i p:Int)(w:World)(h:Gm B w gb g):CL 115 #[aB gb,iV i,iV p] w fun r w'=>r= .returned (iV (yR g.nodes i p))/\Gr w w':=by
 obtain⟨nv,ev,fv,pv,ys,ss,h⟩:=h;have:=Jq i p w h.gb;rw[h.KJ]at this;exact this
def aW(ns:List dC):Nat:=(aY ns ns.length).length
theorem iM{gb:Nat}{g:bG}(w:World)(h:Gm B w gb g):CL 66 #[aB gb] w fun r w'=>r= .returned (iV (aW g.nodes:Nat))/\w'=w:=by
 obtain⟨nv,ev,fv,pv,ys,ss,h⟩:=h;have HL:Hid (ss.length=aW g.nodes):=h.rows.len;have cg:=(aa h.rows.blk).1;have lg:=ae h.rows.blk;obtain⟨p,n,c,rfl⟩:=aD h.rows.sp;have HN:=hid (bz h.rows.sp _ _ _ rfl).1;clear h;go_enter Tryz.func66,Tryz.ntmps66;go_wp2_with fail;go_ret;exact⟨by rw[<-HL.o,<-HN.o];rfl,rfl⟩
theorem jD{gb:Nat}{g:bG}(w:World)(h:Gm B w gb g):CL 120 #[aB gb] w fun r w'=>r= .returned (iV (g.nodes.length:Nat))/\w'=w:=by
 obtain⟨nv,ev,fv,pv,ys,ss,h⟩:=h;have HL:Hid (ys.length=g.nodes.length):=by show _=_;rw[<-h.KJ,gQ]
 have cg:=(aa h.rows.blk).1;have lg:=ae h.rows.blk;obtain⟨p,n,c,rfl⟩:=aD h.raw.nodes;have HN:=hid (bz h.raw.nodes _ _ _ rfl).1;clear h;go_enter Tryz.func120,Tryz.ntmps120;go_wp2_with fail;go_ret;exact⟨by rw[<-HL.o,<-HN.o];rfl,rfl⟩
theorem xP{gb:Nat}{g:bG}(w:World)(h:Gm B w gb g):CL 119 #[aB gb] w fun r w'=>∃nv ev ys,Hid (r= .returned (.agg (jg g.arity nv ev))/\Bw w w'/\ys.map NV.n=g.nodes/\Cg w.heap.size w' nv ev ys g.aO):=by
 obtain⟨nv,ev,fv,pv,ys,ss,h⟩:=h;have hyl:ys.length=g.nodes.length:=by rw[<-h.KJ,gQ]
 have hnl:=h.ok.nl;have hel:=h.ok.el;have FL:∀y∈ys,y.n.code.length<=16/\y.n.bV.length<=16:=fun y hy=>h.ok.lists y.n (by rw[<-h.KJ];exact List.mem_map_of_mem hy);have ab9:=hid h.KJ;obtain⟨W0,hW0⟩:=aF (w.alloc (.cells (jg 0 (.slice none 0 0) (.slice none 0 0)) 25));have b0:Bw w W0:=by rw[hW0];exact((Gr.refl w).alloc _).below
 have N0:Hid (W0.heap[w.heap.size]? =some (.cells (jg 0 (.slice none 0 0) (.slice none 0 0)) 25 (0,0))/\Bw w W0):=by rw[hW0];exact⟨ah _ _,((Gr.refl w).alloc _).below⟩
 have HW:Hid (w.alloc (.cells #[iV 0, .slice none 0 0, .slice none 0 0] 25)=W0):=hW0.symm;have h0:=h.below b0;have hgr:GR W0.heap.size W0 nv ev ys g.aO:=h0.raw.gr ⟨by omega,by omega⟩ (fun y hy=>by have:=FL y hy;omega);have Pm:=lT (a:=g.arity) W0 hgr ⟨by omega,by omega,fun y hy=>by have:=FL y hy;omega⟩;have cg:=(aa h0.rows.blk).1;have lg:=ae h0.rows.blk;have HG:Hid (nv=nv):=rfl;obtain⟨p1,n1,c1,rfl⟩:=aD h.raw.nodes;obtain⟨p2,n2,c2,rfl⟩:=aD h.raw.aO;clear h h0 hgr b0 hW0 FL hyl hnl hel HG;go_enter Tryz.func119,Tryz.ntmps119;go_upto_region 1 with fail;rw[HW.o];clear HW;go_wp2_with fail;refine Pm.mono ?_;rintro r w2 ⟨UX,ev',zs,rfl,b2,hys,hcg⟩;have HC:Hid (Bw W0 w2/\zs.map NV.n=g.nodes/\Cg W0.heap.size w2 UX ev' zs g.aO):=⟨b2,hys.trans ab9.o,hcg⟩;obtain⟨q1,m1,k1,hq1⟩:=aD hcg.nodes;obtain⟨q2,m2,k2,hq2⟩:=aD hcg.aO;subst hq1;subst hq2;have hn2:=(b2.block _ (ae N0.o.1)).trans N0.o.1;have c2:=(aa hn2).1;have f2:=(aa hn2).2;have l2:=ae hn2;have HN2:=hid hn2;clear b2 hys hcg hn2 Pm cg lg;go_wp2_with fail;obtain⟨wf,hwf⟩:=aF (((w2.setCell ⟨w.heap.size,0,none⟩ (iV g.arity)).setCell ⟨w.heap.size,1,none⟩ (.slice q1 m1 k1)).setCell ⟨w.heap.size,2,none⟩ (.slice q2 m2 k2));rw[<-hwf];obtain⟨hbf,hkf⟩:wf.heap[w.heap.size]? =some (.cells #[iV g.arity, .slice q1 m1 k1, .slice q2 m2 k2] 25 (0,0))/\Kp (fun k=>k=w.heap.size) w2 wf:=by
  rw[hwf];exact EN HN2.o _ _ _
 clear hwf c2 f2 l2;obtain⟨qf,-⟩:=aa hbf;have hlf:=ae hbf;refine bR (v:= .agg #[iV g.arity, .slice q1 m1 k1, .slice q2 m2 k2]) (by simp[results,Tryz.results119,go_sem,qf]) rfl ?_;have hlo:=ae N0.o.1;have hbw:=N0.o.2.trans (HC.o.1.mono N0.o.2.size);exact⟨_,_,zs,rfl,hbw.trans (hkf.below hbw.size (fun k e=>by omega)),HC.o.2.1,(HC.o.2.2.kp hkf (fun k h1 h2 e=>by omega)).base N0.o.2.size⟩
def pE(i p:Nat):List dN:=(List.range p).map fun(o:Nat)=>⟨(i:Int),(o:Int),(0,0,0)⟩
def kT(o:Nat):Nat->List dN
 | 0 => []
 | i + 1 => kT o i++pE i o
theorem zF(i p:Nat):pE i (p+1)=pE i p++[⟨(i:Int),(p:Int),(0,0,0)⟩]:=by simp[pE,List.range_succ]
theorem uF(o i:Nat):(kT o i).length=i*o:=by
 induction i with
 | zero => simp[kT]
 | succ i ih => rw[kT,dQ,ih,Nat.succ_mul];simp[pE]
theorem IU(k:Int)(ci co:Nat)(cq:Option Addr)(cm cc:Nat)(via:ou)(bd:Nat)(dq:Option Addr)(dm dc:Nat)(st:Bool)(hi:ci<=4)(ho:co<=4)(w:World):CL 233 #[.agg (aQ k (ci:Int) (co:Int) (.slice cq cm cc) via bd (.slice dq dm dc) st)] w (Cp EC 205 w (kT co ci)):=by
 have B0:=hid ((Gr.refl w).alloc (.cells (aQ k (ci:Int) (co:Int) (.slice cq cm cc) via bd (.slice dq dm dc) st) 149)).below;have N0:=hid (ah w (.cells (aQ k (ci:Int) (co:Int) (.slice cq cm cc) via bd (.slice dq dm dc) st) 149));obtain⟨W0,hW0⟩:=aF (w.alloc (.cells (aQ k (ci:Int) (co:Int) (.slice cq cm cc) via bd (.slice dq dm dc) st) 149));have HW:Hid (w.alloc (.cells #[iV k,iV (ci:Int),iV (co:Int), .slice cq cm cc,uV (via.1:Nat),uV (via.2.1:Nat),uV (via.2.2:Nat),uV (bd:Nat), .slice dq dm dc, .bool st] 149)=W0):=hW0.symm;rw[<-hW0]at B0 N0;have c0:=(aa N0.o).1;have l0:=ae N0.o;clear hW0;go_enter Tryz.func233,Tryz.ntmps233;go_upto_region 1 with fail;rw[HW.o];clear HW;go_wp2_with fail;clear c0 l0;go_loopw [8,3] (fun s8 s3 wr=>∃(i:Nat),i<=ci/\s8=iV (i:Nat)/\Hid (Bw W0 wr/\wr.ownsRow W0.heap.size 205 5 s3 (kT co i).length (fl EC (kT co i)))) (fun s8 _ _=>ci-(intOf s8).toNat);case atStart=>exact⟨0,zL _,rfl,Below.refl _ _,oN _ _ _ _⟩
 case round=>
  obtain⟨i,hil,rfl,HI⟩:=hrel;rename_i s8 s3;obtain⟨q3,m3,k3,hs3⟩:=aD HI.o.2;subst hs3;by_cases hlt:i<ci
  ·have hltz:(i:Int)<(ci:Int):=(by omega);have hn:=(HI.o.1.block _ (ae N0.o)).trans N0.o;have c1:=(aa hn).1;have l1:=ae hn;clear hn;go_upto_region 6 with fail;clear c1 l1;go_loopw [13,3] (fun s13 s3 wr=>∃(p:Nat),p<=co/\s13=iV (p:Nat)/\Hid (Bw W0 wr/\wr.ownsRow W0.heap.size 205 5 s3 (kT co i++pE i p).length (fl EC (kT co i++pE i p)))) (fun s13 _ _=>co-(intOf s13).toNat);case atStart=>exact⟨0,zL _,rfl,HI.o.1,aV HI.o.2 (by simp[pE]) (by simp[pE])⟩
   case round=>
    clear HI;obtain⟨p,hpl,rfl,HI⟩:=hrel;rename_i s13 s3';obtain⟨q4,m4,k4,hs4⟩:=aD HI.o.2;subst hs4;by_cases hlp:p<co
    ·have abK:(p:Int)<(co:Int):=(by omega);obtain⟨LL,mU⟩:=aF (kT co i++pE i p);rw[<-mU]at HI;have vO:=hid mU;have uH:Hid (LL.length<=20):=by
      show _<=_;have h1:i*co<=4*4:=Nat.mul_le_mul (by omega) ho;rw[mU,dQ,uF];simp[pE];omega
     clear mU;go_wp2_with (at_builtin;refine gB EC Tryz.underlying147 pX rfl (by decide) rfl _ _ rfl W0.heap.size _ LL.length _ rfl HI.o.2 ⟨(i:Int),(p:Int),(0,0,0)⟩ (by first|rfl|simp) (by have:=uH.o;omega) (by have:=uH.o;unfold maxLen;omega) HI.o.1.size _ rfl _ ?_);intro g8 bF w8 h8 k8 _;have FIN:Hid (Bw W0 w8/\w8.ownsRow W0.heap.size 205 5 (sO g8 (LL.length+1) bF) (kT co i++pE i (p+1)).length (fl EC (kT co i++pE i (p+1)))):=by
      have k2:=Kp.grownBy (S:=fun k=>(Value.slice q4 m4 k4).ownBlock=some k) k8 (fun _ h=>h);refine⟨HI.o.1.trans (k2.below HI.o.1.size (fun k e=>(aM HI.o.2 k e).1)),aV h8 (by rw[vO.o,zF];simp;omega) (by rw[vO.o,zF,<-aA,aT EC (kT co i++pE i p),dM])⟩
     clear h8 k8;generalize LL.length+1=ll at FIN⊢;go_wp2_with fail;go_roundw;case rel=>exact⟨p+1,by omega,by go_num,FIN.o⟩
     case measure=>simp[intOf];omega
    ·have abK:¬(p:Int)<(co:Int):=(by omega);have FIN:Hid (Bw W0 wr/\wr.ownsRow W0.heap.size 205 5 (.slice q4 m4 k4) (kT co (i+1)).length (fl EC (kT co (i+1)))):=by
      have h:=HI.o.2;rw[show p=co by omega]at h;exact⟨HI.o.1,h⟩
     go_wp2_with fail;go_roundw;case rel=>exact⟨i+1,by omega,by go_num,FIN.o⟩
     case measure=>simp[intOf];omega
  ·have hltz:¬(i:Int)<(ci:Int):=(by omega);obtain rfl:i=ci:=(by omega);go_wp2_with fail;go_ret;exact⟨_,rfl,B0.o.trans (HI.o.1.mono B0.o.size),aN HI.o.2 B0.o.size⟩
theorem Kw(k i o:Int)(cq:Option Addr)(cm cc:Nat)(via:ou)(bd:Nat)(dq:Option Addr)(dm dc:Nat)(st:Bool)(w:World):CL 239 #[.agg (aQ k i o (.slice cq cm cc) via bd (.slice dq dm dc) st)] w (Cp EC 205 w [⟨0,0,via⟩]):=by
 have h:=World.ownsRow_lit (base:=w.heap.size) (size:=5) (e:=205) (w.alloc (.cells (aQ k i o (.slice cq cm cc) via bd (.slice dq dm dc) st) 149)) #[iV 0,iV 0,uV (via.1:Nat),uV (via.2.1:Nat),uV (via.2.2:Nat)] 1 (by simp) (by decide) rfl;have H:=hid h;clear h;go_enter Tryz.func239,Tryz.ntmps239;go_wp2_with fail;go_ret;refine⟨_,rfl,(((Gr.refl w).alloc _).alloc _).below, ?_⟩;have h:=H.o;rw[World.size_alloc]at h;exact h
theorem G7(k i o:Int)(cq:Option Addr)(cm cc:Nat)(via:ou)(bd:Nat)(dq:Option Addr)(dm dc:Nat)(st:Bool)(l:List dN)(w:World)(hL:Lz EC M w (.slice dq dm dc) l)(hb:l.length*40<=140737488351232):CL 242 #[.agg (aQ k i o (.slice cq cm cc) via bd (.slice dq dm dc) st)] w (Cp EC 205 w l):=by
 have B0:=hid ((Gr.refl w).alloc (.cells (aQ k i o (.slice cq cm cc) via bd (.slice dq dm dc) st) 149)).below;have hc:=Aq (w.alloc (.cells (aQ k i o (.slice cq cm cc) via bd (.slice dq dm dc) st) 149)) (hL.below B0.o) hb;clear hL;go_enter Tryz.func242,Tryz.ntmps242;go_wp2_with fail;refine hc.mono ?_;rintro r w1 ⟨d,rfl,b1,o1⟩;have H:Hid (Bw w w1/\w1.ownsRow w.heap.size 205 5 d l.length (fl EC l)):=⟨B0.o.trans (b1.mono B0.o.size),aN o1 B0.o.size⟩;clear b1 o1;go_wp2_with fail;go_ret;exact⟨_,rfl,H.o⟩
def fZ(n:dC):List dN:=if n.kind=5 then[⟨0,0,n.via⟩]else if n.kind=8 then n.bV else kT n.outs.toNat n.ins.toNat
def dA(ns:List dC)(i:Int):List dN:=match jB ns i with|some n=>fZ n|none=>[]
theorem Qe{gb:Nat}{g:bG}{ys:List NV}{ss:List SV}{j:Nat}{y:NV}{F1 F2 fw ff fc:Nat}{pI pO:Bool}{l:List dN}(w:World)(h:Gp B w gb g nv ev fv pv ys ss)(hy:ys[j]? =some y)
    (hK:∀W,CL 173 #[iV y.n.kind] W (Ks F1 F2 fw ff fc y.n.ins y.n.outs pI pO W)) (e5:∀args w,(callFunc fc args).run Tryz.prog w= .ok (.enter fc args) w)
    (hC:∀W,Bw w W->CL fc #[.agg y.cells] W (Cp EC 205 W l)):CL 121 #[aB gb,iV (j:Nat)] w (Cp EC 205 w l):=by
 have hn:=fun W (hb:Bw w W)=>jD W ⟨nv,ev,fv,pv,ys,ss,h.below hb⟩;have hjl:=(lG.1 hy).1;have hyl:ys.length=g.nodes.length:=by rw[<-h.KJ,gQ]
 have ha:=fun W=>fQ (j:Int) (g.nodes.length:Nat) W;have hd:decide (0<=(j:Int)/\(j:Int)<((g.nodes.length:Nat):Int))=true:=by simp;omega
 rw[hd]at ha;have hn0:=hn w (Below.refl _ _);have cg:=(aa h.rows.blk).1;have lg:=ae h.rows.blk;obtain⟨b1,o1,c1,e1,z1,x0,x1,x2,x3,x4,x5,x6,x7,x8,x9⟩:=j5 (aK (E:=EV) h.raw.nodes) hy;subst e1;generalize ys.length=nl at hjl hyl cg;have hjz:(j:Int)<(nl:Int):=by omega
 have hj0:(0:Int)<=(j:Int):=by omega
 generalize g.nodes.length=gl at hn0 ha;obtain⟨yb,hyb⟩:=aF (w.heap.size);obtain⟨W5,bW⟩:=aF (w.alloc (.cells y.cells 149));have P5:Hid (Bw w W5/\W5.heap[yb]? =some (.cells y.cells 149 (0,0))):=by
  rw[bW,hyb];exact⟨((Gr.refl w).alloc _).below,ah _ _⟩
 have ig:Hid (w.alloc (.cells #[iV y.n.kind,iV y.n.ins,iV y.n.outs, .slice y.cq y.cm y.cc,uV (y.n.via.1:Nat),uV (y.n.via.2.1:Nat),uV (y.n.via.2.2:Nat),uV (y.n.bound:Nat), .slice y.dq y.dm y.dc, .bool y.n.start] 149)=W5/\w.heap.size=yb):=⟨bW.symm,hyb.symm⟩;clear h hy hd hn hyb bW;go_enter Tryz.func121,Tryz.ntmps121;go_wp2_with fail;refine hn0.mono ?_;rintro r w1 ⟨rfl,rfl⟩;go_wp2_with fail;refine(ha _).mono ?_;rintro r w1 ⟨rfl,rfl⟩;go_upto_region 4 with fail;rw[ig.o.1,ig.o.2];have cy:=(aa P5.o.2).1;have ly:=ae P5.o.2;clear ig x0 x1 x2 x3 x4 x5 x6 x7 x8 x9 cg lg z1 hn0 ha;go_wp2_with fail;refine(hK _).mono ?_;rintro r w2 ⟨b1,b2,rfl,b,-,-⟩;have B2:=hid (P5.o.1.trans (b.mono P5.o.1.size));have N2:=hid ((b.block _ ly).trans P5.o.2);obtain⟨kb,hkb⟩:=aF (w2.heap.size);obtain⟨W3,hW3⟩:=aF (w2.alloc (.cells #[JP F1 b1,JP F2 b2,yY fw,yY ff,yY fc] 275));have P3:Hid (Bw w1 W3/\W3.heap[yb]? =some (.cells y.cells 149 (0,0))/\W3.heap[kb]? =some (.cells #[JP F1 b1,JP F2 b2,yY fw,yY ff,yY fc] 275 (0,0))):=by
  have g3:=((Gr.refl w2).alloc (.cells #[JP F1 b1,JP F2 b2,yY fw,yY ff,yY fc] 275)).below;rw[hW3,hkb];exact⟨B2.o.trans (g3.mono B2.o.size),(g3.block _ (ae N2.o)).trans N2.o,ah _ _⟩
 have HW3:Hid (w2.alloc (.cells #[.func (.func F1) #[] #[aB b1], .func (.func F2) #[] #[aB b2], .func (.func fw) #[] #[], .func (.func ff) #[] #[], .func (.func fc) #[] #[]] 275)=W3/\w2.heap.size=kb):=⟨hW3.symm,hkb.symm⟩;clear cy ly b hK hW3 hkb;go_upto_region 5 with fail;rw[HW3.o.1,HW3.o.2];have c3:=(aa P3.o.2.1).1;have l3:=ae P3.o.2.1;have k3:=(aa P3.o.2.2).1;have m3:=ae P3.o.2.2;have q3:=hC W3 P3.o.1;clear HW3 hC;go_wp2_with fail;refine q3.mono ?_;rintro r w4 ⟨d,rfl,b4,o4⟩;have FIN:=hid (And.intro (P3.o.1.trans (b4.mono P3.o.1.size)) (aN o4 P3.o.1.size));clear b4 o4 q3 c3 l3 k3 m3;go_wp2_with fail;go_ret;exact⟨_,rfl,FIN.o⟩
theorem IB{gb:Nat}{g:bG}(i:Int)(w:World)(h:Gm B w gb g)(hi:jB g.nodes i=none):CL 121 #[aB gb,iV i] w (Cp EC 205 w []):=by
 have hn:=jD w h;have ha:=fun W=>fQ i (g.nodes.length:Nat) W;have hd:decide (0<=i/\i<((g.nodes.length:Nat):Int))=false:=by
  rw[decide_eq_false_iff_not];intro h2;unfold jB at hi;rw[if_pos h2.1,List.getElem?_eq_none_iff]at hi;omega
 rw[hd]at ha;generalize g.nodes.length=gl at hn ha;clear h hi hd;go_enter Tryz.func121,Tryz.ntmps121;go_wp2_with fail;refine hn.mono ?_;rintro r w1 ⟨rfl,rfl⟩;go_wp2_with fail;refine(ha _).mono ?_;rintro r w1 ⟨rfl,rfl⟩;go_wp2_with fail;go_ret;exact⟨_,rfl,Below.refl _ _,oN _ _ _ _⟩
theorem GV{n:dC}(h:eP a n=0):1<=n.kind/\n.kind<=8:=by
 unfold eP at h;split at h
 ·cases h
 ·omega
theorem qz{gb:Nat}{g:bG}(i:Int)(w:World)(hm:Gm B w gb g):CL 121 #[aB gb,iV i] w (Cp EC 205 w (dA g.nodes i)):=by
 cases e:jB g.nodes i with
 | none => unfold dA;rw[e];exact IB i w hm e
 | some n=>
  unfold dA;rw[e];obtain⟨nv,ev,fv,pv,ys,ss,h⟩:=hm;have hi0:0<=i:=by
   unfold jB at e;by_cases h0:0<=i
   ·exact h0
   ·rw[if_neg h0]at e;cases e
  obtain⟨j,rfl⟩:∃j:Nat,i=(j:Int):=⟨i.toNat,by omega⟩;have hj:g.nodes[j]? =some n:=by
   unfold jB at e;rw[if_pos hi0,tN]at e;exact e
  rw[<-h.KJ]at hj;obtain⟨y,hy,rfl⟩:=NZ hj;have hym:y.n∈g.nodes:=by rw[<-h.KJ];exact List.mem_map_of_mem (lM hy)
  obtain⟨q,hq,hqy⟩:=List.mem_iff_getElem.1 hym;have hfl:eP g.arity y.n=0:=h.ok.ng q _ hq (by rw[<-hqy];simp);have hkd:=GV hfl;have hpt:=jU hfl;have hls:=nH hfl;have hown:=h.raw.each y (lM hy);have ea:=enters_of (P:=Tryz.prog) Tryz.func233 (by kernel_rfl) rfl;have er:=enters_of (P:=Tryz.prog) Tryz.func239 (by kernel_rfl) rfl;have el:=enters_of (P:=Tryz.prog) Tryz.func242 (by kernel_rfl) rfl;have Ep:=fun(fw ff fc:Nat) (uI uO:Bool) (i0 o0:Int) (l:List dN) (hk:∀W,CL 173 #[iV y.n.kind] W (Kd W uI i0 uO o0 fw ff fc)) e5 hC=>Qe (fw:=fw) (ff:=ff) (fc:=fc) (l:=l) w h hy (fun W=>(hk W).mono fun _ _ h=>rA h) e5 hC;have hac:y.n.kind≠5->y.n.kind≠8->∀W,Bw w W->CL 233 #[.agg y.cells] W (Cp EC 205 W (fZ y.n)):=fun h5 h8 W _=>by
   unfold fZ;rw[if_neg h5,if_neg h8];have hc:=IU y.n.kind y.n.ins.toNat y.n.outs.toNat y.cq y.cm y.cc y.n.via y.n.bound y.dq y.dm y.dc y.n.start (by omega) (by omega) W;rw[show((y.n.ins.toNat:Nat):Int)=y.n.ins by omega,show((y.n.outs.toNat:Nat):Int)=y.n.outs by omega]at hc;exact hc
  have hro:y.n.kind=5->∀W,Bw w W->CL 239 #[.agg y.cells] W (Cp EC 205 W (fZ y.n)):=fun h5 W _=>by
   unfold fZ;rw[if_pos h5];exact Kw y.n.kind y.n.ins y.n.outs y.cq y.cm y.cc y.n.via y.n.bound y.dq y.dm y.dc y.n.start W
  have FL:y.n.kind=8->∀W,Bw w W->CL 242 #[.agg y.cells] W (Cp EC 205 W (fZ y.n)):=fun h8 W hb=>by
   unfold fZ;rw[if_neg (by omega),if_pos h8];exact G7 y.n.kind y.n.ins y.n.outs y.cq y.cm y.cc y.n.via y.n.bound y.dq y.dm y.dc y.n.start y.n.bV W (jd (E:=EC) (ag hown.2 hb)) (by omega)
  have KS:y.n.kind=1\/y.n.kind=2\/y.n.kind=3\/y.n.kind=4\/y.n.kind=5\/y.n.kind=6\/y.n.kind=7\/y.n.kind=8:=by omega
  rcases KS with hk|hk|hk|hk|hk|hk|hk|hk
  ·exact Ep _ _ _ _ _ _ _ _ (by rw[hk];exact Ac) ea (hac (by omega) (by omega))
  ·exact Ep _ _ _ _ _ _ _ _ (by rw[hk];exact Ab) ea (hac (by omega) (by omega))
  ·exact Ep _ _ _ _ _ _ _ _ (by rw[hk];exact Aa) ea (hac (by omega) (by omega))
  ·exact Ep _ _ _ _ _ _ _ _ (by rw[hk];exact zZ) ea (hac (by omega) (by omega))
  ·exact Ep _ _ _ _ _ _ _ _ (by rw[hk];exact zY) er (hro hk)
  ·exact Ep _ _ _ _ _ _ _ _ (by rw[hk];exact zX) ea (hac (by omega) (by omega))
  ·exact Ep _ _ _ _ _ _ _ _ (by rw[hk];exact zW) ea (hac (by omega) (by omega))
  ·exact Ep _ _ _ _ _ _ _ _ (by rw[hk];exact zV) el (FL hk)
end Df
end Go.Proofs.YtiiefcalkjeieaaGreat
