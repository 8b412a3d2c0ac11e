import Derived.Maps.AppendAt
import Derived.Deep.RegionWith
import Derived.Test.YtiiefcalkjeieaaGreatJ3
import Derived.Test.YtiiefcalkjeieaaGreatJ7
variable{hb p q:Nat}{ff:Go.Value}{W W':Go.World}{f:Nat->Int}{α:Type}
set_option maxHeartbeats 16000000
set_option maxRecDepth 100000
namespace Go.Proofs.YtiiefcalkjeieaaGreat
section
open Go.RowKit
section
variable {P:Program} {ops:Array Oper} {Q:Exit->Act->World->Prop} {md:Region.Mode} {S:World->Prop} {D:List Nat}
theorem vV{i j:Nat}{oi oj:Oper}{n:Nat}{ls:Array Bool}{a:Act}{w:World}(hr:Region.ready md ops ls=[i,j])(hi:ops[i]? =some oi)(hj:ops[j]? =some oj)
    (h1:∀K':Act->World->Prop,Shut (∀b u,(i∉D->S u)->df P md ops Q S D n (ls.setIfInBounds i true) b u->K' b u)->if Region.wanted oi (yielded ops a.tmps)=true then Oper.wp P oi a w K' Q else K' (a.put oi.dst undef) w)
    (h2:∀K':Act->World->Prop,Shut (∀b u,(j∉D->S u)->df P md ops Q S D n (ls.setIfInBounds j true) b u->K' b u)->if Region.wanted oj (yielded ops a.tmps)=true then Oper.wp P oj a w K' Q else K' (a.put oj.dst undef) w):df P md ops Q S D (n+1) ls a w:=by
 refine⟨fun h0=>(by rw[h0]at hr;cases hr),fun k hk=> ?_⟩;rw[hr]at hk;simp only[gq,List.not_mem_nil,or_false]at hk;rcases hk with rfl|rfl
 ·exact wpOp_step hi (fun K' hK=>h1 K' (fun b u h1 h2=>hK b u ⟨h1,h2⟩))
 ·exact wpOp_step hj (fun K' hK=>h2 K' (fun b u h1 h2=>hK b u ⟨h1,h2⟩))
end
end
section
open Go.RowKit Go.Sort
end
namespace Df
open Go.RowKit Go.Sort
section
variable {α:Type} {E:El α} {T:TypeId} {W W':World} {v:Value} {l:List α} {m:α}
end
section
variable {w W W':World} {gv cv:Array Value} {u:Value} {xs:List NV}
end
theorem uW{P:Program}(w:World)(t ty:TypeId)(v:Value)(c:Nat):(Builtin.append_ #[t,t] ty #[v, .slice none 0 c]).run P w=(Builtin.append_ #[t,t] ty #[v, .slice none 0 0]).run P w:=rfl
section
variable {w W W':World} {gv cv:Array Value} {nv:Value} {ys:List NV}
end
end Df
namespace Pc
open Go.RowKit Go.Sort
theorem fJ:dZ 184 aC:=
 ⟨enters_of Tryz.func184 (by kernel_rfl) rfl,fun a b W=>(wZ a.1.1 a.1.2.1 a.1.2.2 b.1.1 b.1.2.1 b.1.2.2 W)⟩
theorem jM:dZ 125 dL:=by
 refine⟨enters_of Tryz.func125 (by kernel_rfl) rfl,fun a b W=> ?_⟩;have h:=fun W=>Bv a.1.1 a.1.2.1 a.1.2.2 b.1.1 b.1.2.1 b.1.2.2 W;unfold dL;rw[show mE a.1.1 a.1.2.1 a.1.2.2 b.1.1 b.1.2.1 b.1.2.2=A7 a b from rfl]at h;generalize A7 a b=r at h⊢;go_enter Tryz.func125,Tryz.ntmps125;go_wp2_with fail;refine(h _).mono ?_;rintro e w' ⟨rfl,hg⟩;go_wp2;go_ret;exact⟨rfl,(((Gr.refl _).alloc _).alloc _).trans hg⟩
theorem CK(a b:Tm):aC a b=true↔Pt.PX.aX a b:=jl a b
theorem MP(a b:Tm):dL a b=true↔Pt.PX.mh a b:=kX a b
end Pc
namespace Hc
open Go.RowKit Go.Sort Hp
attribute[local go_sem ↓]wp_at_zero wp_at_succ
def Li(W:World)(b o:Nat)(x:It):Prop:=W.cell? ⟨b,o,none⟩=some (iV x.1.1)/\W.cell? ⟨b,o+1,none⟩=some (uV x.1.2.1.1.1)/\W.cell? ⟨b,o+2,none⟩=some (uV x.1.2.1.1.2.1)/\W.cell? ⟨b,o+3,none⟩=some (uV x.1.2.1.1.2.2)/\W.cell? ⟨b,o+4,none⟩=some (iV x.1.2.2)/\W.cell? ⟨b,o+5,none⟩=some (uV (x.2:Nat))/\b<W.heap.size
theorem Li.gr{b o:Nat}{x:It}(h:Li W b o x)(g:Gr W W'):Li W' b o x:=by
 obtain⟨h0,h1,h2,h3,h4,h5,hz⟩:=h;exact⟨(g.cell hz).trans h0,(g.cell hz).trans h1,(g.cell hz).trans h2,(g.cell hz).trans h3,(g.cell hz).trans h4,(g.cell hz).trans h5,nL hz g.size⟩
def Lh(W:World)(hb:Nat)(ff vs:Value):Prop:=W.cell? ⟨hb,0,none⟩=some (fv ff)/\W.cell? ⟨hb,1,none⟩=some vs/\hb<W.heap.size
theorem Lh.gr{vs:Value}(h:Lh W hb ff vs)(g:Gr W W'):Lh W' hb ff vs:=⟨(g.cell h.2.2).trans h.1,(g.cell h.2.2).trans h.2.1,nL h.2.2 g.size⟩
theorem vY{np:Nat}{v:Value}{L:List It}{r:Th->Th->Bool}(x:It)(w:World)(hH:Hb w hb ff v L np)(hl:L.length<=140737488355328){K:World->Prop}{V:Th->Prop}(hF:dZ K V ff r)(hk:K w)(hV:∀y∈L,V y.1)(hx:V x.1):
    CL 146 #[aB hb,iv x] w fun e w'=>∃at_:Nat,e= .returned (iV at_)/\Wy (QU (aX r) L x) L.length at_/\(at_=0\/∃y,L[par at_]? =some y/\aX r x y=false)/\Gr w w':=by
 have hmx:Tryz.prog.follows .mixedOrders=true:=by kernel_rfl
 have ep:∀args w,(callFunc 147 args).run Tryz.prog w= .ok (.enter 147 args) w:=enters_of Tryz.func147 (by kernel_rfl) rfl;obtain⟨pl,cl,rfl⟩:=hH.qF.form;obtain⟨B0,hB0⟩:=aF (w.heap.size);obtain⟨W1,hW1⟩:=aF (w.alloc (.cells #[iV x.1.1,uV x.1.2.1.1.1,uV x.1.2.1.1.2.1,uV x.1.2.1.1.2.2,iV x.1.2.2,uV (x.2:Nat)] 251));have G1:Gr w W1:=by rw[hW1];exact(Gr.refl _).alloc _
 have HG:Hid (Gr w W1):=G1;have HBx:Hid (Li W1 B0 0 x):=by
  rw[hW1,hB0];refine⟨?_, ?_, ?_, ?_, ?_, ?_, ?_⟩<;>simp
 have hH1:=hH.gr G1;have HL:Hid (Ls EI W1 (.slice pl L.length cl) L):=hH1.qF;have HHB:Hid (Lh W1 hb ff (.slice pl L.length cl)):=⟨hH1.c0,hH1.c1,hH1.lt⟩;have k1w:=hH.c1;have klw:=hH.lt;have HF:Hid (dZ K V ff r):=hF;have YC:Hid ((∀y∈L,V y.1)/\V x.1):=⟨hV,hx⟩;have YJ:Hid (∀W,Gr W1 W->K W):=fun W g=>hF.gr _ _ hk (G1.trans g);clear hH hH1 G1 hF hk hV hx;go_enter Tryz.func146,Tryz.ntmps146;go_wp2_with fail;rw[<-hW1,<-hB0];clear hW1 hB0 k1w klw;go_loopw [5] (fun s5 wr=>∃a:Nat,a<=L.length/\s5=iV a/\Gr W1 wr/\Hid (Wy (QU (aX r) L x) L.length a)) (fun s5 _=>(intOf s5).toNat);case atStart=>exact⟨L.length,nR _,rfl,Gr.refl _, .refl _⟩
 case round=>
  obtain⟨a,hal,rfl,hgr,AA⟩:=hrel;by_cases h0:a=0
  ·subst h0;go_upto_region 2 with fail;go_quiet (fail);go_wp2;go_ret;exact⟨0,rfl,AA.o,Or.inl rfl,HG.o.trans (hgr.drewN _)⟩
  ·have ha0:0<a:=Nat.pos_of_ne_zero h0;have haz:(0:Int)<(a:Int):=(by omega);have Ej:=fD ha0;have hpz:(par a:Int)<(L.length:Int):=(by omega);have hp0:(0:Int)<=(par a:Int):=(by omega);obtain⟨y,hy⟩:∃y,L[par a]? =some y:=⟨L[par a]'(by omega),by rw[p8]⟩;obtain⟨b1,o1,c1,e1,z1,x0,x1,x2,x3,x4,x5⟩:=gV (HL.o.below hgr.below) hy;simp only[vS]at e1;obtain⟨rfl,-,rfl⟩:=e1;have HY:Hid (L[par a]? =some y):=hy;have hS0:(fun W:World=>Li W b1 (o1+par a*6) y/\Li W B0 0 x/\Lh W hb ff (.slice (some ⟨b1,o1,none⟩) L.length cl)/\Gr W1 W) wr.drew:=⟨⟨x0,x1,x2,x3,x4,x5,z1⟩,HBx.o.gr hgr.drew,HHB.o.gr hgr.drew,hgr.drew⟩;have pK:∀W,CL 147 #[iV a] W fun e w'=>e= .returned (iV (par a:Nat))/\w'=W:=fun W=>gD a ha0 (by omega) W;have VC:Hid (∀W:World,(Li W b1 (o1+par a*6) y/\Li W B0 0 x/\Lh W hb ff (.slice (some ⟨b1,o1,none⟩) L.length cl)/\Gr W1 W)->CL 209 #[aB hb,iv x,iv y] W fun e w'=>e= .returned (.bool (aX r x y))/\Gr W w'):=fun W hS=>kS ff r HF.o x y YC.o.2 (YC.o.1 y (lM HY.o)) hb W (YJ.o W hS.2.2.2) hS.2.2.1.2.2 hS.2.2.1.1;have Fy:Hid (par a<a):=Ej;have QI:Hid (a<=L.length):=hal;obtain⟨bb,hr⟩:∃bb,aX r x y=bb:=⟨_,rfl⟩;rw[hr]at VC;have HR:=hr;have HRR:Hid (aX r x y=bb):=hr;clear hy hgr x0 x1 x2 x3 x4 x5 Ej z1 hr HR;go_upto_region 2 with fail;refine ay (S:=fun W:World=>Li W b1 (o1+par a*6) y/\Li W B0 0 x/\Lh W hb ff (.slice (some ⟨b1,o1,none⟩) L.length cl)/\Gr W1 W) (D:=[]) hmx ?_;refine' ak 0 hS0 ?_;refine' ak 1 hS0 ?_ (v:= .bool true);refine' ak 2 hS0 ?_;refine' ak 3 hS0 ?_;refine' bD 4 hS0 ?h ?_;case h=>(intro W hSw;obtain⟨y0,y1,y2,y3,y4,y5,yz⟩:=hSw.2.1;simp only[nZ]at y1 y2 y3 y4 y5;go_simp;try(with_reducible rfl))
   refine' ak 5 hS0 ?_;refine' ak 6 hS0 ?_;refine' ak 7 hS0 ?_;refine' bD 8 hS0 ?h ?_;case h=>(intro W hSw;obtain⟨y0,y1,yz⟩:=hSw.2.2.1;go_simp;try(with_reducible rfl))
   refine' ak 9 hS0 ?_;refine fV 10 fun K hK=> ?_;rw[if_pos (by kernel_rfl)];go_simp;refine(pK _).mono ?_;rintro e w4 ⟨rfl,rfl⟩;go_wp2_with fail;refine hK.o _ _ (fun hD=>hS0) ?_;clear hK K;try simp only[Act.put,qI,q0,qS]
   refine' ak 11 hS0 ?_;refine' bD 12 hS0 ?h ?_;case h=>(intro W hSw;obtain⟨y0,y1,y2,y3,y4,y5,yz⟩:=hSw.1;go_simp;try(with_reducible rfl))
   refine fV 13 fun K hK=> ?_;rw[if_pos (by kernel_rfl)];go_simp;refine(VC.o _ hS0).mono ?_;rintro e w5 ⟨rfl,hg5⟩;have hS5:(fun W:World=>Li W b1 (o1+par a*6) y/\Li W B0 0 x/\Lh W hb ff (.slice (some ⟨b1,o1,none⟩) L.length cl)/\Gr W1 W) w5:=⟨hS0.1.gr hg5,hS0.2.1.gr hg5,hS0.2.2.1.gr hg5,hS0.2.2.2.trans hg5⟩;go_wp2_with fail;refine hK.o _ _ (fun hD=>hS5) ?_;clear hK K;try simp only[Act.put,qI,q0,qS]
   refine' ak 14 hS5 ?_;refine av (by kernel_rfl) ?_ _;cases bb with
   | true=>
    go_wp2_with (go_at_call 147;refine(pK _).mono ?_;rintro e w6 ⟨rfl,rfl⟩);go_roundw;case rel=>exact⟨par a,nE (nL Fy.o QI.o),rfl,hS5.2.2.2,AA.o.snoc ha0 ⟨y,HY.o,HRR.o⟩⟩
    case measure=>simp[intOf];exact Fy.o
   | false=>
    go_wp2;go_ret;exact⟨a,rfl,AA.o,Or.inr ⟨y,HY.o,HRR.o⟩,HG.o.trans hS5.2.2.2⟩
theorem Bt{q:It->It->Bool}{M:List It}{a d:Nat}{p:It}(h:pQ q M a d p):a<d:=by
 rcases h.2 with h|h
 ·have:=h.1;omega
 ·have:=h.1;omega
theorem qA{r:Th->Th->Bool}(u:Value)(M:List It)(x:It)(w:World)(kl:hb<w.heap.size)(k0:aj w hb 0 (fv ff))(hu:Ls EI w u M)(hl:M.length<=140737488355328){K:World->Prop}{V:Th->Prop}(hF:dZ K V ff r)(hk:K w)(hV:∀y∈M,V y.1)(hx:V x.1):
    CL 196 #[aB hb,u,iv x] w fun e w'=>∃at_:Nat,e= .returned (iV at_)/\Dn (aX r) M x at_/\oC (aX r) M x at_/\Gr w w':=by
 have hmx:Tryz.prog.follows .mixedOrders=true:=by kernel_rfl
 obtain⟨pl,cl,rfl⟩:=hu.form;obtain⟨B0,hB0⟩:=aF (w.heap.size);obtain⟨W1,hW1⟩:=aF (w.alloc (.cells #[iV x.1.1,uV x.1.2.1.1.1,uV x.1.2.1.1.2.1,uV x.1.2.1.1.2.2,iV x.1.2.2,uV (x.2:Nat)] 251));have G1:Gr w W1:=by rw[hW1];exact(Gr.refl _).alloc _
 have HG:Hid (Gr w W1):=G1;have hB:B0<W1.heap.size:=by rw[hW1,hB0];simp
 obtain⟨q0,q1,q2,q3,q4,q5⟩:W1.cell? ⟨B0,0,none⟩=some (iV x.1.1)/\W1.cell? ⟨B0,1,none⟩=some (uV x.1.2.1.1.1)/\W1.cell? ⟨B0,2,none⟩=some (uV x.1.2.1.1.2.1)/\W1.cell? ⟨B0,3,none⟩=some (uV x.1.2.1.1.2.2)/\W1.cell? ⟨B0,4,none⟩=some (iV x.1.2.2)/\W1.cell? ⟨B0,5,none⟩=some (uV (x.2:Nat)):=by rw[hW1,hB0];simp
 have HL:Hid (Ls EI W1 (.slice pl M.length cl) M):=hu.below G1.below;have Te:hb<W1.heap.size:=nL kl G1.size;have k01:=(G1.cell kl).trans k0;have hah:∀(y z:It),V y.1->V z.1->∀(W:World),hb<W.heap.size->aj W hb 0 (fv ff)->K W->CL 209 #[aB hb,iv y,iv z] W fun e w'=>e= .returned (.bool (aX r y z))/\Gr W w':=fun y z hy hz W h1 h2 h3=>kS ff r hF y z hy hz hb W h3 h1 h2;have VC:Hid (∀(y z:It),V y.1->V z.1->∀(W:World),hb<W.heap.size->aj W hb 0 (fv ff)->K W->CL 209 #[aB hb,iv y,iv z] W fun e w'=>e= .returned (.bool (aX r y z))/\Gr W w'):=hah;have HF:Hid (dZ K V ff r):=hF;have YC:Hid ((∀y∈M,V y.1)/\V x.1):=⟨hV,hx⟩;have YJ:Hid (∀W,Gr W1 W->K W):=fun W g=>hF.gr _ _ hk (G1.trans g);clear hu G1 hF kl k0 hah hk hV hx;go_enter Tryz.func196,Tryz.ntmps196;go_wp2_with fail;rw[<-hW1,<-hB0];clear hW1 hB0;go_loopw [7,8,9] (fun s7 s8 _ wr=>∃a c:Nat,a<=M.length/\s7=iV a/\s8=iV c/\Hid (c=2*a+1)/\Gr W1 wr/\Hid (Dn (aX r) M x a)) (fun s7 _ _ _=>M.length-(intOf s7).toNat);case atStart=>exact⟨0,1,zL _,rfl,rfl,rfl,Gr.refl _,⟨Or.inl rfl, .refl _⟩⟩
 case round=>
  obtain⟨a,c,hal,rfl,rfl,yB,hgr,AA⟩:=hrel;by_cases hlt:c<M.length
  ·have hltz:(c:Int)<(M.length:Int):=(by omega);obtain⟨y,hy⟩:∃y,M[c]? =some y:=⟨M[c]'hlt,by rw[p8]⟩;obtain⟨b1,o1,c1,e1,z1,x0,x1,x2,x3,x4,x5⟩:=gV (HL.o.below hgr.below) hy;simp only[vS]at e1;obtain⟨rfl,-,rfl⟩:=e1;have HY:Hid (M[c]? =some y):=hy;have Y0:=(hgr.cell Te).trans k01;have YZ:=nL Te hgr.size;have QF:Hid (Gr W1 wr):=hgr;have HX:Hid (aj wr b1 (o1+c*6) (iV y.1.1)/\aj wr b1 (o1+c*6+1) (uV y.1.2.1.1.1)/\aj wr b1 (o1+c*6+2) (uV y.1.2.1.1.2.1)/\aj wr b1 (o1+c*6+3) (uV y.1.2.1.1.2.2)/\aj wr b1 (o1+c*6+4) (iV y.1.2.2)/\aj wr b1 (o1+c*6+5) (uV (y.2:Nat))):=⟨x0,x1,x2,x3,x4,x5⟩;clear hy hgr x0 x1 x2 x3 x4 x5;go_upto_region 6 with fail;go_cut [34] (fun sb w'=>∃b:Bool,sb= .bool b/\Hid (∃p,pQ (aX r) M a (if b then c+1 else c) p)/\Gr W1 w');case first=>
    by_cases hlt2:c+1<M.length
    ·have Pj:(c:Int)+1<(M.length:Int):=(by omega);have hd0:(0:Int)<=(c:Int)+1:=(by omega);have hc0:(0:Int)<=(c:Int):=(by omega);obtain⟨z,hz⟩:∃z,M[c+1]? =some z:=⟨M[c+1]'hlt2,by rw[p8]⟩;obtain⟨b2,o2,c2,e2,z2,y0,y1,y2,y3,y4,y5⟩:=gV (HL.o.below QF.o.below) hz;simp only[vS,oI,aI,and_true]at e2;obtain⟨⟨rfl,rfl⟩,-,rfl⟩:=e2;have HZ:Hid (M[c+1]? =some z):=hz;obtain⟨x0,x1,x2,x3,x4,x5⟩:=HX.o;have hS0:(fun W:World=>Li W b1 (o1+(c+1)*6) z/\Li W b1 (o1+c*6) y/\(aj W hb 0 (fv ff)/\hb<W.heap.size)/\Gr W1 W) wr.drew:=⟨⟨y0,y1,y2,y3,y4,y5,z1⟩,⟨x0,x1,x2,x3,x4,x5,z1⟩,⟨Y0,YZ⟩,QF.o.drew⟩;have hah:=VC.o z y (YC.o.1 z (lM HZ.o)) (YC.o.1 y (lM HY.o));obtain⟨bb,hr⟩:∃bb,aX r z y=bb:=⟨_,rfl⟩;rw[hr]at hah;have HP:Hid (∃p,pQ (aX r) M a (if bb then c+1 else c) p):=by
      cases bb
      ·exact⟨y,HY.o,Or.inl ⟨yB.o,fun z' hz'=>by
         have hzz:=HZ.o;rw[show c+1=2*a+2 by have:=yB.o;omega,hz']at hzz;cases hzz;exact hr⟩⟩
      ·exact⟨z,HZ.o,Or.inr ⟨by rw[yB.o];rfl,y,by rw[<-yB.o];exact HY.o,hr⟩⟩
     have HGD:Hid (Gr W1 wr.drew):=QF.o.drew;clear hz hr x0 x1 x2 x3 x4 x5 y0 y1 y2 y3 y4 y5;refine ay (S:=fun W:World=>Li W b1 (o1+(c+1)*6) z/\Li W b1 (o1+c*6) y/\(aj W hb 0 (fv ff)/\hb<W.heap.size)/\Gr W1 W) (D:=[]) hmx ?_;refine' ak 0 hS0 ?_;refine' ak 1 hS0 ?_;refine' ak 2 hS0 ?_;refine' ak 3 hS0 ?_ (v:= .bool true);refine' ak 4 hS0 ?_;refine' ak 5 hS0 ?_;refine' ak 6 hS0 ?_;refine' ak 7 hS0 ?_;refine' ak 8 hS0 ?_;refine' bD 9 hS0 ?h ?_;case h=>(intro W hSw;obtain⟨y0,y1,y2,y3,y4,y5,yz⟩:=hSw.1;go_simp;try(with_reducible rfl))
     refine' ak 10 hS0 ?_;refine' ak 11 hS0 ?_;refine' ak 12 hS0 ?_;refine' bD 13 hS0 ?h ?_;case h=>(intro W hSw;obtain⟨y0,y1,y2,y3,y4,y5,yz⟩:=hSw.2.1;go_simp;try(with_reducible rfl))
     refine fV 14 fun K hK=> ?_;rw[if_pos (by kernel_rfl)];go_simp;refine(hah _ hS0.2.2.1.2 hS0.2.2.1.1 (YJ.o _ hS0.2.2.2)).mono ?_;rintro e w5 ⟨rfl,hg5⟩;have hS5:(fun W:World=>Li W b1 (o1+(c+1)*6) z/\Li W b1 (o1+c*6) y/\(aj W hb 0 (fv ff)/\hb<W.heap.size)/\Gr W1 W) w5:=⟨hS0.1.gr hg5,hS0.2.1.gr hg5,⟨(hg5.cell hS0.2.2.1.2).trans hS0.2.2.1.1,nL hS0.2.2.1.2 hg5.size⟩,hS0.2.2.2.trans hg5⟩;go_wp2_with fail;refine hK.o _ _ (fun hD=>hS5) ?_;clear hK K;try simp only[Act.put,qI,q0,qS]
     refine' ak 15 hS5 ?_;refine av (by kernel_rfl) ?_ _;go_wp2_with fail;go_meet;exact⟨bb,rfl,HP,HGD.o.trans hg5⟩
    ·have Pj:¬(c:Int)+1<(M.length:Int):=(by omega);have hc0:(0:Int)<=(c:Int):=(by omega);have HP:Hid (∃p,pQ (aX r) M a (if false then c+1 else c) p):=⟨y,HY.o,Or.inl ⟨yB.o,fun z' hz'=>by
      have:=(lG.1 hz').1;have:=yB.o;omega⟩⟩
     go_quiet (fail);go_wp2_with fail;go_meet;exact⟨false,rfl,HP,QF.o.drewN _⟩
   case rest=>
    obtain⟨bb,rfl,HPb,hgb⟩:=hcut;clear HX HY Y0 YZ z1;go_upto_if 34 with fail;go_cut [8] (fun s8 w'=>∃(d:Nat) (p:It),s8=iV d/\Hid (pQ (aX r) M a d p)/\Gr W1 w');case first=>
     obtain⟨p,hp⟩:=HPb.o;cases bb
     ·go_wp2_with fail;go_meet;exact⟨c,p,rfl,hp,hgb⟩
     ·go_wp2_with fail;go_meet;exact⟨c+1,p,by first|rfl|simp,hp,hgb⟩
    case rest=>
     obtain⟨d,y,rfl,HP,hgc⟩:=hcut;have yI:Hid (Gr W1 wc):=hgc;obtain⟨b2,o2,c2,e2,z2,y0,y1,y2,y3,y4,y5⟩:=gV (HL.o.below hgc.below) HP.o.1;simp only[vS,oI,aI,and_true]at e2;obtain⟨⟨rfl,rfl⟩,-,rfl⟩:=e2;have hdl:d<M.length:=(lG.1 HP.o.1).1;have hdz:(d:Int)<(M.length:Int):=(by omega);have hd0:(0:Int)<=(d:Int):=(by omega);have kc0:wc.drew.cell? ⟨hb,0,none⟩=some (fv ff):=(yI.o.cell Te).trans k01;have bf:hb<wc.drew.heap.size:=nL Te yI.o.size;have kck:Gr W1 wc.drew:=yI.o.drew;have hS1:(fun W:World=>Li W b1 (o1+d*6) y/\Li W B0 0 x/\(aj W hb 0 (fv ff)/\hb<W.heap.size)/\Gr W1 W) wc.drew:=⟨⟨y0,y1,y2,y3,y4,y5,z2⟩,⟨(yI.o.cell hB).trans q0,(yI.o.cell hB).trans q1,(yI.o.cell hB).trans q2,(yI.o.cell hB).trans q3,(yI.o.cell hB).trans q4,(yI.o.cell hB).trans q5,nL hB yI.o.size⟩,⟨kc0,bf⟩,yI.o.drew⟩;have Ig:=VC.o y x (YC.o.1 y (lM HP.o.1)) YC.o.2;obtain⟨b8,hr1⟩:∃b8,aX r y x=b8:=⟨_,rfl⟩;have zf:Hid (aX r y x=b8):=hr1;rw[hr1]at Ig;have YK:Hid (Gr W1 wc.drew):=yI.o.drew;clear y0 y1 y2 y3 y4 y5 hgc hr1;go_upto_region 8 with fail;go_cut [43] (fun sb w'=>sb= .bool (!b8)/\Gr W1 w');case first=>
      refine ay (S:=fun W:World=>Li W b1 (o1+d*6) y/\Li W B0 0 x/\(aj W hb 0 (fv ff)/\hb<W.heap.size)/\Gr W1 W) (D:=[]) hmx ?_;refine' ak 0 hS1 ?_;refine' ak 1 hS1 ?_;refine' ak 2 hS1 ?_;refine' ak 3 hS1 ?_;refine' bD 4 hS1 ?h ?_;case h=>(intro W hSw;obtain⟨y0,y1,y2,y3,y4,y5,yz⟩:=hSw.1;go_simp;try(with_reducible rfl))
      refine' bD 5 hS1 ?h ?_;case h=>(intro W hSw;obtain⟨y0,y1,y2,y3,y4,y5,yz⟩:=hSw.2.1;simp only[nZ]at y1 y2 y3 y4 y5;go_simp;try(with_reducible rfl))
      refine fV 6 fun K hK=> ?_;go_simp;refine(Ig _ hS1.2.2.1.2 hS1.2.2.1.1 (YJ.o _ hS1.2.2.2)).mono ?_;rintro e w7 ⟨rfl,U9⟩;have bu:(fun W:World=>Li W b1 (o1+d*6) y/\Li W B0 0 x/\(aj W hb 0 (fv ff)/\hb<W.heap.size)/\Gr W1 W) w7:=⟨hS1.1.gr U9,hS1.2.1.gr U9,⟨(U9.cell hS1.2.2.1.2).trans hS1.2.2.1.1,nL hS1.2.2.1.2 U9.size⟩,hS1.2.2.2.trans U9⟩;go_wp2_with fail;refine hK.o _ _ (fun hD=>bu) ?_;clear hK K;try simp only[Act.put,qI,q0,qS]
      refine' ak 7 bu ?_;refine av (by kernel_rfl) ?_ _;go_wp2_with fail;go_meet;exact⟨by first|rfl|simp,YK.o.trans U9⟩
     case rest=>
      obtain⟨rfl,U8⟩:=hcut;clear hS1 Ig kc0 bf kck z2;cases b8
      ·have HR1:Hid (oC (aX r) M x a):=Dn.stop HP.o zf.o;go_wp2;go_ret;exact⟨a,rfl,AA.o,HR1.o,HG.o.trans U8⟩
      ·have HR1:Hid (Dn (aX r) M x d):=AA.o.step HP.o zf.o;go_wp2;go_roundw;case rel=>exact⟨d,2*d+1,nE hdl,by first|rfl|simp,by first|rfl|go_num|simp,rfl,U8,HR1.o⟩
       case measure=>
        have:=yB.o;have:=Bt HP.o;simp[intOf];omega
  ·have hltz:¬(c:Int)<(M.length:Int):=(by omega);have HE:Hid (oC (aX r) M x a):=Dn.none (by have:=yB.o;omega);go_wp2;go_ret;exact⟨a,rfl,AA.o,HE.o,HG.o.trans hgr⟩
end Hc
namespace Pt
def UT(N:Nat)(E:Nat->Nat->Bool)(p:Nat):Nat:=((List.range N).filter fun r=>E r p).length
theorem ND(N:Nat)(E:Nat->Nat->Bool)(p:Nat):UT N E p<=N:=by
 have:=List.length_filter_le (fun r=>E r p) (List.range N);rw[List.length_range]at this;exact this
theorem JY{St:Nat->Nat->ai->Prop}:ZB St p PX.z q PX.z↔Wy PX St p q PX.z:=by
 constructor
 ·rintro⟨a,c,ha,hc,k1,k2,k3⟩;obtain⟨c1,c2,c3⟩:=bE hc;have ba:=bY a;have z1:PX.z.1.1=0:=rfl;have z2:PX.z.1.2.1=0:=rfl;have z3:PX.z.1.2.2=0:=rfl;have ea:a=PX.z:=dw (by omega) (by omega) (by omega);exact ea ▸ ha
 ·exact fun h=>⟨PX.z,PX.z,h,AZ PX.z,bL.refl _⟩
theorem ME{St:Nat->Nat->ai->Prop}(hs:∀q q',St q q' PX.z->f q+1<=f q'){c:ai}(h:Wy PX St p q c):c=PX.z->p=q\/f p+1<=f q:=by
 induction h with
 | nil => exact fun _=>Or.inl rfl
 | @step q q' a b c h1 h2 h3 ih=>
  intro hc;subst hc;obtain⟨s1,s2,s3⟩:=bE h3;have ba:=bY a;have bb:=bY b;have z1:PX.z.1.1=0:=rfl;have z2:PX.z.1.2.1=0:=rfl;have z3:PX.z.1.2.2=0:=rfl;have ea:a=PX.z:=dw (by omega) (by omega) (by omega);have eb:b=PX.z:=dw (by omega) (by omega) (by omega);rw[eb]at h2;have h4:=hs _ _ h2;rcases ih ea with h5|h5
  ·subst h5;exact Or.inr h4
  ·exact Or.inr (by omega)
theorem Wi{N:Nat}{L:Nat->List (Nat×ai)}{St:Nat->Nat->ai->Prop}{E:Nat->Nat->Bool}(hst:∀p q b,St p q b↔p<N/\(q,b)∈L p)(hto:∀p q b,St p q b->q<N)
    (hs:∀q q',St q q' PX.z->f q+1<=f q') (hE:∀r p,r<N->p<N->(E r p=true↔ZB St r PX.z p PX.z)):rV N L (nk N (UT N E)):=by
 refine abr (fun p _=>ND N E p) (fun p q b hp hb=>hto p q b ((hst p q b).2 ⟨hp,hb⟩)) fun p q hp hb=> ?_;have hpq:St p q PX.z:=(hst p q PX.z).2 ⟨hp,hb⟩;have hq:q<N:=hto p q _ hpq;have e1:∀x,x<N->((List.range N).filter fun r=>E r x)=(List.range N).filter fun r=>(fun r x=>decide (r<N)&&E r x) r x:=fun x _=>List.filter_congr fun r hr=>by
  have h:decide (r<N)=true:=by simpa using mR.1 hr
  show E r x=(decide (r<N)&&E r x);rw[h,Bool.true_and]
 unfold UT;rw[e1 p hp,e1 q hq];refine Yb (fun r x=>decide (r<N)&&E r x) hq (fun r hr=> ?_) ?_ ?_
 ·simp only[bA,dE]at hr⊢;refine⟨hr.1,(hE r q hr.1 hq).2 (JY.2 (.step (JY.1 ((hE r p hr.1 hp).1 hr.2)) hpq (AZ PX.z)))⟩
 ·simp only[Bool.and_eq_false_iff];refine Or.inr (Bool.eq_false_iff.2 fun h=> ?_);have hw:=JY.1 ((hE q p hq hp).1 h);have h1:=hs p q hpq;rcases ME hs hw rfl with e|e
  ·subst e;omega
  ·omega
 ·simp only[bA,dE];exact⟨hq,(hE q q hq hq).2 (JY.2 .nil)⟩
section
variable {N:Nat} {R:Nat->Nat->List ai} {O P:Nat->List ai} {c:Nat->ai->Int} {p:Nat}
end
structure Trn(N:Nat)(L:Nat->List (Nat×ai))(ps:Nat×ai->Nat)(R:Nat->Nat->List ai)(Oo On:Nat->List ai)(Co Cn:Nat->ai->Int)(Fo Fn S:Nat->List ai)(T E B:Nat)(W:List (Nat×ai×Int)):Prop where
 yO:Fv N L On Cn Fn
 JQ:∀p,p<N->FY PX (kH N R On p) (Fn p)
 sup:∀q u,q<N->0<Co q u\/0<Cn q u->u∈S q
 yE:LW N L ps On Co Cn S B 0 Co Fo W
 bd:W.length+pot N L ps S Co Cn 0<=B
 bo:∀p t,p<N->0<=Co p t/\Co p t<=1+E
 bn:∀p t,p<N->0<=Cn p t/\Cn p t<=1+E
 sl:∀p,p<N->(S p).length<=2*(T+64*T*E)
 st:sN (fun p=>(S p).length) (List.range N)<=2*(N*T+64*T*E)
 fo:∀p,p<N->(Fo p).length<=64*T
 fn:∀p,p<N->(Fn p).length<=64*T
theorem ji(l:List α)(g:α->Nat)(N:Nat):sN (fun q=>(l.filter fun s=>decide (g s=q)).length) (List.range N)<=l.length:=by
 induction l with
 | nil=>
  have:sN (fun q=>(([]:List α).filter fun s=>decide (g s=q)).length) (List.range N)=0:=by
   have h:∀m:List Nat,sN (fun q=>(([]:List α).filter fun s=>decide (g s=q)).length) m=0:=fun m=>by
    induction m with
    | nil => rfl
    | cons a m ih => rw[bU,ih];rfl
   exact h _
  omega
 | cons a l ih=>
  have e:∀q,((a::l).filter fun s=>decide (g s=q)).length=(if g a=q then 1 else 0)+(l.filter fun s=>decide (g s=q)).length:=fun q=>by
   rw[List.filter_cons];by_cases k:g a=q
   ·rw[if_pos (by simpa using k),if_pos k,lC];omega
   ·rw[if_neg (by simpa using k),if_neg k];omega
  have h1:sN (fun q=>if g a=q then 1 else 0) (List.range N)<=1:=by
   have h:∀m:List Nat,m.Nodup->sN (fun q=>if g a=q then 1 else 0) m<=1:=fun m hm=>by
    induction m with
    | nil => exact zL _
    | cons b m ih=>
     have hm':=List.nodup_cons.1 hm;rw[bU];by_cases k:g a=b
     ·rw[if_pos k];have h0:sN (fun q=>if g a=q then 1 else 0) m=0:=by
       have h':∀m:List Nat,b∉m->sN (fun q=>if g a=q then 1 else 0) m=0:=fun m=>by
        induction m with
        | nil => intro _;rfl
        | cons x m ih=>
         intro hx;rw[bU,if_neg fun e=>hx (by rw[<-k,e];exact mX),ih fun h=>hx (mO _ h)]
       exact h' m hm'.1
      omega
     ·rw[if_neg k];have:=ih hm'.2;omega
   exact h _ List.nodup_range
  have e2:sN (fun q=>((a::l).filter fun s=>decide (g s=q)).length) (List.range N)=sN (fun q=>(if g a=q then 1 else 0)+(l.filter fun s=>decide (g s=q)).length) (List.range N):=by
   congr 1
   funext q
   exact e q
  rw[e2,mZ,lC];omega
theorem RX{β:Type}(f:α->β->Nat)(l:List α)(m:List β):sN (fun a=>sN (f a) m) l=sN (fun b=>sN (fun a=>f a b) l) m:=by
 induction l with
 | nil=>
  have h:∀m:List β,sN (fun b=>sN (fun a=>f a b) []) m=0:=fun m=>by
   induction m with
   | nil => rfl
   | cons a m ih => rw[bU,ih];rfl
  rw[h];rfl
 | cons a l ih=>
  rw[bU,ih,<-mZ]
  congr 1
theorem OY(N:Nat)(L:Nat->List (Nat×ai)):sN (nK N L) (List.range N)<=sN (fun q=>(L q).length) (List.range N):=by
 unfold nK;rw[RX];exact kG fun p _=>ji (L p) (fun s=>s.1) N
theorem JJ(N:Nat)(L:Nat->List (Nat×ai))(q:Nat):nK N L q<=sN (fun q=>(L q).length) (List.range N):=by
 unfold nK;exact kG fun p _=>List.length_filter_le _ _
theorem wQ(l:List Nat)(k:Nat):sN (fun _=>k) l=l.length*k:=by
 induction l with
 | nil => simp[sN]
 | cons a l ih => rw[bU,ih,lC,Nat.succ_mul];omega
section
variable {N:Nat} {L:Nat->List (Nat×ai)} {St:Nat->Nat->ai->Prop} {R:Nat->Nat->List ai} {Oo On Fo:Nat->List ai} {Co:Nat->ai->Int} {D:Nat->List (ai×Int)} {W:List (Nat×ai×Int)} {T E K B:Nat}
theorem C8.turn(h:C8 N L St R)(yO:Fv N L Oo Co Fo)(hFo:∀p,p<N->FY PX (kH N R Oo p) (Fo p))(hO:∀p,p<N->(Oo p).Nodup)(hN:∀p,p<N->(On p).Nodup)(hD:∀p,p<N->Az (Oo p) (On p) (D p))(hW:W.Perm (oF D (List.range N)))
    (hTo:sN (fun q=>(Oo q).length) (List.range N)<=T) (hTn:sN (fun q=>(On q).length) (List.range N)<=T) (hE:sN (fun q=>(L q).length) (List.range N)<=E) (hK:sN (fun q=>(L q).length*nK N L q) (List.range N)<=K) (hB:2*T+6*(T*E+64*T*K)<=B) :
    ∃Cn Fn,∀ps,Trn N L ps R Oo On Co Cn Fo Fn (M7 N L Oo Fo On Fn) T E B W:=by
 obtain⟨Cn,Fn,sn,hFn⟩:=h.ex On;have fo:∀p,p<N->(Fo p).length<=64*T:=fun p hp=>nT (h.short (hFo p hp)) (Nat.mul_le_mul_left _ hTo);have fn:∀p,p<N->(Fn p).length<=64*T:=fun p hp=>nT (h.short (hFn p hp)) (Nat.mul_le_mul_left _ hTn);have oo:∀p,p<N->(Oo p).length<=T:=fun p hp=>nT (kF (f:=fun q=>(Oo q).length) (mR.2 hp)) hTo;have on:∀p,p<N->(On p).length<=T:=fun p hp=>nT (kF (f:=fun q=>(On q).length) (mR.2 hp)) hTn;have hwl:W.length<=2*T:=by
  rw[hW.length_eq];refine nT (I7 (List.range N) fun p hp=>hD p (mR.1 hp)) ?_;rw[mZ];omega
 refine⟨Cn,Fn,fun ps=> ?_⟩;have aaj:pot N L ps (M7 N L Oo Fo On Fn) Co Cn 0<=6*(T*E+64*T*K):=by
  refine nT (Sn fo fn oo on 0) (Nat.mul_le_mul_left _ (Nat.add_le_add (Nat.mul_le_mul_left _ hE) (Nat.mul_le_mul_left _ hK)))
 have hbd:W.length+pot N L ps (M7 N L Oo Fo On Fn) Co Cn 0<=B:=nT (Nat.add_le_add hwl aaj) hB;have hsl:∀p,p<N->(M7 N L Oo Fo On Fn p).length<=2*(T+64*T*nK N L p):=fun p hp=>Je fo fn oo on hp;have hbc:∀{O F:Nat->List ai} {C:Nat->ai->Int},Fv N L O C F->∀p t,p<N->0<=C p t/\C p t<=1+E:=fun {O F C} s p t hp=>by
  rw[s.eq p t hp];have h1:=Wn (N:=N) (L:=L) (O:=O) (F:=F) (fun q hq=>(s.fr q hq).nodup) p t;exact⟨wU N L O F p t,by omega⟩
 refine⟨sn,hFn,fun q u hq hu=>SH yO sn hq hu,yO.yE hO hN hD hW hbd,hbd,hbc yO,hbc sn,fun p hp=> ?_, ?_,fo,fn⟩
 ·refine nT (hsl p hp) (Nat.mul_le_mul_left _ (Nat.add_le_add_left (Nat.mul_le_mul_left _ (nT (JJ N L p) hE)) _))
 ·refine nT (kG (g:=fun p=>2*(T+64*T*nK N L p)) fun p hp=>hsl p (mR.1 hp)) ?_;rw[mY,mZ,wQ,mY,List.length_range];exact Nat.mul_le_mul_left _ (Nat.add_le_add_left (Nat.mul_le_mul_left _ (nT (OY N L) hE)) _)
end
section
variable {κ:Type} [DecidableEq κ] {lt:κ->κ->Prop} [DecidableRel lt]
omit [DecidableRel lt]in
omit [DecidableRel lt]in
omit [DecidableEq κ] [DecidableRel lt]in
end
instance tldDec:DecidableRel PX.mh:=fun a b=>inferInstanceAs (Decidable (a.1.1<b.1.1\/(a.1.1=b.1.1/\(a.1.2.1<b.1.2.1\/(a.1.2.1=b.1.2.1/\a.1.2.2<b.1.2.2)))))
def slt(a b:Nat×ai):Prop:=a.1<b.1\/(a.1=b.1/\PX.mh a.2 b.2)
instance sltDec:DecidableRel slt:=fun a b=>inferInstanceAs (Decidable (a.1<b.1\/(a.1=b.1/\PX.mh a.2 b.2)))
section
variable {κ:Type} [DecidableEq κ]
end
end Pt
end Go.Proofs.YtiiefcalkjeieaaGreat
