import Derived.Maps.AppendAt
import Derived.Deep.RegionWith
import Derived.Test.YtiiefcalkjeieaaGreatJ4
import Derived.Test.YtiiefcalkjeieaaGreatJ6
variable{hb p q:Nat}{ff:Go.Value}{W W':Go.World}{f:Nat->Int}{α:Type}
set_option maxHeartbeats 16000000
set_option maxRecDepth 100000
namespace Go.Proofs.YtiiefcalkjeieaaGreat
section
open Go.RowKit
section
variable {P:Program} {ops:Array Oper} {Q:Exit->Act->World->Prop} {md:Region.Mode} {S:World->Prop} {D:List Nat}
theorem vO{i j:Nat}{oi oj:Oper}{n:Nat}{ls:Array Bool}{a:Act}{w:World}(hr:Region.ready md ops ls=[i,j])(hi:ops[i]? =some oi)(hj:ops[j]? =some oj)
    (h1:∀K':Act->World->Prop,Shut (∀b u,(i∉D->S u)->dJ P md ops Q S D n (ls.setIfInBounds i true) b u->K' b u)->if Region.wanted oi (yielded ops a.tmps)=true then Oper.wp P oi a w K' Q else K' (a.put oi.dst undef) w)
    (h2:∀K':Act->World->Prop,Shut (∀b u,(j∉D->S u)->dJ P md ops Q S D n (ls.setIfInBounds j true) b u->K' b u)->if Region.wanted oj (yielded ops a.tmps)=true then Oper.wp P oj a w K' Q else K' (a.put oj.dst undef) w):dJ P md ops Q S D (n+1) ls a w:=by
 refine⟨fun h0=>(by rw[h0]at hr;cases hr),fun k hk=> ?_⟩;rw[hr]at hk;simp only[fU,List.not_mem_nil,or_false]at hk;rcases hk with rfl|rfl
 ·exact wpOp_step hi (fun K' hK=>h1 K' (fun b u h1 h2=>hK b u ⟨h1,h2⟩))
 ·exact wpOp_step hj (fun K' hK=>h2 K' (fun b u h1 h2=>hK b u ⟨h1,h2⟩))
end
end
section
open Go.RowKit Go.Sort
end
namespace Df
open Go.RowKit Go.Sort
section
variable {α:Type} {E:El α} {T:TypeId} {W W':World} {v:Value} {l:List α} {m:α}
end
section
variable {w W W':World} {gv cv:Array Value} {u:Value} {xs:List NV}
end
theorem uQ{P:Program}(w:World)(t ty:TypeId)(v:Value)(c:Nat):(Builtin.append_ #[t,t] ty #[v, .slice none 0 c]).run P w=(Builtin.append_ #[t,t] ty #[v, .slice none 0 0]).run P w:=rfl
section
variable {w W W':World} {gv cv:Array Value} {nv:Value} {ys:List NV}
end
end Df
namespace Pc
open Go.RowKit Go.Sort
theorem fG:dY 184 ay:=
 ⟨enters_of Tryz.func184 (by kernel_rfl) rfl,fun a b W=>(wS a.1.1 a.1.2.1 a.1.2.2 b.1.1 b.1.2.1 b.1.2.2 W)⟩
theorem jI:dY 125 dI:=by
 refine⟨enters_of Tryz.func125 (by kernel_rfl) rfl,fun a b W=> ?_⟩;have h:=fun W=>Bn a.1.1 a.1.2.1 a.1.2.2 b.1.1 b.1.2.1 b.1.2.2 W;unfold dI;rw[show mi a.1.1 a.1.2.1 a.1.2.2 b.1.1 b.1.2.1 b.1.2.2=AQ a b from rfl]at h;generalize AQ a b=r at h⊢;go_enter Tryz.func125,Tryz.ntmps125;go_wp2_with fail;refine(h _).mono ?_;rintro e w' ⟨rfl,hg⟩;go_wp2;go_ret;exact⟨rfl,(((Gr.refl _).alloc _).alloc _).trans hg⟩
theorem Cv(a b:Tm):ay a b=true↔Pt.PX.aU a b:=jg a b
theorem MI(a b:Tm):dI a b=true↔Pt.PX.lY a b:=kU a b
end Pc
namespace Hc
open Go.RowKit Go.Sort Hp
attribute[local go_sem ↓]wp_at_zero wp_at_succ
def Li(W:World)(b o:Nat)(x:It):Prop:=W.cell? ⟨b,o,none⟩=some (.int .i64 x.1.1)/\W.cell? ⟨b,o+1,none⟩=some (.int .u64 x.1.2.1.1.1)/\W.cell? ⟨b,o+2,none⟩=some (.int .u64 x.1.2.1.1.2.1)/\W.cell? ⟨b,o+3,none⟩=some (.int .u64 x.1.2.1.1.2.2)/\W.cell? ⟨b,o+4,none⟩=some (.int .i64 x.1.2.2)/\W.cell? ⟨b,o+5,none⟩=some (.int .u64 (x.2:Nat))/\b<W.heap.size
theorem Li.gr{b o:Nat}{x:It}(h:Li W b o x)(g:Gr W W'):Li W' b o x:=by
 obtain⟨h0,h1,h2,h3,h4,h5,hz⟩:=h;exact⟨(g.cell hz).trans h0,(g.cell hz).trans h1,(g.cell hz).trans h2,(g.cell hz).trans h3,(g.cell hz).trans h4,(g.cell hz).trans h5,nL hz g.size⟩
def Lh(W:World)(hb:Nat)(ff vs:Value):Prop:=W.cell? ⟨hb,0,none⟩=some (fv ff)/\W.cell? ⟨hb,1,none⟩=some vs/\hb<W.heap.size
theorem Lh.gr{vs:Value}(h:Lh W hb ff vs)(g:Gr W W'):Lh W' hb ff vs:=⟨(g.cell h.2.2).trans h.1,(g.cell h.2.2).trans h.2.1,nL h.2.2 g.size⟩
theorem vQ{np:Nat}{v:Value}{L:List It}{r:Th->Th->Bool}(x:It)(w:World)(hH:Hb w hb ff v L np)(hl:L.length<=140737488355328){K:World->Prop}{V:Th->Prop}(hF:dY K V ff r)(hk:K w)(hV:∀y∈L,V y.1)(hx:V x.1):
    Calls Tryz.prog 146 #[.pointer (some ⟨hb,0,none⟩),iv x] w fun e w'=>∃at_:Nat,e= .returned (.int .i64 at_)/\Wy (QU (aU r) L x) L.length at_/\(at_=0\/∃y,L[par at_]? =some y/\aU r x y=false)/\Gr w w':=by
 have hmx:Tryz.prog.follows .mixedOrders=true:=by kernel_rfl
 have ep:∀args w,(callFunc 147 args).run Tryz.prog w= .ok (.enter 147 args) w:=enters_of Tryz.func147 (by kernel_rfl) rfl;obtain⟨pl,cl,rfl⟩:=hH.qC.form;obtain⟨B0,hB0⟩:=aC (w.heap.size);obtain⟨W1,hW1⟩:=aC (w.alloc (.cells #[.int .i64 x.1.1, .int .u64 x.1.2.1.1.1, .int .u64 x.1.2.1.1.2.1, .int .u64 x.1.2.1.1.2.2, .int .i64 x.1.2.2, .int .u64 (x.2:Nat)] 251));have G1:Gr w W1:=by rw[hW1];exact(Gr.refl _).alloc _
 have HG:Hid (Gr w W1):=G1;have HBx:Hid (Li W1 B0 0 x):=by
  rw[hW1,hB0];refine⟨?_, ?_, ?_, ?_, ?_, ?_, ?_⟩<;>simp
 have hH1:=hH.gr G1;have HL:Hid (Ls EI W1 (.slice pl L.length cl) L):=hH1.qC;have HHB:Hid (Lh W1 hb ff (.slice pl L.length cl)):=⟨hH1.c0,hH1.c1,hH1.lt⟩;have k1w:=hH.c1;have klw:=hH.lt;have HF:Hid (dY K V ff r):=hF;have Yu:Hid ((∀y∈L,V y.1)/\V x.1):=⟨hV,hx⟩;have YA:Hid (∀W,Gr W1 W->K W):=fun W g=>hF.gr _ _ hk (G1.trans g);clear hH hH1 G1 hF hk hV hx;go_enter Tryz.func146,Tryz.ntmps146;go_wp2_with fail;rw[<-hW1,<-hB0];clear hW1 hB0 k1w klw;go_loopw [5] (fun s5 wr=>∃a:Nat,a<=L.length/\s5= .int .i64 a/\Gr W1 wr/\Hid (Wy (QU (aU r) L x) L.length a)) (fun s5 _=>(intOf s5).toNat);case atStart=>exact⟨L.length,nR _,rfl,Gr.refl _, .refl _⟩
 case round=>
  obtain⟨a,hal,rfl,hgr,AA⟩:=hrel;by_cases h0:a=0
  ·subst h0;go_upto_region 2 with fail;go_quiet (fail);go_wp2;go_ret;exact⟨0,rfl,AA.o,Or.inl rfl,HG.o.trans (hgr.drewN _)⟩
  ·have ha0:0<a:=Nat.pos_of_ne_zero h0;have haz:(0:Int)<(a:Int):=(by omega);have Ea:=eZ ha0;have hpz:(par a:Int)<(L.length:Int):=(by omega);have hp0:(0:Int)<=(par a:Int):=(by omega);obtain⟨y,hy⟩:∃y,L[par a]? =some y:=⟨L[par a]'(by omega),by rw[pW]⟩;obtain⟨b1,o1,c1,e1,z1,x0,x1,x2,x3,x4,x5⟩:=gP (HL.o.below hgr.below) hy;simp only[vS]at e1;obtain⟨rfl,-,rfl⟩:=e1;have HY:Hid (L[par a]? =some y):=hy;have hS0:(fun W:World=>Li W b1 (o1+par a*6) y/\Li W B0 0 x/\Lh W hb ff (.slice (some ⟨b1,o1,none⟩) L.length cl)/\Gr W1 W) wr.drew:=⟨⟨x0,x1,x2,x3,x4,x5,z1⟩,HBx.o.gr hgr.drew,HHB.o.gr hgr.drew,hgr.drew⟩;have pF:∀W,Calls Tryz.prog 147 #[.int .i64 a] W fun e w'=>e= .returned (.int .i64 (par a:Nat))/\w'=W:=fun W=>gy a ha0 (by omega) W;have Vt:Hid (∀W:World,(Li W b1 (o1+par a*6) y/\Li W B0 0 x/\Lh W hb ff (.slice (some ⟨b1,o1,none⟩) L.length cl)/\Gr W1 W)->Calls Tryz.prog 209 #[.pointer (some ⟨hb,0,none⟩),iv x,iv y] W fun e w'=>e= .returned (.bool (aU r x y))/\Gr W w'):=fun W hS=>kP ff r HF.o x y Yu.o.2 (Yu.o.1 y (lM HY.o)) hb W (YA.o W hS.2.2.2) hS.2.2.1.2.2 hS.2.2.1.1;have Fe:Hid (par a<a):=Ea;have QA:Hid (a<=L.length):=hal;obtain⟨bb,hr⟩:∃bb,aU r x y=bb:=⟨_,rfl⟩;rw[hr]at Vt;have HR:=hr;have HRR:Hid (aU r x y=bb):=hr;clear hy hgr x0 x1 x2 x3 x4 x5 Ea z1 hr HR;go_upto_region 2 with fail;refine ax (S:=fun W:World=>Li W b1 (o1+par a*6) y/\Li W B0 0 x/\Lh W hb ff (.slice (some ⟨b1,o1,none⟩) L.length cl)/\Gr W1 W) (D:=[]) hmx ?_;refine' aj 0 hS0 ?_;refine' aj 1 hS0 ?_ (v:= .bool true);refine' aj 2 hS0 ?_;refine' aj 3 hS0 ?_;refine' bu 4 hS0 ?h ?_;case h=>(intro W hSw;obtain⟨y0,y1,y2,y3,y4,y5,yz⟩:=hSw.2.1;simp only[nZ]at y1 y2 y3 y4 y5;go_simp;try(with_reducible rfl))
   refine' aj 5 hS0 ?_;refine' aj 6 hS0 ?_;refine' aj 7 hS0 ?_;refine' bu 8 hS0 ?h ?_;case h=>(intro W hSw;obtain⟨y0,y1,yz⟩:=hSw.2.2.1;go_simp;try(with_reducible rfl))
   refine' aj 9 hS0 ?_;refine bF 10 fun K hK=> ?_;rw[if_pos (by kernel_rfl)];go_simp;refine(pF _).mono ?_;rintro e w4 ⟨rfl,rfl⟩;go_wp2_with fail;refine hK.o _ _ (fun hD=>hS0) ?_;clear hK K;try simp only[Act.put,qI,q0,qS]
   refine' aj 11 hS0 ?_;refine' bu 12 hS0 ?h ?_;case h=>(intro W hSw;obtain⟨y0,y1,y2,y3,y4,y5,yz⟩:=hSw.1;go_simp;try(with_reducible rfl))
   refine bF 13 fun K hK=> ?_;rw[if_pos (by kernel_rfl)];go_simp;refine(Vt.o _ hS0).mono ?_;rintro e w5 ⟨rfl,hg5⟩;have hS5:(fun W:World=>Li W b1 (o1+par a*6) y/\Li W B0 0 x/\Lh W hb ff (.slice (some ⟨b1,o1,none⟩) L.length cl)/\Gr W1 W) w5:=⟨hS0.1.gr hg5,hS0.2.1.gr hg5,hS0.2.2.1.gr hg5,hS0.2.2.2.trans hg5⟩;go_wp2_with fail;refine hK.o _ _ (fun hD=>hS5) ?_;clear hK K;try simp only[Act.put,qI,q0,qS]
   refine' aj 14 hS5 ?_;refine au (by kernel_rfl) ?_ _;cases bb with
   | true=>
    go_wp2_with (go_at_call 147;refine(pF _).mono ?_;rintro e w6 ⟨rfl,rfl⟩);go_roundw;case rel=>exact⟨par a,nE (nL Fe.o QA.o),rfl,hS5.2.2.2,AA.o.snoc ha0 ⟨y,HY.o,HRR.o⟩⟩
    case measure=>simp[intOf];exact Fe.o
   | false=>
    go_wp2;go_ret;exact⟨a,rfl,AA.o,Or.inr ⟨y,HY.o,HRR.o⟩,HG.o.trans hS5.2.2.2⟩
theorem Bj{q:It->It->Bool}{M:List It}{a d:Nat}{p:It}(h:pJ q M a d p):a<d:=by
 rcases h.2 with h|h
 ·have:=h.1;omega
 ·have:=h.1;omega
theorem qw{r:Th->Th->Bool}(u:Value)(M:List It)(x:It)(w:World)(kl:hb<w.heap.size)(k0:w.cell? ⟨hb,0,none⟩=some (fv ff))(hu:Ls EI w u M)(hl:M.length<=140737488355328){K:World->Prop}{V:Th->Prop}(hF:dY K V ff r)(hk:K w)(hV:∀y∈M,V y.1)(hx:V x.1):
    Calls Tryz.prog 196 #[.pointer (some ⟨hb,0,none⟩),u,iv x] w fun e w'=>∃at_:Nat,e= .returned (.int .i64 at_)/\Dn (aU r) M x at_/\oh (aU r) M x at_/\Gr w w':=by
 have hmx:Tryz.prog.follows .mixedOrders=true:=by kernel_rfl
 obtain⟨pl,cl,rfl⟩:=hu.form;obtain⟨B0,hB0⟩:=aC (w.heap.size);obtain⟨W1,hW1⟩:=aC (w.alloc (.cells #[.int .i64 x.1.1, .int .u64 x.1.2.1.1.1, .int .u64 x.1.2.1.1.2.1, .int .u64 x.1.2.1.1.2.2, .int .i64 x.1.2.2, .int .u64 (x.2:Nat)] 251));have G1:Gr w W1:=by rw[hW1];exact(Gr.refl _).alloc _
 have HG:Hid (Gr w W1):=G1;have hB:B0<W1.heap.size:=by rw[hW1,hB0];simp
 obtain⟨q0,q1,q2,q3,q4,q5⟩:W1.cell? ⟨B0,0,none⟩=some (.int .i64 x.1.1)/\W1.cell? ⟨B0,1,none⟩=some (.int .u64 x.1.2.1.1.1)/\W1.cell? ⟨B0,2,none⟩=some (.int .u64 x.1.2.1.1.2.1)/\W1.cell? ⟨B0,3,none⟩=some (.int .u64 x.1.2.1.1.2.2)/\W1.cell? ⟨B0,4,none⟩=some (.int .i64 x.1.2.2)/\W1.cell? ⟨B0,5,none⟩=some (.int .u64 (x.2:Nat)):=by rw[hW1,hB0];simp
 have HL:Hid (Ls EI W1 (.slice pl M.length cl) M):=hu.below G1.below;have SI:hb<W1.heap.size:=nL kl G1.size;have Z5:=(G1.cell kl).trans k0;have hah:∀(y z:It),V y.1->V z.1->∀(W:World),hb<W.heap.size->W.cell? ⟨hb,0,none⟩=some (fv ff)->K W->Calls Tryz.prog 209 #[.pointer (some ⟨hb,0,none⟩),iv y,iv z] W fun e w'=>e= .returned (.bool (aU r y z))/\Gr W w':=fun y z hy hz W h1 h2 h3=>kP ff r hF y z hy hz hb W h3 h1 h2;have Vt:Hid (∀(y z:It),V y.1->V z.1->∀(W:World),hb<W.heap.size->W.cell? ⟨hb,0,none⟩=some (fv ff)->K W->Calls Tryz.prog 209 #[.pointer (some ⟨hb,0,none⟩),iv y,iv z] W fun e w'=>e= .returned (.bool (aU r y z))/\Gr W w'):=hah;have HF:Hid (dY K V ff r):=hF;have Yu:Hid ((∀y∈M,V y.1)/\V x.1):=⟨hV,hx⟩;have YA:Hid (∀W,Gr W1 W->K W):=fun W g=>hF.gr _ _ hk (G1.trans g);clear hu G1 hF kl k0 hah hk hV hx;go_enter Tryz.func196,Tryz.ntmps196;go_wp2_with fail;rw[<-hW1,<-hB0];clear hW1 hB0;go_loopw [7,8,9] (fun s7 s8 _ wr=>∃a c:Nat,a<=M.length/\s7= .int .i64 a/\s8= .int .i64 c/\Hid (c=2*a+1)/\Gr W1 wr/\Hid (Dn (aU r) M x a)) (fun s7 _ _ _=>M.length-(intOf s7).toNat);case atStart=>exact⟨0,1,zL _,rfl,rfl,rfl,Gr.refl _,⟨Or.inl rfl, .refl _⟩⟩
 case round=>
  obtain⟨a,c,hal,rfl,rfl,yn,hgr,AA⟩:=hrel;by_cases hlt:c<M.length
  ·have hltz:(c:Int)<(M.length:Int):=(by omega);obtain⟨y,hy⟩:∃y,M[c]? =some y:=⟨M[c]'hlt,by rw[pW]⟩;obtain⟨b1,o1,c1,e1,z1,x0,x1,x2,x3,x4,x5⟩:=gP (HL.o.below hgr.below) hy;simp only[vS]at e1;obtain⟨rfl,-,rfl⟩:=e1;have HY:Hid (M[c]? =some y):=hy;have YS:=(hgr.cell SI).trans Z5;have YR:=nL SI hgr.size;have Qx:Hid (Gr W1 wr):=hgr;have HX:Hid (wr.cell? ⟨b1,o1+c*6,none⟩=some (.int .i64 y.1.1)/\wr.cell? ⟨b1,o1+c*6+1,none⟩=some (.int .u64 y.1.2.1.1.1)/\wr.cell? ⟨b1,o1+c*6+2,none⟩=some (.int .u64 y.1.2.1.1.2.1)/\wr.cell? ⟨b1,o1+c*6+3,none⟩=some (.int .u64 y.1.2.1.1.2.2)/\wr.cell? ⟨b1,o1+c*6+4,none⟩=some (.int .i64 y.1.2.2)/\wr.cell? ⟨b1,o1+c*6+5,none⟩=some (.int .u64 (y.2:Nat))):=⟨x0,x1,x2,x3,x4,x5⟩;clear hy hgr x0 x1 x2 x3 x4 x5;go_upto_region 6 with fail;go_cut [34] (fun sb w'=>∃b:Bool,sb= .bool b/\Hid (∃p,pJ (aU r) M a (if b then c+1 else c) p)/\Gr W1 w');case first=>
    by_cases hlt2:c+1<M.length
    ·have O9:(c:Int)+1<(M.length:Int):=(by omega);have hd0:(0:Int)<=(c:Int)+1:=(by omega);have hc0:(0:Int)<=(c:Int):=(by omega);obtain⟨z,hz⟩:∃z,M[c+1]? =some z:=⟨M[c+1]'hlt2,by rw[pW]⟩;obtain⟨b2,o2,c2,e2,z2,y0,y1,y2,y3,y4,y5⟩:=gP (HL.o.below Qx.o.below) hz;simp only[vS,oI,aI,and_true]at e2;obtain⟨⟨rfl,rfl⟩,-,rfl⟩:=e2;have HZ:Hid (M[c+1]? =some z):=hz;obtain⟨x0,x1,x2,x3,x4,x5⟩:=HX.o;have hS0:(fun W:World=>Li W b1 (o1+(c+1)*6) z/\Li W b1 (o1+c*6) y/\(W.cell? ⟨hb,0,none⟩=some (fv ff)/\hb<W.heap.size)/\Gr W1 W) wr.drew:=⟨⟨y0,y1,y2,y3,y4,y5,z1⟩,⟨x0,x1,x2,x3,x4,x5,z1⟩,⟨YS,YR⟩,Qx.o.drew⟩;have hah:=Vt.o z y (Yu.o.1 z (lM HZ.o)) (Yu.o.1 y (lM HY.o));obtain⟨bb,hr⟩:∃bb,aU r z y=bb:=⟨_,rfl⟩;rw[hr]at hah;have HP:Hid (∃p,pJ (aU r) M a (if bb then c+1 else c) p):=by
      cases bb
      ·exact⟨y,HY.o,Or.inl ⟨yn.o,fun z' hz'=>by
         have hzz:=HZ.o;rw[show c+1=2*a+2 by have:=yn.o;omega,hz']at hzz;cases hzz;exact hr⟩⟩
      ·exact⟨z,HZ.o,Or.inr ⟨by rw[yn.o];rfl,y,by rw[<-yn.o];exact HY.o,hr⟩⟩
     have HGD:Hid (Gr W1 wr.drew):=Qx.o.drew;clear hz hr x0 x1 x2 x3 x4 x5 y0 y1 y2 y3 y4 y5;refine ax (S:=fun W:World=>Li W b1 (o1+(c+1)*6) z/\Li W b1 (o1+c*6) y/\(W.cell? ⟨hb,0,none⟩=some (fv ff)/\hb<W.heap.size)/\Gr W1 W) (D:=[]) hmx ?_;refine' aj 0 hS0 ?_;refine' aj 1 hS0 ?_;refine' aj 2 hS0 ?_;refine' aj 3 hS0 ?_ (v:= .bool true);refine' aj 4 hS0 ?_;refine' aj 5 hS0 ?_;refine' aj 6 hS0 ?_;refine' aj 7 hS0 ?_;refine' aj 8 hS0 ?_;refine' bu 9 hS0 ?h ?_;case h=>(intro W hSw;obtain⟨y0,y1,y2,y3,y4,y5,yz⟩:=hSw.1;go_simp;try(with_reducible rfl))
     refine' aj 10 hS0 ?_;refine' aj 11 hS0 ?_;refine' aj 12 hS0 ?_;refine' bu 13 hS0 ?h ?_;case h=>(intro W hSw;obtain⟨y0,y1,y2,y3,y4,y5,yz⟩:=hSw.2.1;go_simp;try(with_reducible rfl))
     refine bF 14 fun K hK=> ?_;rw[if_pos (by kernel_rfl)];go_simp;refine(hah _ hS0.2.2.1.2 hS0.2.2.1.1 (YA.o _ hS0.2.2.2)).mono ?_;rintro e w5 ⟨rfl,hg5⟩;have hS5:(fun W:World=>Li W b1 (o1+(c+1)*6) z/\Li W b1 (o1+c*6) y/\(W.cell? ⟨hb,0,none⟩=some (fv ff)/\hb<W.heap.size)/\Gr W1 W) w5:=⟨hS0.1.gr hg5,hS0.2.1.gr hg5,⟨(hg5.cell hS0.2.2.1.2).trans hS0.2.2.1.1,nL hS0.2.2.1.2 hg5.size⟩,hS0.2.2.2.trans hg5⟩;go_wp2_with fail;refine hK.o _ _ (fun hD=>hS5) ?_;clear hK K;try simp only[Act.put,qI,q0,qS]
     refine' aj 15 hS5 ?_;refine au (by kernel_rfl) ?_ _;go_wp2_with fail;go_meet;exact⟨bb,rfl,HP,HGD.o.trans hg5⟩
    ·have O9:¬(c:Int)+1<(M.length:Int):=(by omega);have hc0:(0:Int)<=(c:Int):=(by omega);have HP:Hid (∃p,pJ (aU r) M a (if false then c+1 else c) p):=⟨y,HY.o,Or.inl ⟨yn.o,fun z' hz'=>by
      have:=(lG.1 hz').1;have:=yn.o;omega⟩⟩
     go_quiet (fail);go_wp2_with fail;go_meet;exact⟨false,rfl,HP,Qx.o.drewN _⟩
   case rest=>
    obtain⟨bb,rfl,HPb,hgb⟩:=hcut;clear HX HY YS YR z1;go_upto_if 34 with fail;go_cut [8] (fun s8 w'=>∃(d:Nat) (p:It),s8= .int .i64 d/\Hid (pJ (aU r) M a d p)/\Gr W1 w');case first=>
     obtain⟨p,hp⟩:=HPb.o;cases bb
     ·go_wp2_with fail;go_meet;exact⟨c,p,rfl,hp,hgb⟩
     ·go_wp2_with fail;go_meet;exact⟨c+1,p,by first|rfl|simp,hp,hgb⟩
    case rest=>
     obtain⟨d,y,rfl,HP,hgc⟩:=hcut;have yB:Hid (Gr W1 wc):=hgc;obtain⟨b2,o2,c2,e2,z2,y0,y1,y2,y3,y4,y5⟩:=gP (HL.o.below hgc.below) HP.o.1;simp only[vS,oI,aI,and_true]at e2;obtain⟨⟨rfl,rfl⟩,-,rfl⟩:=e2;have hdl:d<M.length:=(lG.1 HP.o.1).1;have hdz:(d:Int)<(M.length:Int):=(by omega);have hd0:(0:Int)<=(d:Int):=(by omega);have Z0:wc.drew.cell? ⟨hb,0,none⟩=some (fv ff):=(yB.o.cell SI).trans Z5;have ZZ:hb<wc.drew.heap.size:=nL SI yB.o.size;have kck:Gr W1 wc.drew:=yB.o.drew;have hS1:(fun W:World=>Li W b1 (o1+d*6) y/\Li W B0 0 x/\(W.cell? ⟨hb,0,none⟩=some (fv ff)/\hb<W.heap.size)/\Gr W1 W) wc.drew:=⟨⟨y0,y1,y2,y3,y4,y5,z2⟩,⟨(yB.o.cell hB).trans q0,(yB.o.cell hB).trans q1,(yB.o.cell hB).trans q2,(yB.o.cell hB).trans q3,(yB.o.cell hB).trans q4,(yB.o.cell hB).trans q5,nL hB yB.o.size⟩,⟨Z0,ZZ⟩,yB.o.drew⟩;have Hy:=Vt.o y x (Yu.o.1 y (lM HP.o.1)) Yu.o.2;obtain⟨b8,hr1⟩:∃b8,aU r y x=b8:=⟨_,rfl⟩;have yX:Hid (aU r y x=b8):=hr1;rw[hr1]at Hy;have YB:Hid (Gr W1 wc.drew):=yB.o.drew;clear y0 y1 y2 y3 y4 y5 hgc hr1;go_upto_region 8 with fail;go_cut [43] (fun sb w'=>sb= .bool (!b8)/\Gr W1 w');case first=>
      refine ax (S:=fun W:World=>Li W b1 (o1+d*6) y/\Li W B0 0 x/\(W.cell? ⟨hb,0,none⟩=some (fv ff)/\hb<W.heap.size)/\Gr W1 W) (D:=[]) hmx ?_;refine' aj 0 hS1 ?_;refine' aj 1 hS1 ?_;refine' aj 2 hS1 ?_;refine' aj 3 hS1 ?_;refine' bu 4 hS1 ?h ?_;case h=>(intro W hSw;obtain⟨y0,y1,y2,y3,y4,y5,yz⟩:=hSw.1;go_simp;try(with_reducible rfl))
      refine' bu 5 hS1 ?h ?_;case h=>(intro W hSw;obtain⟨y0,y1,y2,y3,y4,y5,yz⟩:=hSw.2.1;simp only[nZ]at y1 y2 y3 y4 y5;go_simp;try(with_reducible rfl))
      refine bF 6 fun K hK=> ?_;go_simp;refine(Hy _ hS1.2.2.1.2 hS1.2.2.1.1 (YA.o _ hS1.2.2.2)).mono ?_;rintro e w7 ⟨rfl,U1⟩;have aY:(fun W:World=>Li W b1 (o1+d*6) y/\Li W B0 0 x/\(W.cell? ⟨hb,0,none⟩=some (fv ff)/\hb<W.heap.size)/\Gr W1 W) w7:=⟨hS1.1.gr U1,hS1.2.1.gr U1,⟨(U1.cell hS1.2.2.1.2).trans hS1.2.2.1.1,nL hS1.2.2.1.2 U1.size⟩,hS1.2.2.2.trans U1⟩;go_wp2_with fail;refine hK.o _ _ (fun hD=>aY) ?_;clear hK K;try simp only[Act.put,qI,q0,qS]
      refine' aj 7 aY ?_;refine au (by kernel_rfl) ?_ _;go_wp2_with fail;go_meet;exact⟨by first|rfl|simp,YB.o.trans U1⟩
     case rest=>
      obtain⟨rfl,U0⟩:=hcut;clear hS1 Hy Z0 ZZ kck z2;cases b8
      ·have HR1:Hid (oh (aU r) M x a):=Dn.stop HP.o yX.o;go_wp2;go_ret;exact⟨a,rfl,AA.o,HR1.o,HG.o.trans U0⟩
      ·have HR1:Hid (Dn (aU r) M x d):=AA.o.step HP.o yX.o;go_wp2;go_roundw;case rel=>exact⟨d,2*d+1,nE hdl,by first|rfl|simp,by first|rfl|go_num|simp,rfl,U0,HR1.o⟩
       case measure=>
        have:=yn.o;have:=Bj HP.o;simp[intOf];omega
  ·have hltz:¬(c:Int)<(M.length:Int):=(by omega);have HE:Hid (oh (aU r) M x a):=Dn.none (by have:=yn.o;omega);go_wp2;go_ret;exact⟨a,rfl,AA.o,HE.o,HG.o.trans hgr⟩
end Hc
namespace Pt
def UJ(N:Nat)(E:Nat->Nat->Bool)(p:Nat):Nat:=((List.range N).filter fun r=>E r p).length
theorem Nt(N:Nat)(E:Nat->Nat->Bool)(p:Nat):UJ N E p<=N:=by
 have:=List.length_filter_le (fun r=>E r p) (List.range N);rw[List.length_range]at this;exact this
theorem JR{St:Nat->Nat->ai->Prop}:Zt St p PX.z q PX.z↔Wy PX St p q PX.z:=by
 constructor
 ·rintro⟨a,c,ha,hc,k1,k2,k3⟩;obtain⟨c1,c2,c3⟩:=bz hc;have ba:=bW a;have z1:PX.z.1.1=0:=rfl;have z2:PX.z.1.2.1=0:=rfl;have z3:PX.z.1.2.2=0:=rfl;have ea:a=PX.z:=cZ (by omega) (by omega) (by omega);exact ea ▸ ha
 ·exact fun h=>⟨PX.z,PX.z,h,AP PX.z,bJ.refl _⟩
theorem Ms{St:Nat->Nat->ai->Prop}(hs:∀q q',St q q' PX.z->f q+1<=f q'){c:ai}(h:Wy PX St p q c):c=PX.z->p=q\/f p+1<=f q:=by
 induction h with
 | nil => exact fun _=>Or.inl rfl
 | @step q q' a b c h1 h2 h3 ih=>
  intro hc;subst hc;obtain⟨s1,s2,s3⟩:=bz h3;have ba:=bW a;have bb:=bW b;have z1:PX.z.1.1=0:=rfl;have z2:PX.z.1.2.1=0:=rfl;have z3:PX.z.1.2.2=0:=rfl;have ea:a=PX.z:=cZ (by omega) (by omega) (by omega);have eb:b=PX.z:=cZ (by omega) (by omega) (by omega);rw[eb]at h2;have h4:=hs _ _ h2;rcases ih ea with h5|h5
  ·subst h5;exact Or.inr h4
  ·exact Or.inr (by omega)
theorem V4{N:Nat}{L:Nat->List (Nat×ai)}{St:Nat->Nat->ai->Prop}{E:Nat->Nat->Bool}(hst:∀p q b,St p q b↔p<N/\(q,b)∈L p)(hto:∀p q b,St p q b->q<N)
    (hs:∀q q',St q q' PX.z->f q+1<=f q') (hE:∀r p,r<N->p<N->(E r p=true↔Zt St r PX.z p PX.z)):rQ N L (mW N (UJ N E)):=by
 refine abn (fun p _=>Nt N E p) (fun p q b hp hb=>hto p q b ((hst p q b).2 ⟨hp,hb⟩)) fun p q hp hb=> ?_;have hpq:St p q PX.z:=(hst p q PX.z).2 ⟨hp,hb⟩;have hq:q<N:=hto p q _ hpq;have e1:∀x,x<N->((List.range N).filter fun r=>E r x)=(List.range N).filter fun r=>(fun r x=>decide (r<N)&&E r x) r x:=fun x _=>List.filter_congr fun r hr=>by
  have h:decide (r<N)=true:=by simpa using mR.1 hr
  show E r x=(decide (r<N)&&E r x);rw[h,Bool.true_and]
 unfold UJ;rw[e1 p hp,e1 q hq];refine X0 (fun r x=>decide (r<N)&&E r x) hq (fun r hr=> ?_) ?_ ?_
 ·simp only[bA,dE]at hr⊢;refine⟨hr.1,(hE r q hr.1 hq).2 (JR.2 (.step (JR.1 ((hE r p hr.1 hp).1 hr.2)) hpq (AP PX.z)))⟩
 ·simp only[Bool.and_eq_false_iff];refine Or.inr (Bool.eq_false_iff.2 fun h=> ?_);have hw:=JR.1 ((hE q p hq hp).1 h);have h1:=hs p q hpq;rcases Ms hs hw rfl with e|e
  ·subst e;omega
  ·omega
 ·simp only[bA,dE];exact⟨hq,(hE q q hq hq).2 (JR.2 .nil)⟩
section
variable {N:Nat} {R:Nat->Nat->List ai} {O P:Nat->List ai} {c:Nat->ai->Int} {p:Nat}
end
structure Trn(N:Nat)(L:Nat->List (Nat×ai))(ps:Nat×ai->Nat)(R:Nat->Nat->List ai)(Oo On:Nat->List ai)(Co Cn:Nat->ai->Int)(Fo Fn S:Nat->List ai)(T E B:Nat)(W:List (Nat×ai×Int)):Prop where
 yI:Fb N L On Cn Fn
 JK:∀p,p<N->FO PX (kE N R On p) (Fn p)
 sup:∀q u,q<N->0<Co q u\/0<Cn q u->u∈S q
 yu:LJ N L ps On Co Cn S B 0 Co Fo W
 bd:W.length+pot N L ps S Co Cn 0<=B
 bo:∀p t,p<N->0<=Co p t/\Co p t<=1+E
 bn:∀p t,p<N->0<=Cn p t/\Cn p t<=1+E
 sl:∀p,p<N->(S p).length<=2*(T+64*T*E)
 st:sN (fun p=>(S p).length) (List.range N)<=2*(N*T+64*T*E)
 fo:∀p,p<N->(Fo p).length<=64*T
 fn:∀p,p<N->(Fn p).length<=64*T
theorem je(l:List α)(g:α->Nat)(N:Nat):sN (fun q=>(l.filter fun s=>decide (g s=q)).length) (List.range N)<=l.length:=by
 induction l with
 | nil=>
  have:sN (fun q=>(([]:List α).filter fun s=>decide (g s=q)).length) (List.range N)=0:=by
   have h:∀m:List Nat,sN (fun q=>(([]:List α).filter fun s=>decide (g s=q)).length) m=0:=fun m=>by
    induction m with
    | nil => rfl
    | cons a m ih => rw[bS,ih];rfl
   exact h _
  omega
 | cons a l ih=>
  have e:∀q,((a::l).filter fun s=>decide (g s=q)).length=(if g a=q then 1 else 0)+(l.filter fun s=>decide (g s=q)).length:=fun q=>by
   rw[List.filter_cons];by_cases k:g a=q
   ·rw[if_pos (by simpa using k),if_pos k,lC];omega
   ·rw[if_neg (by simpa using k),if_neg k];omega
  have h1:sN (fun q=>if g a=q then 1 else 0) (List.range N)<=1:=by
   have h:∀m:List Nat,m.Nodup->sN (fun q=>if g a=q then 1 else 0) m<=1:=fun m hm=>by
    induction m with
    | nil => exact zL _
    | cons b m ih=>
     have hm':=List.nodup_cons.1 hm;rw[bS];by_cases k:g a=b
     ·rw[if_pos k];have h0:sN (fun q=>if g a=q then 1 else 0) m=0:=by
       have h':∀m:List Nat,b∉m->sN (fun q=>if g a=q then 1 else 0) m=0:=fun m=>by
        induction m with
        | nil => intro _;rfl
        | cons x m ih=>
         intro hx;rw[bS,if_neg fun e=>hx (by rw[<-k,e];exact mX),ih fun h=>hx (mO _ h)]
       exact h' m hm'.1
      omega
     ·rw[if_neg k];have:=ih hm'.2;omega
   exact h _ List.nodup_range
  have e2:sN (fun q=>((a::l).filter fun s=>decide (g s=q)).length) (List.range N)=sN (fun q=>(if g a=q then 1 else 0)+(l.filter fun s=>decide (g s=q)).length) (List.range N):=by
   congr 1
   funext q
   exact e q
  rw[e2,mV,lC];omega
theorem RJ{β:Type}(f:α->β->Nat)(l:List α)(m:List β):sN (fun a=>sN (f a) m) l=sN (fun b=>sN (fun a=>f a b) l) m:=by
 induction l with
 | nil=>
  have h:∀m:List β,sN (fun b=>sN (fun a=>f a b) []) m=0:=fun m=>by
   induction m with
   | nil => rfl
   | cons a m ih => rw[bS,ih];rfl
  rw[h];rfl
 | cons a l ih=>
  rw[bS,ih,<-mV]
  congr 1
theorem OO(N:Nat)(L:Nat->List (Nat×ai)):sN (nH N L) (List.range N)<=sN (fun q=>(L q).length) (List.range N):=by
 unfold nH;rw[RJ];exact kC fun p _=>je (L p) (fun s=>s.1) N
theorem JD(N:Nat)(L:Nat->List (Nat×ai))(q:Nat):nH N L q<=sN (fun q=>(L q).length) (List.range N):=by
 unfold nH;exact kC fun p _=>List.length_filter_le _ _
theorem wI(l:List Nat)(k:Nat):sN (fun _=>k) l=l.length*k:=by
 induction l with
 | nil => simp[sN]
 | cons a l ih => rw[bS,ih,lC,Nat.succ_mul];omega
section
variable {N:Nat} {L:Nat->List (Nat×ai)} {St:Nat->Nat->ai->Prop} {R:Nat->Nat->List ai} {Oo On Fo:Nat->List ai} {Co:Nat->ai->Int} {D:Nat->List (ai×Int)} {W:List (Nat×ai×Int)} {T E K B:Nat}
theorem CQ.turn(h:CQ N L St R)(yI:Fb N L Oo Co Fo)(hFo:∀p,p<N->FO PX (kE N R Oo p) (Fo p))(hO:∀p,p<N->(Oo p).Nodup)(hN:∀p,p<N->(On p).Nodup)(hD:∀p,p<N->Aq (Oo p) (On p) (D p))(hW:W.Perm (oz D (List.range N)))
    (hTo:sN (fun q=>(Oo q).length) (List.range N)<=T) (hTn:sN (fun q=>(On q).length) (List.range N)<=T) (hE:sN (fun q=>(L q).length) (List.range N)<=E) (hK:sN (fun q=>(L q).length*nH N L q) (List.range N)<=K) (hB:2*T+6*(T*E+64*T*K)<=B) :
    ∃Cn Fn,∀ps,Trn N L ps R Oo On Co Cn Fo Fn (MW N L Oo Fo On Fn) T E B W:=by
 obtain⟨Cn,Fn,sn,hFn⟩:=h.ex On;have fo:∀p,p<N->(Fo p).length<=64*T:=fun p hp=>nT (h.short (hFo p hp)) (Nat.mul_le_mul_left _ hTo);have fn:∀p,p<N->(Fn p).length<=64*T:=fun p hp=>nT (h.short (hFn p hp)) (Nat.mul_le_mul_left _ hTn);have oo:∀p,p<N->(Oo p).length<=T:=fun p hp=>nT (kz (f:=fun q=>(Oo q).length) (mR.2 hp)) hTo;have on:∀p,p<N->(On p).length<=T:=fun p hp=>nT (kz (f:=fun q=>(On q).length) (mR.2 hp)) hTn;have hwl:W.length<=2*T:=by
  rw[hW.length_eq];refine nT (IY (List.range N) fun p hp=>hD p (mR.1 hp)) ?_;rw[mV];omega
 refine⟨Cn,Fn,fun ps=> ?_⟩;have aaf:pot N L ps (MW N L Oo Fo On Fn) Co Cn 0<=6*(T*E+64*T*K):=by
  refine nT (Sa fo fn oo on 0) (Nat.mul_le_mul_left _ (Nat.add_le_add (Nat.mul_le_mul_left _ hE) (Nat.mul_le_mul_left _ hK)))
 have hbd:W.length+pot N L ps (MW N L Oo Fo On Fn) Co Cn 0<=B:=nT (Nat.add_le_add hwl aaf) hB;have hsl:∀p,p<N->(MW N L Oo Fo On Fn p).length<=2*(T+64*T*nH N L p):=fun p hp=>I8 fo fn oo on hp;have hbc:∀{O F:Nat->List ai} {C:Nat->ai->Int},Fb N L O C F->∀p t,p<N->0<=C p t/\C p t<=1+E:=fun {O F C} s p t hp=>by
  rw[s.eq p t hp];have h1:=V8 (N:=N) (L:=L) (O:=O) (F:=F) (fun q hq=>(s.fr q hq).nodup) p t;exact⟨wN N L O F p t,by omega⟩
 refine⟨sn,hFn,fun q u hq hu=>Sw yI sn hq hu,yI.yu hO hN hD hW hbd,hbd,hbc yI,hbc sn,fun p hp=> ?_, ?_,fo,fn⟩
 ·refine nT (hsl p hp) (Nat.mul_le_mul_left _ (Nat.add_le_add_left (Nat.mul_le_mul_left _ (nT (JD N L p) hE)) _))
 ·refine nT (kC (g:=fun p=>2*(T+64*T*nH N L p)) fun p hp=>hsl p (mR.1 hp)) ?_;rw[mU,mV,wI,mU,List.length_range];exact Nat.mul_le_mul_left _ (Nat.add_le_add_left (Nat.mul_le_mul_left _ (nT (OO N L) hE)) _)
end
section
variable {κ:Type} [DecidableEq κ] {lt:κ->κ->Prop} [DecidableRel lt]
omit [DecidableRel lt]in
omit [DecidableRel lt]in
omit [DecidableEq κ] [DecidableRel lt]in
end
instance tldDec:DecidableRel PX.lY:=fun a b=>inferInstanceAs (Decidable (a.1.1<b.1.1\/(a.1.1=b.1.1/\(a.1.2.1<b.1.2.1\/(a.1.2.1=b.1.2.1/\a.1.2.2<b.1.2.2)))))
def slt(a b:Nat×ai):Prop:=a.1<b.1\/(a.1=b.1/\PX.lY a.2 b.2)
instance sltDec:DecidableRel slt:=fun a b=>inferInstanceAs (Decidable (a.1<b.1\/(a.1=b.1/\PX.lY a.2 b.2)))
section
variable {κ:Type} [DecidableEq κ]
end
end Pt
end Go.Proofs.YtiiefcalkjeieaaGreat
