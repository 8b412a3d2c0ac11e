import Derived.Maps.AppendAt
import Derived.Deep.RegionWith
import Derived.Test.YteekbpokkjjipaaGreatJ6
import Derived.Test.YteekbpokkjjipaaGreatJ10
variable{hb:Nat}{ff:Go.Value}{W W':Go.World}{α:Type}
set_option maxHeartbeats 16000000
set_option maxRecDepth 100000
namespace Go.Proofs.YteekbpokkjjipaaGreat
section
open Go.RowKit
section
variable {P:Program} {ops:Array Oper} {Q:Exit->Act->World->Prop} {md:Region.Mode} {S:World->Prop} {D:List Nat}
theorem uj{i j:Nat}{oi oj:Oper}{n:Nat}{ls:Array Bool}{a:Act}{w:World}(hr:Region.ready md ops ls=[i,j])(hi:ops[i]? =some oi)(hj:ops[j]? =some oj)
    (h1:∀K':Act->World->Prop,Shut (∀b u,(i∉D->S u)->dE P md ops Q S D n (ls.setIfInBounds i true) b u->K' b u)->if Region.wanted oi (yielded ops a.tmps)=true then Oper.wp P oi a w K' Q else K' (a.put oi.dst undef) w)
    (h2:∀K':Act->World->Prop,Shut (∀b u,(j∉D->S u)->dE P md ops Q S D n (ls.setIfInBounds j true) b u->K' b u)->if Region.wanted oj (yielded ops a.tmps)=true then Oper.wp P oj a w K' Q else K' (a.put oj.dst undef) w):dE P md ops Q S D (n+1) ls a w:=by
 refine⟨fun h0=>(by rw[h0]at hr;cases hr),fun k hk=> ?_⟩;rw[hr]at hk;simp only[fF,List.not_mem_nil,or_false]at hk;rcases hk with rfl|rfl
 ·exact wpOp_step hi (fun K' hK=>h1 K' (fun b u h1 h2=>hK b u ⟨h1,h2⟩))
 ·exact wpOp_step hj (fun K' hK=>h2 K' (fun b u h1 h2=>hK b u ⟨h1,h2⟩))
end
end
section
open Go.RowKit Go.Sort
end
namespace Df
open Go.RowKit Go.Sort
section
variable {α:Type} {E:El α} {T:TypeId} {W W':World} {v:Value} {l:List α} {m:α}
end
section
variable {w W W':World} {gv cv:Array Value} {u:Value} {xs:List NV}
end
theorem sP{P:Program}(w:World)(t ty:TypeId)(v:Value)(c:Nat):(Builtin.append_ #[t,t] ty #[v, .slice none 0 c]).run P w=(Builtin.append_ #[t,t] ty #[v, .slice none 0 0]).run P w:=rfl
section
variable {w W W':World} {gv cv:Array Value} {nv:Value} {ys:List NV}
end
end Df
namespace Hc
open Go.RowKit Go.Sort Hp
attribute [local go_sem ↓] Go.wp_at_zero Go.wp_at_succ
def Li(W:World)(b o:Nat)(x:It):Prop:=W.cell? ⟨b,o,none⟩=some (.int .i64 x.1.1)/\W.cell? ⟨b,o+1,none⟩=some (.int .u64 x.1.2.1.1.1)/\W.cell? ⟨b,o+2,none⟩=some (.int .u64 x.1.2.1.1.2.1)/\W.cell? ⟨b,o+3,none⟩=some (.int .u64 x.1.2.1.1.2.2)/\W.cell? ⟨b,o+4,none⟩=some (.int .i64 x.1.2.2)/\W.cell? ⟨b,o+5,none⟩=some (.int .u64 (x.2:Nat))/\b<W.heap.size
theorem Li.gr{b o:Nat}{x:It}(h:Li W b o x)(g:Gr W W'):Li W' b o x:=by
 obtain⟨h0,h1,h2,h3,h4,h5,hz⟩:=h;exact⟨(g.cell hz).trans h0,(g.cell hz).trans h1,(g.cell hz).trans h2,(g.cell hz).trans h3,(g.cell hz).trans h4,(g.cell hz).trans h5,nL hz g.size⟩
def Lh(W:World)(hb:Nat)(ff vs:Value):Prop:=W.cell? ⟨hb,0,none⟩=some (fv ff)/\W.cell? ⟨hb,1,none⟩=some vs/\hb<W.heap.size
theorem Lh.gr{vs:Value}(h:Lh W hb ff vs)(g:Gr W W'):Lh W' hb ff vs:=⟨(g.cell h.2.2).trans h.1,(g.cell h.2.2).trans h.2.1,nL h.2.2 g.size⟩
theorem uo{np:Nat}{v:Value}{L:List It}{r:Th->Th->Bool}(x:It)(w:World)(hH:Hb w hb ff v L np)(hl:L.length<=140737488355328){K:World->Prop}{V:Th->Prop}(hF:dS K V ff r)(hk:K w)(hV:∀y∈L,V y.1)(hx:V x.1):
    Calls Tryz.prog 146 #[.pointer (some ⟨hb,0,none⟩),iv x] w fun e w'=>∃at_:Nat,e= .returned (.int .i64 at_)/\Wy (QU (aT r) L x) L.length at_/\(at_=0\/∃y,L[par at_]? =some y/\aT r x y=false)/\Gr w w':=by
 have hmx:Tryz.prog.follows .mixedOrders=true:=by kernel_rfl
 have ep:∀args w,(callFunc 147 args).run Tryz.prog w= .ok (.enter 147 args) w:=enters_of Tryz.func147 (by kernel_rfl) rfl;obtain⟨pl,cl,rfl⟩:=hH.oW.form;obtain⟨B0,hB0⟩:=aB (w.heap.size);obtain⟨W1,hW1⟩:=aB (w.alloc (.cells #[.int .i64 x.1.1, .int .u64 x.1.2.1.1.1, .int .u64 x.1.2.1.1.2.1, .int .u64 x.1.2.1.1.2.2, .int .i64 x.1.2.2, .int .u64 (x.2:Nat)] 251));have G1:Gr w W1:=by rw[hW1];exact(Gr.refl _).alloc _
 have HG:Hid (Gr w W1):=G1;have HBx:Hid (Li W1 B0 0 x):=by
  rw[hW1,hB0];refine⟨?_, ?_, ?_, ?_, ?_, ?_, ?_⟩<;>simp
 have hH1:=hH.gr G1;have HL:Hid (Ls EI W1 (.slice pl L.length cl) L):=hH1.oW;have HHB:Hid (Lh W1 hb ff (.slice pl L.length cl)):=⟨hH1.c0,hH1.c1,hH1.lt⟩;have k1w:=hH.c1;have klw:=hH.lt;have HF:Hid (dS K V ff r):=hF;have Ww:Hid ((∀y∈L,V y.1)/\V x.1):=⟨hV,hx⟩;have WE:Hid (∀W,Gr W1 W->K W):=fun W g=>hF.gr _ _ hk (G1.trans g);clear hH hH1 G1 hF hk hV hx;go_enter Tryz.func146,Tryz.ntmps146;go_wp2_with fail;rw[<-hW1,<-hB0];clear hW1 hB0 k1w klw;go_loopw [5] (fun s5 wr=>∃a:Nat,a<=L.length/\s5= .int .i64 a/\Gr W1 wr/\Hid (Wy (QU (aT r) L x) L.length a)) (fun s5 _=>(RowKit.intOf s5).toNat);case atStart=>exact⟨L.length,nR _,rfl,Gr.refl _, .refl _⟩
 case round=>
  obtain⟨a,hal,rfl,hgr,AA⟩:=hrel;by_cases h0:a=0
  ·subst h0;go_upto_region 2 with fail;go_quiet (fail);go_wp2;go_ret;exact⟨0,rfl,AA.o,Or.inl rfl,HG.o.trans (hgr.drewN _)⟩
  ·have ha0:0<a:=Nat.pos_of_ne_zero h0;have haz:(0:Int)<(a:Int):=(by omega);have Ct:=eH ha0;have hpz:(par a:Int)<(L.length:Int):=(by omega);have hp0:(0:Int)<=(par a:Int):=(by omega);obtain⟨y,hy⟩:∃y,L[par a]? =some y:=⟨L[par a]'(by omega),by rw[nY]⟩;obtain⟨b1,o1,c1,e1,z1,x0,x1,x2,x3,x4,x5⟩:=gz (HL.o.below hgr.below) hy;simp only[vS]at e1;obtain⟨rfl,-,rfl⟩:=e1;have HY:Hid (L[par a]? =some y):=hy;have hS0:(fun W:World=>Li W b1 (o1+par a*6) y/\Li W B0 0 x/\Lh W hb ff (.slice (some ⟨b1,o1,none⟩) L.length cl)/\Gr W1 W) wr.drew:=⟨⟨x0,x1,x2,x3,x4,x5,z1⟩,HBx.o.gr hgr.drew,HHB.o.gr hgr.drew,hgr.drew⟩;have nU:∀W,Calls Tryz.prog 147 #[.int .i64 a] W fun e w'=>e= .returned (.int .i64 (par a:Nat))/\w'=W:=fun W=>fO a ha0 (by omega) W;have Tz:Hid (∀W:World,(Li W b1 (o1+par a*6) y/\Li W B0 0 x/\Lh W hb ff (.slice (some ⟨b1,o1,none⟩) L.length cl)/\Gr W1 W)->Calls Tryz.prog 209 #[.pointer (some ⟨hb,0,none⟩),iv x,iv y] W fun e w'=>e= .returned (.bool (aT r x y))/\Gr W w'):=fun W hS=>ku ff r HF.o x y Ww.o.2 (Ww.o.1 y (lM HY.o)) hb W (WE.o W hS.2.2.2) hS.2.2.1.2.2 hS.2.2.1.1;have Dv:Hid (par a<a):=Ct;have OD:Hid (a<=L.length):=hal;obtain⟨bb,hr⟩:∃bb,aT r x y=bb:=⟨_,rfl⟩;rw[hr]at Tz;have HR:=hr;have HRR:Hid (aT r x y=bb):=hr;clear hy hgr x0 x1 x2 x3 x4 x5 Ct z1 hr HR;go_upto_region 2 with fail;refine av (S:=fun W:World=>Li W b1 (o1+par a*6) y/\Li W B0 0 x/\Lh W hb ff (.slice (some ⟨b1,o1,none⟩) L.length cl)/\Gr W1 W) (D:=[]) hmx ?_;refine' au 0 hS0 ?_;refine' au 1 hS0 ?_ (v:= .bool true);refine' au 2 hS0 ?_;refine' au 3 hS0 ?_;refine' aR 4 hS0 ?h ?_;case h=>(intro W hSw;obtain⟨y0,y1,y2,y3,y4,y5,yz⟩:=hSw.2.1;simp only[nZ]at y1 y2 y3 y4 y5;go_simp;try(with_reducible rfl))
   refine' au 5 hS0 ?_;refine' au 6 hS0 ?_;refine' au 7 hS0 ?_;refine' aR 8 hS0 ?h ?_;case h=>(intro W hSw;obtain⟨y0,y1,yz⟩:=hSw.2.2.1;go_simp;try(with_reducible rfl))
   refine' au 9 hS0 ?_;refine bF 10 fun K hK=> ?_;rw[if_pos (by kernel_rfl)];go_simp;refine(nU _).mono ?_;rintro e w4 ⟨rfl,rfl⟩;go_wp2_with fail;refine hK.o _ _ (fun hD=>hS0) ?_;clear hK K;try simp only[Act.put,qI,q0,qS]
   refine' au 11 hS0 ?_;refine' aR 12 hS0 ?h ?_;case h=>(intro W hSw;obtain⟨y0,y1,y2,y3,y4,y5,yz⟩:=hSw.1;go_simp;try(with_reducible rfl))
   refine bF 13 fun K hK=> ?_;rw[if_pos (by kernel_rfl)];go_simp;refine(Tz.o _ hS0).mono ?_;rintro e w5 ⟨rfl,hg5⟩;have hS5:(fun W:World=>Li W b1 (o1+par a*6) y/\Li W B0 0 x/\Lh W hb ff (.slice (some ⟨b1,o1,none⟩) L.length cl)/\Gr W1 W) w5:=⟨hS0.1.gr hg5,hS0.2.1.gr hg5,hS0.2.2.1.gr hg5,hS0.2.2.2.trans hg5⟩;go_wp2_with fail;refine hK.o _ _ (fun hD=>hS5) ?_;clear hK K;try simp only[Act.put,qI,q0,qS]
   refine' au 14 hS5 ?_;refine aj (by kernel_rfl) ?_ _;cases bb with
   | true=>
    go_wp2_with (go_at_call 147;refine(nU _).mono ?_;rintro e w6 ⟨rfl,rfl⟩);go_roundw;case rel=>exact⟨par a,Nat.le_of_lt (nL Dv.o OD.o),rfl,hS5.2.2.2,AA.o.snoc ha0 ⟨y,HY.o,HRR.o⟩⟩
    case measure=>simp[RowKit.intOf];exact Dv.o
   | false=>
    go_wp2;go_ret;exact⟨a,rfl,AA.o,Or.inr ⟨y,HY.o,HRR.o⟩,HG.o.trans hS5.2.2.2⟩
theorem zH{q:It->It->Bool}{M:List It}{a d:Nat}{p:It}(h:nV q M a d p):a<d:=by
 rcases h.2 with h|h
 ·have:=h.1;omega
 ·have:=h.1;omega
theorem oP{r:Th->Th->Bool}(u:Value)(M:List It)(x:It)(w:World)(kl:hb<w.heap.size)(k0:w.cell? ⟨hb,0,none⟩=some (fv ff))(hu:Ls EI w u M)(hl:M.length<=140737488355328){K:World->Prop}{V:Th->Prop}(hF:dS K V ff r)(hk:K w)(hV:∀y∈M,V y.1)(hx:V x.1):
    Calls Tryz.prog 196 #[.pointer (some ⟨hb,0,none⟩),u,iv x] w fun e w'=>∃at_:Nat,e= .returned (.int .i64 at_)/\Dn (aT r) M x at_/\mY (aT r) M x at_/\Gr w w':=by
 have hmx:Tryz.prog.follows .mixedOrders=true:=by kernel_rfl
 obtain⟨pl,cl,rfl⟩:=hu.form;obtain⟨B0,hB0⟩:=aB (w.heap.size);obtain⟨W1,hW1⟩:=aB (w.alloc (.cells #[.int .i64 x.1.1, .int .u64 x.1.2.1.1.1, .int .u64 x.1.2.1.1.2.1, .int .u64 x.1.2.1.1.2.2, .int .i64 x.1.2.2, .int .u64 (x.2:Nat)] 251));have G1:Gr w W1:=by rw[hW1];exact(Gr.refl _).alloc _
 have HG:Hid (Gr w W1):=G1;have hB:B0<W1.heap.size:=by rw[hW1,hB0];simp
 obtain⟨q0,q1,q2,q3,q4,q5⟩:W1.cell? ⟨B0,0,none⟩=some (.int .i64 x.1.1)/\W1.cell? ⟨B0,1,none⟩=some (.int .u64 x.1.2.1.1.1)/\W1.cell? ⟨B0,2,none⟩=some (.int .u64 x.1.2.1.1.2.1)/\W1.cell? ⟨B0,3,none⟩=some (.int .u64 x.1.2.1.1.2.2)/\W1.cell? ⟨B0,4,none⟩=some (.int .i64 x.1.2.2)/\W1.cell? ⟨B0,5,none⟩=some (.int .u64 (x.2:Nat)):=by rw[hW1,hB0];simp
 have HL:Hid (Ls EI W1 (.slice pl M.length cl) M):=hu.below G1.below;have Qp:hb<W1.heap.size:=nL kl G1.size;have X8:=(G1.cell kl).trans k0;have hah:∀(y z:It),V y.1->V z.1->∀(W:World),hb<W.heap.size->W.cell? ⟨hb,0,none⟩=some (fv ff)->K W->Calls Tryz.prog 209 #[.pointer (some ⟨hb,0,none⟩),iv y,iv z] W fun e w'=>e= .returned (.bool (aT r y z))/\Gr W w':=fun y z hy hz W h1 h2 h3=>ku ff r hF y z hy hz hb W h3 h1 h2;have Tz:Hid (∀(y z:It),V y.1->V z.1->∀(W:World),hb<W.heap.size->W.cell? ⟨hb,0,none⟩=some (fv ff)->K W->Calls Tryz.prog 209 #[.pointer (some ⟨hb,0,none⟩),iv y,iv z] W fun e w'=>e= .returned (.bool (aT r y z))/\Gr W w'):=hah;have HF:Hid (dS K V ff r):=hF;have Ww:Hid ((∀y∈M,V y.1)/\V x.1):=⟨hV,hx⟩;have WE:Hid (∀W,Gr W1 W->K W):=fun W g=>hF.gr _ _ hk (G1.trans g);clear hu G1 hF kl k0 hah hk hV hx;go_enter Tryz.func196,Tryz.ntmps196;go_wp2_with fail;rw[<-hW1,<-hB0];clear hW1 hB0;go_loopw [7,8,9] (fun s7 s8 _ wr=>∃a c:Nat,a<=M.length/\s7= .int .i64 a/\s8= .int .i64 c/\Hid (c=2*a+1)/\Gr W1 wr/\Hid (Dn (aT r) M x a)) (fun s7 _ _ _=>M.length-(RowKit.intOf s7).toNat);case atStart=>exact⟨0,1,Nat.zero_le _,rfl,rfl,rfl,Gr.refl _,⟨Or.inl rfl, .refl _⟩⟩
 case round=>
  obtain⟨a,c,hal,rfl,rfl,wO,hgr,AA⟩:=hrel;by_cases hlt:c<M.length
  ·have hltz:(c:Int)<(M.length:Int):=(by omega);obtain⟨y,hy⟩:∃y,M[c]? =some y:=⟨M[c]'hlt,by rw[nY]⟩;obtain⟨b1,o1,c1,e1,z1,x0,x1,x2,x3,x4,x5⟩:=gz (HL.o.below hgr.below) hy;simp only[vS]at e1;obtain⟨rfl,-,rfl⟩:=e1;have HY:Hid (M[c]? =some y):=hy;have WU:=(hgr.cell Qp).trans X8;have WT:=nL Qp hgr.size;have OA:Hid (Gr W1 wr):=hgr;have HX:Hid (wr.cell? ⟨b1,o1+c*6,none⟩=some (.int .i64 y.1.1)/\wr.cell? ⟨b1,o1+c*6+1,none⟩=some (.int .u64 y.1.2.1.1.1)/\wr.cell? ⟨b1,o1+c*6+2,none⟩=some (.int .u64 y.1.2.1.1.2.1)/\wr.cell? ⟨b1,o1+c*6+3,none⟩=some (.int .u64 y.1.2.1.1.2.2)/\wr.cell? ⟨b1,o1+c*6+4,none⟩=some (.int .i64 y.1.2.2)/\wr.cell? ⟨b1,o1+c*6+5,none⟩=some (.int .u64 (y.2:Nat))):=⟨x0,x1,x2,x3,x4,x5⟩;clear hy hgr x0 x1 x2 x3 x4 x5;go_upto_region 6 with fail;go_cut [34] (fun sb w'=>∃b:Bool,sb= .bool b/\Hid (∃p,nV (aT r) M a (if b then c+1 else c) p)/\Gr W1 w');case first=>
    by_cases hlt2:c+1<M.length
    ·have M8:(c:Int)+1<(M.length:Int):=(by omega);have hd0:(0:Int)<=(c:Int)+1:=(by omega);have hc0:(0:Int)<=(c:Int):=(by omega);obtain⟨z,hz⟩:∃z,M[c+1]? =some z:=⟨M[c+1]'hlt2,by rw[nY]⟩;obtain⟨b2,o2,c2,e2,z2,y0,y1,y2,y3,y4,y5⟩:=gz (HL.o.below OA.o.below) hz;simp only[vS,oI,aI,and_true]at e2;obtain⟨⟨rfl,rfl⟩,-,rfl⟩:=e2;have HZ:Hid (M[c+1]? =some z):=hz;obtain⟨x0,x1,x2,x3,x4,x5⟩:=HX.o;have hS0:(fun W:World=>Li W b1 (o1+(c+1)*6) z/\Li W b1 (o1+c*6) y/\(W.cell? ⟨hb,0,none⟩=some (fv ff)/\hb<W.heap.size)/\Gr W1 W) wr.drew:=⟨⟨y0,y1,y2,y3,y4,y5,z1⟩,⟨x0,x1,x2,x3,x4,x5,z1⟩,⟨WU,WT⟩,OA.o.drew⟩;have hah:=Tz.o z y (Ww.o.1 z (lM HZ.o)) (Ww.o.1 y (lM HY.o));obtain⟨bb,hr⟩:∃bb,aT r z y=bb:=⟨_,rfl⟩;rw[hr]at hah;have HP:Hid (∃p,nV (aT r) M a (if bb then c+1 else c) p):=by
      cases bb
      ·exact⟨y,HY.o,Or.inl ⟨wO.o,fun z' hz'=>by
         have hzz:=HZ.o;rw[show c+1=2*a+2 by have:=wO.o;omega,hz']at hzz;cases hzz;exact hr⟩⟩
      ·exact⟨z,HZ.o,Or.inr ⟨by rw[wO.o];rfl,y,by rw[<-wO.o];exact HY.o,hr⟩⟩
     have HGD:Hid (Gr W1 wr.drew):=OA.o.drew;clear hz hr x0 x1 x2 x3 x4 x5 y0 y1 y2 y3 y4 y5;refine av (S:=fun W:World=>Li W b1 (o1+(c+1)*6) z/\Li W b1 (o1+c*6) y/\(W.cell? ⟨hb,0,none⟩=some (fv ff)/\hb<W.heap.size)/\Gr W1 W) (D:=[]) hmx ?_;refine' au 0 hS0 ?_;refine' au 1 hS0 ?_;refine' au 2 hS0 ?_;refine' au 3 hS0 ?_ (v:= .bool true);refine' au 4 hS0 ?_;refine' au 5 hS0 ?_;refine' au 6 hS0 ?_;refine' au 7 hS0 ?_;refine' au 8 hS0 ?_;refine' aR 9 hS0 ?h ?_;case h=>(intro W hSw;obtain⟨y0,y1,y2,y3,y4,y5,yz⟩:=hSw.1;go_simp;try(with_reducible rfl))
     refine' au 10 hS0 ?_;refine' au 11 hS0 ?_;refine' au 12 hS0 ?_;refine' aR 13 hS0 ?h ?_;case h=>(intro W hSw;obtain⟨y0,y1,y2,y3,y4,y5,yz⟩:=hSw.2.1;go_simp;try(with_reducible rfl))
     refine bF 14 fun K hK=> ?_;rw[if_pos (by kernel_rfl)];go_simp;refine(hah _ hS0.2.2.1.2 hS0.2.2.1.1 (WE.o _ hS0.2.2.2)).mono ?_;rintro e w5 ⟨rfl,hg5⟩;have hS5:(fun W:World=>Li W b1 (o1+(c+1)*6) z/\Li W b1 (o1+c*6) y/\(W.cell? ⟨hb,0,none⟩=some (fv ff)/\hb<W.heap.size)/\Gr W1 W) w5:=⟨hS0.1.gr hg5,hS0.2.1.gr hg5,⟨(hg5.cell hS0.2.2.1.2).trans hS0.2.2.1.1,nL hS0.2.2.1.2 hg5.size⟩,hS0.2.2.2.trans hg5⟩;go_wp2_with fail;refine hK.o _ _ (fun hD=>hS5) ?_;clear hK K;try simp only[Act.put,qI,q0,qS]
     refine' au 15 hS5 ?_;refine aj (by kernel_rfl) ?_ _;go_wp2_with fail;go_meet;exact⟨bb,rfl,HP,HGD.o.trans hg5⟩
    ·have M8:¬(c:Int)+1<(M.length:Int):=(by omega);have hc0:(0:Int)<=(c:Int):=(by omega);have HP:Hid (∃p,nV (aT r) M a (if false then c+1 else c) p):=⟨y,HY.o,Or.inl ⟨wO.o,fun z' hz'=>by
      have:=(lG.1 hz').1;have:=wO.o;omega⟩⟩
     go_quiet (fail);go_wp2_with fail;go_meet;exact⟨false,rfl,HP,OA.o.drewN _⟩
   case rest=>
    obtain⟨bb,rfl,HPb,hgb⟩:=hcut;clear HX HY WU WT z1;go_upto_if 34 with fail;go_cut [8] (fun s8 w'=>∃(d:Nat) (p:It),s8= .int .i64 d/\Hid (nV (aT r) M a d p)/\Gr W1 w');case first=>
     obtain⟨p,hp⟩:=HPb.o;cases bb
     ·go_wp2_with fail;go_meet;exact⟨c,p,rfl,hp,hgb⟩
     ·go_wp2_with fail;go_meet;exact⟨c+1,p,by first|rfl|simp,hp,hgb⟩
    case rest=>
     obtain⟨d,y,rfl,HP,hgc⟩:=hcut;have wV:Hid (Gr W1 wc):=hgc;obtain⟨b2,o2,c2,e2,z2,y0,y1,y2,y3,y4,y5⟩:=gz (HL.o.below hgc.below) HP.o.1;simp only[vS,oI,aI,and_true]at e2;obtain⟨⟨rfl,rfl⟩,-,rfl⟩:=e2;have hdl:d<M.length:=(lG.1 HP.o.1).1;have hdz:(d:Int)<(M.length:Int):=(by omega);have hd0:(0:Int)<=(d:Int):=(by omega);have X6:wc.drew.cell? ⟨hb,0,none⟩=some (fv ff):=(wV.o.cell Qp).trans X8;have X5:hb<wc.drew.heap.size:=nL Qp wV.o.size;have kck:Gr W1 wc.drew:=wV.o.drew;have hS1:(fun W:World=>Li W b1 (o1+d*6) y/\Li W B0 0 x/\(W.cell? ⟨hb,0,none⟩=some (fv ff)/\hb<W.heap.size)/\Gr W1 W) wc.drew:=⟨⟨y0,y1,y2,y3,y4,y5,z2⟩,⟨(wV.o.cell hB).trans q0,(wV.o.cell hB).trans q1,(wV.o.cell hB).trans q2,(wV.o.cell hB).trans q3,(wV.o.cell hB).trans q4,(wV.o.cell hB).trans q5,nL hB wV.o.size⟩,⟨X6,X5⟩,wV.o.drew⟩;have FE:=Tz.o y x (Ww.o.1 y (lM HP.o.1)) Ww.o.2;obtain⟨b8,hr1⟩:∃b8,aT r y x=b8:=⟨_,rfl⟩;have xG:Hid (aT r y x=b8):=hr1;rw[hr1]at FE;have WG:Hid (Gr W1 wc.drew):=wV.o.drew;clear y0 y1 y2 y3 y4 y5 hgc hr1;go_upto_region 8 with fail;go_cut [43] (fun sb w'=>sb= .bool (!b8)/\Gr W1 w');case first=>
      refine av (S:=fun W:World=>Li W b1 (o1+d*6) y/\Li W B0 0 x/\(W.cell? ⟨hb,0,none⟩=some (fv ff)/\hb<W.heap.size)/\Gr W1 W) (D:=[]) hmx ?_;refine' au 0 hS1 ?_;refine' au 1 hS1 ?_;refine' au 2 hS1 ?_;refine' au 3 hS1 ?_;refine' aR 4 hS1 ?h ?_;case h=>(intro W hSw;obtain⟨y0,y1,y2,y3,y4,y5,yz⟩:=hSw.1;go_simp;try(with_reducible rfl))
      refine' aR 5 hS1 ?h ?_;case h=>(intro W hSw;obtain⟨y0,y1,y2,y3,y4,y5,yz⟩:=hSw.2.1;simp only[nZ]at y1 y2 y3 y4 y5;go_simp;try(with_reducible rfl))
      refine bF 6 fun K hK=> ?_;go_simp;refine(FE _ hS1.2.2.1.2 hS1.2.2.1.1 (WE.o _ hS1.2.2.2)).mono ?_;rintro e w7 ⟨rfl,SA⟩;have aX:(fun W:World=>Li W b1 (o1+d*6) y/\Li W B0 0 x/\(W.cell? ⟨hb,0,none⟩=some (fv ff)/\hb<W.heap.size)/\Gr W1 W) w7:=⟨hS1.1.gr SA,hS1.2.1.gr SA,⟨(SA.cell hS1.2.2.1.2).trans hS1.2.2.1.1,nL hS1.2.2.1.2 SA.size⟩,hS1.2.2.2.trans SA⟩;go_wp2_with fail;refine hK.o _ _ (fun hD=>aX) ?_;clear hK K;try simp only[Act.put,qI,q0,qS]
      refine' au 7 aX ?_;refine aj (by kernel_rfl) ?_ _;go_wp2_with fail;go_meet;exact⟨by first|rfl|simp,WG.o.trans SA⟩
     case rest=>
      obtain⟨rfl,Sy⟩:=hcut;clear hS1 FE X6 X5 kck z2;cases b8
      ·have HR1:Hid (mY (aT r) M x a):=Dn.stop HP.o xG.o;go_wp2;go_ret;exact⟨a,rfl,AA.o,HR1.o,HG.o.trans Sy⟩
      ·have HR1:Hid (Dn (aT r) M x d):=AA.o.step HP.o xG.o;go_wp2;go_roundw;case rel=>exact⟨d,2*d+1,Nat.le_of_lt hdl,by first|rfl|simp,by first|rfl|go_num|simp,rfl,Sy,HR1.o⟩
       case measure=>
        have:=wO.o;have:=zH HP.o;simp[RowKit.intOf];omega
  ·have hltz:¬(c:Int)<(M.length:Int):=(by omega);have HE:Hid (mY (aT r) M x a):=Dn.none (by have:=wO.o;omega);go_wp2;go_ret;exact⟨a,rfl,AA.o,HE.o,HG.o.trans hgr⟩
end Hc
namespace Pt
structure Trn(N:Nat)(L:Nat->List (Nat×ah))(ps:Nat×ah->Nat)(R:Nat->Nat->List ah)(Oo On:Nat->List ah)(Co Cn:Nat->ah->Int)(Fo Fn S:Nat->List ah)(T E B:Nat)(W:List (Nat×ah×Int)):Prop where
 xe:Dt N L On Cn Fn
 Ns:∀p,p<N->AZ PX (kR N R On p) (Fn p)
 sup:∀q u,q<N->0<Co q u\/0<Cn q u->u∈S q
 wR:JZ N L ps On Co Cn S B 0 Co Fo W
 bd:W.length+pot N L ps S Co Cn 0<=B
 bo:∀p t,p<N->0<=Co p t/\Co p t<=1+E
 bn:∀p t,p<N->0<=Cn p t/\Cn p t<=1+E
 sl:∀p,p<N->(S p).length<=2*(T+64*T*E)
 st:sN (fun p=>(S p).length) (List.range N)<=2*(N*T+64*T*E)
 fo:∀p,p<N->(Fo p).length<=64*T
 fn:∀p,p<N->(Fn p).length<=64*T
theorem iQ(l:List α)(g:α->Nat)(N:Nat):sN (fun q=>(l.filter fun s=>decide (g s=q)).length) (List.range N)<=l.length:=by
 induction l with
 | nil=>
  have:sN (fun q=>(([]:List α).filter fun s=>decide (g s=q)).length) (List.range N)=0:=by
   have h:∀m:List Nat,sN (fun q=>(([]:List α).filter fun s=>decide (g s=q)).length) m=0:=fun m=>by
    induction m with
    | nil => rfl
    | cons a m ih => rw[bO,ih];rfl
   exact h _
  omega
 | cons a l ih=>
  have e:∀q,((a::l).filter fun s=>decide (g s=q)).length=(if g a=q then 1 else 0)+(l.filter fun s=>decide (g s=q)).length:=fun q=>by
   rw[List.filter_cons];by_cases k:g a=q
   ·rw[if_pos (by simpa using k),if_pos k,lC];omega
   ·rw[if_neg (by simpa using k),if_neg k];omega
  have h1:sN (fun q=>if g a=q then 1 else 0) (List.range N)<=1:=by
   have h:∀m:List Nat,m.Nodup->sN (fun q=>if g a=q then 1 else 0) m<=1:=fun m hm=>by
    induction m with
    | nil => exact Nat.zero_le _
    | cons b m ih=>
     have hm':=List.nodup_cons.1 hm;rw[bO];by_cases k:g a=b
     ·rw[if_pos k];have h0:sN (fun q=>if g a=q then 1 else 0) m=0:=by
       have h':∀m:List Nat,b∉m->sN (fun q=>if g a=q then 1 else 0) m=0:=fun m=>by
        induction m with
        | nil => intro _;rfl
        | cons x m ih=>
         intro hx;rw[bO,if_neg fun e=>hx (by rw[<-k,e];exact List.mem_cons_self),ih fun h=>hx (List.mem_cons_of_mem _ h)]
       exact h' m hm'.1
      omega
     ·rw[if_neg k];have:=ih hm'.2;omega
   exact h _ List.nodup_range
  have e2:sN (fun q=>((a::l).filter fun s=>decide (g s=q)).length) (List.range N)=sN (fun q=>(if g a=q then 1 else 0)+(l.filter fun s=>decide (g s=q)).length) (List.range N):=by
   congr 1
   funext q
   exact e q
  rw[e2,lW,lC];omega
theorem Pv{β:Type}(f:α->β->Nat)(l:List α)(m:List β):sN (fun a=>sN (f a) m) l=sN (fun b=>sN (fun a=>f a b) l) m:=by
 induction l with
 | nil=>
  have h:∀m:List β,sN (fun b=>sN (fun a=>f a b) []) m=0:=fun m=>by
   induction m with
   | nil => rfl
   | cons a m ih => rw[bO,ih];rfl
  rw[h];rfl
 | cons a l ih=>
  rw[bO,ih,<-lW]
  congr 1
theorem MU(N:Nat)(L:Nat->List (Nat×ah)):sN (mH N L) (List.range N)<=sN (fun q=>(L q).length) (List.range N):=by
 unfold mH;rw[Pv];exact jV fun p _=>iQ (L p) (fun s=>s.1) N
theorem Io(N:Nat)(L:Nat->List (Nat×ah))(q:Nat):mH N L q<=sN (fun q=>(L q).length) (List.range N):=by
 unfold mH;exact jV fun p _=>List.length_filter_le _ _
theorem pR(l:List Nat)(k:Nat):sN (fun _=>k) l=l.length*k:=by
 induction l with
 | nil => simp[sN]
 | cons a l ih => rw[bO,ih,lC,Nat.succ_mul];omega
section
variable {N:Nat} {L:Nat->List (Nat×ah)} {St:Nat->Nat->ah->Prop} {R:Nat->Nat->List ah} {Oo On Fo:Nat->List ah} {Co:Nat->ah->Int} {D:Nat->List (ah×Int)} {W:List (Nat×ah×Int)} {T E K B:Nat}
theorem A8.turn(h:A8 N L St R)(xe:Dt N L Oo Co Fo)(YZ:∀p,p<N->AZ PX (kR N R Oo p) (Fo p))(hO:∀p,p<N->(Oo p).Nodup)(hN:∀p,p<N->(On p).Nodup)(hD:∀p,p<N->yT (Oo p) (On p) (D p))(hW:W.Perm (nk D (List.range N)))
    (YV:sN (fun q=>(Oo q).length) (List.range N)<=T) (YW:sN (fun q=>(On q).length) (List.range N)<=T) (hE:sN (fun q=>(L q).length) (List.range N)<=E) (hK:sN (fun q=>(L q).length*mH N L q) (List.range N)<=K) (hB:2*T+6*(T*E+64*T*K)<=B) :
    ∃Cn Fn,∀ps,Trn N L ps R Oo On Co Cn Fo Fn (KT N L Oo Fo On Fn) T E B W:=by
 obtain⟨Cn,Fn,sn,hFn⟩:=h.ex On;have fo:∀p,p<N->(Fo p).length<=64*T:=fun p hp=>nT (h.short (YZ p hp)) (Nat.mul_le_mul_left _ YV);have fn:∀p,p<N->(Fn p).length<=64*T:=fun p hp=>nT (h.short (hFn p hp)) (Nat.mul_le_mul_left _ YW);have oo:∀p,p<N->(Oo p).length<=T:=fun p hp=>nT (jU (f:=fun q=>(Oo q).length) (List.mem_range.2 hp)) YV;have on:∀p,p<N->(On p).length<=T:=fun p hp=>nT (jU (f:=fun q=>(On q).length) (List.mem_range.2 hp)) YW;have hwl:W.length<=2*T:=by
  rw[hW.length_eq];refine nT (GD (List.range N) fun p hp=>hD p (List.mem_range.1 hp)) ?_;rw[lW];omega
 refine⟨Cn,Fn,fun ps=> ?_⟩;have Yn:pot N L ps (KT N L Oo Fo On Fn) Co Cn 0<=6*(T*E+64*T*K):=by
  refine nT (PR fo fn oo on 0) (Nat.mul_le_mul_left _ (Nat.add_le_add (Nat.mul_le_mul_left _ hE) (Nat.mul_le_mul_left _ hK)))
 have hbd:W.length+pot N L ps (KT N L Oo Fo On Fn) Co Cn 0<=B:=nT (Nat.add_le_add hwl Yn) hB;have hsl:∀p,p<N->(KT N L Oo Fo On Fn p).length<=2*(T+64*T*mH N L p):=fun p hp=>GN fo fn oo on hp;have hbc:∀{O F:Nat->List ah} {C:Nat->ah->Int},Dt N L O C F->∀p t,p<N->0<=C p t/\C p t<=1+E:=fun {O F C} s p t hp=>by
  rw[s.eq p t hp];have h1:=Uo (N:=N) (L:=L) (O:=O) (F:=F) (fun q hq=>(s.fr q hq).nodup) p t;exact⟨uQ N L O F p t,by omega⟩
 refine⟨sn,hFn,fun q u hq hu=>Qe xe sn hq hu,xe.wR hO hN hD hW hbd,hbd,hbc xe,hbc sn,fun p hp=> ?_, ?_,fo,fn⟩
 ·refine nT (hsl p hp) (Nat.mul_le_mul_left _ (Nat.add_le_add_left (Nat.mul_le_mul_left _ (nT (Io N L p) hE)) _))
 ·refine nT (jV (g:=fun p=>2*(T+64*T*mH N L p)) fun p hp=>hsl p (List.mem_range.1 hp)) ?_;rw[lV,lW,pR,lV,List.length_range];exact Nat.mul_le_mul_left _ (Nat.add_le_add_left (Nat.mul_le_mul_left _ (nT (MU N L) hE)) _)
end
end Pt
end Go.Proofs.YteekbpokkjjipaaGreat
