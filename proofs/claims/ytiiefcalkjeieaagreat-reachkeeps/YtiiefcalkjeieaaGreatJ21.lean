import Derived.Test.YtiiefcalkjeieaaGreatHPopC
import Derived.Test.YtiiefcalkjeieaaGreatStZ
import Derived.Test.YtiiefcalkjeieaaGreatKArgs
variable{w W w':Go.World}{v ff sv rv:Go.Value}{hb np N b b4 x b3 b5 B gb:Nat}{rs:List Nat}{ar:Int}{cs:Array Go.Value}{t:Go.TypeId}
set_option maxHeartbeats 8000000
set_option maxRecDepth 100000
namespace Go.Proofs.YtiiefcalkjeieaaGreat
namespace Hc
open Go.RowKit Go.Sort Hp
abbrev key(f:Th->Int):Th->Th->Bool:=fun a b=>decide (f a<f b)
theorem eD{f:Th->Int}{a b:It}:aU (key f) a b=false↔(f b.1<f a.1\/(f a.1=f b.1/\b.2<=a.2)):=by
 unfold aU key;split<;>simp<;>omega
theorem jH(f:Th->Int):Am (aU (key f)):=by
 refine⟨fun a b c h1 h2=> ?_,fun a b h=> ?_⟩
 ·rw[eD]at *;omega
 ·rw[eD];have:¬(aU (key f) a b=false):=by rw[h];simp
  rw[eD]at this;omega
structure Hq(w:World)(hb:Nat)(ff:Value)(v:Value)(f:Th->Int)(L:List It)(np:Nat):Prop where
 h:Hb w hb ff v L np
 hp:bX (aU (key f)) L
 nd:(L.map Prod.snd).Nodup
 lt:∀x∈L,x.2<np
theorem Hq.kp{f:Th->Int}{L:List It}{S:Nat->Prop}(h:Hq w hb ff v f L np)(hk:Kp S w w')(h1:¬S hb)(h2:∀k,v.ownBlock=some k->¬S k):Hq w' hb ff v f L np:=⟨h.h.kp hk h1 h2,h.hp,h.nd,h.lt⟩
theorem Hq.below{f:Th->Int}{L:List It}(h:Hq w hb ff v f L np)(hb':Below w.heap.size w w'):Hq w' hb ff v f L np:=⟨h.h.below hb',h.hp,h.nd,h.lt⟩
theorem xe(ff:Value)(f:Th->Int)(w:World):Calls Tryz.prog 85 #[fv ff] w fun e w'=>∃hb,e= .returned (.pointer (some ⟨hb,0,none⟩))/\w.heap.size<=hb/\Hq w' hb ff (.slice none 0 0) f [] 0/\Gr w w':=by
 refine(dF ff w).mono ?_;rintro e w' ⟨hb,rfl,h1,h2,h3⟩;exact⟨hb,rfl,h1,⟨h2,fun i x y _ hx=>by simp at hx,by simp,by simp⟩,h3⟩
theorem sH{f:Th->Int}{L:List It}(x:Th)(w:World)(hH:Hq w hb ff v f L np)(hl:(L.length+1)*48<=140737488355328)(Te:np+1<18446744073709551616){K:World->Prop}{V:Th->Prop}(hF:dY K V ff (key f))(hk:K w)(hV:∀y∈L,V y.1)(hx:V x):
    Calls Tryz.prog 82 #[.pointer (some ⟨hb,0,none⟩),tv x] w fun e w'=>∃v' L',e= .returned (.tuple #[])/\Hq w' hb ff v' f L' (np+1)/\L'.Perm (L++[(x,np)])/\dW hb v v' w w':=by
 refine(wQ x w hH.h hl Te hF hk hV hx).mono ?_;rintro e w' ⟨v',L',rfl,h1,h2,h3,h4⟩;refine⟨v',L',rfl,⟨h1,h3 (jH f) hH.hp, ?_,fun y hy=> ?_⟩,h2,h4⟩
 ·rw[(h2.map Prod.snd).nodup_iff,CW,List.nodup_append];refine⟨hH.nd,by simp,fun a ha b hb e=> ?_⟩;obtain⟨y,hy,rfl⟩:=mM.1 ha;have:=hH.lt y hy;simp at hb;omega
 ·rcases j4.1 (h2.mem_iff.1 hy)with h|h
  ·have:=hH.lt y h;omega
  ·simp at h;subst h;simp
theorem qU{f:Th->Int}{L:List It}{t:It}(w:World)(hH:Hq w hb ff v f L np)(ht:L[0]? =some t)(hl:L.length<=140737488355328){K:World->Prop}{V:Th->Prop}(hF:dY K V ff (key f))(hk:K w)(hV:∀y∈L,V y.1):
    Calls Tryz.prog 137 #[.pointer (some ⟨hb,0,none⟩)] w fun e w'=>∃v' L',e= .returned (ans t.1 true)/\Hq w' hb ff v' f L' np/\(t::L').Perm L/\(∀x∈L',f t.1<f x.1\/(f t.1=f x.1/\t.2<x.2))/\dW hb v v' w w':=by
 refine(Bi w hH.h ht hl hF hk hV).mono ?_;rintro e w' ⟨rfl,v',L',h1,h2,h3,h4⟩;have hnd:((t::L').map Prod.snd).Nodup:=(h2.map Prod.snd).nodup_iff.2 hH.nd;rw[List.map_cons,List.nodup_cons]at hnd;refine⟨v',L',rfl,⟨h1,h3 (jH f) hH.hp,hnd.2,fun y hy=>hH.lt y (h2.mem_iff.1 (mO _ hy))⟩,h2,fun x hx=> ?_,h4⟩;obtain⟨i,hi⟩:=List.getElem?_of_mem (h2.mem_iff.1 (mO t hx));have:=eD.1 (bX.top (jH f) hH.hp ht i x hi);have hne:t.2≠x.2:=fun e=>hnd.1 (mM.2 ⟨x,hx,e.symm⟩);omega
theorem Hq.first{f:Th->Int}{L:List It}{t:It}(hH:Hq w hb ff v f L np)(ht:L[0]? =some t):t∈L/\∀x∈L,f t.1<f x.1\/(f t.1=f x.1/\t.2<=x.2):=by
 refine⟨lM ht,fun x hx=> ?_⟩;obtain⟨i,hi⟩:=List.getElem?_of_mem hx;have:=eD.1 (bX.top (jH f) hH.hp ht i x hi);omega
end Hc
namespace Rc
open Go.RowKit Go.Sort Pt
attribute[local go_sem ↓]wp_at_zero wp_at_succ
theorem hid{p:Prop}(h:p):Hid p:=h
theorem ae{o:Obj}(h:w.heap[b]? =some o):b<w.heap.size:=(aG.1 h).1
theorem bC(h:w.heap[b]? =some (.cells cs t (0,0)))(i:Nat)(x:Value):(w.setCell ⟨b,i,none⟩ x).heap[b]? =some (.cells (cs.setIfInBounds i x) t (0,0))/\Kp (fun k=>k=b) w (w.setCell ⟨b,i,none⟩ x):=by
 have e:=setCell_eq_setRow w b i _ _ _ x h;rw[e];exact⟨by rw[setRow_heap w b _ _ _ _ h],rfl,rfl,rfl,by simp[World.setRow],fun k _ hne=>setRow_other w b k _ (by omega)⟩
theorem aa(h:w.heap[b]? =some (.cells cs t (0,0))):(∀i,w.cell? ⟨b,i,none⟩=cs[i]?)/\∀i,w.frozen? ⟨b,i,none⟩=false:=by
 refine⟨fun i=>by simp[World.cell?,h],fun i=>by simp[World.frozen?,h]⟩
theorem qi(x:Int)(w:World):Calls Tryz.prog 195 #[.int .i64 x] w fun e w'=>e= .returned (.bool false)/\w'=w:=by
 go_enter Tryz.func195,Tryz.ntmps195;go_wp2;go_ret;exact⟨by simp,rfl⟩
theorem rM(x y:Int)(w:World):Calls Tryz.prog 136 #[.int .i64 x, .int .i64 y] w fun e w'=>e= .returned (.int .i64 (c64 x y))/\w'=w:=by
 have H:=fun v W=>qi v W;go_enter Tryz.func136,Tryz.ntmps136;go_wp2_with (go_at_call 195;refine(H _ _).mono ?_;rintro e w1 ⟨rfl,rfl⟩);all_goals go_ret
 all_goals refine⟨?_,rfl⟩
 all_goals refine Bh ?_
 all_goals unfold c64
 all_goals (repeat split)<;>omega
def ER:El Nat where
 k:=1
 enc n:=[.int .i64 (n:Nat)]
 len _:=rfl
 one x u hu:=by
  simp at hu;rw[hu];rfl
theorem ZU{ts:List Nat}(h:Ls ER w v ts){j:Nat}(hj:ts[j]? =some x):∃b off c,v= .slice (some ⟨b,off,none⟩) ts.length c/\b<w.heap.size/\w.cell? ⟨b,off+j*1,none⟩=some (.int .i64 (x:Nat)):=by
 obtain⟨b,off,c,hv,hb,hc⟩:=h.get hj;exact⟨b,off,c,hv,hb,hc 0 _ (by decide) rfl⟩
def mf(rs:List Nat)(p:Nat):Nat:=rs.getD p 0
theorem Sc(p q r:Int):Ma p q r<0↔p<0\/(p=0/\(q<0\/(q=0/\r<0))):=by
 unfold Ma
 (repeat split)<;>omega
def Vp(N:Nat)(a:Hc.Th):Prop:=∃p:Nat,a.1=(p:Int)/\p<N
def kR(N:Nat)(rs:List Nat)(a:Hc.Th):Int:=(mW N (mf rs) (a.1.toNat,a.2.1):Nat)
theorem KS(hr:∀x∈rs,x<=N){p q:Nat}{y:Nat}(hp:p<N)(hq:q<N)(h1:rs[p]? =some x)(h2:rs[q]? =some y)(t u:ai)(n m:Int):
    decide (Ma (mi t.1.1 t.1.2.1 t.1.2.2 u.1.1 u.1.2.1 u.1.2.2) (c64 (x:Nat) (y:Nat)) (c64 (p:Nat) (q:Nat))<0)=Hc.key (kR N rs) ((p:Int),t,n) ((q:Int),u,m):=by
 have e1:mf rs p=x:=by unfold mf;rw[List.getD_eq_getElem?_getD,h1];rfl
 have e2:mf rs q=y:=by unfold mf;rw[List.getD_eq_getElem?_getD,h2];rfl
 have l1:=hr x (lM h1);have l2:=hr y (lM h2);unfold Hc.key kR;simp only[tN];rw[decide_eq_decide,Sc,qJ,Ke,iE,fZ,iE];have h:=wK (N:=N) (rk:=mf rs) (p:=p) (q:=q) (t:=t) (u:=u) (by omega) (by omega) (by omega) (by omega);rw[e1,e2]at h;have hx:PX.lY t u↔(t.1.1<u.1.1\/(t.1.1=u.1.1/\(t.1.2.1<u.1.2.1\/(t.1.2.1=u.1.2.1/\t.1.2.2<u.1.2.2)))):=Iff.rfl;have hy:t=u↔(t.1.1=u.1.1/\t.1.2.1=u.1.2.1/\t.1.2.2=u.1.2.2):=⟨fun e=>by rw[e];exact⟨rfl,rfl,rfl⟩,fun e=>cZ e.1 e.2.1 e.2.2⟩;rw[hx,hy]at h;omega
abbrev wv(ar:Int)(sv rv:Value):Value:= .agg #[.int .i64 ar,sv,rv]
abbrev cc(a:Hc.Th):Array Value:=#[.int .i64 a.1, .int .u64 a.2.1.1.1, .int .u64 a.2.1.1.2.1, .int .u64 a.2.1.1.2.2, .int .i64 a.2.2]
def Fx(W:World)(b3 b4 b5:Nat)(ar:Int)(sv rv:Value)(a b:Hc.Th)(rs:List Nat):Prop:=W.heap[b3]? =some (.cells #[.int .i64 ar,sv,rv] 99 (0,0))/\W.heap[b4]? =some (.cells (cc a) 49 (0,0))/\W.heap[b5]? =some (.cells (cc b) 49 (0,0))/\Ls ER W rv rs
theorem Fx.below{W':World}{a b:Hc.Th}(h:Fx W b3 b4 b5 ar sv rv a b rs)(g:Below W.heap.size W W'):Fx W' b3 b4 b5 ar sv rv a b rs:=
 ⟨(g.block _ (ae h.1)).trans h.1,(g.block _ (ae h.2.1)).trans h.2.1,(g.block _ (ae h.2.2.1)).trans h.2.2.1,h.2.2.2.below g⟩
theorem Fx.c3{a b:Hc.Th}(h:Fx W b3 b4 b5 ar sv rv a b rs):W.cell? ⟨b3,2,none⟩=some rv/\b3<W.heap.size:=⟨((aa h.1).1 2).trans rfl,ae h.1⟩
theorem vH{a:Hc.Th}(h:W.heap[b4]? =some (.cells (cc a) 49 (0,0))):W.cell? ⟨b4,0,none⟩=some (.int .i64 a.1)/\W.cell? ⟨b4,1,none⟩=some (.int .u64 a.2.1.1.1)/\W.cell? ⟨b4,2,none⟩=some (.int .u64 a.2.1.1.2.1)/\W.cell? ⟨b4,3,none⟩=some (.int .u64 a.2.1.1.2.2)/\W.cell? ⟨b4,4,none⟩=some (.int .i64 a.2.2)/\b4<W.heap.size:=
 ⟨((aa h).1 0).trans rfl,((aa h).1 1).trans rfl,((aa h).1 2).trans rfl,((aa h).1 3).trans rfl,((aa h).1 4).trans rfl,ae h⟩
theorem KU(hr:∀x∈rs,x<=N)(hN:rs.length=N)(a b:Hc.Th)(w:World)(ha:Vp N a)(hb:Vp N b)(hk:Ls ER w rv rs):Calls Tryz.prog 86 #[wv ar sv rv,Hc.tv a,Hc.tv b] w fun e w'=>e= .returned (.bool (Hc.key (kR N rs) a b))/\Gr w w':=by
 have hmx:Tryz.prog.follows .mixedOrders=true:=by kernel_rfl
 obtain⟨p0,t,n⟩:=a;obtain⟨q0,u,m⟩:=b;obtain⟨p,e1,hp⟩:=ha;obtain⟨q,e2,hq⟩:=hb;simp only at e1 e2;subst e1 e2;obtain⟨x,hx⟩:∃x,rs[p]? =some x:=⟨rs[p]'(by omega),by rw[pW]⟩;obtain⟨y,hy⟩:∃y,rs[q]? =some y:=⟨rs[q]'(by omega),by rw[pW]⟩;rw[<-KS hr hp hq hx hy t u n m];have HX:=hid hx;have HY:=hid hy;have HN:=hid hN;obtain⟨pr,cr,UX⟩:=hk.form;rw[hN]at UX;have HRV:=hid UX;have HC:=hid (fun W=>gI t.1.1 t.1.2.1 t.1.2.2 u.1.1 u.1.2.1 u.1.2.2 W);have H1:=hid (fun W=>rM (x:Nat) (y:Nat) W);have H2:=hid (fun W=>rM (p:Nat) (q:Nat) W);generalize mi t.1.1 t.1.2.1 t.1.2.2 u.1.1 u.1.2.1 u.1.2.2=r1 at HC⊢;generalize c64 (x:Nat) (y:Nat)=r2 at H1⊢;generalize c64 (p:Nat) (q:Nat)=r3 at H2⊢;have hpz:(0:Int)<=(p:Int):=by omega
 have hqz:(0:Int)<=(q:Int):=by omega
 have Tc:(p:Int)<(N:Int):=by omega
 have hqN:(q:Int)<(N:Int):=by omega
 obtain⟨W1,hW1⟩:=aC (((w.alloc (.cells #[.int .i64 ar,sv,rv] 99)).alloc (.cells (cc ((p:Int),t,n)) 49)).alloc (.cells (cc ((q:Int),u,m)) 49));obtain⟨b3,hb3⟩:=aC (w.heap.size);obtain⟨b4,hb4⟩:=aC (b3+1);obtain⟨b5,hb5⟩:=aC (b4+1);have G1:Hid (Gr w W1):=by rw[hW1];exact(((Gr.refl _).alloc _).alloc _).alloc _
 have hS0:(fun W:World=>Fx W b3 b4 b5 ar sv rv ((p:Int),t,n) ((q:Int),u,m) rs) W1.drew:=by
  have z1:(w.alloc (.cells #[.int .i64 ar,sv,rv] 99)).heap.size=b4:=by rw[hb4,hb3];simp
  have z2:((w.alloc (.cells #[.int .i64 ar,sv,rv] 99)).alloc (.cells (cc ((p:Int),t,n)) 49)).heap.size=b5:=by rw[hb5,hb4,hb3];simp
  have q1:=ah w (.cells #[.int .i64 ar,sv,rv] 99);have q2:=ah (w.alloc (.cells #[.int .i64 ar,sv,rv] 99)) (.cells (cc ((p:Int),t,n)) 49);have q3:=ah ((w.alloc (.cells #[.int .i64 ar,sv,rv] 99)).alloc (.cells (cc ((p:Int),t,n)) 49)) (.cells (cc ((q:Int),u,m)) 49);rw[z1]at q2;rw[z2]at q3;rw[<-hb3]at q1;have g2:=((Gr.refl (w.alloc (.cells #[.int .i64 ar,sv,rv] 99))).alloc (.cells (cc ((p:Int),t,n)) 49)).below;have g3:=((Gr.refl ((w.alloc (.cells #[.int .i64 ar,sv,rv] 99)).alloc (.cells (cc ((p:Int),t,n)) 49))).alloc (.cells (cc ((q:Int),u,m)) 49)).below;refine⟨?_, ?_, ?_,hk.below G1.o.drew.below⟩
  ·show W1.heap[b3]? =_;rw[hW1];exact(g3.block b3 (nL (ae q1) g2.size)).trans ((g2.block b3 (ae q1)).trans q1)
  ·show W1.heap[b4]? =_;rw[hW1];exact(g3.block b4 (ae q2)).trans q2
  ·show W1.heap[b5]? =_;rw[hW1];exact q3
 clear hk hx hy hr hN UX HRV;simp only[cc]at hW1;simp only[wv,Hc.tv];go_enter Tryz.func86,Tryz.ntmps86;go_upto_region 1 with fail;rw[<-hb3,<-hb4,<-hb5,<-hW1];clear hW1 hb3 hb4 hb5;obtain⟨bi,oi,ci,hei⟩:∃bi oi ci,rv= .slice (some ⟨bi,oi,none⟩) N ci:=by
  obtain⟨bi,oi,ci,ei,zi,xi⟩:=ZU hS0.2.2.2 HX.o;rw[HN.o]at ei;exact⟨bi,oi,ci,ei⟩
 have HE:=hid hei;have hld:∀(W:World) (j z:Nat),Ls ER W rv rs->rs[j]? =some z->W.cell? ⟨bi,oi+j,none⟩=some (.int .i64 (z:Nat))/\bi<W.heap.size:=fun W j z hl hj=>by
  obtain⟨b',o',c',e',z',x'⟩:=ZU hl hj;rw[HE.o]at e';simp only[vS,oI,aI,and_true]at e';obtain⟨⟨rfl,rfl⟩,-,-⟩:=e';rw[Nat.mul_one]at x';exact⟨x',z'⟩
 have HL:=hid hld;clear hld;subst hei;refine ax (S:=fun W:World=>Fx W b3 b4 b5 ar sv (.slice (some ⟨bi,oi,none⟩) N ci) ((p:Int),t,n) ((q:Int),u,m) rs) (D:=[]) hmx ?_;refine' aj 0 hS0 ?_;refine' aj 1 hS0 ?_;refine' bu 2 hS0 ?h ?_;case h=>(intro W hSw;obtain⟨y0,y1,y2,y3,y4,yz⟩:=vH hSw.2.1;simp only at y0 y1 y2 y3 y4;go_simp;try(with_reducible rfl))
 refine' aj 3 hS0 ?_;refine' aj 4 hS0 ?_;refine' bu 5 hS0 ?h ?_;case h=>(intro W hSw;obtain⟨y0,y1,y2,y3,y4,yz⟩:=vH hSw.2.2.1;simp only at y0 y1 y2 y3 y4;go_simp;try(with_reducible rfl))
 refine' aj 7 hS0 ?_;refine' bu 8 hS0 ?h ?_;case h=>(intro W hSw;obtain⟨y0,yz⟩:=hSw.c3;go_simp;try(with_reducible rfl))
 refine' aj 9 hS0 ?_;refine' aj 10 hS0 ?_;refine' bu 11 hS0 ?h ?_;case h=>(intro W hSw;obtain⟨y0,y1,y2,y3,y4,yz⟩:=vH hSw.2.1;simp only at y0 y1 y2 y3 y4;go_simp;try(with_reducible rfl))
 refine' aj 12 hS0 ?_;refine' bu 13 hS0 ?h ?_;case h=>(intro W hSw;obtain⟨xc,xz⟩:=HL.o W _ _ hSw.2.2.2 HX.o;go_simp;try(with_reducible rfl))
 refine' aj 14 hS0 ?_;refine' bu 15 hS0 ?h ?_;case h=>(intro W hSw;obtain⟨y0,yz⟩:=hSw.c3;go_simp;try(with_reducible rfl))
 refine' aj 16 hS0 ?_;refine' aj 17 hS0 ?_;refine' bu 18 hS0 ?h ?_;case h=>(intro W hSw;obtain⟨y0,y1,y2,y3,y4,yz⟩:=vH hSw.2.2.1;simp only at y0 y1 y2 y3 y4;go_simp;try(with_reducible rfl))
 refine' aj 19 hS0 ?_;refine' bu 20 hS0 ?h ?_;case h=>(intro W hSw;obtain⟨xc,xz⟩:=HL.o W _ _ hSw.2.2.2 HY.o;go_simp;try(with_reducible rfl))
 refine' aj 22 hS0 ?_;refine' aj 23 hS0 ?_;refine' bu 24 hS0 ?h ?_;case h=>(intro W hSw;obtain⟨y0,y1,y2,y3,y4,yz⟩:=vH hSw.2.1;simp only at y0 y1 y2 y3 y4;go_simp;try(with_reducible rfl))
 refine' aj 25 hS0 ?_;refine' aj 26 hS0 ?_;refine' bu 27 hS0 ?h ?_;case h=>(intro W hSw;obtain⟨y0,y1,y2,y3,y4,yz⟩:=vH hSw.2.2.1;simp only at y0 y1 y2 y3 y4;go_simp;try(with_reducible rfl))
 refine bF 6 fun K hK=> ?_;go_simp;refine(HC.o _).mono ?_;rintro e w2 ⟨rfl,g2⟩;have hS2:(fun W:World=>Fx W b3 b4 b5 ar sv (.slice (some ⟨bi,oi,none⟩) N ci) ((p:Int),t,n) ((q:Int),u,m) rs) w2:=Fx.below hS0 g2.below;go_wp2_with fail;refine hK.o _ _ (fun hD=>hS2) ?_;clear hK K;try simp only[Act.put,qI,q0,qS]
 refine bF 21 fun K hK=> ?_;go_simp;refine(H1.o _).mono ?_;rintro e w3 ⟨rfl,rfl⟩;go_wp2_with fail;refine hK.o _ _ (fun hD=>hS2) ?_;clear hK K;try simp only[Act.put,qI,q0,qS]
 refine bF 28 fun K hK=> ?_;go_simp;refine(H2.o _).mono ?_;rintro e w4 ⟨rfl,rfl⟩;go_wp2_with fail;refine hK.o _ _ (fun hD=>hS2) ?_;clear hK K;try simp only[Act.put,qI,q0,qS]
 refine bF 29 fun K hK=> ?_;go_simp;refine hK.o _ _ (fun hD=>(Fx.below hS2 ((Gr.refl _).alloc _).below)) ?_;clear hK K;try simp only[Act.put,qI,q0,qS]
 refine bF 30 fun K hK=> ?_;go_simp;have hor:=zG r1 r2 r3 w4.heap.size (w4.alloc (.cells #[.int .i64 r1, .int .i64 r2, .int .i64 r3] 3)) (by simp) (by simp) (by simp);refine hor.mono ?_;rintro e w6 ⟨rfl,rfl⟩;go_wp2_with fail;refine hK.o _ _ (fun hD=>(Fx.below hS2 ((Gr.refl _).alloc _).below)) ?_;clear hK K;try simp only[Act.put,qI,q0,qS]
 refine' aj 31 (Fx.below hS2 ((Gr.refl _).alloc _).below) ?_;refine' aj 32 (Fx.below hS2 ((Gr.refl _).alloc _).below) ?_;refine au (by kernel_rfl) ?_ _;go_wp2_with fail;go_ret;exact⟨rfl,G1.o.trans ((Gr.refl W1).drew.trans (g2.alloc _))⟩
theorem Ew(hr:∀x∈rs,x<=N)(hN:rs.length=N):Hc.dY (fun W=>Ls ER W rv rs) (Vp N) (wv ar sv rv) (Hc.key (kR N rs)):=
 ⟨enters_of Tryz.func86 (by kernel_rfl) rfl,fun a b W ha hb hk=>KU hr hN a b W ha hb hk,fun _ _ h g=>h.below g.below⟩
end Rc
namespace Lf
open Go.RowKit Go.Sort Pt
open Df (bD aT gY Gm)
def Vf(w:World)(g:bD)(r:Ending)(w':World):Prop:=Sz.Vf 215 213 w g r w'
theorem dA{g:bD}(w:World)(h:Gm B w gb g)(j5:gY g)(hP:uG g):Calls Tryz.prog 73 #[.pointer (some ⟨gb,0,none⟩)] w (Vf w g):=Sz.dA (.inl ⟨rfl,rfl,rfl,rfl⟩) w h j5 hP
end Lf
namespace Rc
open Go.RowKit Go.Sort Pt Hc
attribute[local go_sem ↓]wp_at_zero wp_at_succ
def I6(a b:Th):Prop:=a.1=b.1/\a.2.1=b.2.1
def VI(a b:Th):Bool:=a.1==b.1&&qB a.2.1.1.1 a.2.1.1.2.1 a.2.1.1.2.2 b.2.1.1.1 b.2.1.1.2.1 b.2.1.1.2.2
theorem Dm(a b:Th):VI a b=true↔I6 a b:=by
 unfold VI I6;rw[bA,beq_iff_eq,qH];exact⟨fun h=>⟨h.1,cZ h.2.1 h.2.2.1 h.2.2.2⟩,fun h=>⟨h.1,by rw[h.2];exact⟨rfl,rfl,rfl⟩⟩⟩
structure Tk(w wr:World)(hb:Nat)(ff v vr:Value)(f:Th->Int)(L0 L M:List It)(np b2 b4 b6:Nat)(c2 c4 c6:Th):Prop where
 hq:Hq wr hb ff vr f L np
 k2:wr.heap[b2]? =some (.cells (cc c2) 49 (0,0))
 k4:wr.heap[b4]? =some (.cells (cc c4) 49 (0,0))
 k6:wr.heap[b6]? =some (.cells (cc c6) 49 (0,0))
 ge:w.heap.size<=b2/\w.heap.size<=b4/\w.heap.size<=b6
 ne:b2≠b4/\b2≠b6/\b4≠b6
 perm:(M++L).Perm L0
 kp:Kp (fun k=>k=hb\/v.ownBlock=some k) w wr
 row:∀g,vr.ownBlock=some g->v.ownBlock=some g\/w.heap.size<=g
theorem lN{L:List It}(h:Hb w hb ff v L np)(hc:w.heap[b]? =some (.cells cs 49 (0,0))):¬(b=hb\/v.ownBlock=some b):=by
 rintro(rfl|e)
 ·have:=h.blk;rw[hc]at this;simp at this
 ·obtain⟨_,⟨h0,_⟩|⟨g,cap,cur,hv,_,hh,_⟩⟩:=h.own
  ·rw[h0]at e;simp[Value.ownBlock]at e
  ·rw[hv]at e;have e2:g=b:=(by simpa[Value.ownBlock]using e);rw[e2,hc]at hh;simp at hh
section
variable {w wr w':World} {hb np b2 b4 b6:Nat} {ff v vr v':Value} {f:Th->Int} {L0 L L' M:List It} {c2 c4 c6:Th}
theorem Tk.gr(h:Tk w wr hb ff v vr f L0 L M np b2 b4 b6 c2 c4 c6)(g:Below wr.heap.size wr w'):Tk w w' hb ff v vr f L0 L M np b2 b4 b6 c2 c4 c6:=
 ⟨h.hq.below g,(g.block _ (ae h.k2)).trans h.k2,(g.block _ (ae h.k4)).trans h.k4,(g.block _ (ae h.k6)).trans h.k6,h.ge,h.ne,h.perm,h.kp.trans (Kp.of_below (S:=fun _=>False) g) (fun _ _ h=>h.elim),h.row⟩
theorem Tk.pop(h:Tk w wr hb ff v vr f L0 L M np b2 b4 b6 c2 c4 c6){t:It}(hq:Hq w' hb ff v' f L' np)(hp:(t::L').Perm L)(ht:dW hb vr v' wr w'):Tk w w' hb ff v v' f L0 L' (M++[t]) np b2 b4 b6 c2 c4 c6:=by
 have o2:=lN h.hq.h h.k2;have o4:=lN h.hq.h h.k4;have o6:=lN h.hq.h h.k6;refine⟨hq,(ht.1.block _ (ae h.k2) o2).trans h.k2,(ht.1.block _ (ae h.k4) o4).trans h.k4,(ht.1.block _ (ae h.k6) o6).trans h.k6,h.ge,h.ne, ?_,h.kp.trans ht.1 (fun j hj e=> ?_),fun g hg=> ?_⟩
 ·rw[aA];exact(List.Perm.append_left M hp).trans h.perm
 ·rcases e with e|e
  ·exact .inl e
  ·rcases h.row j e with e2|e2
   ·exact .inr e2
   ·omega
 ·rcases ht.2 g hg with e|e
  ·exact h.row g e
  ·exact .inr (nT h.kp.size e)
theorem Ya(c:Th)(n:Int):(cc c).setIfInBounds 4 (.int .i64 n)=cc (c.1,c.2.1,n):=rfl
theorem Tk.abm(h:Tk w wr hb ff v vr f L0 L M np b2 b4 b6 c2 c4 c6)(n:Int):Tk w (wr.setCell ⟨b4,4,none⟩ (.int .i64 n)) hb ff v vr f L0 L M np b2 b4 b6 c2 (c4.1,c4.2.1,n) c6:=by
 obtain⟨q,k⟩:=bC h.k4 4 (.int .i64 n);rw[Ya]at q;have o4:=lN h.hq.h h.k4;exact⟨h.hq.kp k (fun e=>o4 (.inl e.symm)) (fun g hg e=>o4 (.inr (by rw[<-e];exact hg))),(k.block _ (ae h.k2) h.ne.1).trans h.k2,q,(k.block _ (ae h.k6) (fun e=>h.ne.2.2 e.symm)).trans h.k6,h.ge,h.ne,h.perm,h.kp.trans k (fun j hj e=>by have:=h.ge.2.1;omega),h.row⟩
theorem Tk.Sn(h:Tk w wr hb ff v vr f L0 L M np b2 b4 b6 c2 c4 c6)(c:Th):Tk w (wr.alloc (.cells (cc c) 49)) hb ff v vr f L0 L M np b2 b4 wr.heap.size c2 c4 c:=by
 have g:=((Gr.refl wr).alloc (.cells (cc c) 49)).below;have h2:=h.gr g;exact⟨h2.hq,h2.k2,h2.k4,ah _ _,⟨h.ge.1,h.ge.2.1,h.kp.size⟩,⟨h.ne.1,fun e=>by have:=ae h.k2;omega,fun e=>by have:=ae h.k4;omega⟩,h2.perm,h2.kp,h2.row⟩
abbrev uJ(W:World)(b:Nat)(c:Th):World:=((((W.setCell ⟨b,0,none⟩ (.int .i64 c.1)).setCell ⟨b,1,none⟩ (.int .u64 c.2.1.1.1)).setCell ⟨b,2,none⟩ (.int .u64 c.2.1.1.2.1)).setCell ⟨b,3,none⟩ (.int .u64 c.2.1.1.2.2)).setCell ⟨b,4,none⟩ (.int .i64 c.2.2)
theorem qO{c0:Th}(h:W.heap[b]? =some (.cells (cc c0) 49 (0,0)))(c:Th):(uJ W b c).heap[b]? =some (.cells (cc c) 49 (0,0))/\Kp (fun k=>k=b) W (uJ W b c):=by
 obtain⟨q0,k0⟩:=bC h 0 (.int .i64 c.1);obtain⟨q1,k1⟩:=bC q0 1 (.int .u64 c.2.1.1.1);obtain⟨q2,k2⟩:=bC q1 2 (.int .u64 c.2.1.1.2.1);obtain⟨q3,k3⟩:=bC q2 3 (.int .u64 c.2.1.1.2.2);obtain⟨q4,k4⟩:=bC q3 4 (.int .i64 c.2.2);exact⟨q4,(((k0.trans k1 (fun _ _ h=>h)).trans k2 (fun _ _ h=>h)).trans k3 (fun _ _ h=>h)).trans k4 (fun _ _ h=>h)⟩
theorem Tk.abl(h:Tk w wr hb ff v vr f L0 L M np b2 b4 b6 c2 c4 c6)(c:Th):Tk w (uJ wr b6 c) hb ff v vr f L0 L M np b2 b4 b6 c2 c4 c:=by
 obtain⟨q,k⟩:=qO h.k6 c;have o6:=lN h.hq.h h.k6;exact⟨h.hq.kp k (fun e=>o6 (.inl e.symm)) (fun g hg e=>o6 (.inr (by rw[<-e];exact hg))),(k.block _ (ae h.k2) h.ne.2.1).trans h.k2,(k.block _ (ae h.k4) h.ne.2.2).trans h.k4,q,h.ge,h.ne,h.perm,h.kp.trans k (fun j hj e=>by have:=h.ge.2.2;omega),h.row⟩
theorem Tk.set2(h:Tk w wr hb ff v vr f L0 L M np b2 b4 b6 c2 c4 c6)(c:Th):Tk w (uJ wr b2 c) hb ff v vr f L0 L M np b2 b4 b6 c c4 c6:=by
 obtain⟨q,k⟩:=qO h.k2 c;have o2:=lN h.hq.h h.k2;exact⟨h.hq.kp k (fun e=>o2 (.inl e.symm)) (fun g hg e=>o2 (.inr (by rw[<-e];exact hg))),q,(k.block _ (ae h.k4) (fun e=>h.ne.1 e.symm)).trans h.k4,(k.block _ (ae h.k6) (fun e=>h.ne.2.1 e.symm)).trans h.k6,h.ge,h.ne,h.perm,h.kp.trans k (fun j hj e=>by have:=h.ge.1;omega),h.row⟩
end
def nz(M:List It):Int:=(M.map fun x=>x.1.2.2).sum
theorem NL(M:List It)(t:It):nz (M++[t])=nz M+t.1.2.2:=by simp[nz]
theorem Sj{M:List It}(h:∀x∈M,-1<=x.1.2.2/\x.1.2.2<=1): -(M.length:Int)<=nz M/\nz M<=M.length:=by
 induction M with
 | nil => simp[nz]
 | cons a M ih=>
  have h1:=h a mX;have h2:=ih fun x hx=>h x (mO _ hx);have e:nz (a::M)=a.1.2.2+nz M:=by simp[nz]
  rw[e,lC];omega
def Tkn(w:World)(hb:Nat)(ff v:Value)(f:Th->Int)(L0:List It)(np:Nat)(e:Ending)(w':World):Prop:=
 (L0=[]/\e= .returned (ans zt false)/\Hq w' hb ff v f [] np/\Below w.heap.size w w')\/
 ∃c v' L' M,e= .returned (ans c true)/\Hq w' hb ff v' f L' np/\(M++L').Perm L0/\M≠[]/\(∀x∈M,I6 x.1 c)/\c.2.2=nz M/\(∀x∈L',¬I6 x.1 c/\f c<f x.1)/\dW hb v v' w w'
theorem Jw{a b:Th}(h:I6 a b):kR N rs a=kR N rs b:=by
 obtain⟨p,t,n⟩:=a;obtain⟨q,u,m⟩:=b;obtain⟨h1,h2⟩:=h;simp only at h1 h2;subst h1 h2;rfl
theorem Jy(hr:∀x∈rs,x<=N){a b:Th}(ha:Vp N a)(hb:Vp N b)(h:kR N rs a=kR N rs b):I6 a b:=by
 obtain⟨p,e1,hp⟩:=ha;obtain⟨q,e2,hq⟩:=hb;have Fy:∀j,mf rs j<=N:=fun j=>by
  unfold mf;rw[List.getD_eq_getElem?_getD];cases k:rs[j]? with
  | none => simp
  | some z => exact hr z (lM k)
 unfold kR at h;rw[e1,e2,tN,tN]at h;obtain⟨h1,h2⟩:=Jc (N:=N) (rk:=mf rs) (p:=p) (q:=q) (t:=a.2.1) (u:=b.2.1) (by omega) (by omega) (Fy p) (Fy q) (by omega);exact⟨by rw[e1,e2,h1],h2⟩
def Tp(L:List It)(c:Th)(mb:Bool):Prop:=(mb=false/\L=[])\/(mb=true/\∃y,L[0]? =some y/\c=y.1)
theorem UK{f:Th->Int}{L:List It}(w:World)(h:Hq w hb ff v f L np):∃c mb,Tp L c mb/\Calls Tryz.prog 138 #[.pointer (some ⟨hb,0,none⟩)] w fun e w'=>e= .returned (ans c mb)/\Gr w w':=by
 cases L with
 | nil => exact⟨zt,false, .inl ⟨rfl,rfl⟩,kG w h.h⟩
 | cons y L => exact⟨y.1,true, .inr ⟨rfl,y,rfl,rfl⟩,qV w h.h rfl⟩
structure Mf(M:List It)(c:Th)(n:Int):Prop where
 ne:M≠[]
 st:∀x∈M,I6 x.1 c
 sm:n=nz M
theorem Mf.snoc{M:List It}{c:Th}{n:Int}{t:It}(h:Mf M c n)(ht:I6 t.1 c):Mf (M++[t]) c (n+t.1.2.2):=
 ⟨by simp,fun x hx=>by
  rcases j4.1 hx with k|k
  ·exact h.st x k
  ·rw[yF]at k;rw[k];exact ht,by rw[NL,h.sm]⟩
theorem Kg{L0:List It}{K:World->Prop}(w:World)(hH:Hq w hb ff v (kR N rs) L0 np)(hl:L0.length<=1099511627776)(hr:∀x∈rs,x<=N)(hF:Hc.dY K (Vp N) ff (key (kR N rs)))(hK:∀W,Kp (fun k=>k=hb\/v.ownBlock=some k) w W->K W)(hV:∀y∈L0,Vp N y.1)(h1:∀x∈L0,-1<=x.1.2.2/\x.1.2.2<=1):
    Calls Tryz.prog 79 #[.pointer (some ⟨hb,0,none⟩)] w fun e w'=>Hid (Tkn w hb ff v (kR N rs) L0 np e w'):=by
 have aaw:=fun(p a b c q x y z:Int) W=>Rs.wJ 9997 p a b c q x y z W;obtain⟨W1,hW1⟩:=aC (w.alloc (.cells (cc zt) 49));obtain⟨b2,hb2⟩:=aC (w.heap.size);have G1:Gr w W1:=by rw[hW1];exact(Gr.refl _).alloc _
 have LP:Hid (W1.heap[b2]? =some (.cells (cc zt) 49 (0,0))):=by rw[hW1,hb2];exact ah _ _
 have FJ:=hid (hH.below G1.below);have HB2:Hid (b2=w.heap.size):=hb2;have yC:=hid G1;have HK:=hid hK;have HV:=hid hV;have HN:=hid h1;have HF:=hid hF;have HL:=hid hl;have HR:=hid hr;have HH:=hid hH;simp only[cc]at hW1;clear hH hK hV h1 hF hl hr G1;go_enter Tryz.func79,Tryz.ntmps79;go_upto_region 1 with fail;rw[<-hW1,<-hb2];clear hW1 hb2;cases L0 with
 | nil=>
  go_wp2_with fail;refine(wR _ FJ.o.h).mono ?_;rintro e w2 ⟨rfl,g2⟩;have uE:=hid (FJ.o.below g2);simp only[Hc.ans,Hc.tv];go_upto_region 2 with fail;obtain⟨W3,hW3⟩:=aC (w2.alloc (.cells (cc zt) 49));obtain⟨b4,hb4⟩:=aC (w2.heap.size);have G3:Gr w2 W3:=by rw[hW3];exact(Gr.refl _).alloc _
  have Zf:Hid (W3.heap[b4]? =some (.cells (cc zt) 49 (0,0))):=by rw[hW3,hb4];exact ah _ _
  have HY3:Hid (W3.heap[b2]? =some (.cells (cc zt) 49 (0,0))):=(G3.below.block b2 (nL (ae LP.o) g2.size)).trans ((g2.block b2 (ae LP.o)).trans LP.o);have FI:=hid (uE.o.below G3.below);have HB3:Hid (Below w.heap.size w W3/\b4≠b2):=⟨yC.o.below.trans ((g2.trans (G3.below.mono g2.size)).mono yC.o.size),fun e=>by have:=ae LP.o;have:=g2.size;omega⟩;simp only[cc]at hW3;rw[<-hW3,<-hb4];clear hW3 hb4 G3 uE g2;go_wp2_with fail;refine(kG _ FI.o.h).mono ?_;rintro e w4 ⟨rfl,g4⟩;have HX4:=hid ((g4.below.block b4 (ae Zf.o)).trans Zf.o);have HY4:=hid ((g4.below.block b2 (ae HY3.o)).trans HY3.o);have Ap:=hid (FI.o.below g4.below);have Fj:=hid (HB3.o.1.trans (g4.below.mono HB3.o.1.size));simp only[Hc.ans,Hc.tv];go_upto_region 3 with fail;obtain⟨W5,bU⟩:=aC (w4.alloc (.cells (cc zt) 49));have G5:Gr w4 W5:=by rw[bU];exact(Gr.refl _).alloc _
  have Ze:=hid ((G5.below.block b4 (ae HX4.o)).trans HX4.o);have HY5:=hid ((G5.below.block b2 (ae HY4.o)).trans HY4.o);have HH5:=hid (Ap.o.below G5.below);have CS:=hid (Fj.o.trans (G5.below.mono Fj.o.size));simp only[cc]at bU;rw[<-bU];clear bU G5 HX4 HY4 Ap Fj g4;refine wp_loop_rounds 1 ?_;rw[rounds_succ];obtain⟨x0,x1,x2,x3,x4,xz⟩:=vH Ze.o;obtain⟨y0,y1,y2,y3,y4,yz⟩:=vH HY5.o;have fz:=(aa HY5.o).2;obtain⟨q5,k5⟩:=qO HY5.o zt;have HQ5:=hid q5;have Uw:Hid (Tkn w hb ff v (kR N rs) [] np (.returned (ans zt false)) (uJ W5 b2 zt)):= .inl ⟨rfl,rfl,HH5.o.kp k5 (fun e=>by have:=HH.o.h.lt;have:=HB2.o;omega) (fun g hg e=>by have:=(HH.o.h.row g hg);have:=HB2.o;omega),CS.o.trans (k5.below CS.o.size fun k hk=>by rw[hk,HB2.o];exact nR _)⟩;simp only[uJ,zt]at Uw HQ5;clear q5 k5;go_wp2_with fail;refine bR (v:=ans zt false) ?_ rfl Uw;have qq:=(aa HQ5.o).1;have q0:=qq 0;have q1:=qq 1;have q2:=qq 2;have q3:=qq 3;have q4:=qq 4;simp[results,Tryz.results79,go_sem,q0,q1,q2,q3,q4]
 | cons t0 L1=>
  have Qq:=hid (qU (t:=t0) W1 FJ.o rfl (nT HL.o (by decide)) HF.o (HK.o W1 (Kp.aX yC.o)) HV.o);go_wp2_with fail;refine Qq.o.mono ?_;rintro e w2 ⟨v2,L2,rfl,hq2,hp2,ho2,ht2⟩;clear Qq;have o2:=lN FJ.o.h LP.o;have Uq:=hid ((ht2.1.block b2 (ae LP.o) o2).trans LP.o);have HT2:=hid ht2;have HQ2:=hid hq2;have Qs:=hid hp2;have Vm:=hid ho2;clear hq2 hp2 ho2 ht2 o2;simp only[Hc.ans,Hc.tv];go_upto_region 2 with fail;obtain⟨W3,hW3⟩:=aC (w2.alloc (.cells (cc t0.1) 49));obtain⟨b4,hb4⟩:=aC (w2.heap.size);have G3:Gr w2 W3:=by rw[hW3];exact(Gr.refl _).alloc _
  have Zf:Hid (W3.heap[b4]? =some (.cells (cc t0.1) 49 (0,0))):=by rw[hW3,hb4];exact ah _ _
  have Fj:=hid hb4;have Mm:=hid G3;simp only[cc]at hW3;rw[<-hW3,<-hb4];clear hW3 hb4 G3;obtain⟨c6,mb,hTp,hpk⟩:=UK W3 (HQ2.o.below Mm.o.below);have HTP:=hid hTp;have HPK:=hid hpk;clear hTp hpk;go_wp2_with fail;refine HPK.o.mono ?_;rintro e w4 ⟨rfl,g4⟩;clear HPK;have FK:=hid g4;clear g4;simp only[Hc.ans,Hc.tv];go_upto_region 3 with fail;obtain⟨W5,bU⟩:=aC (w4.alloc (.cells (cc c6) 49));obtain⟨b6,hb6⟩:=aC (w4.heap.size);have rX:Hid (Tk w W5 hb ff v v2 (kR N rs) (t0::L1) L2 [t0] np b2 b4 b6 zt (t0.1.1,t0.1.2.1,t0.1.2.2) c6):=by
   have g5:Gr w4 W5:=(by rw[bU];exact(Gr.refl _).alloc _);have gg:Below w2.heap.size w2 W5:=(Mm.o.trans (FK.o.trans g5)).below;have g35:Below W3.heap.size W3 W5:=(FK.o.trans g5).below;have z1:=yC.o.size;have z2:=HT2.o.1.size;have z3:=Mm.o.size;have z4:=FK.o.size;have e2:=HB2.o;have e4:=Fj.o;have l2:=ae Uq.o;have l3:=ae Zf.o;refine⟨HQ2.o.below gg,(gg.block _ l2).trans Uq.o,(g35.block _ l3).trans Zf.o,by rw[bU,hb6];exact ah _ _,⟨by omega,by omega,by omega⟩,⟨by omega,by omega,by omega⟩,Qs.o, ?_,fun g hg=> ?_⟩
   ·exact((Kp.aX yC.o).trans HT2.o.1 (fun _ _ h=>h)).trans (Kp.of_below (S:=fun _=>False) gg) (fun _ _ h=>h.elim)
   ·rcases HT2.o.2 g hg with k|k
    ·exact .inl k
    ·exact .inr (by omega)
  simp only[cc]at bU;rw[<-bU,<-hb6];have HMF:Hid (Mf [t0] t0.1 t0.1.2.2/\(∀x∈L2,kR N rs t0.1<=kR N rs x.1)/\L2.length<=(t0::L1).length):=by
   refine⟨⟨by simp,fun x hx=>by rw[yF]at hx;rw[hx];exact⟨rfl,rfl⟩,by simp[nz]⟩,fun x hx=> ?_, ?_⟩
   ·rcases Vm.o x hx with k|k<;>omega
   ·have:=Qs.o.length_eq;simp only[lC]at this⊢;omega
  clear bU hb6 Uq Zf Fj Mm FK HQ2 Qs Vm HT2;go_loopg [6,7] (t0::L1).length (fun gk s6 s7 wr=>∃(b6:Nat) (vr:Value) (L M:List It) (n:Int) (c6:Th) (mb:Bool),s6= .pointer (some ⟨b6,0,none⟩)/\s7= .bool mb/\Hid (Tk w wr hb ff v vr (kR N rs) (t0::L1) L M np b2 b4 b6 zt (t0.1.1,t0.1.2.1,n) c6)/\Hid (Tp L c6 mb/\Mf M t0.1 n/\(∀x∈L,kR N rs t0.1<=kR N rs x.1)/\L.length<=gk));case atStart=>exact⟨b6,v2,L2,[t0],t0.1.2.2,c6,mb,rfl,rfl,rX.o,⟨HTP.o,HMF.o.1,HMF.o.2.1,HMF.o.2.2⟩⟩
  case round=>
   clear rX HTP HMF;obtain⟨b6,vr,L,M,n,c6,mb,rfl,rfl,rX,Mo⟩:=hrel;obtain⟨x0,x1,x2,x3,x4,xz⟩:=vH rX.o.k4;obtain⟨y0,y1,y2,y3,y4,yz⟩:=vH rX.o.k6;simp only at x0 x1 x2 x3 x4;have Ux:Hid ((∀x∈L,¬I6 x.1 t0.1)->Tkn w hb ff v (kR N rs) (t0::L1) np (.returned (ans (t0.1.1,t0.1.2.1,n) true)) (uJ wr b2 (t0.1.1,t0.1.2.1,n))):=fun hns=>by
    have h2:=rX.o.set2 (t0.1.1,t0.1.2.1,n);have hc:I6 (t0.1.1,t0.1.2.1,n) t0.1:=⟨rfl,rfl⟩;refine .inr ⟨(t0.1.1,t0.1.2.1,n),vr,L,M,rfl,h2.hq,h2.perm,Mo.o.2.1.ne,fun x hx=>Mo.o.2.1.st x hx,Mo.o.2.1.sm,fun x hx=>⟨hns x hx, ?_⟩,h2.kp,h2.row⟩;have k1:=Mo.o.2.2.1 x hx;have k2:kR N rs t0.1≠kR N rs x.1:=fun e=>hns x hx (Jy HR.o (HV.o x (rX.o.perm.mem_iff.1 (List.mem_append_right _ hx))) (HV.o t0 (by simp)) e.symm);rw[Jw hc];omega
   obtain⟨z0,z1,z2,z3,z4,zz⟩:=vH rX.o.k2;have fz:=(aa rX.o.k2).2;have HS2:=hid (rX.o.set2 (t0.1.1,t0.1.2.1,n)).k2;simp only[uJ]at Ux HS2;cases mb with
   | false=>
    have HE:Hid (L=[]):=by
     rcases Mo.o.1 with k|k
     ·exact k.2
     ·exact absurd k.1 (by simp)
    have Uw:=hid (Ux.o (by rw[HE.o];intro x hx;cases hx));go_wp2_with fail;refine bR (v:=ans (t0.1.1,t0.1.2.1,n) true) ?_ rfl Uw;have qq:=(aa HS2.o).1;have q0:=qq 0;have q1:=qq 1;have q2:=qq 2;have q3:=qq 3;have q4:=qq 4;simp[results,Tryz.results79,go_sem,q0,q1,q2,q3,q4]
   | true=>
    obtain⟨y,hy,hc6⟩:∃y,L[0]? =some y/\c6=y.1:=by
     rcases Mo.o.1 with k|k
     ·exact absurd k.1 (by simp)
     ·exact k.2
    have HY:=hid hy;subst hc6;clear hy;obtain⟨sb,hsb⟩:=aC (VI y.1 t0.1);have aax:=fun W=>aaw y.1.1 y.1.2.1.1.1 y.1.2.1.1.2.1 y.1.2.1.1.2.2 t0.1.1 t0.1.2.1.1.1 t0.1.2.1.1.2.1 t0.1.2.1.1.2.2 W;have e9:(y.1.1==t0.1.1&&qB y.1.2.1.1.1 y.1.2.1.1.2.1 y.1.2.1.1.2.2 t0.1.2.1.1.1 t0.1.2.1.1.2.1 t0.1.2.1.1.2.2)=sb:=(by rw[hsb];rfl);simp only[e9]at aax;have gG:=hid hsb;clear aaw e9 hsb;cases sb with
    | false=>
     have Uw:=hid (Ux.o (fun x hx hs=>by
      have h1:¬I6 y.1 t0.1:=fun h=>(by have:=gG.o;rw[(Dm _ _).2 h]at this;cases this);obtain⟨_,k1⟩:=rX.o.hq.first HY.o;have k2:=Mo.o.2.2.1 y (lM HY.o);have k3:kR N rs t0.1≠kR N rs y.1:=fun e=>h1 (Jy HR.o (HV.o y (rX.o.perm.mem_iff.1 (List.mem_append_right _ (lM HY.o)))) (HV.o t0 (by simp)) e.symm);have k4:=k1 x hx;have k5:=Jw (N:=N) (rs:=rs) hs;omega))
     go_wp2_with fail;refine bR (v:=ans (t0.1.1,t0.1.2.1,n) true) ?_ rfl Uw;have qq:=(aa HS2.o).1;have q0:=qq 0;have q1:=qq 1;have q2:=qq 2;have q3:=qq 3;have q4:=qq 4;simp[results,Tryz.results79,go_sem,q0,q1,q2,q3,q4]
    | true=>
     have HST:Hid (I6 y.1 t0.1):=(Dm _ _).1 gG.o.symm;have HVL:Hid (∀z∈L,Vp N z.1/\-1<=z.1.2.2/\z.1.2.2<=1):=fun z hz=>⟨HV.o z (rX.o.perm.mem_iff.1 (List.mem_append_right _ hz)),HN.o z (rX.o.perm.mem_iff.1 (List.mem_append_right _ hz))⟩;have U3:M.length+L.length<=1099511627776:=by
      have:=rX.o.perm.length_eq;rw[dO]at this;have:=HL.o;omega
     have hbd: -1099511627776<=n/\n<=1099511627776:=by
      have:=Sj (M:=M) fun x hx=>HN.o x (rX.o.perm.mem_iff.1 (List.mem_append_left _ hx));rw[<-Mo.o.2.1.sm]at this;omega
     have hyN:=(HVL.o y (lM HY.o)).2;have hlp:0<L.length:=(lG.1 HY.o).1;obtain⟨gk,rfl⟩:∃g',gk=g'+1:=⟨gk-1,by have:=Mo.o.2.2.2;omega⟩;obtain⟨m,hm⟩:=aC (y.1.2.2);rw[<-hm]at hyN y4;have hw:wrap64 (n+m)=n+m:=(by unfold wrap64;omega);have HM:=hid hm;have Ao:=hid (And.intro hbd hyN);have vI:Hid (M.length+L.length<=1099511627776/\0<L.length):=⟨U3,hlp⟩;have f4:=(aa rX.o.k4).2;obtain⟨W6,Pk⟩:=aC (wr.setCell ⟨b4,4,none⟩ (.int .i64 (n+m)));have QT:Hid (Tk w W6 hb ff v vr (kR N rs) (t0::L1) L M np b2 b4 b6 zt (t0.1.1,t0.1.2.1,n+m) y.1):=(by rw[Pk];exact rX.o.abm (n+m));clear hm hbd hyN U3 hlp z0 z1 z2 z3 z4 zz fz HS2 Ux;go_upto_region 6 with fail;rw[<-Pk];clear Pk x0 x1 x2 x3 x4 xz y0 y1 y2 y3 y4 yz f4 hw aax rX;have Qq:=hid (qU (t:=y) W6 QT.o.hq HY.o (by have:=vI.o;omega) HF.o (HK.o W6 QT.o.kp) (fun z hz=>(HVL.o z hz).1));go_wp2_with fail;refine Qq.o.mono ?_;rintro e w7 ⟨v7,L7,rfl,hq7,hp7,Td,QI⟩;have HT7:=hid (QT.o.pop hq7 hp7 QI);have HP7:Hid ((y::L7).Perm L):=hp7;clear Qq hq7 hp7 Td QI QT;simp only[Hc.ans,Hc.tv];obtain⟨y0,y1,y2,y3,y4,yz⟩:=vH HT7.o.k6;go_upto_region 4 with fail;obtain⟨W8,QK⟩:=aC (w7.alloc (.cells (cc y.1) 49));obtain⟨b8,dN⟩:=aC (w7.heap.size);have HT8:Hid (Tk w W8 hb ff v v7 (kR N rs) (t0::L1) L7 (M++[y]) np b2 b4 b8 zt (t0.1.1,t0.1.2.1,n+m) y.1):=(by rw[QK,dN];exact HT7.o.Sn y.1);simp only[cc]at QK;rw[<-QK,<-dN];clear QK dN y0 y1 y2 y3 y4 yz HT7;obtain⟨c9,mb9,hTp,hpk⟩:=UK W8 HT8.o.hq;have HTP:=hid hTp;have HPK:=hid hpk;clear hTp hpk;go_wp2_with fail;refine HPK.o.mono ?_;rintro e w9 ⟨rfl,g9⟩;have HT9:=hid (HT8.o.gr g9.below);clear HPK g9 HT8;simp only[Hc.ans,Hc.tv];obtain⟨y0,y1,y2,y3,y4,yz⟩:=vH HT9.o.k6;have f9:=(aa HT9.o.k6).2;have aa7:=hid (HT9.o.abl c9);simp only[uJ]at aa7;clear HT9;go_wp2_with fail;go_roundg gk;case measure=>omega
     case rel=>
      refine⟨b8,v7,L7,M++[y],n+m,c9,mb9,rfl,rfl,aa7.o,⟨HTP.o, ?_,fun x hx=>Mo.o.2.2.1 x (HP7.o.mem_iff.1 (mO _ hx)), ?_⟩⟩
      ·rw[HM.o];exact Mo.o.2.1.snoc HST.o
      ·have k1:=HP7.o.length_eq;have k2:=Mo.o.2.2.2;rw[lC]at k1;omega
end Rc
section
open Go.RowKit Go.Sort
theorem TG{α:Type}(E:El α)(zs:List α)(i k:Nat)(y y':α)(u:Value)(hi:zs[i]? =some y)(hk:k<E.k)(he:(E.enc y).set k u=E.enc y'):(fl E zs).set (i*E.k+k) u=fl E (zs.set i y'):=by
 induction zs generalizing i with
 | nil => simp at hi
 | cons z zs ih=>
  rw[aO];cases i with
  | zero=>
   simp at hi;subst hi;rw[List.set_cons_zero,aO,<-he,Nat.zero_mul,nZ,List.set_append_left _ _ (by rw[E.len];exact hk)]
  | succ i=>
   have e1:(i+1)*E.k+k=E.k+(i*E.k+k):=(by rw[Nat.succ_mul];omega);rw[List.set_cons_succ,aO,<-ih i (by simpa using hi),e1,List.set_append_right _ _ (by rw[E.len];omega),E.len,Nat.add_sub_cancel_left]
theorem Ku{base:Nat}{e:TypeId}{size g n cap:Nat}{xs:List Value}(h:w.ownsRow base e size (.slice (some ⟨g,0,none⟩) n cap) n xs)(j:Nat)(u:Value):(w.setCell ⟨g,j,none⟩ u).ownsRow base e size (.slice (some ⟨g,0,none⟩) n cap) n (xs.set j u)/\Kp (fun k=>k=g) w (w.setCell ⟨g,j,none⟩ u):=by
 obtain⟨hx,hr⟩:=h;rcases hr with⟨h0,_⟩|⟨g',cap',cur,hv,hg,hh,hn,hm,hs,ht⟩
 ·cases h0
 ·simp only[vS,oI,aI]at hv;obtain⟨⟨rfl,-,-⟩,-,rfl⟩:=hv;have h2:=setCell_eq_setRow w g j _ _ _ u hh;have hk:Kp (fun k=>k=g) w (w.setCell ⟨g,j,none⟩ u):=by
   rw[h2];exact⟨rfl,rfl,rfl,by simp[World.setRow],fun k _ hne=>setRow_other w g k _ (by omega)⟩
  refine⟨⟨by simp[hx],Or.inr ⟨g,cap,cur.setIfInBounds j u,rfl,hg,by rw[h2,setRow_heap w g _ _ _ _ hh],hn,hm,by simp[hs], ?_⟩⟩,hk⟩;rw[Array.toList_setIfInBounds,List.take_set,ht]
end
namespace Df
open Go.RowKit Go.Sort
attribute[local go_sem ↓]wp_at_zero wp_at_succ
theorem xK{g:bD}(w:World)(h:Gm B w gb g):Calls Tryz.prog 103 #[.pointer (some ⟨gb,0,none⟩)] w fun r w'=>r= .returned (.int .i64 g.arity)/\w'=w:=by
 obtain⟨nv,ev,fv,pv,ys,ss,h⟩:=h;have cg:=(aa h.rows.blk).1;have lg:=ae h.rows.blk;clear h;go_enter Tryz.func103,Tryz.ntmps103;go_wp2_with fail;go_ret;exact⟨rfl,rfl⟩
end Df
section
open Go.ChangeShapes Go.WideShapes Go.ChangeAt Go.RowKit
theorem sG:joinedFacts Tryz.checked.prog 5 Tryz.f5 (OpenSpec.ofChange Rows.reachKeepsSpec).bare Rows.reachKeepsRow=true:=by kernel_rfl
end
end Go.Proofs.YtiiefcalkjeieaaGreat
