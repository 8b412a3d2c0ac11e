import Derived.Test.YtiiefcalkjeieaaGreatLfWalk
import Derived.Deep.CutBlock
import Derived.Test.YtiiefcalkjeieaaGreatJ21
variable{n B M b gb B' a:Nat}{w w':Go.World}{v:Go.Value}{T:Go.TypeId}{cs:Array Go.Value}{α:Type}
set_option maxHeartbeats 8000000
set_option maxRecDepth 100000
namespace Go.Proofs.YtiiefcalkjeieaaGreat
namespace Lf.Rz
open Go.RowKit Go.Sort Pt
open Df (bD aT gY Gm)
def Vf(w:World)(g:bD)(r:Ending)(w':World):Prop:=Sz.Vf 167 165 w g r w'
theorem dA{g:bD}(w:World)(h:Gm B w gb g)(j5:gY g)(hP:uG g):Calls Tryz.prog 104 #[.pointer (some ⟨gb,0,none⟩)] w (Vf w g):=Sz.dA (.inr ⟨rfl,rfl,rfl,rfl⟩) w h j5 hP
end Lf.Rz
namespace Pt
end Pt
namespace Lf
open Go.RowKit Go.Sort Pt
attribute[local go_sem ↓]wp_at_zero wp_at_succ
open Df (hid dL nY gW LV EC sK aB aZ aD aF aa ae)
end Lf
namespace Lf
open Go.RowKit Go.Sort Pt
open Df (hid dL bD nY gW aT rV ig gY LV EL aB aZ aD aF aa ae eQ)
def Cy(B:Nat)(w:World)(v:Value)(n:Nat)(rows:Nat->List ai):Prop:=∃vs:List LV,w.ownsRow B 50 1 v n (fl EL vs)/\vs.length=n/\∀(q:Nat) (x:LV),vs[q]? =some x->w.ownsRow B 52 3 x.v (rows q).length (fl ET (rows q))
theorem Cy.below{rows:Nat->List ai}(h:Cy B w v n rows)(hb:Below w.heap.size w w'):Cy B w' v n rows:=by
 obtain⟨vs,h1,h2,h3⟩:=h;exact⟨vs,ag h1 hb,h2,fun q x hx=>ag (h3 q x hx) hb⟩
theorem Cy.base{rows:Nat->List ai}(h:Cy B w v n rows)(hb:B'<=B):Cy B' w v n rows:=by
 obtain⟨vs,h1,h2,h3⟩:=h;exact⟨vs,aL h1 hb,h2,fun q x hx=>aL (h3 q x hx) hb⟩
theorem Cy.other{m:Nat}{u:Value}{rows:Nat->List ai}{z:Nat}{xs:List Value}(h:Cy B w v n rows)(ho:w.ownsRow B' T z u m xs)(h1:T≠50)(h2:T≠52)(hk:Kp (fun k=>u.ownBlock=some k) w w'):Cy B w' v n rows:=by
 obtain⟨vs,a1,a2,a3⟩:=h;exact⟨vs,av hk a1 (fun k e e2=>aD ho a1 h1 k e2 e),a2,fun q x hx=>av hk (a3 q x hx) (fun k e e2=>aD ho (a3 q x hx) h2 k e2 e)⟩
theorem Cy.block{rows:Nat->List ai}{z:Nat×Nat}(h:Cy B w v n rows)(hb:w.heap[b]? =some (.cells cs T z))(h1:50≠T)(h2:52≠T)(hk:Kp (fun k=>k=b) w w'):Cy B w' v n rows:=by
 obtain⟨vs,a1,a2,a3⟩:=h;exact⟨vs,av hk a1 (fun k e e2=>aF a1 hb h1 k e e2),a2,fun q x hx=>av hk (a3 q x hx) (fun k e e2=>aF (a3 q x hx) hb h2 k e e2)⟩
def ofV:Value->LV
 | .slice q m c => ⟨q,m,c⟩
 | _ => ⟨none,0,0⟩
theorem Tb.rw2{vs:List Vw}{rows:Nat->List ai}(h:Tb B w v vs ((List.range n).map rows)):Cy B w v n rows:=by
 have hl:((List.range n).map rows).length=n:=by simp
 have hv:vs.length=n:=by rw[h.len,hl]
 have hg:∀(i:Nat) (u:Vw),vs[i]? =some u->w.ownsRow B 52 3 u.1 (rows i).length (fl ET (rows i)):=fun i u hu=>by
  have hi:i<n:=by rw[<-hv];exact(lG.1 hu).1
  exact(h.each i u (rows i) hu (by rw[gM,List.getElem?_range hi];rfl)).1
 have hf:∀u∈vs,(ofV u.1).v=u.1:=fun u hu=>by
  obtain⟨i,hi⟩:=iG.1 hu;obtain⟨q,m,c,e⟩:=aB (hg i u hi);rw[e];rfl
 refine⟨vs.map (fun u=>ofV u.1), ?_,by rw[gK,hv],fun q x hx=> ?_⟩
 ·have e:fl EL (vs.map (fun u=>ofV u.1))=fl EV vs:=by
    rw[U5,List.map_map];have:fl EV vs=vs.map (fun u=>u.1):=by
     clear hf hg hv h
     induction vs with
     | nil => rfl
     | cons x l ih => rw[aO,ih];rfl
    rw[this];exact List.map_congr_left (fun u hu=>hf u hu)
  rw[e];have h1:=h.row;rw[hl]at h1;exact h1
 ·rw[gM]at hx;cases e:vs[q]? with
  | none => rw[e]at hx;cases hx
  | some u=>
   rw[e]at hx;cases hx;rw[hf u (lM e)];exact hg q u e
structure T3(B:Nat)(w:World)(v:Value)(us:List LV)(n:Nat)(R:Nat->Nat->List ai):Prop where
 row:w.ownsRow B 143 1 v us.length (fl EL us)
 each:∀(p:Nat) (u:LV),us[p]? =some u->Cy B w u.v n (R p)
theorem T3.nil(B:Nat)(w:World)(n:Nat)(R:Nat->Nat->List ai):T3 B w (.slice none 0 0) [] n R:=⟨oN _ _ _ _,fun p u h=>by simp at h⟩
theorem T3.below{us:List LV}{R:Nat->Nat->List ai}(h:T3 B w v us n R)(hb:Below w.heap.size w w'):T3 B w' v us n R:=⟨ag h.row hb,fun p u hu=>(h.each p u hu).below hb⟩
theorem T3.block{us:List LV}{R:Nat->Nat->List ai}{z:Nat×Nat}(h:T3 B w v us n R)(hb:w.heap[b]? =some (.cells cs T z))(h0:143≠T)(h1:50≠T)(h2:52≠T)(hk:Kp (fun k=>k=b) w w'):T3 B w' v us n R:=
 ⟨av hk h.row (fun k e e2=>aF h.row hb h0 k e e2),fun p u hu=>(h.each p u hu).block hb h1 h2 hk⟩
theorem T3.app{g cap:Nat}{w1:World}{us:List LV}{R:Nat->Nat->List ai}{u:LV}{rows:Nat->List ai}(h:T3 B w v us n R)(hr:Cy B w u.v n rows)
    (h1:w1.ownsRow B 143 1 (.slice (some ⟨g,0,none⟩) (us.length+1) cap) (us.length+1) (fl EL us++EL.enc u)) (h2:w.grownBy w1 v.ownBlock):T3 B w1 (.slice (some ⟨g,0,none⟩) (us.length+1) cap) (us++[u]) n (fun p=>if p=us.length then rows else R p):=by
 have hK:Kp (fun k=>v.ownBlock=some k) w w1:=Kp.grownBy h2 (fun _ h=>h);refine⟨?_,fun p x hx=> ?_⟩
 ·rw[dO,vL];exact aS h1 rfl (by rw[aQ,dK])
 ·rw[List.getElem?_append]at hx;split at hx
  ·rename_i hp;simp only[if_neg (show ¬p=us.length by omega)];exact(h.each p x hx).other h.row (by decide) (by decide) hK
  ·have e:p=us.length:=by
     have:=(lG.1 hx).1;simp at this;omega
   subst e;rw[Nat.sub_self]at hx;cases hx;simp only[if_true];exact hr.other h.row (by decide) (by decide) hK
def Lq{α:Type}(E:El α)(M:Nat)(w:World)(v:Value)(l:List α):Prop:=Ls E w v l/\∀k,v.ownBlock=some k->k<M
theorem Lq.keep{E:El α}{l:List α}(h:Lq E M w v l)(hb:Below M w w'):Lq E M w' v l:=⟨h.1.kept hb.size (fun g hg=>hb.block g (h.2 g hg)),h.2⟩
theorem GN{E:El α}{l:List α}(h:w.ownsRow B T E.k v l.length (fl E l)):Lq E w.heap.size w v l:=⟨aH h,fun k hk=>(h.lt k hk).2⟩
def Tq(M:Nat)(w:World)(v:Value)(n:Nat)(R:Nat->Nat->List ai):Prop:=∃us:List LV,Lq EL M w v us/\us.length=n/\∀(p:Nat) (u:LV),us[p]? =some u->∃vs:List LV,Lq EL M w u.v vs/\vs.length=n/\∀(q:Nat) (x:LV),vs[q]? =some x->Lq ET M w x.v (R p q)
theorem Tq.keep{R:Nat->Nat->List ai}(h:Tq M w v n R)(hb:Below M w w'):Tq M w' v n R:=by
 obtain⟨us,h1,h2,h3⟩:=h;refine⟨us,h1.keep hb,h2,fun p u hu=> ?_⟩;obtain⟨vs,a1,a2,a3⟩:=h3 p u hu;exact⟨vs,a1.keep hb,a2,fun q x hx=>(a3 q x hx).keep hb⟩
theorem T3.tq{us:List LV}{R:Nat->Nat->List ai}(h:T3 B w v us n R)(hn:us.length=n):Tq w.heap.size w v n R:=by
 refine⟨us,GN (E:=EL) h.row,hn,fun p u hu=> ?_⟩;obtain⟨vs,a1,a2,a3⟩:=h.each p u hu;exact⟨vs,GN (E:=EL) (by rw[a2];exact a1),a2,fun q x hx=>GN (E:=ET) (a3 q x hx)⟩
def TP(M:Nat)(w:World)(tb n:Nat)(R:Nat->Nat->List ai):Prop:=∃v,w.heap[tb]? =some (.cells #[v] 105 (0,0))/\tb<M/\Tq M w v n R
theorem TP.keep{tb:Nat}{R:Nat->Nat->List ai}(h:TP M w tb n R)(hb:Below M w w'):TP M w' tb n R:=by
 obtain⟨v,h1,h2,h3⟩:=h;exact⟨v,(hb.block _ h2).trans h1,h2,h3.keep hb⟩
abbrev uR(g:bD):Nat->Nat->ai->Prop:=JX (Gd (aT g.nodes) (rV g))
inductive FE (g:bD):Option (Option (Nat->Nat->List ai))->Prop
 | cyc (h:eQ (ig g).length (ig g) (ig g).length=none):FE g none
 | wide (h:eQ (ig g).length (ig g) (ig g).length≠none) (p:Nat) (hp:p<aT g.nodes) (hr:rW PX (uR g) p none):FE g (some none)
 | tab (R:Nat->Nat->List ai) (h:eQ (ig g).length (ig g) (ig g).length≠none) (hr:∀p,p<aT g.nodes->rW PX (uR g) p (some (R p))):FE g (some (some R))
theorem FE.same{g:bD}{a b:Option (Option (Nat->Nat->List ai))}(h:FE g a)(k:FE g b):(a=none/\b=none)\/(a=some none/\b=some none)\/∃R R',a=some (some R)/\b=some (some R')/\∀p,p<aT g.nodes->R p=R' p:=by
 have key:∀(R:Nat->Nat->List ai) (p:Nat),p<aT g.nodes->rW PX (uR g) p none->(∀p,p<aT g.nodes->rW PX (uR g) p (some (R p)))->False:=fun R p hp h1 h2=>by
  have:=rW.same bJ h1 (h2 p hp);cases this
 cases h with
 | cyc h=>
  cases k with
  | cyc k => exact Or.inl ⟨rfl,rfl⟩
  | wide k => exact absurd h k
  | tab R k => exact absurd h k
 | wide h p hp hr=>
  cases k with
  | cyc k => exact absurd k h
  | wide k => exact Or.inr (Or.inl ⟨rfl,rfl⟩)
  | tab R k hr' => exact(key R p hp hr hr').elim
 | tab R h hr=>
  cases k with
  | cyc k => exact absurd k h
  | wide k p hp hr' => exact(key R p hp hr' hr).elim
  | tab R' k hr'=>
   refine Or.inr (Or.inr ⟨R,R',rfl,rfl,fun p hp=> ?_⟩);have:=rW.same bJ (hr p hp) (hr' p hp);exact oJ this
theorem JB:(Tryz.prog.info? 143).map (fun i=>(i.zero,i.size,i.bytes))=some (some (.slice none 0 0),1,24):=by kernel_rfl
end Lf
namespace Lf
open Go.RowKit Go.Sort Pt
open Df (hid dL bD nY gW aT rV ig gY LV EL aB aZ aD aF aa ae bC eQ Gm jm)
attribute[local go_sem ↓]wp_at_zero wp_at_succ
def Un(w:World)(g:bD)(e:Ending)(w':World):Prop:=Below w.heap.size w w'/\∃a,FE g a/\((a=none/\e= .returned (.tuple #[.pointer none, .int .i64 27]))\/(a=some none/\e= .returned (.tuple #[.pointer none, .int .i64 28]))\/∃R tb,a=some (some R)/\e= .returned (.tuple #[.pointer (some ⟨tb,0,none⟩), .int .i64 0])/\TP w'.heap.size w' tb (aT g.nodes) R)
theorem dF{g:bD}(w:World)(h:Gm B w gb g)(j5:gY g)(hP:uG g):Calls Tryz.prog 33 #[.pointer (some ⟨gb,0,none⟩)] w (Un w g):=by
 have xC:=jm w h j5;have HM:Hid (∀W,Below w.heap.size w W->Gm B W gb g):=fun W hb=>h.below hb;have iM:=hid j5;have Yv:=hid hP;have hpl:=Df.mY j5;clear h j5 hP;go_enter Tryz.func33,Tryz.ntmps33;go_wp2_with fail;refine xC.mono ?_;clear xC;rintro r w1 ⟨hb1,hr⟩;rcases hr with⟨hno,rfl⟩|⟨o,f,d,hso,rfl,_⟩
 ·have FIN:Hid (Un w g (.returned (.tuple #[.pointer none, .int .i64 27])) w1):=⟨hb1,none, .cyc hno,Or.inl ⟨rfl,rfl⟩⟩;go_wp2;refine bR (v:= .tuple #[.pointer none, .int .i64 27]) (by simp[results,Tryz.results33,go_sem]) rfl ?_;exact FIN.o
 ·have Us:Hid (eQ (ig g).length (ig g) (ig g).length≠none):=fun e=>by rw[hso]at e;cases e
  clear hso;have hst:=dA w1 (HM.o w1 hb1) iM.o Yv.o;have HB1:=hid hb1;clear hb1;go_wp2_with fail;refine hst.mono ?_;clear hst;rintro r w2 ⟨gs,vs,rfl,hb2,hvl,hfw⟩;obtain⟨n,hn⟩:=aC (aT g.nodes);rw[<-hn]at hfw hvl hpl⊢;have HN:=hid hn;have J2:Hid (Sp w2 (.slice (some ⟨gs,0,none⟩) n n) (Gd n (uX g))):=by
   have h1:=hfw.sp;rw[hvl]at h1;exact h1
  have HB2:=hid (HB1.o.trans (hb2.mono HB1.o.size));clear hb2 hfw hvl hn HB1;obtain⟨tb,htb⟩:=aC (w2.heap.size);obtain⟨W3,hW3⟩:=aC (w2.alloc (.cells #[.slice none 0 0] 105));have P3:Hid (Below w2.heap.size w2 W3/\W3.heap[tb]? =some (.cells #[.slice none 0 0] 105 (0,0))/\w2.heap.size<=tb):=by
   rw[hW3,htb];exact⟨((Gr.refl w2).alloc _).below,ah _ _,nR _⟩
  have HW3:Hid (w2.alloc (.cells #[.slice none 0 0] 105)=W3/\w2.heap.size=tb):=⟨hW3.symm,htb.symm⟩;clear hW3 htb;go_upto_region 6 with fail;rw[HW3.o.1,HW3.o.2];clear HW3;go_wp2_with fail;go_loopw [8,9,10,25] (fun _ _ _ VX wr=>∃(i:Nat) (v:Value) (us:List LV) (R:Nat->Nat->List ai),i<=n/\VX= .int .i64 i/\Hid (us.length=i/\Below w2.heap.size w2 wr/\wr.heap[tb]? =some (.cells #[v] 105 (0,0))/\T3 w2.heap.size wr v us n R/\∀p,p<i->rW PX (uR g) p (some (R p)))) (fun _ _ _ VX _=>n-(intOf VX).toNat);case atStart=>exact⟨0,_,[],fun _ _=>[],zL _,rfl,rfl,P3.o.1,P3.o.2.1,T3.nil _ _ _ _,fun p hp=>absurd hp (nW _)⟩
  case round=>
   obtain⟨i,v,us,R,hi,rfl,HI⟩:=hrel;by_cases hlt:i<n
   ·have hltz:(i:Int)<(n:Int):=(by omega);have hi0:(0:Int)<=(i:Int):=(by omega);have hlf:=pQ i n 432 (.slice (some ⟨gs,0,none⟩) n n) (Gd n (uX g)) wr (J2.o.below HI.o.2.1) (jK _ _) hlt (by
     have h:=MU iM.o (l:=uX g) (fun c hc=>kW.1 hc);rw[<-HN.o]at h;rw[jK]at h;exact h) (MV (AZ iM.o)) (by
     have:64*n*(432+1)<=64*192*(432+1):=Nat.mul_le_mul (Nat.mul_le_mul (nR _) hpl) (nR _);omega)
    go_wp2_with fail;refine hlf.mono ?_;clear hlf;rintro r w5 ⟨hb5,a,hres,hcase⟩;have IP:Hid (rW PX (uR g) i a):=by
     rw[HN.o,Dj]at hres;exact hres
    clear hres;rcases hcase with⟨rfl,rfl⟩|⟨rows,v5,vs5,rfl,rfl,G8⟩
    ·have FIN:Hid (Un w g (.returned (.tuple #[.pointer none, .int .i64 28])) w5):=⟨HB2.o.trans ((HI.o.2.1.trans (hb5.mono HI.o.2.1.size)).mono HB2.o.size),some none, .wide Us.o i (by rw[<-HN.o];exact hlt) IP.o,Or.inr (Or.inl ⟨rfl,rfl⟩)⟩;clear hb5;go_wp2;refine bR (v:= .tuple #[.pointer none, .int .i64 28]) (by simp[results,Tryz.results33,go_sem]) rfl ?_;exact FIN.o
    ·have hrw:Cy wr.heap.size w5 v5 n rows:=by
       rw[jK]at G8;exact G8.rw2
     obtain⟨u,hu⟩:∃u:LV,u.v=v5:=by
      obtain⟨vs,h1,_⟩:=hrw;obtain⟨q,m,c,e⟩:=aB h1;exact⟨⟨q,m,c⟩,e.symm⟩
     subst hu;clear G8;have hbx:=(hb5.block _ (ae HI.o.2.2.1)).trans HI.o.2.2.1;have cx:=(aa hbx).1;have lx:=ae hbx;have HT5:=hid (HI.o.2.2.2.1.below hb5);have tQ:Hid (Cy w2.heap.size w5 u.v n rows/\w5.heap[tb]? =some (.cells #[v] 105 (0,0))/\Below w2.heap.size w2 w5):=⟨hrw.base HI.o.2.1.size,hbx,HI.o.2.1.trans (hb5.mono HI.o.2.1.size)⟩;have HOW:Hid (w5.ownsRow w2.heap.size 143 1 v i (fl EL us)):=aS HT5.o.row HI.o.1 rfl;have UT:w2.heap.size<=w5.heap.size:=tQ.o.2.2.size;obtain⟨uq,um,uc⟩:=u;clear hrw hbx hb5;go_wp2_with (at_builtin;refine gu EL Tryz.underlying103 JB rfl (by decide) rfl _ _ rfl w2.heap.size _ i _ rfl HOW.o ⟨uq,um,uc⟩ rfl (by omega) (by unfold maxLen;omega) UT _ rfl _ ?_);intro g6 c6 w6 qD nK Ec;have Xw:Kp (fun k=>v.ownBlock=some k) w5 w6:=Kp.grownBy nK (fun _ h=>h);have sP:w6.heap[tb]? =some (.cells #[v] 105 (0,0)):=(Xw.block _ (ae tQ.o.2.1) (fun e=>aF HOW.o tQ.o.2.1 (by decide) tb e rfl)).trans tQ.o.2.1;have QT:Hid (T3 w2.heap.size w6 (.slice (some ⟨g6,0,none⟩) (i+1) c6) (us++[⟨uq,um,uc⟩]) n (fun p=>if p=i then rows else R p)):=by
      have e:=HI.o.1;have h1:=HT5.o.app (g:=g6) (cap:=c6) (w1:=w6) tQ.o.1 (by rw[e];exact qD) nK;rw[e]at h1;exact h1
     have Fh:Hid (Below w2.heap.size w2 w6):=tQ.o.2.2.trans (Xw.below tQ.o.2.2.size (fun k hk=>(HOW.o.lt k hk).1));have cx6:=(aa sP).1;have fx6:=(aa sP).2;have lx6:=ae sP;obtain⟨b7,k7⟩:=bC sP 0 (.slice (some ⟨g6,0,none⟩) (i+1) c6);have P7:Hid ((w6.setCell ⟨tb,0,none⟩ (.slice (some ⟨g6,0,none⟩) (i+1) c6)).heap[tb]? =some (.cells #[.slice (some ⟨g6,0,none⟩) (i+1) c6] 105 (0,0))/\Below w2.heap.size w2 (w6.setCell ⟨tb,0,none⟩ (.slice (some ⟨g6,0,none⟩) (i+1) c6))/\T3 w2.heap.size (w6.setCell ⟨tb,0,none⟩ (.slice (some ⟨g6,0,none⟩) (i+1) c6)) (.slice (some ⟨g6,0,none⟩) (i+1) c6) (us++[⟨uq,um,uc⟩]) n (fun p=>if p=i then rows else R p)):=⟨b7,Fh.o.trans (k7.below Fh.o.size (fun k hk=>by rw[hk];exact P3.o.2.2)),QT.o.block sP (by decide) (by decide) (by decide) k7⟩;clear b7 k7 sP qD nK Ec Xw cx lx;go_wp2_with fail;go_roundw;case rel=>
      refine⟨i+1,_,us++[⟨uq,um,uc⟩],fun p=>if p=i then rows else R p,by omega,by first|rfl|go_num,by rw[dO,HI.o.1];rfl,P7.o.2.1,P7.o.1,P7.o.2.2,fun p hp=> ?_⟩
      by_cases e:p=i
      ·subst e;simp only[if_true];exact IP.o
      ·simp only[if_neg e];exact HI.o.2.2.2.2 p (by omega)
     case measure=>simp[intOf];omega
   ·have hltz:¬(i:Int)<(n:Int):=(by omega);have hie:i=n:=(by omega);subst hie;have FIN:Hid (Un w g (.returned (.tuple #[.pointer (some ⟨tb,0,none⟩), .int .i64 0])) wr):=⟨HB2.o.trans (HI.o.2.1.mono HB2.o.size),some (some R), .tab R Us.o (by rw[<-HN.o];exact HI.o.2.2.2.2),Or.inr (Or.inr ⟨R,tb,rfl,rfl,by
     rw[<-HN.o];exact⟨v,HI.o.2.2.1,ae HI.o.2.2.1,HI.o.2.2.2.1.tq HI.o.1⟩⟩)⟩
    go_wp2;refine bR (v:= .tuple #[.pointer (some ⟨tb,0,none⟩), .int .i64 0]) (by simp[results,Tryz.results33,go_sem]) rfl ?_;exact FIN.o
end Lf
namespace Df
open Go.RowKit Go.Sort
attribute[local go_sem ↓]wp_at_zero wp_at_succ
end Df
namespace Df
open Go.RowKit Go.Sort
theorem Rk.rank{ls:List (List Int)}{us:List Nat}{f:Nat->Int}(h:Or ls us)(hr:Rk ls us us.length f)(q:Nat):(∀p,Sp ls p q->f p+1<=f q)/\(f q=0\/∃p,Sp ls p q/\f p+1=f q):=by
 refine⟨fun p hp=>hr.up p q (by rw[tK];exact all_in h.nd h.bd h.len p hp.lt) hp, ?_⟩;by_cases e:0<f q
 ·obtain⟨p,_,h1,h2⟩:=hr.held q e;exact Or.inr ⟨p,h1,h2⟩
 ·exact Or.inl (by have:=(hr.pos q).1;omega)
section
variable {ls:List (List Int)} {q:Nat}
end
attribute[local go_sem ↓]wp_at_zero wp_at_succ
end Df
namespace Lf
open Go.RowKit Go.Sort Pt
open Df (hid dL bD nY gW aT rV ig gY LV EL EC aB aZ aD aF aa ae bC eQ GR NV dQ jS jc)
attribute[local go_sem ↓]wp_at_zero wp_at_succ
end Lf
namespace Lf
open Go.RowKit Go.Sort Pt
open Df (hid dL bD nY gW aT rV ig gY LV EL aa ae GR NV dQ jS jc yo Fl)
attribute[local go_sem ↓]wp_at_zero wp_at_succ
end Lf
namespace Lf
open Go.RowKit Go.Sort Pt
open Df (hid dL bD nY gW aT rV ig gY LV EL aa ae GR NV dQ jS jc yo Fl eQ)
attribute[local go_sem ↓]wp_at_zero wp_at_succ
end Lf
namespace Lf
open Go.RowKit Go.Sort Pt
attribute[local go_sem ↓]wp_at_zero wp_at_succ
open Df (hid LV EL aa ae qh)
def Tv(M:Nat)(w:World)(tv:Value)(n:Nat)(R:Nat->Nat->List ai):Prop:=(tv= .pointer none/\n=0)\/∃tb,tv= .pointer (some ⟨tb,0,none⟩)/\TP M w tb n R
theorem Tv.keep{tv:Value}{R:Nat->Nat->List ai}(h:Tv M w tv n R)(hb:Below M w w'):Tv M w' tv n R:=by
 rcases h with h|⟨tb,h1,h2⟩
 ·exact Or.inl h
 ·exact Or.inr ⟨tb,h1,h2.keep hb⟩
def bt(n:Nat)(R:Nat->Nat->List ai)(p q:Int):List ai:=if (0<=p/\p<n)/\0<=q/\q<n then R p.toNat q.toNat else[]
theorem Vd{p q:Nat}{R:Nat->Nat->List ai}(hp:p<n)(hq:q<n):bt n R p q=R p q:=by
 unfold bt;rw[if_pos ⟨⟨by omega,by omega⟩,by omega,by omega⟩];simp
theorem Tq.at{R:Nat->Nat->List ai}(h:Tq M w v n R):∃ps cs,v= .slice ps n cs/\∀p q,p<n->q<n->∃b off b2 o2 c2 pq cq,ps=some ⟨b,off,none⟩/\b<w.heap.size/\w.cell? ⟨b,off+p,none⟩=some (.slice (some ⟨b2,o2,none⟩) n c2)/\b2<w.heap.size/\w.cell? ⟨b2,o2+q,none⟩=some (.slice pq (R p q).length cq)/\Lq ET M w (.slice pq (R p q).length cq) (R p q):=by
 obtain⟨us,h1,h2,h3⟩:=h;obtain⟨ps,cs,e⟩:=h1.1.form;rw[h2]at e;refine⟨ps,cs,e,fun p q hp hq=> ?_⟩;obtain⟨u,hu⟩:∃u,us[p]? =some u:=⟨us[p]'(by omega),by simp⟩;obtain⟨vs,a1,a2,a3⟩:=h3 p u hu;obtain⟨x,hx⟩:∃x,vs[q]? =some x:=⟨vs[q]'(by omega),by simp⟩;obtain⟨b,off,c,e1,hb,hc⟩:=qh h1.1 hu;rw[e]at e1;simp only[vS]at e1;obtain⟨b2,o2,c2,e2,hb2,hc2⟩:=qh a1.1 hx;rw[a2]at e2;have hx3:=a3 q x hx;obtain⟨pq,cq,e3⟩:=hx3.1.form;rw[e3]at hc2 hx3;rw[e2]at hc;exact⟨b,off,b2,o2,c2,pq,cq,e1.1,hb,hc,hb2,hc2,hx3⟩
theorem eY{tv:Value}{R:Nat->Nat->List ai}(w:World)(h:Tv M w tv n R):Calls Tryz.prog 11 #[tv] w fun e w'=>e= .returned (.int .i64 (n:Nat))/\w'=w:=by
 rcases h with⟨rfl,rfl⟩|⟨tb,rfl,v,h1,_,h3⟩
 ·go_enter Tryz.func11,Tryz.ntmps11;go_wp2;go_ret;exact⟨rfl,rfl⟩
 ·obtain⟨ps,cs,rfl,_⟩:=h3.at;have c1:=(aa h1).1;have l1:=ae h1;clear h1 h3;go_enter Tryz.func11,Tryz.ntmps11;go_wp2;go_ret;exact⟨rfl,rfl⟩
theorem fO(x:Int)(n:Nat)(b:Bool)(hb:b=decide (0<=x/\x<n))(w:World):Calls Tryz.prog 90 #[.int .i64 x, .int .i64 (n:Nat)] w fun e w'=>e= .returned (.bool b)/\w'=w:=by
 by_cases h0:0<=x
 ·by_cases h1:x<n
  ·have e:b=true:=(by rw[hb];simp;omega);subst e;clear hb;go_enter Tryz.func90,Tryz.ntmps90;go_wp2;go_ret;exact⟨rfl,rfl⟩
  ·have e:b=false:=(by rw[hb];simp;omega);subst e;clear hb;go_enter Tryz.func90,Tryz.ntmps90;go_wp2;go_ret;exact⟨rfl,rfl⟩
 ·have e:b=false:=by rw[hb];simp;omega
  subst e;clear hb;go_enter Tryz.func90,Tryz.ntmps90;go_wp2;go_ret;exact⟨rfl,rfl⟩
theorem nX{tv:Value}{R:Nat->Nat->List ai}(p q:Int)(w:World)(h:Tv M w tv n R):Calls Tryz.prog 46 #[tv, .int .i64 p, .int .i64 q] w fun e w'=>∃pp c,e= .returned (.slice pp (bt n R p q).length c)/\w'=w/\Lq ET M w (.slice pp (bt n R p q).length c) (bt n R p q):=by
 obtain⟨bp,hbp⟩:=aC (decide (0<=p/\p<(n:Int)));obtain⟨bq,hbq⟩:=aC (decide (0<=q/\q<(n:Int)));have hpl:=eY w h;have hap:=fO p n bp hbp w;have haq:=fO q n bq hbq w;have HT:=hid h;have HBP:=hid hbp;have HBQ:=hid hbq;clear h hbp hbq;cases bp with
 | false=>
  have HE:Hid (bt n R p q=[]):=by
   unfold bt;rw[if_neg (fun h=> ?_)]
   ·exact rfl
   ·have:=HBP.o;rw[decide_eq_true h.1]at this;cases this
  rw[HE.o];go_enter Tryz.func46,Tryz.ntmps46;go_wp2_with fail;refine hpl.mono ?_;rintro e w1 ⟨rfl,hw1⟩;rw[hw1];clear hw1;go_wp2_with fail;refine hap.mono ?_;rintro e w2 ⟨rfl,hw2⟩;rw[hw2];clear hw2;go_wp2;go_ret;exact⟨none,0,rfl,rfl,Ls.nil w,fun k hk=>by simp[Value.ownBlock]at hk⟩
 | true=>
  cases bq with
  | false=>
   have HE:Hid (bt n R p q=[]):=by
    unfold bt;rw[if_neg (fun h=> ?_)]
    ·exact rfl
    ·have:=HBQ.o;rw[decide_eq_true h.2]at this;cases this
   rw[HE.o];go_enter Tryz.func46,Tryz.ntmps46;go_wp2_with fail;refine hpl.mono ?_;rintro e w1 ⟨rfl,hw1⟩;rw[hw1];clear hw1;go_wp2_with fail;refine hap.mono ?_;rintro e w2 ⟨rfl,hw2⟩;rw[hw2];clear hw2;go_wp2_with fail;refine hpl.mono ?_;rintro e w3 ⟨rfl,hw3⟩;rw[hw3];clear hw3;go_wp2_with fail;refine haq.mono ?_;rintro e w4 ⟨rfl,hw4⟩;rw[hw4];clear hw4;go_wp2;go_ret;exact⟨none,0,rfl,rfl,Ls.nil w,fun k hk=>by simp[Value.ownBlock]at hk⟩
  | true=>
   obtain⟨h1,h2⟩:=of_decide_eq_true HBP.o.symm;obtain⟨h3,h4⟩:=of_decide_eq_true HBQ.o.symm;obtain⟨pn,rfl⟩:=Int.eq_ofNat_of_zero_le h1;obtain⟨qn,rfl⟩:=Int.eq_ofNat_of_zero_le h3;have hpn:pn<n:=(by omega);have WQ:qn<n:=(by omega);rw[Vd hpn WQ];rcases HT.o with⟨_,h0⟩|⟨tb,rfl,v,b1,_,b3⟩
   ·omega
   ·obtain⟨ps,cs,rfl,hat⟩:=b3.at;obtain⟨b,off,b2,o2,c2,pq,cq,rfl,z1,z2,z3,z4,z5⟩:=hat pn qn hpn WQ;have c1:=(aa b1).1;have l1:=ae b1;have HZ:=hid z5;clear b1 b3 hat z5 HT;generalize hrl:(R pn qn).length=rl at *;go_enter Tryz.func46,Tryz.ntmps46;go_wp2_with fail;refine hpl.mono ?_;rintro e w1 ⟨rfl,hw1⟩;rw[hw1];clear hw1;go_wp2_with fail;refine hap.mono ?_;rintro e w2 ⟨rfl,hw2⟩;rw[hw2];clear hw2;go_wp2_with fail;refine hpl.mono ?_;rintro e w3 ⟨rfl,hw3⟩;rw[hw3];clear hw3;go_wp2_with fail;refine haq.mono ?_;rintro e w4 ⟨rfl,hw4⟩;rw[hw4];clear hw4;go_wp2;go_ret;exact⟨pq,cq,rfl,rfl,HZ.o⟩
end Lf
section
open Go.RowKit Go.Sort Go.Maps
attribute[local go_sem ↓]wp_at_zero wp_at_succ
theorem KA(x t:Tm)(B:Nat)(w:World)(hB:B<w.heap.size)(g0:w.cell? ⟨B,0,none⟩=some (.int .u64 t.1.1))(g1:w.cell? ⟨B,1,none⟩=some (.int .u64 t.1.2.1))(g2:w.cell? ⟨B,2,none⟩=some (.int .u64 t.1.2.2)):
    Calls Tryz.prog 254 #[tv x, .pointer (some ⟨B,0,none⟩)] w fun e w'=>e= .returned (.bool (ay x t))/\Gr w w':=by
 have H:=fun W=>fG.calls x t W;generalize ay x t=r at H⊢;have hne:B≠w.heap.size:=by omega
 go_enter Tryz.func254,Tryz.ntmps254;go_wp2_with (go_at_call 18;refine(H _).mono ?_;rintro e w1 ⟨rfl,hg⟩);go_ret;exact⟨rfl,((Gr.refl _).alloc _).trans hg⟩
theorem Kk(v:Value)(l:List Tm)(x:Tm)(w:World)(hv:og w v l)(hl:l.length<=maxLen):
    Calls Tryz.prog 206 #[v,tv x] w fun e w'=>e= .returned (.bool (bE ay l x))/\Gr w w':=by
 obtain⟨W2,hW2⟩:=aC (w.alloc (.cells #[.int .u64 x.1.1, .int .u64 x.1.2.1, .int .u64 x.1.2.2] 45));have G2:Gr w W2:=by rw[hW2];exact(Gr.refl _).alloc _
 have hz:w.heap.size<W2.heap.size:=by rw[hW2];simp
 have b2:W2.cell? ⟨w.heap.size,0,none⟩=some (.int .u64 x.1.1):=by rw[hW2];simp
 have b3:W2.cell? ⟨w.heap.size,1,none⟩=some (.int .u64 x.1.2.1):=by rw[hW2];simp
 have b4:W2.cell? ⟨w.heap.size,2,none⟩=some (.int .u64 x.1.2.2):=by rw[hW2];simp
 have hP:Cz.ym 254 #[.pointer (some ⟨w.heap.size,0,none⟩)] (fun y=>ay y x) W2:=fun W y hg=>
  KA y x w.heap.size W (nL hz hg.size) ((hg.cell hz).trans b2) ((hg.cell hz).trans b3) ((hg.cell hz).trans b4)
 have h:=Cz.kM true v l _ _ _ W2 (hv.below G2.below) hl (enters_of Tryz.func254 (by kernel_rfl) rfl) hP;rw[show(l.any fun y=>ay y x)=bE ay l x from rfl]at h;generalize bE ay l x=r at h⊢;obtain⟨pl,cl,rfl⟩:=hv.form;clear hP b2 b3 b4 hv;subst hW2;go_enter Tryz.func206,Tryz.ntmps206;go_wp2_with fail;refine h.mono ?_;rintro e w1 ⟨rfl,hg⟩;go_wp2;go_ret;exact⟨rfl,G2.trans hg⟩
end
namespace Df
open Go.RowKit Go.Sort
attribute[local go_sem ↓]wp_at_zero wp_at_succ
theorem abj(x:Int):ib [x]=[x]:=by simp[ib]
theorem abk:ib []=[]:=by simp[ib]
theorem I9{c:Nat}{E:El α}{l:List α}(hcs:cs.toList=fl E l)(hb:w.heap[b]? =some (.cells cs T (0,0))):Ls E w (.slice (some ⟨b,0,none⟩) l.length c) l:=by
 refine Or.inr ⟨b,0,c,rfl,ae hb,fun j u hj=> ?_⟩;rw[nZ,(aa hb).1,<-Array.getElem?_toList,hcs];exact hj
end Df
namespace Lf
open Go.RowKit Go.Sort Pt
open Df (aT rV dL gW ig eQ)
def eu(k:Nat):ai:=J9 (k,0,0)
theorem eG{k:Nat}(h:k<=18446744073709551615):(eu k).1.1=(k:Int)/\(eu k).1.2.1=0/\(eu k).1.2.2=0:=by
 have h2:gW (k,0,0):=⟨h,by unfold Df.E9;simp,by unfold Df.E9;simp⟩;exact uU h2
theorem uV(h:a+b<=18446744073709551615):bH (eu a) (eu b)=some (eu (a+b)):=by
 obtain⟨a1,a2,a3⟩:=eG (k:=a) (by omega);obtain⟨b1,b2,b3⟩:=eG (k:=b) (by omega);obtain⟨c1,c2,c3⟩:=eG (k:=a+b) h;obtain⟨c,hc⟩:=jJ (a:=eu a) (b:=eu b) ⟨by omega,by omega,by omega⟩;obtain⟨d1,d2,d3⟩:=bz hc;rw[hc];exact congrArg some (cZ (by omega) (by omega) (by omega))
theorem Ro(ha:a<=18446744073709551615)(hb:b<=18446744073709551615)(h:a<=b):PX.aU (eu a) (eu b):=by
 obtain⟨a1,a2,a3⟩:=eG ha;obtain⟨b1,b2,b3⟩:=eG hb;exact⟨by omega,by omega,by omega⟩
end Lf
end Go.Proofs.YtiiefcalkjeieaaGreat
