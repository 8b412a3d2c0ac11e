import Derived.Test.YteekbpokkjjipaaGreatJ24
variable{w w':Go.World}{n B M b tb B' gb B0 a:Nat}{v:Go.Value}{T:Go.TypeId}{α:Type}{cs:Array Go.Value}{S:Nat->Prop}
set_option maxHeartbeats 8000000
set_option maxRecDepth 100000
namespace Go.Proofs.YteekbpokkjjipaaGreat
namespace Lf
open Go.RowKit Go.Sort Pt
open Df (hid dF bI mW gH bg qH gU gI LV EL az bA aC aD aa ae eB)
def AP(B:Nat)(w:World)(v:Value)(n:Nat)(rows:Nat->List ah):Prop:=∃vs:List LV,w.ownsRow B 50 1 v n (fl EL vs)/\vs.length=n/\∀(q:Nat) (x:LV),vs[q]? =some x->w.ownsRow B 52 3 x.v (rows q).length (fl ET (rows q))
theorem AP.below{rows:Nat->List ah}(h:AP B w v n rows)(hb:Below w.heap.size w w'):AP B w' v n rows:=by
 obtain⟨vs,h1,h2,h3⟩:=h;exact⟨vs,ag h1 hb,h2,fun q x hx=>ag (h3 q x hx) hb⟩
theorem AP.base{rows:Nat->List ah}(h:AP B w v n rows)(hb:B'<=B):AP B' w v n rows:=by
 obtain⟨vs,h1,h2,h3⟩:=h;exact⟨vs,aK h1 hb,h2,fun q x hx=>aK (h3 q x hx) hb⟩
theorem AP.other{m:Nat}{u:Value}{rows:Nat->List ah}{z:Nat}{xs:List Value}(h:AP B w v n rows)(ho:w.ownsRow B' T z u m xs)(h1:T≠50)(h2:T≠52)(hk:Kp (fun k=>u.ownBlock=some k) w w'):AP B w' v n rows:=by
 obtain⟨vs,a1,a2,a3⟩:=h;exact⟨vs,ay hk a1 (fun k e e2=>aC ho a1 h1 k e2 e),a2,fun q x hx=>ay hk (a3 q x hx) (fun k e e2=>aC ho (a3 q x hx) h2 k e2 e)⟩
theorem AP.block{rows:Nat->List ah}{z:Nat×Nat}(h:AP B w v n rows)(hb:w.heap[b]? =some (.cells cs T z))(h1:50≠T)(h2:52≠T)(hk:Kp (fun k=>k=b) w w'):AP B w' v n rows:=by
 obtain⟨vs,a1,a2,a3⟩:=h;exact⟨vs,ay hk a1 (fun k e e2=>aD a1 hb h1 k e e2),a2,fun q x hx=>ay hk (a3 q x hx) (fun k e e2=>aD (a3 q x hx) hb h2 k e e2)⟩
def ofV:Value->LV
 | .slice q m c => ⟨q,m,c⟩
 | _ => ⟨none,0,0⟩
theorem Tb.rw2{vs:List Vw}{rows:Nat->List ah}(h:Tb B w v vs ((List.range n).map rows)):AP B w v n rows:=by
 have hl:((List.range n).map rows).length=n:=by simp
 have hv:vs.length=n:=by rw[h.len,hl]
 have hg:∀(i:Nat) (u:Vw),vs[i]? =some u->w.ownsRow B 52 3 u.1 (rows i).length (fl ET (rows i)):=fun i u hu=>by
  have hi:i<n:=by rw[<-hv];exact(lG.1 hu).1
  exact(h.each i u (rows i) hu (by rw[gM,List.getElem?_range hi];rfl)).1
 have hf:∀u∈vs,(ofV u.1).v=u.1:=fun u hu=>by
  obtain⟨i,hi⟩:=List.mem_iff_getElem?.1 hu;obtain⟨q,m,c,e⟩:=az (hg i u hi);rw[e];rfl
 refine⟨vs.map (fun u=>ofV u.1), ?_,by rw[fG,hv],fun q x hx=> ?_⟩
 ·have e:fl EL (vs.map (fun u=>ofV u.1))=fl EV vs:=by
    rw[SG,List.map_map];have:fl EV vs=vs.map (fun u=>u.1):=by
     clear hf hg hv h
     induction vs with
     | nil => rfl
     | cons x l ih => rw[aQ,ih];rfl
    rw[this];exact List.map_congr_left (fun u hu=>hf u hu)
  rw[e];have h1:=h.row;rw[hl]at h1;exact h1
 ·rw[gM]at hx;cases e:vs[q]? with
  | none => rw[e]at hx;cases hx
  | some u=>
   rw[e]at hx;cases hx;rw[hf u (lM e)];exact hg q u e
structure T3(B:Nat)(w:World)(v:Value)(us:List LV)(n:Nat)(R:Nat->Nat->List ah):Prop where
 row:w.ownsRow B 143 1 v us.length (fl EL us)
 each:∀(p:Nat) (u:LV),us[p]? =some u->AP B w u.v n (R p)
theorem T3.nil(B:Nat)(w:World)(n:Nat)(R:Nat->Nat->List ah):T3 B w (.slice none 0 0) [] n R:=⟨World.ownsRow_nil _ _ _ _,fun p u h=>by simp at h⟩
theorem T3.below{us:List LV}{R:Nat->Nat->List ah}(h:T3 B w v us n R)(hb:Below w.heap.size w w'):T3 B w' v us n R:=⟨ag h.row hb,fun p u hu=>(h.each p u hu).below hb⟩
theorem T3.block{us:List LV}{R:Nat->Nat->List ah}{z:Nat×Nat}(h:T3 B w v us n R)(hb:w.heap[b]? =some (.cells cs T z))(h0:143≠T)(h1:50≠T)(h2:52≠T)(hk:Kp (fun k=>k=b) w w'):T3 B w' v us n R:=
 ⟨ay hk h.row (fun k e e2=>aD h.row hb h0 k e e2),fun p u hu=>(h.each p u hu).block hb h1 h2 hk⟩
theorem T3.app{g cap:Nat}{w1:World}{us:List LV}{R:Nat->Nat->List ah}{u:LV}{rows:Nat->List ah}(h:T3 B w v us n R)(hr:AP B w u.v n rows)
    (h1:w1.ownsRow B 143 1 (.slice (some ⟨g,0,none⟩) (us.length+1) cap) (us.length+1) (fl EL us++EL.enc u)) (h2:w.grownBy w1 v.ownBlock):T3 B w1 (.slice (some ⟨g,0,none⟩) (us.length+1) cap) (us++[u]) n (fun p=>if p=us.length then rows else R p):=by
 have hK:Kp (fun k=>v.ownBlock=some k) w w1:=Kp.grownBy h2 (fun _ h=>h);refine⟨?_,fun p x hx=> ?_⟩
 ·rw[dH,lS];exact aP h1 rfl (by rw[aS,dK])
 ·rw[List.getElem?_append]at hx;split at hx
  ·rename_i hp;simp only[if_neg (show ¬p=us.length by omega)];exact(h.each p x hx).other h.row (by decide) (by decide) hK
  ·have e:p=us.length:=by
     have:=(lG.1 hx).1;simp at this;omega
   subst e;rw[Nat.sub_self]at hx;cases hx;simp only[if_true];exact hr.other h.row (by decide) (by decide) hK
def Lq{α:Type}(E:El α)(M:Nat)(w:World)(v:Value)(l:List α):Prop:=Ls E w v l/\∀k,v.ownBlock=some k->k<M
theorem Lq.keep{E:El α}{l:List α}(h:Lq E M w v l)(hb:Below M w w'):Lq E M w' v l:=⟨h.1.kept hb.size (fun g hg=>hb.block g (h.2 g hg)),h.2⟩
theorem E9{E:El α}{l:List α}(h:w.ownsRow B T E.k v l.length (fl E l)):Lq E w.heap.size w v l:=⟨aJ h,fun k hk=>(h.lt k hk).2⟩
def Tq(M:Nat)(w:World)(v:Value)(n:Nat)(R:Nat->Nat->List ah):Prop:=∃us:List LV,Lq EL M w v us/\us.length=n/\∀(p:Nat) (u:LV),us[p]? =some u->∃vs:List LV,Lq EL M w u.v vs/\vs.length=n/\∀(q:Nat) (x:LV),vs[q]? =some x->Lq ET M w x.v (R p q)
theorem Tq.keep{R:Nat->Nat->List ah}(h:Tq M w v n R)(hb:Below M w w'):Tq M w' v n R:=by
 obtain⟨us,h1,h2,h3⟩:=h;refine⟨us,h1.keep hb,h2,fun p u hu=> ?_⟩;obtain⟨vs,a1,a2,a3⟩:=h3 p u hu;exact⟨vs,a1.keep hb,a2,fun q x hx=>(a3 q x hx).keep hb⟩
theorem T3.tq{us:List LV}{R:Nat->Nat->List ah}(h:T3 B w v us n R)(hn:us.length=n):Tq w.heap.size w v n R:=by
 refine⟨us,E9 (E:=EL) h.row,hn,fun p u hu=> ?_⟩;obtain⟨vs,a1,a2,a3⟩:=h.each p u hu;exact⟨vs,E9 (E:=EL) (by rw[a2];exact a1),a2,fun q x hx=>E9 (E:=ET) (a3 q x hx)⟩
def TP(M:Nat)(w:World)(tb n:Nat)(R:Nat->Nat->List ah):Prop:=∃v,w.heap[tb]? =some (.cells #[v] 105 (0,0))/\tb<M/\Tq M w v n R
theorem TP.keep{R:Nat->Nat->List ah}(h:TP M w tb n R)(hb:Below M w w'):TP M w' tb n R:=by
 obtain⟨v,h1,h2,h3⟩:=h;exact⟨v,(hb.block _ h2).trans h1,h2,h3.keep hb⟩
abbrev sQ(g:bI):Nat->Nat->ah->Prop:=IL (En (bg g.nodes) (qH g))
inductive DX (g:bI):Option (Option (Nat->Nat->List ah))->Prop
 | cyc (h:eB (gU g).length (gU g) (gU g).length=none):DX g none
 | wide (h:eB (gU g).length (gU g) (gU g).length≠none) (p:Nat) (hp:p<bg g.nodes) (hr:rA PX (sQ g) p none):DX g (some none)
 | tab (R:Nat->Nat->List ah) (h:eB (gU g).length (gU g) (gU g).length≠none) (hr:∀p,p<bg g.nodes->rA PX (sQ g) p (some (R p))):DX g (some (some R))
theorem DX.same{g:bI}{a b:Option (Option (Nat->Nat->List ah))}(h:DX g a)(k:DX g b):(a=none/\b=none)\/(a=some none/\b=some none)\/∃R R',a=some (some R)/\b=some (some R')/\∀p,p<bg g.nodes->R p=R' p:=by
 have key:∀(R:Nat->Nat->List ah) (p:Nat),p<bg g.nodes->rA PX (sQ g) p none->(∀p,p<bg g.nodes->rA PX (sQ g) p (some (R p)))->False:=fun R p hp h1 h2=>by
  have:=rA.same bD h1 (h2 p hp);cases this
 cases h with
 | cyc h=>
  cases k with
  | cyc k => exact Or.inl ⟨rfl,rfl⟩
  | wide k => exact absurd h k
  | tab R k => exact absurd h k
 | wide h p hp hr=>
  cases k with
  | cyc k => exact absurd k h
  | wide k => exact Or.inr (Or.inl ⟨rfl,rfl⟩)
  | tab R k hr' => exact(key R p hp hr hr').elim
 | tab R h hr=>
  cases k with
  | cyc k => exact absurd k h
  | wide k p hp hr' => exact(key R p hp hr' hr).elim
  | tab R' k hr'=>
   refine Or.inr (Or.inr ⟨R,R',rfl,rfl,fun p hp=> ?_⟩);have:=rA.same bD (hr p hp) (hr' p hp);exact Option.some.inj this
theorem Il:(Tryz.prog.info? 143).map (fun i=>(i.zero,i.size,i.bytes))=some (some (.slice none 0 0),1,24):=by kernel_rfl
end Lf
namespace Lf
open Go.RowKit Go.Sort Pt
open Df (hid dF bI mW gH bg qH gU gI LV EL az bA aC aD aa ae bE eB Gm iW)
attribute [local go_sem ↓] Go.wp_at_zero Go.wp_at_succ
def RB(w:World)(g:bI)(e:Ending)(w':World):Prop:=Below w.heap.size w w'/\∃a,DX g a/\((a=none/\e= .returned (.tuple #[.pointer none, .int .i64 27]))\/(a=some none/\e= .returned (.tuple #[.pointer none, .int .i64 28]))\/∃R tb,a=some (some R)/\e= .returned (.tuple #[.pointer (some ⟨tb,0,none⟩), .int .i64 0])/\TP w'.heap.size w' tb (bg g.nodes) R)
theorem dB{g:bI}(w:World)(h:Gm B w gb g)(jR:gI g)(hP:sD g):Calls Tryz.prog 33 #[.pointer (some ⟨gb,0,none⟩)] w (RB w g):=by
 have vJ:=iW w h jR;have HM:Hid (∀W,Below w.heap.size w W->Gm B W gb g):=fun W hb=>h.below hb;have jg:=hid jR;have Wx:=hid hP;have hpl:=Df.mf jR;clear h jR hP;go_enter Tryz.func33,Tryz.ntmps33;go_wp2_with fail;refine vJ.mono ?_;clear vJ;rintro r w1 ⟨hb1,hr⟩;rcases hr with⟨hno,rfl⟩|⟨o,f,d,hso,rfl,_⟩
 ·have FIN:Hid (RB w g (.returned (.tuple #[.pointer none, .int .i64 27])) w1):=⟨hb1,none, .cyc hno,Or.inl ⟨rfl,rfl⟩⟩;go_wp2;refine bodyPost_ret (v:= .tuple #[.pointer none, .int .i64 27]) (by simp[results,Tryz.results33,go_sem]) rfl ?_;exact FIN.o
 ·have RJ:Hid (eB (gU g).length (gU g) (gU g).length≠none):=fun e=>by rw[hso]at e;cases e
  clear hso;have hst:=dw w1 (HM.o w1 hb1) jg.o Wx.o;have HB1:=hid hb1;clear hb1;go_wp2_with fail;refine hst.mono ?_;clear hst;rintro r w2 ⟨gs,vs,rfl,hb2,hvl,hfw⟩;obtain⟨n,hn⟩:=aB (bg g.nodes);rw[<-hn]at hfw hvl hpl⊢;have HN:=hid hn;have IQ:Hid (Sp w2 (.slice (some ⟨gs,0,none⟩) n n) (En n (tF g))):=by
   have h1:=hfw.sp;rw[hvl]at h1;exact h1
  have HB2:=hid (HB1.o.trans (hb2.mono HB1.o.size));clear hb2 hfw hvl hn HB1;obtain⟨tb,htb⟩:=aB (w2.heap.size);obtain⟨W3,hW3⟩:=aB (w2.alloc (.cells #[.slice none 0 0] 105));have P3:Hid (Below w2.heap.size w2 W3/\W3.heap[tb]? =some (.cells #[.slice none 0 0] 105 (0,0))/\w2.heap.size<=tb):=by
   rw[hW3,htb];exact⟨((Gr.refl w2).alloc _).below,ai _ _,nR _⟩
  have HW3:Hid (w2.alloc (.cells #[.slice none 0 0] 105)=W3/\w2.heap.size=tb):=⟨hW3.symm,htb.symm⟩;clear hW3 htb;go_upto_region 6 with fail;rw[HW3.o.1,HW3.o.2];clear HW3;go_wp2_with fail;go_loopw [8,9,10,25] (fun _ _ _ Ug wr=>∃(i:Nat) (v:Value) (us:List LV) (R:Nat->Nat->List ah),i<=n/\Ug= .int .i64 i/\Hid (us.length=i/\Below w2.heap.size w2 wr/\wr.heap[tb]? =some (.cells #[v] 105 (0,0))/\T3 w2.heap.size wr v us n R/\∀p,p<i->rA PX (sQ g) p (some (R p)))) (fun _ _ _ Ug _=>n-(RowKit.intOf Ug).toNat);case atStart=>exact⟨0,_,[],fun _ _=>[],Nat.zero_le _,rfl,rfl,P3.o.1,P3.o.2.1,T3.nil _ _ _ _,fun p hp=>absurd hp (Nat.not_lt_zero _)⟩
  case round=>
   obtain⟨i,v,us,R,hi,rfl,HI⟩:=hrel;by_cases hlt:i<n
   ·have hltz:(i:Int)<(n:Int):=(by omega);have hi0:(0:Int)<=(i:Int):=(by omega);have hlf:=nX i n 432 (.slice (some ⟨gs,0,none⟩) n n) (En n (tF g)) wr (IQ.o.below HI.o.2.1) (jv _ _) hlt (by
     have h:=KR jg.o (l:=tF g) (fun c hc=>kI.1 hc);rw[<-HN.o]at h;rw[jv]at h;exact h) (KS (zm jg.o)) (by
     have:64*n*(432+1)<=64*192*(432+1):=Nat.mul_le_mul (Nat.mul_le_mul (nR _) hpl) (nR _);omega)
    go_wp2_with fail;refine hlf.mono ?_;clear hlf;rintro r w5 ⟨hb5,a,hres,hcase⟩;have Gu:Hid (rA PX (sQ g) i a):=by
     rw[HN.o,Bt]at hres;exact hres
    clear hres;rcases hcase with⟨rfl,rfl⟩|⟨rows,v5,vs5,rfl,rfl,Fp⟩
    ·have FIN:Hid (RB w g (.returned (.tuple #[.pointer none, .int .i64 28])) w5):=⟨HB2.o.trans ((HI.o.2.1.trans (hb5.mono HI.o.2.1.size)).mono HB2.o.size),some none, .wide RJ.o i (by rw[<-HN.o];exact hlt) Gu.o,Or.inr (Or.inl ⟨rfl,rfl⟩)⟩;clear hb5;go_wp2;refine bodyPost_ret (v:= .tuple #[.pointer none, .int .i64 28]) (by simp[results,Tryz.results33,go_sem]) rfl ?_;exact FIN.o
    ·have hrw:AP wr.heap.size w5 v5 n rows:=by
       rw[jv]at Fp;exact Fp.rw2
     obtain⟨u,hu⟩:∃u:LV,u.v=v5:=by
      obtain⟨vs,h1,_⟩:=hrw;obtain⟨q,m,c,e⟩:=az h1;exact⟨⟨q,m,c⟩,e.symm⟩
     subst hu;clear Fp;have hbx:=(hb5.block _ (ae HI.o.2.2.1)).trans HI.o.2.2.1;have cx:=(aa hbx).1;have lx:=ae hbx;have ZK:=hid (HI.o.2.2.2.1.below hb5);have rD:Hid (AP w2.heap.size w5 u.v n rows/\w5.heap[tb]? =some (.cells #[v] 105 (0,0))/\Below w2.heap.size w2 w5):=⟨hrw.base HI.o.2.1.size,hbx,HI.o.2.1.trans (hb5.mono HI.o.2.1.size)⟩;have HOW:Hid (w5.ownsRow w2.heap.size 143 1 v i (fl EL us)):=aP ZK.o.row HI.o.1 rfl;have Sk:w2.heap.size<=w5.heap.size:=rD.o.2.2.size;obtain⟨uq,um,uc⟩:=u;clear hrw hbx hb5;go_wp2_with (at_builtin;refine fM EL Tryz.underlying103 Il rfl (by decide) rfl _ _ rfl w2.heap.size _ i _ rfl HOW.o ⟨uq,um,uc⟩ rfl (by omega) (by unfold maxLen;omega) Sk _ rfl _ ?_);intro g6 c6 w6 oZ mJ Cv;have Vu:Kp (fun k=>v.ownBlock=some k) w5 w6:=Kp.grownBy mJ (fun _ h=>h);have qZ:w6.heap[tb]? =some (.cells #[v] 105 (0,0)):=(Vu.block _ (ae rD.o.2.1) (fun e=>aD HOW.o rD.o.2.1 (by decide) tb e rfl)).trans rD.o.2.1;have OV:Hid (T3 w2.heap.size w6 (.slice (some ⟨g6,0,none⟩) (i+1) c6) (us++[⟨uq,um,uc⟩]) n (fun p=>if p=i then rows else R p)):=by
      have e:=HI.o.1;have h1:=ZK.o.app (g:=g6) (cap:=c6) (w1:=w6) rD.o.1 (by rw[e];exact oZ) mJ;rw[e]at h1;exact h1
     have Dx:Hid (Below w2.heap.size w2 w6):=rD.o.2.2.trans (Vu.below rD.o.2.2.size (fun k hk=>(HOW.o.lt k hk).1));have cx6:=(aa qZ).1;have fx6:=(aa qZ).2;have lx6:=ae qZ;obtain⟨b7,k7⟩:=bE qZ 0 (.slice (some ⟨g6,0,none⟩) (i+1) c6);have P7:Hid ((w6.setCell ⟨tb,0,none⟩ (.slice (some ⟨g6,0,none⟩) (i+1) c6)).heap[tb]? =some (.cells #[.slice (some ⟨g6,0,none⟩) (i+1) c6] 105 (0,0))/\Below w2.heap.size w2 (w6.setCell ⟨tb,0,none⟩ (.slice (some ⟨g6,0,none⟩) (i+1) c6))/\T3 w2.heap.size (w6.setCell ⟨tb,0,none⟩ (.slice (some ⟨g6,0,none⟩) (i+1) c6)) (.slice (some ⟨g6,0,none⟩) (i+1) c6) (us++[⟨uq,um,uc⟩]) n (fun p=>if p=i then rows else R p)):=⟨b7,Dx.o.trans (k7.below Dx.o.size (fun k hk=>by rw[hk];exact P3.o.2.2)),OV.o.block qZ (by decide) (by decide) (by decide) k7⟩;clear b7 k7 qZ oZ mJ Cv Vu cx lx;go_wp2_with fail;go_roundw;case rel=>
      refine⟨i+1,_,us++[⟨uq,um,uc⟩],fun p=>if p=i then rows else R p,by omega,by first|rfl|go_num,by rw[dH,HI.o.1];rfl,P7.o.2.1,P7.o.1,P7.o.2.2,fun p hp=> ?_⟩
      by_cases e:p=i
      ·subst e;simp only[if_true];exact Gu.o
      ·simp only[if_neg e];exact HI.o.2.2.2.2 p (by omega)
     case measure=>simp[RowKit.intOf];omega
   ·have hltz:¬(i:Int)<(n:Int):=(by omega);have hie:i=n:=(by omega);subst hie;have FIN:Hid (RB w g (.returned (.tuple #[.pointer (some ⟨tb,0,none⟩), .int .i64 0])) wr):=⟨HB2.o.trans (HI.o.2.1.mono HB2.o.size),some (some R), .tab R RJ.o (by rw[<-HN.o];exact HI.o.2.2.2.2),Or.inr (Or.inr ⟨R,tb,rfl,rfl,by
     rw[<-HN.o];exact⟨v,HI.o.2.2.1,ae HI.o.2.2.1,HI.o.2.2.2.1.tq HI.o.1⟩⟩)⟩
    go_wp2;refine bodyPost_ret (v:= .tuple #[.pointer (some ⟨tb,0,none⟩), .int .i64 0]) (by simp[results,Tryz.results33,go_sem]) rfl ?_;exact FIN.o
end Lf
namespace Df
open Go.RowKit Go.Sort
attribute [local go_sem ↓] Go.wp_at_zero Go.wp_at_succ
end Df
namespace Df
open Go.RowKit Go.Sort
theorem Rk.rank{ls:List (List Int)}{us:List Nat}{f:Nat->Int}(h:Or ls us)(hr:Rk ls us us.length f)(q:Nat):(∀p,Sp ls p q->f p+1<=f q)/\(f q=0\/∃p,Sp ls p q/\f p+1=f q):=by
 refine⟨fun p hp=>hr.up p q (by rw[List.take_length];exact all_in h.nd h.bd h.len p hp.lt) hp, ?_⟩;by_cases e:0<f q
 ·obtain⟨p,_,h1,h2⟩:=hr.held q e;exact Or.inr ⟨p,h1,h2⟩
 ·exact Or.inl (by have:=(hr.pos q).1;omega)
section
variable {ls:List (List Int)} {q:Nat}
end
attribute [local go_sem ↓] Go.wp_at_zero Go.wp_at_succ
end Df
namespace Lf
open Go.RowKit Go.Sort Pt
open Df (hid dF bI mW gH bg qH gU gI LV EL EC az bA aC aD aa ae bE eB GR NV dI jG iO)
attribute [local go_sem ↓] Go.wp_at_zero Go.wp_at_succ
end Lf
namespace Lf
open Go.RowKit Go.Sort Pt
open Df (hid dF bI mW gH bg qH gU gI LV EL aa ae GR NV dI jG iO wP Fl)
attribute [local go_sem ↓] Go.wp_at_zero Go.wp_at_succ
end Lf
namespace Lf
open Go.RowKit Go.Sort Pt
open Df (hid dF bI mW gH bg qH gU gI LV EL aa ae GR NV dI jG iO wP Fl eB)
attribute [local go_sem ↓] Go.wp_at_zero Go.wp_at_succ
end Lf
namespace Lf
open Go.RowKit Go.Sort Pt
open Df (hid LV EL aa ae oL)
attribute [local go_sem ↓] Go.wp_at_zero Go.wp_at_succ
def Tv(M:Nat)(w:World)(tv:Value)(n:Nat)(R:Nat->Nat->List ah):Prop:=(tv= .pointer none/\n=0)\/∃tb,tv= .pointer (some ⟨tb,0,none⟩)/\TP M w tb n R
theorem Tv.keep{tv:Value}{R:Nat->Nat->List ah}(h:Tv M w tv n R)(hb:Below M w w'):Tv M w' tv n R:=by
 rcases h with h|⟨tb,h1,h2⟩
 ·exact Or.inl h
 ·exact Or.inr ⟨tb,h1,h2.keep hb⟩
def bt(n:Nat)(R:Nat->Nat->List ah)(p q:Int):List ah:=if (0<=p/\p<n)/\0<=q/\q<n then R p.toNat q.toNat else[]
theorem Dk{p q:Nat}{R:Nat->Nat->List ah}(hp:p<n)(hq:q<n):bt n R p q=R p q:=by
 unfold bt;rw[if_pos ⟨⟨by omega,by omega⟩,by omega,by omega⟩];simp
theorem Tq.at{R:Nat->Nat->List ah}(h:Tq M w v n R):∃ps cs,v= .slice ps n cs/\∀p q,p<n->q<n->∃b off b2 o2 c2 pq cq,ps=some ⟨b,off,none⟩/\b<w.heap.size/\w.cell? ⟨b,off+p,none⟩=some (.slice (some ⟨b2,o2,none⟩) n c2)/\b2<w.heap.size/\w.cell? ⟨b2,o2+q,none⟩=some (.slice pq (R p q).length cq)/\Lq ET M w (.slice pq (R p q).length cq) (R p q):=by
 obtain⟨us,h1,h2,h3⟩:=h;obtain⟨ps,cs,e⟩:=h1.1.form;rw[h2]at e;refine⟨ps,cs,e,fun p q hp hq=> ?_⟩;obtain⟨u,hu⟩:∃u,us[p]? =some u:=⟨us[p]'(by omega),by simp⟩;obtain⟨vs,a1,a2,a3⟩:=h3 p u hu;obtain⟨x,hx⟩:∃x,vs[q]? =some x:=⟨vs[q]'(by omega),by simp⟩;obtain⟨b,off,c,e1,hb,hc⟩:=oL h1.1 hu;rw[e]at e1;simp only[vS]at e1;obtain⟨b2,o2,c2,e2,hb2,hc2⟩:=oL a1.1 hx;rw[a2]at e2;have hx3:=a3 q x hx;obtain⟨pq,cq,e3⟩:=hx3.1.form;rw[e3]at hc2 hx3;rw[e2]at hc;exact⟨b,off,b2,o2,c2,pq,cq,e1.1,hb,hc,hb2,hc2,hx3⟩
theorem eG{tv:Value}{R:Nat->Nat->List ah}(w:World)(h:Tv M w tv n R):Calls Tryz.prog 11 #[tv] w fun e w'=>e= .returned (.int .i64 (n:Nat))/\w'=w:=by
 rcases h with⟨rfl,rfl⟩|⟨tb,rfl,v,h1,_,h3⟩
 ·go_enter Tryz.func11,Tryz.ntmps11;go_wp2;go_ret;exact⟨rfl,rfl⟩
 ·obtain⟨ps,cs,rfl,_⟩:=h3.at;have c1:=(aa h1).1;have l1:=ae h1;clear h1 h3;go_enter Tryz.func11,Tryz.ntmps11;go_wp2;go_ret;exact⟨rfl,rfl⟩
theorem fB(x:Int)(n:Nat)(b:Bool)(hb:b=decide (0<=x/\x<n))(w:World):Calls Tryz.prog 90 #[.int .i64 x, .int .i64 (n:Nat)] w fun e w'=>e= .returned (.bool b)/\w'=w:=by
 by_cases h0:0<=x
 ·by_cases h1:x<n
  ·have e:b=true:=(by rw[hb];simp;omega);subst e;clear hb;go_enter Tryz.func90,Tryz.ntmps90;go_wp2;go_ret;exact⟨rfl,rfl⟩
  ·have e:b=false:=(by rw[hb];simp;omega);subst e;clear hb;go_enter Tryz.func90,Tryz.ntmps90;go_wp2;go_ret;exact⟨rfl,rfl⟩
 ·have e:b=false:=by rw[hb];simp;omega
  subst e;clear hb;go_enter Tryz.func90,Tryz.ntmps90;go_wp2;go_ret;exact⟨rfl,rfl⟩
theorem jJ{tv:Value}{R:Nat->Nat->List ah}(p q:Int)(w:World)(h:Tv M w tv n R):Calls Tryz.prog 46 #[tv, .int .i64 p, .int .i64 q] w fun e w'=>∃pp c,e= .returned (.slice pp (bt n R p q).length c)/\w'=w/\Lq ET M w (.slice pp (bt n R p q).length c) (bt n R p q):=by
 obtain⟨bp,hbp⟩:=aB (decide (0<=p/\p<(n:Int)));obtain⟨bq,hbq⟩:=aB (decide (0<=q/\q<(n:Int)));have hpl:=eG w h;have hap:=fB p n bp hbp w;have haq:=fB q n bq hbq w;have HT:=hid h;have HBP:=hid hbp;have HBQ:=hid hbq;clear h hbp hbq;cases bp with
 | false=>
  have HE:Hid (bt n R p q=[]):=by
   unfold bt;rw[if_neg (fun h=> ?_)]
   ·exact rfl
   ·have:=HBP.o;rw[decide_eq_true h.1]at this;cases this
  rw[HE.o];go_enter Tryz.func46,Tryz.ntmps46;go_wp2_with fail;refine hpl.mono ?_;rintro e w1 ⟨rfl,hw1⟩;rw[hw1];clear hw1;go_wp2_with fail;refine hap.mono ?_;rintro e w2 ⟨rfl,hw2⟩;rw[hw2];clear hw2;go_wp2;go_ret;exact⟨none,0,rfl,rfl,Ls.nil w,fun k hk=>by simp[Value.ownBlock]at hk⟩
 | true=>
  cases bq with
  | false=>
   have HE:Hid (bt n R p q=[]):=by
    unfold bt;rw[if_neg (fun h=> ?_)]
    ·exact rfl
    ·have:=HBQ.o;rw[decide_eq_true h.2]at this;cases this
   rw[HE.o];go_enter Tryz.func46,Tryz.ntmps46;go_wp2_with fail;refine hpl.mono ?_;rintro e w1 ⟨rfl,hw1⟩;rw[hw1];clear hw1;go_wp2_with fail;refine hap.mono ?_;rintro e w2 ⟨rfl,hw2⟩;rw[hw2];clear hw2;go_wp2_with fail;refine hpl.mono ?_;rintro e w3 ⟨rfl,hw3⟩;rw[hw3];clear hw3;go_wp2_with fail;refine haq.mono ?_;rintro e w4 ⟨rfl,hw4⟩;rw[hw4];clear hw4;go_wp2;go_ret;exact⟨none,0,rfl,rfl,Ls.nil w,fun k hk=>by simp[Value.ownBlock]at hk⟩
  | true=>
   obtain⟨h1,h2⟩:=of_decide_eq_true HBP.o.symm;obtain⟨h3,h4⟩:=of_decide_eq_true HBQ.o.symm;obtain⟨pn,rfl⟩:=Int.eq_ofNat_of_zero_le h1;obtain⟨qn,rfl⟩:=Int.eq_ofNat_of_zero_le h3;have hpn:pn<n:=(by omega);have UW:qn<n:=(by omega);rw[Dk hpn UW];rcases HT.o with⟨_,h0⟩|⟨tb,rfl,v,b1,_,b3⟩
   ·omega
   ·obtain⟨ps,cs,rfl,hat⟩:=b3.at;obtain⟨b,off,b2,o2,c2,pq,cq,rfl,z1,z2,z3,z4,z5⟩:=hat pn qn hpn UW;have c1:=(aa b1).1;have l1:=ae b1;have HZ:=hid z5;clear b1 b3 hat z5 HT;generalize hrl:(R pn qn).length=rl at *;go_enter Tryz.func46,Tryz.ntmps46;go_wp2_with fail;refine hpl.mono ?_;rintro e w1 ⟨rfl,hw1⟩;rw[hw1];clear hw1;go_wp2_with fail;refine hap.mono ?_;rintro e w2 ⟨rfl,hw2⟩;rw[hw2];clear hw2;go_wp2_with fail;refine hpl.mono ?_;rintro e w3 ⟨rfl,hw3⟩;rw[hw3];clear hw3;go_wp2_with fail;refine haq.mono ?_;rintro e w4 ⟨rfl,hw4⟩;rw[hw4];clear hw4;go_wp2;go_ret;exact⟨pq,cq,rfl,rfl,HZ.o⟩
theorem Jr{tv:Value}{R:Nat->Nat->List ah}(p q:Int)(w:World)(h:Tv M w tv n R)(hl:(bt n R p q).length<=64):Calls Tryz.prog 14 #[tv, .int .i64 p, .int .i64 q] w fun e w'=>∃v',e= .returned v'/\w'.ownsRow w.heap.size 52 3 v' (bt n R p q).length (fl ET (bt n R p q))/\Below w.heap.size w w':=by
 have hb:=jJ p q w h;clear h;generalize bt n R p q=l at *;go_enter Tryz.func14,Tryz.ntmps14;go_wp2_with fail;refine hb.mono ?_;rintro e w1 ⟨pp,c,rfl,hw1,hq⟩;rw[hw1];clear hw1 hb;have hcl:=Pc.Cn.nJ _ l w hq.1 (by omega);clear hq;go_wp2_with fail;refine hcl.mono ?_;rintro e w2 ⟨v',rfl,h1,h2⟩;clear hcl;go_wp2;go_ret;exact⟨_,rfl,h1,h2⟩
end Lf
namespace Lf.Rb
open Go.RowKit Go.Sort Pt
open Df (hid dF bI mW gH bg qH gU gI LV EL az bA aC aD aa ae bE eB Gm iW)
attribute [local go_sem ↓] Go.wp_at_zero Go.wp_at_succ
def Wq{α:Type}(E:El α)(B M:Nat)(w:World)(v:Value)(l:List α):Prop:=Ls E w v l/\∀k,v.ownBlock=some k->B<=k/\k<M
theorem Wq.kp{E:El α}{l:List α}(h:Wq E B M w v l)(hk:Kp S w w')(hS:∀k,B<=k->k<M->¬S k):Wq E B M w' v l:=⟨hk.ls h.1 fun k e=>hS k (h.2 k e).1 (h.2 k e).2,h.2⟩
theorem zR{E:El α}{l:List α}(hB:B0<=B)(h:w.ownsRow B T E.k v l.length (fl E l)):Wq E B0 w.heap.size w v l:=⟨aJ h,fun k hk=>⟨nT hB (h.lt k hk).1,(h.lt k hk).2⟩⟩
def SQ(B M:Nat)(w:World)(v:Value)(n:Nat)(R:Nat->Nat->List ah):Prop:=∃us:List LV,Wq EL B M w v us/\us.length=n/\∀(p:Nat) (u:LV),us[p]? =some u->∃vs:List LV,Wq EL B M w u.v vs/\vs.length=n/\∀(q:Nat) (x:LV),vs[q]? =some x->Wq ET B M w x.v (R p q)
theorem SQ.kp{R:Nat->Nat->List ah}(h:SQ B M w v n R)(hk:Kp S w w')(hS:∀k,B<=k->k<M->¬S k):SQ B M w' v n R:=by
 obtain⟨us,h1,h2,h3⟩:=h;refine⟨us,h1.kp hk hS,h2,fun p u hu=> ?_⟩;obtain⟨vs,a1,a2,a3⟩:=h3 p u hu;exact⟨vs,a1.kp hk hS,a2,fun q x hx=>(a3 q x hx).kp hk hS⟩
theorem SQ.tq{R:Nat->Nat->List ah}(h:SQ B M w v n R):Tq M w v n R:=by
 obtain⟨us,h1,h2,h3⟩:=h;refine⟨us,⟨h1.1,fun k e=>(h1.2 k e).2⟩,h2,fun p u hu=> ?_⟩;obtain⟨vs,a1,a2,a3⟩:=h3 p u hu;exact⟨vs,⟨a1.1,fun k e=>(a1.2 k e).2⟩,a2,fun q x hx=>⟨(a3 q x hx).1,fun k e=>((a3 q x hx).2 k e).2⟩⟩
theorem TK{us:List LV}{R:Nat->Nat->List ah}(hB:B0<=B)(h:T3 B w v us n R)(hn:us.length=n):SQ B0 w.heap.size w v n R:=by
 refine⟨us,zR (E:=EL) hB h.row,hn,fun p u hu=> ?_⟩;obtain⟨vs,a1,a2,a3⟩:=h.each p u hu;exact⟨vs,zR (E:=EL) hB (by rw[a2];exact a1),a2,fun q x hx=>zR (E:=ET) hB (a3 q x hx)⟩
def Gj(B M:Nat)(w:World)(tb n:Nat)(R:Nat->Nat->List ah):Prop:=∃v,w.heap[tb]? =some (.cells #[v] 105 (0,0))/\B<=tb/\tb<M/\SQ B M w v n R
theorem Gj.kp{R:Nat->Nat->List ah}(h:Gj B M w tb n R)(hk:Kp S w w')(hS:∀k,B<=k->k<M->¬S k):Gj B M w' tb n R:=by
 obtain⟨v,h1,h2,h3,h4⟩:=h;exact⟨v,(hk.block _ (ae h1) (hS tb h2 h3)).trans h1,h2,h3,h4.kp hk hS⟩
theorem Gj.tv{R:Nat->Nat->List ah}(h:Gj B M w tb n R):Tv M w (.pointer (some ⟨tb,0,none⟩)) n R:=by
 obtain⟨v,h1,_,h3,h4⟩:=h;exact Or.inr ⟨tb,rfl,v,h1,h3,h4.tq⟩
def RB(w:World)(g:bI)(e:Ending)(w':World):Prop:=Below w.heap.size w w'/\∃a,DX g a/\((a=none/\e= .returned (.tuple #[.pointer none, .int .i64 27]))\/(a=some none/\e= .returned (.tuple #[.pointer none, .int .i64 28]))\/∃R tb,a=some (some R)/\e= .returned (.tuple #[.pointer (some ⟨tb,0,none⟩), .int .i64 0])/\Gj w.heap.size w'.heap.size w' tb (bg g.nodes) R)
theorem dB{g:bI}(w:World)(h:Gm B w gb g)(jR:gI g)(hP:sD g):Calls Tryz.prog 33 #[.pointer (some ⟨gb,0,none⟩)] w (RB w g):=by
 have vJ:=iW w h jR;have HM:Hid (∀W,Below w.heap.size w W->Gm B W gb g):=fun W hb=>h.below hb;have jg:=hid jR;have Wx:=hid hP;have hpl:=Df.mf jR;clear h jR hP;go_enter Tryz.func33,Tryz.ntmps33;go_wp2_with fail;refine vJ.mono ?_;clear vJ;rintro r w1 ⟨hb1,hr⟩;rcases hr with⟨hno,rfl⟩|⟨o,f,d,hso,rfl,_⟩
 ·have FIN:Hid (RB w g (.returned (.tuple #[.pointer none, .int .i64 27])) w1):=⟨hb1,none, .cyc hno,Or.inl ⟨rfl,rfl⟩⟩;go_wp2;refine bodyPost_ret (v:= .tuple #[.pointer none, .int .i64 27]) (by simp[results,Tryz.results33,go_sem]) rfl ?_;exact FIN.o
 ·have RJ:Hid (eB (gU g).length (gU g) (gU g).length≠none):=fun e=>by rw[hso]at e;cases e
  clear hso;have hst:=dw w1 (HM.o w1 hb1) jg.o Wx.o;have HB1:=hid hb1;clear hb1;go_wp2_with fail;refine hst.mono ?_;clear hst;rintro r w2 ⟨gs,vs,rfl,hb2,hvl,hfw⟩;obtain⟨n,hn⟩:=aB (bg g.nodes);rw[<-hn]at hfw hvl hpl⊢;have HN:=hid hn;have IQ:Hid (Sp w2 (.slice (some ⟨gs,0,none⟩) n n) (En n (tF g))):=by
   have h1:=hfw.sp;rw[hvl]at h1;exact h1
  have HB2:=hid (HB1.o.trans (hb2.mono HB1.o.size));clear hb2 hfw hvl hn HB1;obtain⟨tb,htb⟩:=aB (w2.heap.size);obtain⟨W3,hW3⟩:=aB (w2.alloc (.cells #[.slice none 0 0] 105));have P3:Hid (Below w2.heap.size w2 W3/\W3.heap[tb]? =some (.cells #[.slice none 0 0] 105 (0,0))/\w2.heap.size<=tb):=by
   rw[hW3,htb];exact⟨((Gr.refl w2).alloc _).below,ai _ _,nR _⟩
  have HW3:Hid (w2.alloc (.cells #[.slice none 0 0] 105)=W3/\w2.heap.size=tb):=⟨hW3.symm,htb.symm⟩;clear hW3 htb;go_upto_region 6 with fail;rw[HW3.o.1,HW3.o.2];clear HW3;go_wp2_with fail;go_loopw [8,9,10,25] (fun _ _ _ Ug wr=>∃(i:Nat) (v:Value) (us:List LV) (R:Nat->Nat->List ah),i<=n/\Ug= .int .i64 i/\Hid (us.length=i/\Below w2.heap.size w2 wr/\wr.heap[tb]? =some (.cells #[v] 105 (0,0))/\T3 w2.heap.size wr v us n R/\∀p,p<i->rA PX (sQ g) p (some (R p)))) (fun _ _ _ Ug _=>n-(RowKit.intOf Ug).toNat);case atStart=>exact⟨0,_,[],fun _ _=>[],Nat.zero_le _,rfl,rfl,P3.o.1,P3.o.2.1,T3.nil _ _ _ _,fun p hp=>absurd hp (Nat.not_lt_zero _)⟩
  case round=>
   obtain⟨i,v,us,R,hi,rfl,HI⟩:=hrel;by_cases hlt:i<n
   ·have hltz:(i:Int)<(n:Int):=(by omega);have hi0:(0:Int)<=(i:Int):=(by omega);have hlf:=nX i n 432 (.slice (some ⟨gs,0,none⟩) n n) (En n (tF g)) wr (IQ.o.below HI.o.2.1) (jv _ _) hlt (by
     have h:=KR jg.o (l:=tF g) (fun c hc=>kI.1 hc);rw[<-HN.o]at h;rw[jv]at h;exact h) (KS (zm jg.o)) (by
     have:64*n*(432+1)<=64*192*(432+1):=Nat.mul_le_mul (Nat.mul_le_mul (nR _) hpl) (nR _);omega)
    go_wp2_with fail;refine hlf.mono ?_;clear hlf;rintro r w5 ⟨hb5,a,hres,hcase⟩;have Gu:Hid (rA PX (sQ g) i a):=by
     rw[HN.o,Bt]at hres;exact hres
    clear hres;rcases hcase with⟨rfl,rfl⟩|⟨rows,v5,vs5,rfl,rfl,Fp⟩
    ·have FIN:Hid (RB w g (.returned (.tuple #[.pointer none, .int .i64 28])) w5):=⟨HB2.o.trans ((HI.o.2.1.trans (hb5.mono HI.o.2.1.size)).mono HB2.o.size),some none, .wide RJ.o i (by rw[<-HN.o];exact hlt) Gu.o,Or.inr (Or.inl ⟨rfl,rfl⟩)⟩;clear hb5;go_wp2;refine bodyPost_ret (v:= .tuple #[.pointer none, .int .i64 28]) (by simp[results,Tryz.results33,go_sem]) rfl ?_;exact FIN.o
    ·have hrw:AP wr.heap.size w5 v5 n rows:=by
       rw[jv]at Fp;exact Fp.rw2
     obtain⟨u,hu⟩:∃u:LV,u.v=v5:=by
      obtain⟨vs,h1,_⟩:=hrw;obtain⟨q,m,c,e⟩:=az h1;exact⟨⟨q,m,c⟩,e.symm⟩
     subst hu;clear Fp;have hbx:=(hb5.block _ (ae HI.o.2.2.1)).trans HI.o.2.2.1;have cx:=(aa hbx).1;have lx:=ae hbx;have ZK:=hid (HI.o.2.2.2.1.below hb5);have rD:Hid (AP w2.heap.size w5 u.v n rows/\w5.heap[tb]? =some (.cells #[v] 105 (0,0))/\Below w2.heap.size w2 w5):=⟨hrw.base HI.o.2.1.size,hbx,HI.o.2.1.trans (hb5.mono HI.o.2.1.size)⟩;have HOW:Hid (w5.ownsRow w2.heap.size 143 1 v i (fl EL us)):=aP ZK.o.row HI.o.1 rfl;have Sk:w2.heap.size<=w5.heap.size:=rD.o.2.2.size;obtain⟨uq,um,uc⟩:=u;clear hrw hbx hb5;go_wp2_with (at_builtin;refine fM EL Tryz.underlying103 Il rfl (by decide) rfl _ _ rfl w2.heap.size _ i _ rfl HOW.o ⟨uq,um,uc⟩ rfl (by omega) (by unfold maxLen;omega) Sk _ rfl _ ?_);intro g6 c6 w6 oZ mJ Cv;have Vu:Kp (fun k=>v.ownBlock=some k) w5 w6:=Kp.grownBy mJ (fun _ h=>h);have qZ:w6.heap[tb]? =some (.cells #[v] 105 (0,0)):=(Vu.block _ (ae rD.o.2.1) (fun e=>aD HOW.o rD.o.2.1 (by decide) tb e rfl)).trans rD.o.2.1;have OV:Hid (T3 w2.heap.size w6 (.slice (some ⟨g6,0,none⟩) (i+1) c6) (us++[⟨uq,um,uc⟩]) n (fun p=>if p=i then rows else R p)):=by
      have e:=HI.o.1;have h1:=ZK.o.app (g:=g6) (cap:=c6) (w1:=w6) rD.o.1 (by rw[e];exact oZ) mJ;rw[e]at h1;exact h1
     have Dx:Hid (Below w2.heap.size w2 w6):=rD.o.2.2.trans (Vu.below rD.o.2.2.size (fun k hk=>(HOW.o.lt k hk).1));have cx6:=(aa qZ).1;have fx6:=(aa qZ).2;have lx6:=ae qZ;obtain⟨b7,k7⟩:=bE qZ 0 (.slice (some ⟨g6,0,none⟩) (i+1) c6);have P7:Hid ((w6.setCell ⟨tb,0,none⟩ (.slice (some ⟨g6,0,none⟩) (i+1) c6)).heap[tb]? =some (.cells #[.slice (some ⟨g6,0,none⟩) (i+1) c6] 105 (0,0))/\Below w2.heap.size w2 (w6.setCell ⟨tb,0,none⟩ (.slice (some ⟨g6,0,none⟩) (i+1) c6))/\T3 w2.heap.size (w6.setCell ⟨tb,0,none⟩ (.slice (some ⟨g6,0,none⟩) (i+1) c6)) (.slice (some ⟨g6,0,none⟩) (i+1) c6) (us++[⟨uq,um,uc⟩]) n (fun p=>if p=i then rows else R p)):=⟨b7,Dx.o.trans (k7.below Dx.o.size (fun k hk=>by rw[hk];exact P3.o.2.2)),OV.o.block qZ (by decide) (by decide) (by decide) k7⟩;clear b7 k7 qZ oZ mJ Cv Vu cx lx;go_wp2_with fail;go_roundw;case rel=>
      refine⟨i+1,_,us++[⟨uq,um,uc⟩],fun p=>if p=i then rows else R p,by omega,by first|rfl|go_num,by rw[dH,HI.o.1];rfl,P7.o.2.1,P7.o.1,P7.o.2.2,fun p hp=> ?_⟩
      by_cases e:p=i
      ·subst e;simp only[if_true];exact Gu.o
      ·simp only[if_neg e];exact HI.o.2.2.2.2 p (by omega)
     case measure=>simp[RowKit.intOf];omega
   ·have hltz:¬(i:Int)<(n:Int):=(by omega);have hie:i=n:=(by omega);subst hie;have FIN:Hid (RB w g (.returned (.tuple #[.pointer (some ⟨tb,0,none⟩), .int .i64 0])) wr):=⟨HB2.o.trans (HI.o.2.1.mono HB2.o.size),some (some R), .tab R RJ.o (by rw[<-HN.o];exact HI.o.2.2.2.2),Or.inr (Or.inr ⟨R,tb,rfl,rfl,by
     rw[<-HN.o];exact⟨v,HI.o.2.2.1,nT HB2.o.size P3.o.2.2,ae HI.o.2.2.1,TK HB2.o.size HI.o.2.2.2.1 HI.o.1⟩⟩)⟩
    go_wp2;refine bodyPost_ret (v:= .tuple #[.pointer (some ⟨tb,0,none⟩), .int .i64 0]) (by simp[results,Tryz.results33,go_sem]) rfl ?_;exact FIN.o
end Lf.Rb
namespace Df
open Go.RowKit Go.Sort
attribute [local go_sem ↓] Go.wp_at_zero Go.wp_at_succ
theorem aag(x:Int):gP [x]=[x]:=by simp[gP]
theorem aah:gP []=[]:=by simp[gP]
theorem GQ{c:Nat}{E:El α}{l:List α}(hcs:cs.toList=fl E l)(hb:w.heap[b]? =some (.cells cs T (0,0))):Ls E w (.slice (some ⟨b,0,none⟩) l.length c) l:=by
 refine Or.inr ⟨b,0,c,rfl,ae hb,fun j u hj=> ?_⟩;rw[nZ,(aa hb).1,<-Array.getElem?_toList,hcs];exact hj
end Df
namespace Lf
open Go.RowKit Go.Sort Pt
open Df (bg qH dF gH gU eB)
def dV(k:Nat):ah:=IY (k,0,0)
theorem dZ{k:Nat}(h:k<=18446744073709551615):(dV k).1.1=(k:Int)/\(dV k).1.2.1=0/\(dV k).1.2.2=0:=by
 have h2:gH (k,0,0):=⟨h,by unfold Df.Dq;simp,by unfold Df.Dq;simp⟩;exact sU h2
theorem sW(h:a+b<=18446744073709551615):bz (dV a) (dV b)=some (dV (a+b)):=by
 obtain⟨a1,a2,a3⟩:=dZ (k:=a) (by omega);obtain⟨b1,b2,b3⟩:=dZ (k:=b) (by omega);obtain⟨c1,c2,c3⟩:=dZ (k:=a+b) h;obtain⟨c,hc⟩:=jr (a:=dV a) (b:=dV b) ⟨by omega,by omega,by omega⟩;obtain⟨d1,d2,d3⟩:=bu hc;rw[hc];exact congrArg some (bU (by omega) (by omega) (by omega))
theorem Pg(ha:a<=18446744073709551615)(hb:b<=18446744073709551615)(h:a<=b):PX.aT (dV a) (dV b):=by
 obtain⟨a1,a2,a3⟩:=dZ ha;obtain⟨b1,b2,b3⟩:=dZ hb;exact⟨by omega,by omega,by omega⟩
end Lf
end Go.Proofs.YteekbpokkjjipaaGreat
