import Derived.Test.YtiiefcalkjeieaaGreatJ3
import Derived.Deep.LoopGhost
import Derived.Deep.DeepCutAuto
import Derived.Lib.SliceRun
variable{z:Bool}{cb fb ff k:Nat}{v:Go.Value}{w:Go.World}{o:Go.Oper}{a:Go.Act}
set_option maxHeartbeats 2000000
set_option maxRecDepth 100000
namespace Go.Proofs.YtiiefcalkjeieaaGreat
section
open Go.RowKit Go.Sort
theorem bT{P:Program}{α:Type}(E:El α){e sT:TypeId}{z:Value}{bt:Nat}(hu:P.underlying sT=some (.slice e))(hI:(P.info? e).map (fun i=>(i.zero,i.size,i.bytes))=some (some z,E.k,bt))(hz:z.cells.size=E.k)(hk:0<E.k)
    {w:World} {ops:Array Oper} {o:Oper} {a:Act} {K:Act->World->Prop} {Q:Exit->Act->World->Prop} {X:Prop} (hgd:o.guard=none) (s x:Operand)
    (ho:o.op= .call { callee:= .builtin .append,args:=#[s,x],argTypes:=#[sT,sT] })
    (base:Nat) (v:Value) (n:Nat) (xs:List Value) (hs:a.eval s=v) (hown:w.ownsRow base e E.k v n xs)
    (t:α) (hx:a.eval x=sO w.heap.size 1 1) (hbig:(n+1)*bt<=140737488355328) (hmx:n+1<=maxLen) (hbase:base<=w.heap.size)
    (cs:Array Value) (hcs:cs.toList=E.enc t) (te:TypeId)
    (h:∀g cap w',Hid (w'.ownsRow base e E.k (sO g (n+1) cap) (n+1) (xs++E.enc t))->Hid (w.grownBy w' v.ownBlock)->Hid (v.ownBlock=some g\/w.heap.size<=g)->K (a.put o.dst (sO g (n+1) cap)) w') :
    if Region.wanted o (yielded ops a.tmps)=true then Oper.wp P o a (w.alloc (.cells cs te)) K Q else X:=by
 obtain⟨i0,hi,hz0,hz1,hz2⟩:=info_parts hI;refine step_append_lies _ hgd s x _ ho base e i0 _ E.k bt hu hi hz0 hz1 hz2 hz hk v n xs hs (hown.alloc _) ⟨w.heap.size,0,none⟩ 1 1 (E.enc t) hx (by rw[E.len,Nat.one_mul]) (by have:=World.news_of_block (ah w (.cells cs te));rw[hcs]at this;exact this) (E.one t) (by decide) hmx hbig (by simp;omega) _ rfl ?_;intro g cap w' h1 h2 h3 _;refine h g cap w' h1 ⟨h2.os,h2.tape,h2.output,nT (by simp) h2.size,fun k hk hne=>(h2.block k (by simp;omega) hne).trans ((World.grownBy_alloc w _ none).block k hk (by simp))⟩ ?_;rcases h3 with h3|h3
 ·exact Or.inl h3
 ·exact Or.inr (by rw[h3];simp)
end
namespace Cz
open Go.RowKit Go.Sort
attribute[local go_sem ↓]wp_at_zero wp_at_succ
structure Num where
 c1:Nat
 p1:Nat
 s1:Nat
 cf:Nat
 xf:Nat
 cv:Nat
 pl:Nat
 st:Nat
 pt:Nat
 is:Nat
 t1:Nat
 t2:Nat
 t3:Nat
 t4:Nat
abbrev nm:Bool->Num
 | true => ⟨154,280,279,153,213,91,255,252,256,207,45,39,257,177⟩
 | false => ⟨193,250,248,192,249,131,190,189,191,128,52,50,297,218⟩
theorem GQ(z:Bool):Tryz.prog.underlying (nm z).t2=some (.slice (nm z).t1):=by
 cases z
 ·exact Tryz.underlying50
 ·exact Tryz.underlying39
theorem Js(z:Bool):(Tryz.prog.info? (nm z).t1).map (fun i=>(i.zero,i.size,i.bytes))=some (some (.agg #[uV 0,uV 0,uV 0]),3,24):=by
 cases z
 ·kernel_rfl
 ·kernel_rfl
theorem BC(z:Bool):(∀args w,(callFunc (nm z).c1 args).run Tryz.prog w= .ok (.enter (nm z).c1 args) w)/\(∀args w,(callFunc (nm z).p1 args).run Tryz.prog w= .ok (.enter (nm z).p1 args) w)/\(∀args w,(callFunc (nm z).s1 args).run Tryz.prog w= .ok (.enter (nm z).s1 args) w):=by
 cases z
 ·exact⟨enters_of Tryz.func193 (by kernel_rfl) rfl,enters_of Tryz.func250 (by kernel_rfl) rfl,enters_of Tryz.func248 (by kernel_rfl) rfl⟩
 ·exact⟨enters_of Tryz.func154 (by kernel_rfl) rfl,enters_of Tryz.func280 (by kernel_rfl) rfl,enters_of Tryz.func279 (by kernel_rfl) rfl⟩
theorem E8(z:Bool)(fb:Nat)(aC:Tm->Tm->Bool)(hF:dZ fb aC)(x v:Tm)(B1 B2 cb:Nat)(w:World)(h1:B1<w.heap.size)(h2:B2<w.heap.size)(hc:cb<w.heap.size)
    (c1:aj w B1 0 (aB cb)) (c20:aj w B2 0 (uV v.1.1)) (c21:aj w B2 1 (uV v.1.2.1)) (Vj:aj w B2 2 (uV v.1.2.2)) (cf:aj w cb 0 (fv fb)) :
    CL (nm z).c1 #[tv x,aB B1,aB B2] w fun e w'=>e= .returned (.bool (aC x v))/\Gr w w':=by
 let zq:=z
 rcases Bool.eq_false_or_eq_true z with rfl|rfl;all_goals
  (try dsimp only[nm])
  have he:=hF.enter;have hcall:=hF.calls x v;generalize aC x v=r at hcall⊢;have hm:Tryz.prog.follows .mixedOrders=true:=by kernel_rfl
  obtain⟨W1,hW1⟩:=aF (w.alloc (.cells #[uV x.1.1,uV x.1.2.1,uV x.1.2.2] (nm zq).t1));dsimp only[nm,zq]at hW1;have G1:Gr w W1:=by rw[hW1];exact(Gr.refl _).alloc _
  have hz:w.heap.size<W1.heap.size:=by rw[hW1];simp
  obtain⟨nb,hnb⟩:=aF (w.heap.size);have k1:=cell_grown (a:=⟨B1,0,none⟩) (nU h1 hz) ((G1.cell h1).trans c1);have k2:=cell_grown (a:=⟨B2,0,none⟩) (nU h2 hz) ((G1.cell h2).trans c20);have k3:=cell_grown (a:=⟨B2,1,none⟩) (nU h2 hz) ((G1.cell h2).trans c21);have k3b:=cell_grown (a:=⟨B2,2,none⟩) (nU h2 hz) ((G1.cell h2).trans Vj);have k4:=cell_grown (a:=⟨cb,0,none⟩) (nU hc hz) ((G1.cell hc).trans cf);have k5:=cell_grown (w:=W1) (a:=⟨nb,0,none⟩) (v:=uV x.1.1) (by rw[hnb];exact hz) (by rw[hW1,hnb];simp);have k6:=cell_grown (w:=W1) (a:=⟨nb,1,none⟩) (v:=uV x.1.2.1) (by rw[hnb];exact hz) (by rw[hW1,hnb];simp);have k7:=cell_grown (w:=W1) (a:=⟨nb,2,none⟩) (v:=uV x.1.2.2) (by rw[hnb];exact hz) (by rw[hW1,hnb];simp);first|go_enter Tryz.func154,Tryz.ntmps154|go_enter Tryz.func193,Tryz.ntmps193
  go_wp2_with fail;rw[<-hW1,<-hnb];clear hW1 hnb c1 c20 c21 Vj cf;go_quiet_grown (first|(go_at_fn fb;refine Calls.grown_of (v:= .bool r) (hcall _)));go_wp2;go_ret;exact⟨rfl,(G1.drewN _).grown _⟩
theorem Bb(z:Bool)(fb:Nat)(aC:Tm->Tm->Bool)(hF:dZ fb aC)(x v:Tm)(B1 B2 cb:Nat)(w:World)(h1:B1<w.heap.size)(h2:B2<w.heap.size)(hc:cb<w.heap.size)
    (c1:aj w B1 0 (aB cb)) (c20:aj w B2 0 (uV v.1.1)) (c21:aj w B2 1 (uV v.1.2.1)) (Vj:aj w B2 2 (uV v.1.2.2)) (cf:aj w cb 0 (fv fb)) :
    CL (nm z).s1 #[tv x,aB B1,aB B2] w fun e w'=>e= .returned (.bool (aC v x))/\Gr w w':=by
 let zq:=z
 rcases Bool.eq_false_or_eq_true z with rfl|rfl;all_goals
  (try dsimp only[nm])
  have he:=hF.enter;have hcall:=hF.calls v x;generalize aC v x=r at hcall⊢;have hm:Tryz.prog.follows .mixedOrders=true:=by kernel_rfl
  obtain⟨W1,hW1⟩:=aF (w.alloc (.cells #[uV x.1.1,uV x.1.2.1,uV x.1.2.2] (nm zq).t1));dsimp only[nm,zq]at hW1;have G1:Gr w W1:=by rw[hW1];exact(Gr.refl _).alloc _
  have hz:w.heap.size<W1.heap.size:=by rw[hW1];simp
  obtain⟨nb,hnb⟩:=aF (w.heap.size);have k1:=cell_grown (a:=⟨B1,0,none⟩) (nU h1 hz) ((G1.cell h1).trans c1);have k2:=cell_grown (a:=⟨B2,0,none⟩) (nU h2 hz) ((G1.cell h2).trans c20);have k3:=cell_grown (a:=⟨B2,1,none⟩) (nU h2 hz) ((G1.cell h2).trans c21);have k3b:=cell_grown (a:=⟨B2,2,none⟩) (nU h2 hz) ((G1.cell h2).trans Vj);have k4:=cell_grown (a:=⟨cb,0,none⟩) (nU hc hz) ((G1.cell hc).trans cf);have k5:=cell_grown (w:=W1) (a:=⟨nb,0,none⟩) (v:=uV x.1.1) (by rw[hnb];exact hz) (by rw[hW1,hnb];simp);have k6:=cell_grown (w:=W1) (a:=⟨nb,1,none⟩) (v:=uV x.1.2.1) (by rw[hnb];exact hz) (by rw[hW1,hnb];simp);have k7:=cell_grown (w:=W1) (a:=⟨nb,2,none⟩) (v:=uV x.1.2.2) (by rw[hnb];exact hz) (by rw[hW1,hnb];simp);first|go_enter Tryz.func279,Tryz.ntmps279|go_enter Tryz.func248,Tryz.ntmps248
  go_wp2_with fail;rw[<-hW1,<-hnb];clear hW1 hnb c1 c20 c21 Vj cf;go_quiet_grown (first|(go_at_fn fb;refine Calls.grown_of (v:= .bool r) (hcall _)));go_wp2;go_ret;exact⟨rfl,(G1.drewN _).grown _⟩
theorem GA(z:Bool)(fb:Nat)(aC:Tm->Tm->Bool)(hF:dZ fb aC)(x v:Tm)(B1 B2 cb:Nat)(w:World)(h1:B1<w.heap.size)(h2:B2<w.heap.size)(hc:cb<w.heap.size)
    (c1:aj w B1 0 (aB cb)) (c20:aj w B2 0 (uV v.1.1)) (c21:aj w B2 1 (uV v.1.2.1)) (Vj:aj w B2 2 (uV v.1.2.2)) (cf:aj w cb 1 (fv fb)) :
    CL (nm z).p1 #[tv x,aB B1,aB B2] w fun e w'=>e= .returned (.bool (aC v x))/\Gr w w':=by
 let zq:=z
 rcases Bool.eq_false_or_eq_true z with rfl|rfl;all_goals
  (try dsimp only[nm])
  have he:=hF.enter;have hcall:=hF.calls v x;generalize aC v x=r at hcall⊢;have hm:Tryz.prog.follows .mixedOrders=true:=by kernel_rfl
  obtain⟨W1,hW1⟩:=aF (w.alloc (.cells #[uV x.1.1,uV x.1.2.1,uV x.1.2.2] (nm zq).t1));dsimp only[nm,zq]at hW1;have G1:Gr w W1:=by rw[hW1];exact(Gr.refl _).alloc _
  have hz:w.heap.size<W1.heap.size:=by rw[hW1];simp
  obtain⟨nb,hnb⟩:=aF (w.heap.size);have k1:=cell_grown (a:=⟨B1,0,none⟩) (nU h1 hz) ((G1.cell h1).trans c1);have k2:=cell_grown (a:=⟨B2,0,none⟩) (nU h2 hz) ((G1.cell h2).trans c20);have k3:=cell_grown (a:=⟨B2,1,none⟩) (nU h2 hz) ((G1.cell h2).trans c21);have k3b:=cell_grown (a:=⟨B2,2,none⟩) (nU h2 hz) ((G1.cell h2).trans Vj);have k4:=cell_grown (a:=⟨cb,1,none⟩) (nU hc hz) ((G1.cell hc).trans cf);have k5:=cell_grown (w:=W1) (a:=⟨nb,0,none⟩) (v:=uV x.1.1) (by rw[hnb];exact hz) (by rw[hW1,hnb];simp);have k6:=cell_grown (w:=W1) (a:=⟨nb,1,none⟩) (v:=uV x.1.2.1) (by rw[hnb];exact hz) (by rw[hW1,hnb];simp);have k7:=cell_grown (w:=W1) (a:=⟨nb,2,none⟩) (v:=uV x.1.2.2) (by rw[hnb];exact hz) (by rw[hW1,hnb];simp);first|go_enter Tryz.func280,Tryz.ntmps280|go_enter Tryz.func250,Tryz.ntmps250
  go_wp2_with fail;rw[<-hW1,<-hnb];clear hW1 hnb c1 c20 c21 Vj cf;go_quiet_grown (first|(go_at_fn fb;refine Calls.grown_of (v:= .bool r) (hcall _)));go_wp2;go_ret;exact⟨rfl,(G1.drewN _).grown _⟩
def yA(g:Nat)(lb:Array Value)(p:Tm->Bool)(w:World):Prop:=∀(W:World) (x:Tm),Gr w W->CL g (#[tv x]++lb) W fun e w'=>e= .returned (.bool (p x))/\Gr W w'
def iy(p:Tm->Bool)(l:List Tm):Int:=if l.findIdx p<l.length then(l.findIdx p:Int)else -1
theorem Ee{p:Tm->Bool}{l:List Tm}{x:Tm}(hx:l[k]? =some x)(hp:p x=true)(hn:∀j y,j<k->l[j]? =some y->p y=false):iy p l=(k:Int):=by
 obtain⟨hk,rfl⟩:=lG.1 hx;have:l.findIdx p=k:=by
  rw[List.findIdx_eq hk];exact⟨hp,fun j hj=>by simpa using hn j _ hj (p8 (nU hj hk))⟩
 unfold iy;rw[this,if_pos hk]
theorem Af{p:Tm->Bool}{l:List Tm}(hn:∀j y,j<l.length->l[j]? =some y->p y=false):iy p l= -1:=by
 have:l.findIdx p=l.length:=by
  rw[List.findIdx_eq_length];intro x hx;obtain⟨j,hj⟩:=iG.1 hx;exact hn j x (lG.1 hj).1 hj
 unfold iy;rw[this,if_neg (Nat.lt_irrefl _)]
theorem Ed(p:Tm->Bool)(l:List Tm):decide (0<=iy p l)=l.any p:=by
 unfold iy;by_cases h:l.findIdx p<l.length
 ·rw[if_pos h];have:l.any p=true:=by
   rw[List.findIdx_lt_length]at h;simpa using h
  rw[this];simp
 ·rw[if_neg h];have:l.any p=false:=by
   rw[List.findIdx_lt_length]at h;simpa using h
  rw[this];simp
theorem iE(z:Bool)(v:Value)(l:List Tm)(g:Nat)(lb:Array Value)(p:Tm->Bool)(w:World)(hv:oz w v l)(hl:l.length<=maxLen)(eg:∀args w,(callFunc g args).run Tryz.prog w= .ok (.enter g args) w)(hp:yA g lb p w):
    CL (nm z).xf #[v, .func (.func g) #[] lb] w fun e w'=>e= .returned (iV (iy p l))/\Gr w w':=by
 let zq:=z
 rcases Bool.eq_false_or_eq_true z with rfl|rfl;all_goals
  (try dsimp only[nm])
  unfold maxLen at hl;obtain⟨pl,cl,rfl⟩:=hv.form;have HL:Hid (oz w (.slice pl l.length cl) l):=hv;have HP:Hid (yA g lb p w):=hp;clear hv hp;obtain⟨r,hr⟩:=aF (iy p l);rw[<-hr];have HRR:Hid (r=iy p l):=hr;clear hr;first|go_enter Tryz.func213,Tryz.ntmps213|go_enter Tryz.func249,Tryz.ntmps249
  go_wp2_with fail;go_loopw [5,8] (fun s5 s8 wr=>∃k:Nat,k<=l.length/\s8=iV k/\Gr w wr/\Hid (∀j y,j<k->l[j]? =some y->p y=false)) (fun _ s8 _=>l.length-(intOf s8).toNat);case atStart=>exact⟨0,zL _,rfl,Gr.refl _,fun j _ hj=>absurd hj (nW _)⟩
  case round=>
   obtain⟨k,hk,rfl,hgr,A⟩:=hrel;by_cases hlt:k<l.length
   ·have hltz:(k:Int)<(l.length:Int):=(by omega);obtain⟨x,hx⟩:∃x,l[k]? =some x:=⟨l[k],by simp⟩;obtain⟨b1,o1,c1,e1,z1,x1,x2,x3⟩:=(HL.o.below hgr.below).at3 hx;simp only[vS]at e1;obtain⟨rfl,-,rfl⟩:=e1;have HX:Hid (l[k]? =some x):=hx;clear hx;have hcall:=HP.o wr x hgr;cases hq:p x with
    | true=>
     rw[hq]at hcall;go_wp2_with (go_at_fn g;refine hcall.mono ?_;rintro e w' ⟨rfl,hb'⟩);go_ret;exact⟨by rw[HRR.o,Ee HX.o hq A.o];rfl,hgr.trans hb'⟩
    | false=>
     rw[hq]at hcall;go_wp2_with (go_at_fn g;refine hcall.mono ?_;rintro e w' ⟨rfl,hb'⟩);refine⟨⟨k+1,by omega,by go_num,hgr.trans hb',fun j y hj hy=> ?_⟩,by simp[intOf];omega⟩;by_cases e:j=k
     ·subst e;have:=HX.o;rw[hy]at this;cases this;exact hq
     ·exact A.o j y (by omega) hy
   ·have hltz:¬(k:Int)<(l.length:Int):=(by omega);have hk':k=l.length:=(by omega);subst hk';go_wp2;go_ret;exact⟨by rw[HRR.o,Af A.o];rfl,hgr⟩
theorem kQ(z:Bool)(v:Value)(l:List Tm)(g:Nat)(lb:Array Value)(p:Tm->Bool)(w:World)(hv:oz w v l)(hl:l.length<=maxLen)(eg:∀args w,(callFunc g args).run Tryz.prog w= .ok (.enter g args) w)(hp:yA g lb p w):
    CL (nm z).cf #[v, .func (.func g) #[] lb] w fun e w'=>e= .returned (.bool (l.any p))/\Gr w w':=by
 let zq:=z
 rcases Bool.eq_false_or_eq_true z with rfl|rfl;all_goals
  (try dsimp only[nm])
  have h:=iE zq v l g lb p w hv hl eg hp;rw[<-Ed];generalize iy p l=r at h⊢;first|go_enter Tryz.func153,Tryz.ntmps153|go_enter Tryz.func192,Tryz.ntmps192
  go_wp2_with fail;refine h.mono ?_;rintro e w1 ⟨rfl,hg⟩;go_wp2;go_ret;exact⟨by first|rfl|simp,hg⟩
structure Ch(z:Bool)(w:World)(cb fb ff:Nat)(v:Value)(l:List Tm):Prop where
 blk:w.heap[cb]? =some (.cells #[fv fb,fv ff,v] (nm z).t3 (0,0))
 own:w.ownsRow 0 (nm z).t1 3 v l.length (eQ l)
 off:v.ownBlock≠some cb
section
variable {w w':World} {cb fb ff:Nat} {v:Value} {l:List Tm}
theorem Ch.lt(h:Ch z w cb fb ff v l):cb<w.heap.size:=(aG.1 h.blk).1
theorem Ch.c0(h:Ch z w cb fb ff v l):w.cell? ⟨cb,0,none⟩=some (fv fb):=by simp[World.cell?,h.blk]
theorem Ch.c1(h:Ch z w cb fb ff v l):w.cell? ⟨cb,1,none⟩=some (fv ff):=by simp[World.cell?,h.blk]
theorem Ch.c2(h:Ch z w cb fb ff v l):w.cell? ⟨cb,2,none⟩=some v:=by simp[World.cell?,h.blk]
theorem Ch.qF(h:Ch z w cb fb ff v l):oz w v l:=dG h.own
theorem Ch.row(h:Ch z w cb fb ff v l):∀k,v.ownBlock=some k->k<w.heap.size:=fun k hk=>(h.own.lt k hk).2
theorem Ch.kp{S:Nat->Prop}(h:Ch z w cb fb ff v l)(hk:Kp S w w')(h1:¬S cb)(h2:∀k,v.ownBlock=some k->¬S k):Ch z w' cb fb ff v l:=
 ⟨(hk.block cb h.lt h1).trans h.blk,ax hk h.own h2,h.off⟩
theorem Ch.below(h:Ch z w cb fb ff v l)(hb:Bw w w'):Ch z w' cb fb ff v l:=h.kp (S:=fun _=>False) (Kp.of_below hb) (fun h=>h) (fun _ _ h=>h)
end
def dX(cb:Nat)(v v':Value)(w w':World):Prop:=Kp (fun k=>k=cb\/v.ownBlock=some k) w w'/\∀g,v'.ownBlock=some g->v.ownBlock=some g\/w.heap.size<=g
theorem dX.refl(cb:Nat)(v:Value)(w:World):dX cb v v w w:=⟨Kp.refl _ _,fun _ h=>Or.inl h⟩
theorem dX.of_below{w':World}(h:Bw w w'):dX cb v v w w':=⟨Kp.of_below h,fun _ h=>Or.inl h⟩
theorem dX.trans{v1 v2 v3:Value}{a b c:World}(h:dX cb v1 v2 a b)(k:dX cb v2 v3 b c):dX cb v1 v3 a c:=by
 refine⟨h.1.trans k.1 fun j hj hs=> ?_,fun g hg=> ?_⟩
 ·rcases hs with hs|hs
  ·exact Or.inl hs
  ·rcases h.2 j hs with h1|h1
   ·exact Or.inr h1
   ·exact absurd h1 (Nat.not_le.2 hj)
 ·rcases k.2 g hg with h1|h1
  ·exact h.2 g h1
  ·exact Or.inr (nT h.1.size h1)
theorem BN{l:List Tm}(h:l.length*24<=140737488355328):l.length<=maxLen:=by unfold maxLen;omega
theorem qB{l:List Tm}{aC:Tm->Tm->Bool}(x:Tm)(w:World)(hc:Ch z w cb fb ff v l)(hl:l.length*24<=140737488355328)(hF:dZ fb aC):
    CL (nm z).cv #[aB cb,tv x] w fun e w'=>e= .returned (.bool (bH aC l x))/\Gr w w':=by
 let zq:=z
 rcases Bool.eq_false_or_eq_true z with rfl|rfl;all_goals
  (try dsimp only[nm])
  obtain⟨W2,hW2⟩:=aF ((w.alloc (.cells #[aB cb] (nm zq).t4)).alloc (.cells #[uV x.1.1,uV x.1.2.1,uV x.1.2.2] (nm zq).t1));dsimp only[nm,zq]at hW2;have G2:Gr w W2:=by rw[hW2];exact((Gr.refl _).alloc _).alloc _
  have hz:w.heap.size+1<W2.heap.size:=by rw[hW2];simp
  have b1:W2.cell? ⟨w.heap.size,0,none⟩=some (aB cb):=by rw[hW2];simp
  have b2:W2.cell? ⟨w.heap.size+1,0,none⟩=some (uV x.1.1):=by rw[hW2];simp
  have b3:W2.cell? ⟨w.heap.size+1,1,none⟩=some (uV x.1.2.1):=by rw[hW2];simp
  have b4:W2.cell? ⟨w.heap.size+1,2,none⟩=some (uV x.1.2.2):=by rw[hW2];simp
  have hc2:=hc.below G2.below;have hP:yA (nm zq).c1 #[aB w.heap.size, .pointer (some ⟨w.heap.size+1,0,none⟩)] (fun y=>aC y x) W2:=fun W y hg=>
   E8 zq fb aC hF y x w.heap.size (w.heap.size+1) cb W (nL (by omega) hg.size) (nL hz hg.size) (nL hc2.lt hg.size)
    ((hg.cell (by omega)).trans b1) ((hg.cell hz).trans b2) ((hg.cell hz).trans b3) ((hg.cell hz).trans b4) ((hg.cell hc2.lt).trans hc2.c0)
  have h:=kQ zq v l _ _ _ W2 hc2.qF (BN hl) (BC zq).1 hP;rw[show(l.any fun y=>aC y x)=bH aC l x from rfl]at h;generalize bH aC l x=r at h⊢;have k2:=hc.c2;have kl:=hc.lt;clear hP hc2 b1 b2 b3 b4;subst hW2;first|go_enter Tryz.func91,Tryz.ntmps91|go_enter Tryz.func131,Tryz.ntmps131
  go_wp2_with fail;refine h.mono ?_;rintro e w1 ⟨rfl,hg⟩;go_wp2;go_ret;exact⟨rfl,G2.trans hg⟩
theorem Hl(p:Tm->Bool)(l:List Tm):(iy p l<0/\(l.length:Int)=(l.findIdx p:Int))\/(¬iy p l<0/\iy p l=(l.findIdx p:Int)):=by
 unfold iy;by_cases h:l.findIdx p<l.length
 ·rw[if_pos h];right;exact⟨by omega,rfl⟩
 ·rw[if_neg h];left;have:=List.findIdx_le_length (p:=p) (xs:=l);exact⟨by omega,by omega⟩
theorem KA{u:Value}{l m:List Tm}{fst:Tm->Tm->Bool}(x:Tm)(w:World)(hc:Ch z w cb fb ff v l)(hu:oz w u m)(hl:m.length*24<=140737488355328)(hF:dZ ff fst):
    CL (nm z).pl #[aB cb,u,tv x] w fun e w'=>e= .returned (iV (m.findIdx fun y=>fst x y:Nat))/\Gr w w':=by
 let zq:=z
 rcases Bool.eq_false_or_eq_true z with rfl|rfl;all_goals
  (try dsimp only[nm])
  obtain⟨W2,hW2⟩:=aF ((w.alloc (.cells #[aB cb] (nm zq).t4)).alloc (.cells #[uV x.1.1,uV x.1.2.1,uV x.1.2.2] (nm zq).t1));dsimp only[nm,zq]at hW2;have G2:Gr w W2:=by rw[hW2];exact((Gr.refl _).alloc _).alloc _
  have hz:w.heap.size+1<W2.heap.size:=by rw[hW2];simp
  have b1:W2.cell? ⟨w.heap.size,0,none⟩=some (aB cb):=by rw[hW2];simp
  have b2:W2.cell? ⟨w.heap.size+1,0,none⟩=some (uV x.1.1):=by rw[hW2];simp
  have b3:W2.cell? ⟨w.heap.size+1,1,none⟩=some (uV x.1.2.1):=by rw[hW2];simp
  have b4:W2.cell? ⟨w.heap.size+1,2,none⟩=some (uV x.1.2.2):=by rw[hW2];simp
  have hc2:=hc.below G2.below;have hP:yA (nm zq).p1 #[aB w.heap.size, .pointer (some ⟨w.heap.size+1,0,none⟩)] (fun y=>fst x y) W2:=fun W y hg=>
   GA zq ff fst hF y x w.heap.size (w.heap.size+1) cb W (nL (by omega) hg.size) (nL hz hg.size) (nL hc2.lt hg.size)
    ((hg.cell (by omega)).trans b1) ((hg.cell hz).trans b2) ((hg.cell hz).trans b3) ((hg.cell hz).trans b4) ((hg.cell hc2.lt).trans hc2.c1)
  have h:=iE zq u m _ _ _ W2 (hu.below G2.below) (BN hl) (BC zq).2.1 hP;have hi:=Hl (fun y=>fst x y) m;obtain⟨pu,cu,rfl⟩:=hu.form;generalize iy (fun y=>fst x y) m=r at h hi;generalize List.findIdx (fun y=>fst x y) m=q at hi⊢;have k2:=hc.c2;have kl:=hc.lt;clear hP hc2 b1 b2 b3 b4 hu;subst hW2;rcases hi with⟨h1,h2⟩|⟨h1,h2⟩
  ·have HQ:Hid ((m.length:Int)=(q:Int)):=h2;clear h2;first|go_enter Tryz.func255,Tryz.ntmps255|go_enter Tryz.func190,Tryz.ntmps190
   go_wp2_with fail;refine h.mono ?_;rintro e w1 ⟨rfl,hg⟩;go_wp2;go_ret;exact⟨by rw[<-HQ.o];rfl,G2.trans hg⟩
  ·have HQ:Hid (r=(q:Int)):=h2;clear h2;first|go_enter Tryz.func255,Tryz.ntmps255|go_enter Tryz.func190,Tryz.ntmps190
   go_wp2_with fail;refine h.mono ?_;rintro e w1 ⟨rfl,hg⟩;go_wp2;go_ret;exact⟨by rw[<-HQ.o];rfl,G2.trans hg⟩
theorem LH{aC:Tm->Tm->Bool}{l:List Tm}{x:Tm}(h:¬l.findIdx (fun y=>aC x y)<l.length):dJ aC l x=l:=by
 rw[List.findIdx_lt_length]at h;unfold dJ;rw[List.filter_eq_self];intro a ha;cases hq:aC x a with
 | false => rfl
 | true => exact absurd ⟨a,ha,hq⟩ h
theorem Um{aC:Tm->Tm->Bool}{l:List Tm}{x:Tm}{i:Nat}(hi:l.findIdx (fun y=>aC x y)=i)(h:i<l.length):dJ aC l x=l.take i++dJ aC (l.drop (i+1)) x:=by
 have h1:l=l.take i++l[i]::l.drop (i+1):=by rw[<-List.drop_eq_getElem_cons h,List.take_append_drop]
 have hp:aC x l[i]=true:=by
  subst hi;exact List.findIdx_getElem (w:=h)
 have h2:(l.take i).filter (fun y=> !aC x y)=l.take i:=by
  rw[List.filter_eq_self];intro a ha;subst hi;rw[gF (p:=fun y=>aC x y) ha];rfl
 conv=>lhs;rw[h1]
 unfold dJ;rw[List.filter_append,h2,List.filter_cons,hp];simp
theorem yt{aC:Tm->Tm->Bool}{m:List Tm}{x y:Tm}(h:m[k]? =some y):dJ aC (m.take (k+1)) x=dJ aC (m.take k) x++(if aC x y then[]else[y]):=by
 unfold dJ;rw[tO,h,List.filter_append];cases hq:aC x y<;>simp[hq]
theorem Ul{aC:Tm->Tm->Bool}{m:List Tm}{x:Tm}(k:Nat):(dJ aC (m.take k) x).length<=k:=nT (gN _ _) (List.length_take_le _ _)
theorem gB(z:Bool){ops:Array Oper}{rest:List Oper}{Q:Exit->Act->World->Prop}(hgd:o.guard=none)(s x:Operand)
    (ho:o.op= .call { callee:= .builtin .append,args:=#[s,x],argTypes:=#[(nm z).t2,(nm z).t2] })
    (base:Nat) (v:Value) (n:Nat) (xs:List Value) (hs:a.eval s=v) (hown:w.ownsRow base (nm z).t1 3 v n xs)
    (t:Tm) (hx:a.eval x=sO w.heap.size 1 1) (hbig:(n+1)*24<=140737488355328) (hbase:base<=w.heap.size)
    (h:∀g cap w',w'.ownsRow base (nm z).t1 3 (sO g (n+1) cap) (n+1) (xs++ET.enc t)->w.grownBy w' v.ownBlock->(v.ownBlock=some g\/w.heap.size<=g)->wpList Tryz.prog ops Q rest (a.put o.dst (sO g (n+1) cap)) w') :
    wpList Tryz.prog ops Q (o::rest) a (w.alloc (.cells #[uV t.1.1,uV t.1.2.1,uV t.1.2.2] (nm z).t1)):=
 YtiiefcalkjeieaaGreat.gB ET (GQ z) (Js z) rfl (by decide) hgd s x ho base v n xs hs hown t hx hbig (by unfold maxLen;omega) hbase _ rfl _ h
theorem jZ(z:Bool){ops:Array Oper}{rest:List Oper}{Q:Exit->Act->World->Prop}(hgd:o.guard=none)(s x:Operand)
    (ho:o.op= .call { callee:= .builtin .append,args:=#[s,x],argTypes:=#[(nm z).t2,(nm z).t2] })
    (base:Nat) (v:Value) (n:Nat) (xs:List Value) (hs:a.eval s=v) (hown:w.ownsRow base (nm z).t1 3 v n xs)
    (v1:Value) (ts:List Tm) (hx:a.eval x=v1) (hv:oz w v1 ts) (hbig:(n+ts.length)*24<=140737488355328) (hbase:base<=w.heap.size)
    (h:∀v' w',w'.ownsRow base (nm z).t1 3 v' (n+ts.length) (xs++eQ ts)->w.grownBy w' v.ownBlock->wpList Tryz.prog ops Q rest (a.put o.dst v') w'):wpList Tryz.prog ops Q (o::rest) a w:=
 YtiiefcalkjeieaaGreat.jZ ET (GQ z) (Js z) rfl (by decide) hgd s x ho base v n xs hs hown v1 ts hx hv hbig (by unfold maxLen;omega) hbase h
theorem uk{l:List Tm}{aC:Tm->Tm->Bool}(x:Tm)(w:World)(hc:Ch z w cb fb ff v l)(hl:l.length*24<=140737488355328)(hF:dZ fb aC):
    CL (nm z).st #[aB cb,tv x] w fun e w'=>∃v',e= .returned v'/\w'.ownsRow 0 (nm z).t1 3 v' (dJ aC l x).length (eQ (dJ aC l x))/\Bw w w'/\(v'=v\/∀g,v'.ownBlock=some g->w.heap.size<=g):=by
 let zq:=z
 rcases Bool.eq_false_or_eq_true z with rfl|rfl;all_goals
  (try dsimp only[nm])
  obtain⟨W2,hW2⟩:=aF ((w.alloc (.cells #[aB cb] (nm zq).t4)).alloc (.cells #[uV x.1.1,uV x.1.2.1,uV x.1.2.2] (nm zq).t1));dsimp only[nm,zq]at hW2;have G2:Gr w W2:=by rw[hW2];exact((Gr.refl _).alloc _).alloc _
  have hz:w.heap.size+1<W2.heap.size:=by rw[hW2];simp
  have b1:W2.cell? ⟨w.heap.size,0,none⟩=some (aB cb):=by rw[hW2];simp
  have b2:W2.cell? ⟨w.heap.size+1,0,none⟩=some (uV x.1.1):=by rw[hW2];simp
  have b3:W2.cell? ⟨w.heap.size+1,1,none⟩=some (uV x.1.2.1):=by rw[hW2];simp
  have b4:W2.cell? ⟨w.heap.size+1,2,none⟩=some (uV x.1.2.2):=by rw[hW2];simp
  have hc2:=hc.below G2.below;have HPB:Hid (∀(W:World) (y:Tm),Bw W2 W->CL (nm zq).s1 #[tv y,aB w.heap.size, .pointer (some ⟨w.heap.size+1,0,none⟩)] W fun e w'=>e= .returned (.bool (aC x y))/\Gr W w'):=fun W y hg=>
   Bb zq fb aC hF y x w.heap.size (w.heap.size+1) cb W (nL (by omega) hg.size) (nL hz hg.size) (nL hc2.lt hg.size)
    ((hg.cell (p:=⟨_,_,none⟩) (Nat.lt_of_succ_lt hz)).trans b1) ((hg.cell (p:=⟨_,_,none⟩) hz).trans b2) ((hg.cell (p:=⟨_,_,none⟩) hz).trans b3) ((hg.cell (p:=⟨_,_,none⟩) hz).trans b4) ((hg.cell (p:=⟨_,_,none⟩) hc2.lt).trans hc2.c0)
  have hP:yA (nm zq).s1 #[aB w.heap.size, .pointer (some ⟨w.heap.size+1,0,none⟩)] (fun y=>aC x y) W2:=fun W y hg=>HPB.o W y hg.below;have h:=iE zq v l _ _ _ W2 hc2.qF (BN hl) (BC zq).2.2 hP;clear hP;have eg:∀args w,(callFunc (nm zq).s1 args).run Tryz.prog w= .ok (.enter (nm zq).s1 args) w:=(BC zq).2.2;have HB1:Hid (W2.cell? ⟨w.heap.size,0,none⟩=some (aB cb)):=b1;have HB2:Hid (W2.cell? ⟨w.heap.size+1,0,none⟩=some (uV x.1.1)):=b2;have HB3:Hid (W2.cell? ⟨w.heap.size+1,1,none⟩=some (uV x.1.2.1)):=b3;have FD:Hid (W2.cell? ⟨w.heap.size+1,2,none⟩=some (uV x.1.2.2)):=b4;have HZ:Hid (w.heap.size+1<W2.heap.size):=hz;have IZ:Hid (Ch zq W2 cb fb ff v l):=hc2;have FU:Hid (Ch zq w cb fb ff v l):=hc;have k2:=hc.c2;have kl:=hc.lt;clear b1 b2 b3 b4 hz hc2;by_cases hi:l.findIdx (fun y=>aC x y)<l.length
  ·have hv:iy (fun y=>aC x y) l=((l.findIdx fun y=>aC x y:Nat):Int):=(by unfold iy;rw[if_pos hi]);have HC:=Um (aC:=aC) (l:=l) (x:=x) rfl hi;rw[hv]at h;clear hv;generalize hq:List.findIdx (fun y=>aC x y) l=i at *;clear hq;obtain⟨_,⟨_,h0⟩|⟨g,cap,cur,hvf,_,hgg,hn,hm,hcs,htk⟩⟩:=hc.own
   ·omega
   subst hvf;have hz1:¬(i:Int)<0:=(by omega);have hz2:(0:Int)<=(i:Int):=(by omega);have hz3:(i:Int)<=(cap:Int):=(by omega);have hz4:¬cap=0:=(by omega);obtain⟨m,hmD⟩:=aF (l.length-(i+1));obtain⟨D,hD⟩:=aF (l.drop (i+1));have hDl:D.length=m:=(by rw[hD,hmD];simp);have HD:Hid (D=l.drop (i+1)):=hD;rw[<-hD]at HC;have HCT:Hid (dJ aC l x=l.take i++dJ aC D x):=HC;have hlt:(l.take i).length=i:=(by simp;omega);have rC:i+m+1=l.length:=(by omega);unfold maxLen at hm;clear HC hD hmD hc hgg hcs htk;subst hW2;first|go_enter Tryz.func252,Tryz.ntmps252|go_enter Tryz.func189,Tryz.ntmps189
   go_wp2_with fail;refine h.mono ?_;rintro e w1 ⟨rfl,hg⟩;have k3:=(hg.cell (b:=w.heap.size) (o:=0) (Nat.lt_of_succ_lt HZ.o)).trans HB1.o;have k4:=(hg.cell (b:=cb) (o:=2) IZ.o.lt).trans IZ.o.c2;have k6:w.heap.size<w1.heap.size:=nL (Nat.lt_of_succ_lt HZ.o) hg.size;have k7:cb<w1.heap.size:=nL IZ.o.lt hg.size;have Ka:Hid (oz w1 (sO g l.length cap) l):=IZ.o.qF.below hg.below;have HLT:Hid (oz w1 (sO g i cap) (l.take i)):=by
    have:=Ka.o.cut (k:=i) (by omega) cap;exact this
   clear h;go_upto_region 6 with(at_builtin;refine jZ zq rfl _ _ rfl w1.heap.size (.slice none 0 0) 0 [] rfl (oN _ _ _ _) (sO g i cap) (l.take i) rfl HLT.o (by omega) (nR _) ?_;intro v5 w5 Em hg5);have hb5:Bw w1 w5:=(Kp.grownBy (S:=fun _=>False) hg5 (fun k hk=>by cases hk)).below (nR _) (fun _ h=>h.elim);have k3':=(hb5.cell (p:=⟨w.heap.size,0,none⟩) k6).trans k3;have k4':=(hb5.cell (p:=⟨cb,2,none⟩) k7).trans k4;have k6':w.heap.size<w5.heap.size:=nL k6 hb5.size;have k7':cb<w5.heap.size:=nL k7 hb5.size;have HL5:Hid (oz w5 (sO g l.length cap) l):=Ka.o.below hb5;have U2:((i:Int)+1)<=(l.length:Int):=(by omega);have hz6:(0:Int)<=(i:Int)+1:=(by omega);clear k3 k4 k6 k7;go_cut [36,37,38] (fun s36 s37 RZ w'=>∃q c,s36= .slice q m c/\Hid (oz w1 (.slice q m c) D)/\s37=iV (m:Int)/\RZ=iV 0/\w'=w5);case first=>
    have hmm:l.length-(i+1)=m:=(by omega);by_cases hcc:cap=i+1
    ·go_wp2_with fail;go_meet;have h1:=Ka.o.void (k:=i+1) (by omega) 0;rw[<-HD.o,hmm]at h1;exact⟨_,_,rfl,h1,rfl,rfl,rfl⟩
    ·go_wp2_with fail;go_meet;have h1:=Ka.o.tail (k:=i+1) (cap-(i+1));rw[<-HD.o,hmm,nZ]at h1;exact⟨_,_,rfl,h1,rfl,rfl,rfl⟩
   case rest=>
    obtain⟨q,c,rfl,aca,rfl,rfl,hwc⟩:=hcut;rw[hwc];clear hwc k3' k4' k6' k7' HL5 HLT Ka U2 hz6;rw[hlt,List.nil_append]at Em;rw[nZ]at Em;have HW:Hid (Below ((w.alloc (.cells #[aB cb] (nm zq).t4)).alloc (.cells #[uV x.1.1,uV x.1.2.1,uV x.1.2.2] (nm zq).t1)).heap.size ((w.alloc (.cells #[aB cb] (nm zq).t4)).alloc (.cells #[uV x.1.1,uV x.1.2.1,uV x.1.2.2] (nm zq).t1)) w1):=hg.below;have HGW:Hid (Gr w w1):=G2.trans hg;have hzz:=HGW.o.size;have hsz2:=hg.size;clear hg G2 hg5;go_wp2_with fail;go_loopw [7,9,38] (fun s7 _ RZ wr=>∃k:Nat,k<=m/\RZ=iV k/\wr.ownsRow w1.heap.size (nm zq).t1 3 s7 (i+(dJ aC (D.take k) x).length) (eQ (l.take i++dJ aC (D.take k) x))/\Bw w1 wr) (fun _ _ RZ _=>m-(intOf RZ).toNat);case atStart=>exact⟨0,zL _,rfl,by simpa[dJ]using Em,hb5⟩
    case round=>
     obtain⟨k,hk,rfl,hown,hbw⟩:=hrel;clear Em;have uJ:Hid (Below ((w.alloc (.cells #[aB cb] (nm zq).t4)).alloc (.cells #[uV x.1.1,uV x.1.2.1,uV x.1.2.2] (nm zq).t1)).heap.size ((w.alloc (.cells #[aB cb] (nm zq).t4)).alloc (.cells #[uV x.1.1,uV x.1.2.1,uV x.1.2.2] (nm zq).t1)) wr):=HW.o.trans (hbw.mono hsz2);have hsz:=hbw.size;by_cases hlt2:k<m
     ·have hltz:(k:Int)<(m:Int):=(by omega);obtain⟨y,hy⟩:∃y,D[k]? =some y:=⟨D[k]'(by omega),by simp⟩;have HLw:oz wr (.slice q m c) D:=aca.o.below hbw;obtain⟨b1,o1,c1,e1,z1,x1,x2,x3⟩:=HLw.at3 hy;simp only[vS]at e1;obtain⟨rfl,-,rfl⟩:=e1;clear HLw;have HY:Hid (dJ aC (D.take (k+1)) x=dJ aC (D.take k) x++(if aC x y then[]else[y])):=yt hy;have hcl:=Ul (aC:=aC) (m:=D) (x:=x) k;clear hy;generalize dJ aC (D.take k) x=f at *;have hcall:=HPB.o (wr.alloc (.cells #[uV y.1.1,uV y.1.2.1,uV y.1.2.2] (nm zq).t1)) y (uJ.o.trans ((Below.refl _ _).alloc uJ.o.size _));cases hq:aC x y with
      | true=>
       rw[hq]at hcall;have HE:Hid (dJ aC (D.take (k+1)) x=f):=(by rw[HY.o,hq];simp[Hid]);go_wp2_with ((first|go_at_call 279|go_at_call 248);refine hcall.mono ?_;rintro e w3 ⟨rfl,hg3⟩);refine⟨⟨k+1,by omega,by go_num,by rw[HE.o];exact ag (hown.alloc _) hg3.below,(hbw.alloc hsz _).trans (hg3.below.mono (by simp;omega))⟩,by simp[intOf];omega⟩
      | false=>
       rw[hq]at hcall;have HE:Hid (dJ aC (D.take (k+1)) x=f++[y]):=(by rw[HY.o,hq];simp[Hid]);go_wp2_with fail
       (first|go_at_call 279|go_at_call 248)
       refine hcall.mono ?_;rintro e w3 ⟨rfl,hg3⟩;have q1:w3.cell? ⟨wr.heap.size,0,none⟩=some (uV y.1.1):=(hg3.cell (by simp)).trans (by simp);have q2:w3.cell? ⟨wr.heap.size,1,none⟩=some (uV y.1.2.1):=(hg3.cell (by simp)).trans (by simp);have q2b:w3.cell? ⟨wr.heap.size,2,none⟩=some (uV y.1.2.2):=(hg3.cell (by simp)).trans (by simp);have q3:wr.heap.size<w3.heap.size:=nL (by simp) hg3.size;have hown3:=ag (hown.alloc _) hg3.below;clear x1 x2 x3 hcall;go_wp2_with (at_builtin;refine gB zq rfl _ _ rfl w1.heap.size _ (i+f.length) _ rfl hown3 y rfl (by omega) (by omega) ?_);intro g9 c9 w9 Mk hg9 hl9;go_wp2;refine⟨⟨k+1,by omega,by go_num, ?_, ?_⟩,by simp[intOf];omega⟩
       ·rw[HE.o];simpa[jF,vL,Nat.add_assoc]using Mk
       ·exact((hbw.alloc hsz _).trans (hg3.below.mono (by simp;omega))).trans ((Kp.grownBy (S:=fun k=>w1.heap.size<=k) hg9 (fun k hk=>(hown3.lt k hk).1)).below (by omega) (fun _ h=>h))
     ·have hltz:¬(k:Int)<(m:Int):=(by omega);have hkm:k=m:=(by omega);subst hkm;rw[tL (by omega)]at hown;go_wp2;go_ret;refine⟨_,rfl, ?_,HGW.o.below.trans (hbw.mono hzz),Or.inr fun g' hg'=>nT hzz (hown.lt g' hg').1⟩;rw[HCT.o,dQ,hlt];exact aN hown (zL _)
  ·have hv:iy (fun y=>aC x y) l= -1:=(by unfold iy;rw[if_neg hi]);rw[LH hi];rw[hv]at h;clear hv hi eg HPB;clear hc;subst hW2;first|go_enter Tryz.func252,Tryz.ntmps252|go_enter Tryz.func189,Tryz.ntmps189
   go_wp2_with fail;refine h.mono ?_;rintro e w1 ⟨rfl,hg⟩;have k3:=(hg.cell (b:=w.heap.size) (o:=0) (Nat.lt_of_succ_lt HZ.o)).trans HB1.o;have k4:=(hg.cell (b:=cb) (o:=2) IZ.o.lt).trans IZ.o.c2;have k6:w.heap.size<w1.heap.size:=nL (Nat.lt_of_succ_lt HZ.o) hg.size;have k7:cb<w1.heap.size:=nL IZ.o.lt hg.size;clear h;go_wp2;go_ret;exact⟨_,rfl,ag FU.o.own (G2.trans hg).below,(G2.trans hg).below,Or.inl rfl⟩
end Cz
section
open Go.RowKit Go.Sort Go.Maps
attribute[local go_sem ↓]wp_at_zero wp_at_succ
theorem KH(x t:Tm)(B:Nat)(w:World)(hB:B<w.heap.size)(g0:aj w B 0 (uV t.1.1))(g1:aj w B 1 (uV t.1.2.1))(g2:aj w B 2 (uV t.1.2.2)):
    CL 254 #[tv x,aB B] w fun e w'=>e= .returned (.bool (aC x t))/\Gr w w':=by
 have H:=fun W=>fJ.calls x t W;generalize aC x t=r at H⊢;have hne:B≠w.heap.size:=by omega
 go_enter Tryz.func254,Tryz.ntmps254;go_wp2_with (go_at_call 18;refine(H _).mono ?_;rintro e w1 ⟨rfl,hg⟩);go_ret;exact⟨rfl,((Gr.refl _).alloc _).trans hg⟩
theorem Kr(v:Value)(l:List Tm)(x:Tm)(w:World)(hv:oz w v l)(hl:l.length<=maxLen):
    CL 206 #[v,tv x] w fun e w'=>e= .returned (.bool (bH aC l x))/\Gr w w':=by
 obtain⟨W2,hW2⟩:=aF (w.alloc (.cells #[uV x.1.1,uV x.1.2.1,uV x.1.2.2] 45));have G2:Gr w W2:=by rw[hW2];exact(Gr.refl _).alloc _
 have hz:w.heap.size<W2.heap.size:=by rw[hW2];simp
 have b2:W2.cell? ⟨w.heap.size,0,none⟩=some (uV x.1.1):=by rw[hW2];simp
 have b3:W2.cell? ⟨w.heap.size,1,none⟩=some (uV x.1.2.1):=by rw[hW2];simp
 have b4:W2.cell? ⟨w.heap.size,2,none⟩=some (uV x.1.2.2):=by rw[hW2];simp
 have hP:Cz.yA 254 #[aB w.heap.size] (fun y=>aC y x) W2:=fun W y hg=>
  KH y x w.heap.size W (nL hz hg.size) ((hg.cell hz).trans b2) ((hg.cell hz).trans b3) ((hg.cell hz).trans b4)
 have h:=Cz.kQ true v l _ _ _ W2 (hv.below G2.below) hl (enters_of Tryz.func254 (by kernel_rfl) rfl) hP;rw[show(l.any fun y=>aC y x)=bH aC l x from rfl]at h;generalize bH aC l x=r at h⊢;obtain⟨pl,cl,rfl⟩:=hv.form;clear hP b2 b3 b4 hv;subst hW2;go_enter Tryz.func206,Tryz.ntmps206;go_wp2_with fail;refine h.mono ?_;rintro e w1 ⟨rfl,hg⟩;go_wp2;go_ret;exact⟨rfl,G2.trans hg⟩
end
end Go.Proofs.YtiiefcalkjeieaaGreat
