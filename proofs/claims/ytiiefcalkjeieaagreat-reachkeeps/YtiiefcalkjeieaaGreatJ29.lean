import Derived.Test.YtiiefcalkjeieaaGreatJ28
variable{mb g cap:Nat}
set_option maxHeartbeats 4000000
set_option maxRecDepth 100000
namespace Go.Proofs.YtiiefcalkjeieaaGreat
namespace Rc
open Go.RowKit Go.Sort Go.Maps Pt
attribute[local go_sem ↓]wp_at_zero wp_at_succ
theorem BR:(Tryz.prog.info? 107).map (fun i=>(i.zero,i.size,i.bytes))=some (some (.pointer none),1,8):=by kernel_rfl
theorem Oc{w w':World}{tb b cb:Nat}(tag:Nat->Nat)(j:Nat)(h:Mu w' mb tb b cb 0 (.slice none 0 0) (fun _=>0) [])(hn:w.heap.size<=mb/\w.heap.size<=tb/\w.heap.size<=b/\w.heap.size<=cb):Ml w' (tg tag w j) j mb 0 (fun _=>0) []:=
 ⟨tb,b,cb,_,h,fU.nil,aU hn.1,aU hn.2.1,aU hn.2.2.1,aU hn.2.2.2,fun k hk=>by simp[Value.ownBlock]at hk⟩
structure tY(w0:World)(aL:Nat->Nat)(w:World)(tag:Nat->Nat)(rb:Nat)(ar:Int)(sv rv ov cv:Value)(N:Nat)(L:Nat->List (Nat×ai))(rs os ms:List Nat)(uv:Value)(U:List Hc.Th)(nn:Nat->Nat)(c:Nat->ai->Int)(O:Nat->List ai)(nm:Nat->Nat)(C:Nat->ai->Int)(F:Nat->List ai):Prop where
 blk:w.heap[rb]? =some (.cells #[iV ar,sv,rv,ov,cv,uv] 102 (0,0))
 tb:tag rb=2
 st:LY EP w tag 0 sv N L
 rk:Lm ER w tag 0 rv rs
 ow:w.ownsRow w0.heap.size 107 1 ov os.length (fl EA os)
 ot:∀k,ov.ownBlock=some k->tag k=4294967297
 cm:w.ownsRow w0.heap.size 107 1 cv ms.length (fl EA ms)
 ct:∀k,cv.ownBlock=some k->tag k=4294967298
 ut:Lm EC w tag 0 uv U
 om:∀p mb,os[p]? =some mb->Ml w tag (3+N+p) mb (nn p) (c p) (O p)
 mm:∀p mb,ms[p]? =some mb->Ml w tag (3+p) mb (nm p) (C p) (F p)
 hb:Bw w0 w
 old:∀k,k<w0.heap.size->tag k=aL k
section
variable {w0 w w':World} {aL tag:Nat->Nat} {rb:Nat} {ar:Int} {sv rv ov cv:Value} {N:Nat} {L:Nat->List (Nat×ai)} {rs os ms:List Nat} {uv:Value} {U:List Hc.Th} {nn:Nat->Nat} {c:Nat->ai->Int} {O:Nat->List ai} {nm:Nat->Nat} {C:Nat->ai->Int} {F:Nat->List ai}
theorem tY.grow(h:tY w0 aL w tag rb ar sv rv ov cv N L rs os ms uv U nn c O nm C F)(j:Nat)(hB:Bw w w'):tY w0 aL w' (tg tag w j) rb ar sv rv ov cv N L rs os ms uv U nn c O nm C F:=by
 have hK:=Kp.of_below (S:=fun _=>False) hB;have hS:∀i k,k<w.heap.size->False->tag k≠i:=fun _ _ _ e=>e.elim;have hT:∀k,k<w.heap.size->tg tag w j k=tag k:=fun k hk=>au hk;exact⟨(hB.block rb (ae h.blk)).trans h.blk,by rw[hT rb (ae h.blk)];exact h.tb,h.st.keep hK (hS 0) hT,h.rk.keep hK (hS 0) hT,ag h.ow hB,fun k hk=>by rw[hT k (h.ow.lt k hk).2];exact h.ot k hk,ag h.cm hB,fun k hk=>by rw[hT k (h.cm.lt k hk).2];exact h.ct k hk,h.ut.keep hK (hS 0) hT,fun p mb hp=>(h.om p mb hp).keep hK (hS _) hT,fun p mb hp=>(h.mm p mb hp).keep hK (hS _) hT,h.hb.trans (hB.mono h.hb.size),fun k hk=>by rw[hT k (nL hk h.hb.size)];exact h.old k hk⟩
theorem tY.own(h:tY w0 aL w tag rb ar sv rv ov cv N L rs os ms uv U nn c O nm C F)(hN:N<=192)(_:os.length<=N)(hm:ms.length<=N)(hlt:os.length<N)(hrb:w0.heap.size<=rb)(hM:Ml w tag (3+N+os.length) mb (nn os.length) (c os.length) (O os.length))(h1:w'.ownsRow w0.heap.size 107 1 (sO g (os.length+1) cap) (os.length+1) (fl EA os++EA.enc mb))(h2:w.grownBy w' ov.ownBlock)(h3:ov.ownBlock=some g\/w.heap.size<=g):
    tY w0 aL (w'.setCell ⟨rb,3,none⟩ (sO g (os.length+1) cap)) (tg tag w 4294967297) rb ar sv rv (sO g (os.length+1) cap) cv N L rs (os++[mb]) ms uv U nn c O nm C F:=by
 have K0:Kp (fun k=>ov.ownBlock=some k) w w':=Kp.grownBy h2 fun k hk=>hk;have K1:Kp (fun k=>tag k=4294967297) w w':=K0.mono fun k hk=>h.ot k hk;have hT:∀k,k<w.heap.size->tg tag w 4294967297 k=tag k:=fun k hk=>au hk;have hb':w'.heap[rb]? =some (.cells #[iV ar,sv,rv,ov,cv,uv] 102 (0,0)):=(K1.block rb (ae h.blk) fun e=>by rw[h.tb]at e;cases e).trans h.blk;obtain⟨q1,k2⟩:=Df.aP hb' 3 (sO g (os.length+1) cap);have hrl:=ae h.blk;have K2:Kp (fun k=>tag k=4294967297\/k=rb) w (w'.setCell ⟨rb,3,none⟩ (sO g (os.length+1) cap)):=(K1.mono (T:=fun k=>tag k=4294967297\/k=rb) fun k hk=> .inl hk).trans k2 fun k _ e=> .inr e;have hS:∀i,i≠4294967297->i≠2->∀k,k<w.heap.size->(tag k=4294967297\/k=rb)->tag k≠i:=fun i e1 e2 k _ e=>by
  rcases e with e|e
  ·rw[e];exact fun x=>e1 x.symm
  ·rw[e,h.tb];exact fun x=>e2 x.symm
 have ho2:∀{z m:Nat} {v:Value} {xs:List Value},w'.ownsRow w0.heap.size 107 z v m xs->(w'.setCell ⟨rb,3,none⟩ (sO g (os.length+1) cap)).ownsRow w0.heap.size 107 z v m xs:=fun o=>ax k2 o fun k e e2=>Df.aJ o hb' (by decide) k e e2;have hB:Bw w0 (w'.setCell ⟨rb,3,none⟩ (sO g (os.length+1) cap)):=h.hb.trans (((K0.mono (T:=fun k=>ov.ownBlock=some k\/k=rb) fun k hk=> .inl hk).trans k2 fun k _ e=> .inr e).below h.hb.size fun k e=>by
  rcases e with e|e
  ·exact(h.ow.lt k e).1
  ·rw[e];exact hrb)
 refine⟨q1,by rw[hT rb hrl];exact h.tb,h.st.keep K2 (hS 0 (by decide) (by decide)) hT,h.rk.keep K2 (hS 0 (by decide) (by decide)) hT, ?r1, ?r2,ho2 (ax K1 h.cm fun k e e2=>by rw[h.ct k e]at e2;cases e2),fun k hk=>by rw[hT k (h.cm.lt k hk).2];exact h.ct k hk,h.ut.keep K2 (hS 0 (by decide) (by decide)) hT, ?r3, ?r4,hB,fun k hk=>by rw[hT k (nL hk h.hb.size)];exact h.old k hk⟩;case r1=>
  exact by
   rw[dQ,vR];exact aV (ho2 h1) rfl (by rw[aT];rfl)
 case r2=>
  exact fun k hk=>by
   have e:g=k:=(by simpa[Value.ownBlock]using hk);rw[<-e];rcases h3 with e3|e3
   ·rw[hT g (h.ow.lt g e3).2];exact h.ot g e3
   ·exact aU e3
 case r3=>
  exact fun p mq hp=>by
   rw[List.getElem?_append]at hp;split at hp
   ·rename_i hpl;exact(h.om p mq hp).keep K2 (hS _ (by omega) (by omega)) hT
   ·have e:p=os.length:=by
      have:=(lG.1 hp).1;simp at this;omega
    subst e;rw[Nat.sub_self]at hp;cases hp;exact hM.keep K2 (hS _ (by omega) (by omega)) hT
 case r4=>
  exact fun p mq hp=>by
   have hpl:=(lG.1 hp).1;exact(h.mm p mq hp).keep K2 (hS _ (by omega) (by omega)) hT
theorem tY.come(h:tY w0 aL w tag rb ar sv rv ov cv N L rs os ms uv U nn c O nm C F)(hN:N<=192)(ho:os.length<=N)(_:ms.length<=N)(hlt:ms.length<N)(hrb:w0.heap.size<=rb)(hM:Ml w tag (3+ms.length) mb (nm ms.length) (C ms.length) (F ms.length))(h1:w'.ownsRow w0.heap.size 107 1 (sO g (ms.length+1) cap) (ms.length+1) (fl EA ms++EA.enc mb))(h2:w.grownBy w' cv.ownBlock)(h3:cv.ownBlock=some g\/w.heap.size<=g):
    tY w0 aL (w'.setCell ⟨rb,4,none⟩ (sO g (ms.length+1) cap)) (tg tag w 4294967298) rb ar sv rv ov (sO g (ms.length+1) cap) N L rs os (ms++[mb]) uv U nn c O nm C F:=by
 have K0:Kp (fun k=>cv.ownBlock=some k) w w':=Kp.grownBy h2 fun k hk=>hk;have K1:Kp (fun k=>tag k=4294967298) w w':=K0.mono fun k hk=>h.ct k hk;have hT:∀k,k<w.heap.size->tg tag w 4294967298 k=tag k:=fun k hk=>au hk;have hb':w'.heap[rb]? =some (.cells #[iV ar,sv,rv,ov,cv,uv] 102 (0,0)):=(K1.block rb (ae h.blk) fun e=>by rw[h.tb]at e;cases e).trans h.blk;obtain⟨q1,k2⟩:=Df.aP hb' 4 (sO g (ms.length+1) cap);have hrl:=ae h.blk;have K2:Kp (fun k=>tag k=4294967298\/k=rb) w (w'.setCell ⟨rb,4,none⟩ (sO g (ms.length+1) cap)):=(K1.mono (T:=fun k=>tag k=4294967298\/k=rb) fun k hk=> .inl hk).trans k2 fun k _ e=> .inr e;have hS:∀i,i≠4294967298->i≠2->∀k,k<w.heap.size->(tag k=4294967298\/k=rb)->tag k≠i:=fun i e1 e2 k _ e=>by
  rcases e with e|e
  ·rw[e];exact fun x=>e1 x.symm
  ·rw[e,h.tb];exact fun x=>e2 x.symm
 have ho2:∀{z m:Nat} {v:Value} {xs:List Value},w'.ownsRow w0.heap.size 107 z v m xs->(w'.setCell ⟨rb,4,none⟩ (sO g (ms.length+1) cap)).ownsRow w0.heap.size 107 z v m xs:=fun o=>ax k2 o fun k e e2=>Df.aJ o hb' (by decide) k e e2;have hB:Bw w0 (w'.setCell ⟨rb,4,none⟩ (sO g (ms.length+1) cap)):=h.hb.trans (((K0.mono (T:=fun k=>cv.ownBlock=some k\/k=rb) fun k hk=> .inl hk).trans k2 fun k _ e=> .inr e).below h.hb.size fun k e=>by
  rcases e with e|e
  ·exact(h.cm.lt k e).1
  ·rw[e];exact hrb)
 refine⟨q1,by rw[hT rb hrl];exact h.tb,h.st.keep K2 (hS 0 (by decide) (by decide)) hT,h.rk.keep K2 (hS 0 (by decide) (by decide)) hT,ho2 (ax K1 h.ow fun k e e2=>by rw[h.ot k e]at e2;cases e2),fun k hk=>by rw[hT k (h.ow.lt k hk).2];exact h.ot k hk, ?r1, ?r2,h.ut.keep K2 (hS 0 (by decide) (by decide)) hT, ?r3, ?r4,hB,fun k hk=>by rw[hT k (nL hk h.hb.size)];exact h.old k hk⟩;case r1=>
  exact by
   rw[dQ,vR];exact aV (ho2 h1) rfl (by rw[aT];rfl)
 case r2=>
  exact fun k hk=>by
   have e:g=k:=(by simpa[Value.ownBlock]using hk);rw[<-e];rcases h3 with e3|e3
   ·rw[hT g (h.cm.lt g e3).2];exact h.ct g e3
   ·exact aU e3
 case r3=>
  exact fun p mq hp=>by
   have hpl:=(lG.1 hp).1;exact(h.om p mq hp).keep K2 (hS _ (by omega) (by omega)) hT
 case r4=>
  exact fun p mq hp=>by
   rw[List.getElem?_append]at hp;split at hp
   ·rename_i hpl;exact(h.mm p mq hp).keep K2 (hS _ (by omega) (by omega)) hT
   ·have e:p=ms.length:=by
      have:=(lG.1 hp).1;simp at this;omega
    subst e;rw[Nat.sub_self]at hp;cases hp;exact hM.keep K2 (hS _ (by omega) (by omega)) hT
def NT(w0:World)(aL tag:Nat->Nat)(N k:Nat):Nat:=if k<w0.heap.size then(if aL k=0 then 0 else 4294967299)else if tag k<3+2*N then tag k else 0
theorem tY.done(h:tY w0 aL w tag rb ar sv rv ov cv N L rs os ms uv U nn c O nm C F)(ho:os.length=N)(hm:ms.length=N)(hr:rs.length=N)(hN:N<=192)(hst:∀k,k<w0.heap.size->aL k=0\/aL k=4294967299){K:Nat->List ai}(hK:∀p,p<N->nn p=(K p).length):Rq w (NT w0 aL tag N) rb ar N L rs c K O C F U:=by
 have key:∀j,j<3+2*N->∀k,tag k=j->NT w0 aL tag N k=j:=fun j hj k e=>by
  unfold NT;split
  ·rename_i hk;have e2:=h.old k hk;rcases hst k hk with e3|e3
   ·rw[if_pos e3];omega
   ·omega
  ·rw[if_pos (by omega),e]
 have z:∀j,3+2*N<=j->∀k,w0.heap.size<=k->tag k=j->NT w0 aL tag N k=0:=fun j hj k hk e=>by
  unfold NT;rw[if_neg (by omega),if_neg (by omega)]
 refine⟨sv,rv,ov,cv,_,os,ms,⟨h.blk,key 2 (by omega) _ h.tb,h.st.retag (key 0 (by omega)),h.rk.retag (key 0 (by omega)),⟨aK (E:=EA) h.ow,fun k hk=>z _ (by omega) k (h.ow.lt k hk).1 (h.ot k hk)⟩,⟨aK (E:=EA) h.cm,fun k hk=>z _ (by omega) k (h.cm.lt k hk).1 (h.ct k hk)⟩,h.ut.retag (key 0 (by omega)),ho,hm,hr⟩,fun p mb hp=> ?_,fun p mb hp=> ?_⟩
 ·have hpl:=(lG.1 hp).1;rw[<-hK p (by omega)];exact(h.om p mb hp).retag (key _ (by omega))
 ·have hpl:=(lG.1 hp).1;exact⟨_,(h.mm p mb hp).retag (key _ (by omega))⟩
end
open Lf (FN TP Tv uM uX)
open Df (bG ic Gm aW iM iq eX)
def NwR(w:World)(g:bG)(e:Ending)(w':World):Prop:=Bw w w'/\∃a,FN g a/\((a=none/\e= .returned (.tuple #[.pointer none,iV 27]))\/(a=some none/\e= .returned (.tuple #[.pointer none,iV 28]))\/∃R rb t,a=some (some R)/\e= .returned (.tuple #[aB rb,iV 0])/\w.heap.size<=rb/\(∀k,k<w.heap.size->t k=4294967299)/\(∀k,w.heap.size<=k->t k<3+2*aW g.nodes)/\Rq w' t rb g.arity (aW g.nodes) (sV g) (sJ (aW g.nodes) R) (fun _ _=>0) (fun _=>[]) (fun _=>[]) (fun _ _=>0) (fun _=>[]) [])
theorem dI{B gb:Nat}{g:bG}(w0:World)(h:Gm B w0 gb g)(ku:ic g)(hP:uM g):CL 31 #[aB gb] w0 fun e w'=>Hid (NwR w0 g e w'):=by
 have hmx:Tryz.prog.follows .mixedOrders=true:=by kernel_rfl
 obtain⟨aL,Eh⟩:∃t:Nat->Nat,t=fun _=>4294967299:=⟨_,rfl⟩;have HT0:=hid Eh;have hpn:=Lf.dI w0 h ku hP;have HG:Hid (∀W,Bw w0 W->Gm B W gb g):=fun W hb=>h.below hb;have iP:=hid ku;have YE:=hid hP;have hn:=Df.nu ku;clear h ku hP Eh;go_enter Tryz.func31,Tryz.ntmps31;go_wp2_with fail;refine hpn.mono ?_;clear hpn;rintro e w1 ⟨hb1,a,ha,hr⟩;have HA:=hid ha;have HB1:=hid hb1;clear ha hb1;rcases hr with⟨rfl,rfl⟩|⟨rfl,rfl⟩|⟨R,tb,rfl,rfl,htp⟩
 ·go_wp2_with fail;go_ret2;exact⟨HB1.o,none,HA.o, .inl ⟨rfl,rfl⟩⟩
 ·go_wp2_with fail;go_ret2;exact⟨HB1.o,some none,HA.o, .inr (.inl ⟨rfl,rfl⟩)⟩
 have IY:Hid (∀p q,p<aW g.nodes->(R p q).length<=64):=fun p q hp=>by
  have ht:=HA.o;cases ht with
  | tab _ _ hr => exact(hr p hp q).2.2
 have hwy:=F5 w1 (HG.o w1 HB1.o) iP.o YE.o (R:=R) (M:=w1.heap.size) (tv:=aB tb) (Or.inr ⟨tb,rfl,htp⟩) (nR _) IY.o;clear htp;go_wp2_with fail;refine hwy.mono ?_;clear hwy;rintro e w2 ⟨sv,rv,vs,rfl,h2⟩;obtain⟨hb2,hf,hvl,FK⟩:=h2.o;have hb2':=HB1.o.trans (hb2.mono HB1.o.size);have hsr:=Ko iP.o hf hvl (tag:=tg aL w1 0) (j:=0) (fun k h1 _=>aU h1);obtain⟨sq,wK,sc,hsv⟩:=Df.aD hf.row;obtain⟨rq,rm,rc,U5⟩:=Df.aD FK;subst hsv U5;obtain⟨rb,hrb⟩:=aF (w2.heap.size);obtain⟨W3,hW3⟩:=aF (w2.alloc (.cells #[iV g.arity, .slice sq wK sc, .slice rq rm rc, .slice none 0 0, .slice none 0 0, .slice none 0 0] 102));obtain⟨n,hnn⟩:=aF (aW g.nodes);rw[<-hnn]at hn hsr FK;have HN:=hid hnn;have H3:Hid (tY w0 aL W3 (tg (tg aL w1 0) w2 2) rb g.arity (.slice sq wK sc) (.slice rq rm rc) (.slice none 0 0) (.slice none 0 0) n (sV g) (sJ n R) [] [] (.slice none 0 0) [] (fun _=>0) (fun _ _=>0) (fun _=>[]) (fun _=>0) (fun _ _=>0) (fun _=>[])/\w0.heap.size<=rb):=by
  rw[hW3,hrb];have g3:=((Gr.refl w2).alloc (.cells #[iV g.arity, .slice sq wK sc, .slice rq rm rc, .slice none 0 0, .slice none 0 0, .slice none 0 0] 102)).below;have hK:=Kp.of_below (S:=fun _=>False) g3;have hT:∀k,k<w2.heap.size->tg (tg aL w1 0) w2 2 k=tg aL w1 0 k:=fun k hk=>au hk;refine⟨⟨ah _ _,aU (nR _),hsr.keep hK (fun _ _ e=>e.elim) hT,⟨aK (E:=ER) (e:=3) (base:=w1.heap.size) (by rw[Jj];exact ag FK g3),fun k hk=>by rw[hT k (FK.lt k hk).2];exact aU (FK.lt k hk).1⟩,oN _ _ _ _,fun k hk=>by simp[Value.ownBlock]at hk,oN _ _ _ _,fun k hk=>by simp[Value.ownBlock]at hk,⟨Or.inl ⟨rfl,rfl⟩,fun k hk=>by simp[Value.ownBlock]at hk⟩,fun p mb hp=>by simp at hp,fun p mb hp=>by simp at hp,hb2'.trans (g3.mono hb2'.size),fun k hk=> ?_⟩,hb2'.size⟩;rw[hT k (nL hk hb2'.size),au (nL hk HB1.o.size)]
 clear hb2 hb2' hf hvl FK hsr h2 hnn;go_upto_region 5 with fail;rw[<-hW3,<-hrb];clear hW3 hrb;generalize tg (tg aL w1 0) w2 2=uN at H3;have hpl:=iM W3 (HG.o W3 H3.o.1.hb);rw[<-HN.o]at hpl;go_wp2_with fail;refine hpl.mono ?_;clear hpl;rintro e w4 ⟨rfl,hw4⟩;subst hw4;go_wp2_with fail;go_loopw [22] (fun s22 wr=>∃(i:Nat) (tag:Nat->Nat) (oq:Option Addr) (om oc:Nat) (cq:Option Addr) (cm cc:Nat) (os ms:List Nat),i<=n/\s22=iV (i:Nat)/\Hid (tY w0 aL wr tag rb g.arity (.slice sq wK sc) (.slice rq rm rc) (.slice oq om oc) (.slice cq cm cc) n (sV g) (sJ n R) os ms (.slice none 0 0) [] (fun _=>0) (fun _ _=>0) (fun _=>[]) (fun _=>0) (fun _ _=>0) (fun _=>[])/\os.length=i/\ms.length=i/\w0.heap.size<=rb)) (fun s22 _=>n-(intOf s22).toNat);case atStart=>exact⟨0,uN,none,0,0,none,0,0,[],[],zL _,rfl,H3.o.1,rfl,rfl,H3.o.2⟩
 case round=>
  clear H3;obtain⟨i,tag,oq,om,oc,cq,cm,cc,os,ms,hi,rfl,HI⟩:=hrel;by_cases hlt:i<n
  ·have hltz:(i:Int)<(n:Int):=(by omega);go_upto_region 7 with fail;have CS:Hid (∀W,Bw wr W->aj W rb 3 (.slice oq om oc)/\rb<W.heap.size):=fun W hb=>by
    have hbk:=(hb.block rb (ae HI.o.1.blk)).trans HI.o.1.blk;exact⟨((aa hbk).1 3).trans rfl,ae hbk⟩
   have hB0:Bw wr wr.drew:=(Gr.refl wr).drew.below;have hS0:=CS.o _ hB0;refine ay (S:=fun W=>aj W rb 3 (.slice oq om oc)/\rb<W.heap.size) (D:=[9,10]) hmx ?_;refine' ak 0 hS0 ?_;refine' ak 1 hS0 ?_;refine' bD 2 hS0 ?h ?_;case h=>(intro W hSw;have hc:=hSw.1;have hl:=hSw.2;go_simp;try(with_reducible rfl))
   refine' ak 3 hS0 ?_;refine' bD 4 hS0 ?h ?_;case h=>(intro W hSw;have hc:=hSw.1;have hl:=hSw.2;go_simp;try(with_reducible rfl))
   refine wpC 5 (DY _) ?_;rintro e w7 ⟨mb,tb,b,cb,rfl,m7,n7,b7⟩;have bu:Bw wr w7:=hB0.trans (b7.mono hB0.size);have N7:Hid (tY w0 aL w7 (tg tag wr (3+n+os.length)) rb g.arity (.slice sq wK sc) (.slice rq rm rc) (.slice oq om oc) (.slice cq cm cc) n (sV g) (sJ n R) os ms (.slice none 0 0) [] (fun _=>0) (fun _ _=>0) (fun _=>[]) (fun _=>0) (fun _ _=>0) (fun _=>[])/\Ml w7 (tg tag wr (3+n+os.length)) (3+n+os.length) mb 0 (fun _=>0) []):=⟨HI.o.1.grow _ bu,Oc (w:=wr) tag (3+n+os.length) m7 n7⟩;clear m7 n7 b7;refine⟨_,rfl,CS.o _ bu, ?_⟩;refine fV 6 fun K hK=> ?_;go_simp;have iZ:Bw wr (w7.alloc (.cells #[aB mb] 107)):=bu.trans (((Gr.refl w7).alloc _).below.mono bu.size);refine hK.o _ _ (fun hD=>CS.o _ iZ) ?_;clear hK K;try simp only[Act.put,qI,q0,qS]
   refine fV 7 fun K hK=> ?_;refine bT EA Tryz.underlying100 BR rfl (by decide) rfl _ _ rfl w0.heap.size (.slice oq om oc) os.length (fl EA os) rfl (ag HI.o.1.ow bu) mb (by first|rfl|simp) (by have:=HI.o.2;omega) (by have:=HI.o.2;unfold maxLen;omega) (nT HI.o.1.hb.size bu.size) #[aB mb] rfl _ ?_;intro g8 bF w8 h8 k8 n8;have LX:Hid (tY w0 aL (w8.setCell ⟨rb,3,none⟩ (.slice (some ⟨g8,0,none⟩) (os.length+1) bF)) (tg (tg tag wr (3+n+os.length)) w7 4294967297) rb g.arity (.slice sq wK sc) (.slice rq rm rc) (.slice (some ⟨g8,0,none⟩) (os.length+1) bF) (.slice cq cm cc) n (sV g) (sJ n R) (os++[mb]) ms (.slice none 0 0) [] (fun _=>0) (fun _ _=>0) (fun _=>[]) (fun _=>0) (fun _ _=>0) (fun _=>[])):=N7.o.1.own hn (by have:=HI.o.2;omega) (by have:=HI.o.2;omega) (by have:=HI.o.2;omega) HI.o.2.2.2 N7.o.2 h8.o k8.o n8.o;have F8:Hid (w8.frozen? ⟨rb,3,none⟩=false/\rb<w8.heap.size/\aj w8 rb 3 (.slice oq om oc)):=by
    have hbk:=N7.o.1.blk;have K8:Kp (fun k=>(.slice oq om oc:Value).ownBlock=some k) w7 w8:=Kp.grownBy k8.o fun _ h=>h;have dP:=(K8.block rb (ae hbk) fun e=>by have e2:=N7.o.1.ot rb e;rw[N7.o.1.tb]at e2;cases e2).trans hbk;exact⟨(aa dP).2 _,ae dP,((aa dP).1 3).trans rfl⟩
   clear h8 k8 n8;generalize os.length+1=ll at LX⊢;refine hK.o _ _ (fun hD=>⟨F8.o.2.2,F8.o.2.1⟩) ?_;clear hK K;try simp only[Act.put,qI,q0,qS]
   refine' bD 8 ⟨F8.o.2.2,F8.o.2.1⟩ ?h ?_;case h=>(intro W hSw;have hc:=hSw.1;have hl:=hSw.2;go_simp;try(with_reducible rfl))
   refine fV 9 fun K hK=> ?_;go_simp;refine hK.o _ _ (fun hD=>absurd (by decide) hD) ?_;clear hK K;try simp only[Act.put,qI,q0,qS]
   refine fV 10 fun K hK=> ?_;have c8:=F8.o.2.2;have f8:=F8.o.1;have l8:=F8.o.2.1;go_simp;generalize (w8.setCell ⟨rb,3,none⟩ (.slice (some ⟨g8,0,none⟩) ll bF))=w9 at LX⊢;clear c8 f8 l8 F8;refine hK.o _ _ (fun hD=>absurd (by decide) hD) ?_;clear hK K;try simp only[Act.put,qI,q0,qS]
   refine av (by kernel_rfl) ?_ _;obtain⟨GH,GJ,GK,os2,Xb⟩:∃(GH:Option Addr) (GJ GK:Nat) (os2:List Nat),GH=some ⟨g8,0,none⟩/\GJ=ll/\GK=bF/\os2=os++[mb]:=⟨_,_,_,_,rfl,rfl,rfl,rfl⟩;obtain⟨e1,e2,e3,e4⟩:=Xb;rw[<-e1,<-e2,<-e3,<-e4]at LX;obtain⟨mH,Eg⟩:=aF (tg (tg tag wr (3+n+os.length)) w7 4294967297);rw[<-Eg]at LX;have HJ:Hid (tY w0 aL w9 mH rb g.arity (.slice sq wK sc) (.slice rq rm rc) (.slice GH GJ GK) (.slice cq cm cc) n (sV g) (sJ n R) os2 ms (.slice none 0 0) [] (fun _=>0) (fun _ _=>0) (fun _=>[]) (fun _=>0) (fun _ _=>0) (fun _=>[])/\os2.length=i+1/\ms.length=i/\w0.heap.size<=rb):=⟨LX.o,by rw[e4,dQ,vR];have:=HI.o.2.1;omega,HI.o.2.2.1,HI.o.2.2.2⟩;clear LX HI hS0 hB0 CS bu iZ N7 Eg e1 e2 e3 e4;go_upto_region 8 with fail;generalize w9=eF at HJ⊢;have CR:Hid (∀W,Bw eF W->aj W rb 4 (.slice cq cm cc)/\rb<W.heap.size):=fun W hb=>by
    have hbk:=(hb.block rb (ae HJ.o.1.blk)).trans HJ.o.1.blk;exact⟨((aa hbk).1 4).trans rfl,ae hbk⟩
   have hB0:Bw eF eF.drew:=(Gr.refl eF).drew.below;have hS0:=CR.o _ hB0;refine ay (S:=fun W=>aj W rb 4 (.slice cq cm cc)/\rb<W.heap.size) (D:=[9,10]) hmx ?_;refine' ak 0 hS0 ?_;refine' ak 1 hS0 ?_;refine' bD 2 hS0 ?h ?_;case h=>(intro W hSw;have hc:=hSw.1;have hl:=hSw.2;go_simp;try(with_reducible rfl))
   refine' ak 3 hS0 ?_;refine' bD 4 hS0 ?h ?_;case h=>(intro W hSw;have hc:=hSw.1;have hl:=hSw.2;go_simp;try(with_reducible rfl))
   refine wpC 5 (DY _) ?_;rintro e w7 ⟨mb,tb,b,cb,rfl,m7,n7,b7⟩;have bu:Bw eF w7:=hB0.trans (b7.mono hB0.size);have N7:Hid (tY w0 aL w7 (tg mH eF (3+ms.length)) rb g.arity (.slice sq wK sc) (.slice rq rm rc) (.slice GH GJ GK) (.slice cq cm cc) n (sV g) (sJ n R) os2 ms (.slice none 0 0) [] (fun _=>0) (fun _ _=>0) (fun _=>[]) (fun _=>0) (fun _ _=>0) (fun _=>[])/\Ml w7 (tg mH eF (3+ms.length)) (3+ms.length) mb 0 (fun _=>0) []):=⟨HJ.o.1.grow _ bu,Oc (w:=eF) mH (3+ms.length) m7 n7⟩;clear m7 n7 b7;refine⟨_,rfl,CR.o _ bu, ?_⟩;refine fV 6 fun K hK=> ?_;go_simp;have iZ:Bw eF (w7.alloc (.cells #[aB mb] 107)):=bu.trans (((Gr.refl w7).alloc _).below.mono bu.size);refine hK.o _ _ (fun hD=>CR.o _ iZ) ?_;clear hK K;try simp only[Act.put,qI,q0,qS]
   refine fV 7 fun K hK=> ?_;refine bT EA Tryz.underlying100 BR rfl (by decide) rfl _ _ rfl w0.heap.size (.slice cq cm cc) ms.length (fl EA ms) rfl (ag HJ.o.1.cm bu) mb (by first|rfl|simp) (by have:=HJ.o.2;omega) (by have:=HJ.o.2;unfold maxLen;omega) (nT HJ.o.1.hb.size bu.size) #[aB mb] rfl _ ?_;intro g8 bF w8 h8 k8 n8;have Uu:Hid (tY w0 aL (w8.setCell ⟨rb,4,none⟩ (.slice (some ⟨g8,0,none⟩) (ms.length+1) bF)) (tg (tg mH eF (3+ms.length)) w7 4294967298) rb g.arity (.slice sq wK sc) (.slice rq rm rc) (.slice GH GJ GK) (.slice (some ⟨g8,0,none⟩) (ms.length+1) bF) n (sV g) (sJ n R) os2 (ms++[mb]) (.slice none 0 0) [] (fun _=>0) (fun _ _=>0) (fun _=>[]) (fun _=>0) (fun _ _=>0) (fun _=>[])):=N7.o.1.come hn (by have:=HJ.o.2;omega) (by have:=HJ.o.2;omega) (by have:=HJ.o.2;omega) HJ.o.2.2.2 N7.o.2 h8.o k8.o n8.o;have F8:Hid (w8.frozen? ⟨rb,4,none⟩=false/\rb<w8.heap.size/\aj w8 rb 4 (.slice cq cm cc)):=by
    have hbk:=N7.o.1.blk;have K8:Kp (fun k=>(.slice cq cm cc:Value).ownBlock=some k) w7 w8:=Kp.grownBy k8.o fun _ h=>h;have dP:=(K8.block rb (ae hbk) fun e=>by have e2:=N7.o.1.ct rb e;rw[N7.o.1.tb]at e2;cases e2).trans hbk;exact⟨(aa dP).2 _,ae dP,((aa dP).1 4).trans rfl⟩
   clear h8 k8 n8;generalize ms.length+1=ll at Uu⊢;refine hK.o _ _ (fun hD=>⟨F8.o.2.2,F8.o.2.1⟩) ?_;clear hK K;try simp only[Act.put,qI,q0,qS]
   refine' bD 8 ⟨F8.o.2.2,F8.o.2.1⟩ ?h ?_;case h=>(intro W hSw;have hc:=hSw.1;have hl:=hSw.2;go_simp;try(with_reducible rfl))
   refine fV 9 fun K hK=> ?_;go_simp;refine hK.o _ _ (fun hD=>absurd (by decide) hD) ?_;clear hK K;try simp only[Act.put,qI,q0,qS]
   refine fV 10 fun K hK=> ?_;have c8:=F8.o.2.2;have f8:=F8.o.1;have l8:=F8.o.2.1;go_simp;generalize (w8.setCell ⟨rb,4,none⟩ (.slice (some ⟨g8,0,none⟩) ll bF))=w9 at Uu⊢;clear c8 f8 l8 F8;refine hK.o _ _ (fun hD=>absurd (by decide) hD) ?_;clear hK K;try simp only[Act.put,qI,q0,qS]
   refine av (by kernel_rfl) ?_ _;have HK:Hid (∃(X9:Option Addr) (Ye Yj:Nat) (SG:List Nat) (Gi:Nat->Nat),tY w0 aL w9 Gi rb g.arity (.slice sq wK sc) (.slice rq rm rc) (.slice GH GJ GK) (.slice X9 Ye Yj) n (sV g) (sJ n R) os2 SG (.slice none 0 0) [] (fun _=>0) (fun _ _=>0) (fun _=>[]) (fun _=>0) (fun _ _=>0) (fun _=>[])/\os2.length=i+1/\SG.length=i+1/\w0.heap.size<=rb):=⟨_,_,_,_,_,Uu.o,HJ.o.2.1,by rw[dQ,vR];have:=HJ.o.2.2.1;omega,HJ.o.2.2.2⟩;clear Uu HJ hS0 hB0 CR bu iZ N7;go_upto_region 9 with fail;go_wp2_with fail;go_roundw;case rel=>
    obtain⟨X9,Ye,Yj,SG,Gi,k1,k2,k3,k4⟩:=HK.o;exact⟨i+1,Gi,GH,GJ,GK,X9,Ye,Yj,os2,SG,by omega,by go_num,k1,k2,k3,k4⟩
   case measure=>simp[intOf];omega
  ·have hltz:¬(i:Int)<(n:Int):=(by omega);obtain rfl:i=n:=(by omega);have HE:Hid (NwR w0 g (.returned (.tuple #[aB rb,iV 0])) wr):=by
    obtain⟨h1,h2,h3,h4⟩:=HI.o;have hd:=h1.done h2 h3 (Jj _ _) hn (fun k _=> .inr (by rw[HT0.o])) (K:=fun _=>[]) (fun _ _=>rfl);refine⟨h1.hb,_,HA.o, .inr (.inr ⟨R,rb,NT w0 aL tag i,rfl,rfl,h4,fun k hk=> ?_,fun k hk=> ?_, ?_⟩)⟩
    ·unfold NT;rw[if_pos hk,HT0.o];simp
    ·rw[<-HN.o];unfold NT;rw[if_neg (by omega)];split<;>omega
    ·rw[<-HN.o];exact hd
   clear HI;go_wp2_with fail;go_ret2;exact HE
end Rc
end Go.Proofs.YtiiefcalkjeieaaGreat
