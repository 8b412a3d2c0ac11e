import Derived.Test.YtiiefcalkjeieaaGreatJ27
variable{j n i p np N B T M j' mb g:Nat}{w W:Go.World}{β:Type}{tag tag':Nat->Nat}{tv v:Go.Value}
set_option maxHeartbeats 4000000
set_option maxRecDepth 100000
namespace Go.Proofs.YtiiefcalkjeieaaGreat
namespace Rc
open Go.RowKit Go.Sort Go.Maps Pt
open Lf (Tv bt Ao)
attribute[local go_sem ↓]wp_at_zero wp_at_succ
def zG(_:Nat)(E:Nat->Nat->Bool)(i j p:Nat):Nat:=((List.range i).filter fun r=>E r p).length+if p<j/\E i p=true then 1 else 0
def yF(n:Nat)(E:Nat->Nat->Bool)(i j:Nat):List Nat:=(List.range n).map (zG n E i j)
theorem lD(n:Nat)(E:Nat->Nat->Bool)(i j:Nat):(yF n E i j).length=n:=by simp[yF]
theorem lF(E:Nat->Nat->Bool)(i j:Nat)(hp:p<n):(yF n E i j)[p]? =some (zG n E i j p):=by simp[yF,hp]
theorem NA(n:Nat)(E:Nat->Nat->Bool):yF n E 0 0=List.replicate n 0:=by
 refine List.ext_getElem? fun p=> ?_;by_cases hp:p<n
 ·rw[lF E 0 0 hp,List.getElem?_replicate,if_pos hp];simp[zG]
 ·rw[lQ (by rw[lD];omega),lQ (by rw[List.length_replicate];omega)]
theorem NC(E:Nat->Nat->Bool)(i:Nat):yF n E i n=yF n E (i+1) 0:=by
 refine List.ext_getElem? fun p=> ?_;by_cases hp:p<n
 ·rw[lF E _ _ hp,lF E _ _ hp]
  congr 1
  unfold zG;rw[YW,List.filter_append,dQ,if_neg (show ¬(p<0/\E (i+1) p=true)by omega)];by_cases e:E i p=true
  ·rw[if_pos ⟨hp,e⟩];simp[e]
  ·rw[if_neg fun k=>e k.2];simp[e]
 ·rw[lQ (by rw[lD];omega),lQ (by rw[lD];omega)]
theorem NB{E:Nat->Nat->Bool}(e:E i j=false):yF n E i j=yF n E i (j+1):=by
 refine List.map_congr_left fun p _=> ?_;unfold zG
 congr 1
 by_cases k:p=j
 ·subst k;rw[if_neg (by omega),if_neg (by rw[e];simp)]
 ·by_cases k2:p<j
  ·have:p<j+1:=(by omega);simp[k2,this]
  ·have:¬p<j+1:=(by omega);simp[k2,this]
theorem Sa{E:Nat->Nat->Bool}(hj:j<n)(e:E i j=true):(yF n E i j).set j (zG n E i j j+1)=yF n E i (j+1):=by
 refine List.ext_getElem? fun p=> ?_;rw[List.getElem?_set];by_cases k:j=p
 ·subst k;rw[if_pos rfl,if_pos (by rw[lD];exact hj),lF E _ _ hj]
  congr 1
  unfold zG;rw[if_neg (by omega),if_pos ⟨by omega,e⟩]
 ·rw[if_neg k];by_cases hp:p<n
  ·rw[lF E _ _ hp,lF E _ _ hp]
   congr 1
   unfold zG
   congr 1
   by_cases k2:p<j
   ·have:p<j+1:=(by omega);simp[k2,this]
   ·have:¬p<j+1:=(by omega);simp[k2,this]
  ·rw[lQ (by rw[lD];omega),lQ (by rw[lD];omega)]
theorem Wj(n:Nat)(E:Nat->Nat->Bool)(i j p:Nat):zG n E i j p<=i+1:=by
 unfold zG;have:=List.length_filter_le (fun r=>E r p) (List.range i);rw[List.length_range]at this;split<;>omega
theorem Sb(n:Nat)(R:Nat->Nat->List ai):yF n (uu n R) n 0=sJ n R:=by
 refine List.map_congr_left fun p _=> ?_;unfold zG UT;rw[if_neg (by omega)];rfl
theorem WO:(Tryz.prog.info? 3).map (fun i=>(i.zero,i.size,i.bytes))=some (some (iV 0),1,8):=by kernel_rfl
theorem Ot(n:Nat):(madeCells (Value.int .i64 0).cells (n*1)).toList=fl ER (List.replicate n 0):=by
 rw[Nat.mul_one];refine(toList_madeCells_one _ n).trans ?_
 induction n with
 | zero => rfl
 | succ n ih => rw[List.replicate_succ,List.replicate_succ,aR,<-ih];rfl
theorem DJ{R:Nat->Nat->List ai}(w:World)(h:Tv M w tv n R)(hM:M<=w.heap.size)(hn:n<=192)(hl:∀p q,p<n->(R p q).length<=64):CL 105 #[tv] w fun e w'=>∃v,e= .returned v/\w'.ownsRow w.heap.size 3 1 v n (fl ER (sJ n R))/\Below w.heap.size w w':=by
 have HT:Hid (∀W,Below w.heap.size w W->Tv M W tv n R):=fun W hb=>h.keep (hb.mono hM);have FO:Hid (∀W,Below w.heap.size w W->CL 11 #[tv] W fun e w'=>e= .returned (iV (n:Nat))/\w'=W):=fun W hb=>Lf.fB W (HT.o W hb);have HCO:Hid (∀(i j:Nat) (W:World),Below w.heap.size w W->CL 171 #[tv, .agg #[iV (i:Int),uV 0,uV 0,uV 0], .agg #[iV (j:Int),uV 0,uV 0,uV 0]] W fun e w'=>e= .returned (.bool (uu n R i j))/\Below W.heap.size W w'):=fun i j W hb=>by
  refine Ao ((i:Int),PX.z) ((j:Int),PX.z) W (HT.o W hb) (nT hM hb.size) ?_;unfold bt;split
  ·rename_i k;exact hl _ _ (by simp only at k;omega)
  ·exact zL _
 clear h hM hl;obtain⟨i0,hi0,hz0,hz1,hz2⟩:=info_parts WO;go_enter Tryz.func105,Tryz.ntmps105;go_wp2_with fail;refine(FO.o w (Below.refl _ _)).mono ?_;rintro e w1 ⟨rfl,hw1⟩;have hw2:=hw1.symm;subst hw2;clear hw1;go_upto_region 2 with(at_make;refine wpList_make_full _ rfl _ _ 97 rfl w.heap.size 3 i0 (iV 0) 1 Tryz.underlying97 hi0 hz0 hz1 _ _ _ _ n rfl rfl rfl rfl (by rw[hz2];omega) (by unfold maxLen;omega) (nR _) ?_;intro w2 hrow hg1);have hb2:Below w.heap.size w w2:=(Kp.grownBy (S:=fun _=>False) hg1 (fun _ h=>by cases h)).below (nR _) (fun _ h=>h.elim);obtain⟨gg,hgg⟩:=aF (w.heap.size);rw[<-hgg]at hrow⊢;have S2:Hid (w2.ownsRow gg 3 1 (sO gg n n) n (fl ER (yF n (uu n R) 0 0))/\Below w.heap.size w w2):=by
  rw[NA,<-Ot];exact⟨hrow,hb2⟩
 clear hrow hg1 hi0 hz0 hz1 hz2 hb2;have HGG:=hid hgg;clear hgg;have hp2:=FO.o w2 S2.o.2;go_wp2_with fail;refine hp2.mono ?_;clear hp2;rintro e w3 ⟨rfl,hw3⟩;have hw4:=hw3.symm;subst hw4;clear hw3;go_wp2_with fail;go_loopw [11] (fun s11 wr=>∃i:Nat,i<=n/\s11=iV (i:Nat)/\Hid (wr.ownsRow gg 3 1 (sO gg n n) n (fl ER (yF n (uu n R) i 0))/\Below w.heap.size w wr)) (fun s11 _=>n-(intOf s11).toNat);case atStart=>exact⟨0,zL _,rfl,S2.o⟩
 case round=>
  clear S2;obtain⟨i,hi,rfl,HI⟩:=hrel;by_cases hlt:i<n
  ·have hltz:(i:Int)<(n:Int):=(by omega);have hi1:(0:Int)<=(i:Int):=(by omega);have hp2:=FO.o wr HI.o.2;go_wp2_with fail;refine hp2.mono ?_;clear hp2;rintro e w5 ⟨rfl,Hr⟩;subst Hr;go_wp2_with fail;go_loopw [16] (fun s16 wx=>∃j:Nat,j<=n/\s16=iV (j:Nat)/\Hid (wx.ownsRow gg 3 1 (sO gg n n) n (fl ER (yF n (uu n R) i j))/\Below w.heap.size w wx)) (fun s16 _=>n-(intOf s16).toNat);case atStart=>exact⟨0,zL _,rfl,HI.o⟩
   case round=>
    clear HI;obtain⟨j,hj,rfl,HJ⟩:=hrel;by_cases hjl:j<n
    ·have hjz:(j:Int)<(n:Int):=(by omega);have hj1:(0:Int)<=(j:Int):=(by omega);have hco:=HCO.o i j wr HJ.o.2;have HSK:=hid (fun e=>NB (n:=n) (E:=uu n R) (i:=i) (j:=j) e);have HST:=hid (fun e=>Sa (n:=n) (E:=uu n R) (i:=i) (j:=j) hjl e);generalize uu n R i j=eb at hco HSK HST;cases eb with
     | false=>
      go_wp2_with fail;refine hco.mono ?_;clear hco;rintro e w6 ⟨rfl,hb6⟩;have H6:Hid (w6.ownsRow gg 3 1 (sO gg n n) n (fl ER (yF n (uu n R) i (j+1)))/\Below w.heap.size w w6):=by
       rw[<-HSK.o (by first|rfl|trivial)];exact⟨ag HJ.o.1 hb6,HJ.o.2.trans (hb6.mono HJ.o.2.size)⟩
      clear hb6 HJ HSK HST;go_wp2_with fail;go_roundw;case rel=>exact⟨j+1,by omega,by go_num,H6.o⟩
      case measure=>simp[intOf];omega
     | true=>
      go_wp2_with fail;refine hco.mono ?_;clear hco;rintro e w6 ⟨rfl,hb6⟩;have H6:Hid (w6.ownsRow gg 3 1 (sO gg n n) n (fl ER (yF n (uu n R) i j))/\Below w.heap.size w w6):=⟨ag HJ.o.1 hb6,HJ.o.2.trans (hb6.mono HJ.o.2.size)⟩;clear hb6 HJ HSK;obtain⟨x,hx⟩:=aF (zG n (uu n R) i j j);have hxb:x<=1000:=(by rw[hx];have:=Wj n (uu n R) i j j;omega);have hget:=lF (uu n R) i j hjl;rw[<-hx]at hget;have hrow:w6.ownsRow gg 3 1 (sO gg n n) (yF n (uu n R) i j).length (fl ER (yF n (uu n R) i j)):=(by rw[lD];exact H6.o.1);obtain⟨b',o',c',hv',hb',hc'⟩:=(aK (E:=ER) hrow).get hget;simp only[vS,oI,aI,and_true]at hv';obtain⟨⟨rfl,rfl⟩,-,-⟩:=hv';have c0:=hc' 0 _ (by decide) rfl;rw[show ER.k=1 from rfl,Nat.mul_one,nZ,nO]at c0;have hfz:w6.frozen? ⟨gg,j,none⟩=false:=H6.o.1.frozenAt _;have H7:Hid ((w6.setCell ⟨gg,j,none⟩ (iV ((x:Int)+1))).ownsRow gg 3 1 (sO gg n n) n (fl ER (yF n (uu n R) i (j+1)))/\Below w.heap.size w (w6.setCell ⟨gg,j,none⟩ (iV ((x:Int)+1)))):=by
       obtain⟨k1,k2⟩:=KC H6.o.1 j (iV ((x:Int)+1));have e:=TQ ER (yF n (uu n R) i j) j 0 x (x+1) (iV ((x:Int)+1)) hget (by decide) (by simp[ER]);rw[show ER.k=1 from rfl,Nat.mul_one,nO]at e;rw[e]at k1;have e2:=HST.o (by first|rfl|trivial);rw[<-hx]at e2;rw[e2]at k1;refine⟨k1,H6.o.2.trans (k2.below H6.o.2.size fun k hk=> ?_)⟩;rw[hk,HGG.o];exact nR _
      clear hget hrow hc' H6 HST hx;go_wp2_with fail;go_roundw;case rel=>exact⟨j+1,by omega,by go_num,H7.o⟩
      case measure=>simp[intOf];omega
    ·have hjz:¬(j:Int)<(n:Int):=(by omega);obtain rfl:j=n:=(by omega);have HN:Hid (wr.ownsRow gg 3 1 (sO gg j j) j (fl ER (yF j (uu j R) (i+1) 0))/\Below w.heap.size w wr):=by
      rw[<-NC];exact HJ.o
     clear HJ;go_wp2_with fail;go_roundw;case rel=>exact⟨i+1,by omega,by go_num,HN.o⟩
     case measure=>simp[intOf];omega
  ·have hltz:¬(i:Int)<(n:Int):=(by omega);obtain rfl:i=n:=(by omega);have HE:Hid (wr.ownsRow w.heap.size 3 1 (sO gg i i) i (fl ER (sJ i R))/\Below w.heap.size w wr):=by
    rw[<-Sb,<-HGG.o];refine⟨HI.o.1, ?_⟩;rw[HGG.o];exact HI.o.2
   clear HI;go_wp2_with fail;go_ret;exact⟨_,rfl,HE.o.1,HE.o.2⟩
end Rc
namespace Rc
open Go.RowKit Go.Sort Go.Maps Pt Hc
theorem Ml.retag{f:Tm->Int}{fr:List Tm}(h:Ml w tag j mb n f fr)(ht:∀k,tag k=j->tag' k=j'):Ml w tag' j' mb n f fr:=by
 obtain⟨tb,b,cb,v,h1,h2,t1,t2,t3,t4,t5⟩:=h;exact⟨tb,b,cb,v,h1,h2,ht _ t1,ht _ t2,ht _ t3,ht _ t4,fun k hk=>ht k (t5 k hk)⟩
theorem Hm.retag{hb:Nat}{ff:Value}{f:Th->Int}{Q:List It}(h:Hm w tag hb ff f Q np)(ht:∀k,tag k=1->tag' k=1):Hm w tag' hb ff f Q np:=by
 obtain⟨v,h1,h2,h3⟩:=h;exact⟨v,h1,ht _ h2,fun k hk=>ht k (h3 k hk)⟩
theorem Lm.retag{α:Type}{E:El α}{l:List α}(h:Lm E w tag j v l)(ht:∀k,tag k=j->tag' k=j'):Lm E w tag' j' v l:=⟨h.1,fun k hk=>ht k (h.2 k hk)⟩
def LY{α:Type}(E:El α)(w:World)(tag:Nat->Nat)(j:Nat)(v:Value)(N:Nat)(L:Nat->List α):Prop:=∃us:List Sv,Lm EV w tag j v us/\us.length=N/\∀p x,us[p]? =some x->Lm E w tag j (ZO x) (L p)
section
variable {α:Type} {E:El α} {w w':World} {tag tag':Nat->Nat} {j j' N:Nat} {v:Value} {L:Nat->List α} {S:Nat->Prop}
theorem LY.keep(h:LY E w tag j v N L)(hK:Kp S w w')(hS:∀k,k<w.heap.size->S k->tag k≠j)(hT:∀k,k<w.heap.size->tag' k=tag k):LY E w' tag' j v N L:=by
 obtain⟨us,h1,h2,h3⟩:=h;exact⟨us,h1.keep hK hS hT,h2,fun p x hx=>(h3 p x hx).keep hK hS hT⟩
theorem LY.retag(h:LY E w tag j v N L)(ht:∀k,tag k=j->tag' k=j'):LY E w tag' j' v N L:=by
 obtain⟨us,h1,h2,h3⟩:=h;exact⟨us,h1.retag ht,h2,fun p x hx=>(h3 p x hx).retag ht⟩
theorem LY.at(h:LY E w tag j v N L)(hp:p<N):∃(bi oi ci:Nat) (px:Option Addr) (cx:Nat),v= .slice (some ⟨bi,oi,none⟩) N ci/\Lm E w tag j (.slice px (L p).length cx) (L p)/\aj w bi (oi+p) (.slice px (L p).length cx)/\bi<w.heap.size:=by
 obtain⟨us,u1,u2,u3⟩:=h;obtain⟨x,hx⟩:∃x,us[p]? =some x:=⟨us[p]'(by omega),by rw[p8]⟩;obtain⟨bi,oi,ci,h1,h2,h3⟩:=Z4 u1.1 hx;have h4:=u3 p x hx;obtain⟨px,cx,h6⟩:=h4.1.form;rw[h6]at h4 h3;rw[u2]at h1;exact⟨bi,oi,ci,px,cx,h1,h4,h3,h2⟩
end
structure Rw(w:World)(t:Nat->Nat)(rb:Nat)(ar:Int)(sv rv ov cv uv:Value)(N:Nat)(L:Nat->List (Nat×ai))(rs os ms:List Nat)(U:List Th):Prop where
 blk:w.heap[rb]? =some (.cells #[iV ar,sv,rv,ov,cv,uv] 102 (0,0))
 tb:t rb=2
 st:LY EP w t 0 sv N L
 rk:Lm ER w t 0 rv rs
 ow:Lm EA w t 0 ov os
 cm:Lm EA w t 0 cv ms
 ut:Lm EC w t 0 uv U
 ol:os.length=N
 ml:ms.length=N
 rl:rs.length=N
section
variable {w w':World} {t t':Nat->Nat} {rb N:Nat} {ar:Int} {sv rv ov cv uv:Value} {L:Nat->List (Nat×ai)} {rs os ms:List Nat} {U:List Th} {S:Nat->Prop}
theorem Rw.keep(h:Rw w t rb ar sv rv ov cv uv N L rs os ms U)(hK:Kp S w w')(hS:∀k,k<w.heap.size->S k->t k≠0/\t k≠2)(hT:∀k,k<w.heap.size->t' k=t k):Rw w' t' rb ar sv rv ov cv uv N L rs os ms U:=
 have h0:∀k,k<w.heap.size->S k->t k≠0:=fun k hk e=>(hS k hk e).1
 ⟨(hK.block rb (ae h.blk) fun e=>(hS rb (ae h.blk) e).2 h.tb).trans h.blk,by rw[hT rb (ae h.blk)];exact h.tb,h.st.keep hK h0 hT,h.rk.keep hK h0 hT,h.ow.keep hK h0 hT,h.cm.keep hK h0 hT,h.ut.keep hK h0 hT,h.ol,h.ml,h.rl⟩
theorem Rw.retag(h:Rw w t rb ar sv rv ov cv uv N L rs os ms U)(h0:∀k,t k=0->t' k=0)(h2:∀k,t k=2->t' k=2):Rw w t' rb ar sv rv ov cv uv N L rs os ms U:=
 ⟨h.blk,h2 _ h.tb,h.st.retag h0,h.rk.retag h0,h.ow.retag h0,h.cm.retag h0,h.ut.retag h0,h.ol,h.ml,h.rl⟩
theorem Rw.rd(h:Rw w t rb ar sv rv ov cv uv N L rs os ms U)(h0:∀k,t k=0->t' k=0)(h2:∀k,t k=2->t' k=0):Rd w t' rb ar sv rv ov cv uv N L rs ms:=by
 obtain⟨us,u1,u2,u3⟩:=h.st;exact⟨h.blk,⟨us,u1.1,u2,fun p x hx=>⟨(u3 p x hx).1,fun k hk=>h0 k ((u3 p x hx).2 k hk)⟩⟩,h.rk.1,h.cm.1,h2 _ h.tb,fun k hk=>h0 k (u1.2 k hk),fun k hk=>h0 k (h.rk.2 k hk),fun k hk=>h0 k (h.cm.2 k hk)⟩
theorem Rw.turn(h:Rw w t rb ar sv rv ov cv uv N L rs os ms U){vl:Value}{V:List Th}(hv:Lm EC w t 0 vl V):Rw (w.setCell ⟨rb,5,none⟩ vl) t rb ar sv rv ov cv vl N L rs os ms V/\Kp (fun k=>k=rb) w (w.setCell ⟨rb,5,none⟩ vl):=by
 obtain⟨b1,k1⟩:=Df.aP h.blk 5 vl;have h0:∀k,k<w.heap.size->k=rb->t k≠0:=fun k _ e=>by rw[e,h.tb];decide
 refine⟨⟨b1,h.tb,h.st.keep k1 h0 (fun _ _=>rfl),h.rk.keep k1 h0 (fun _ _=>rfl),h.ow.keep k1 h0 (fun _ _=>rfl),h.cm.keep k1 h0 (fun _ _=>rfl),hv.keep k1 h0 (fun _ _=>rfl),h.ol,h.ml,h.rl⟩,k1⟩
end
structure Rq(w:World)(t:Nat->Nat)(rb:Nat)(ar:Int)(N:Nat)(L:Nat->List (Nat×ai))(rs:List Nat)(c:Nat->ai->Int)(K O:Nat->List ai)(C:Nat->ai->Int)(F:Nat->List ai)(U:List Th):Prop where
 ex:∃sv rv ov cv uv os ms,Rw w t rb ar sv rv ov cv uv N L rs os ms U/\(∀p mb,os[p]? =some mb->Ml w t (3+N+p) mb (K p).length (c p) (O p))/\∀p mb,ms[p]? =some mb->∃n,Ml w t (3+p) mb n (C p) (F p)
section
variable {w w':World} {t t':Nat->Nat} {rb N:Nat} {ar:Int} {L:Nat->List (Nat×ai)} {rs:List Nat} {c:Nat->ai->Int} {K O:Nat->List ai} {C:Nat->ai->Int} {F:Nat->List ai} {U:List Th} {S:Nat->Prop}
theorem Rq.keep(h:Rq w t rb ar N L rs c K O C F U)(hK:Kp S w w')(hS:∀k,k<w.heap.size->S k->t k≠0/\¬(2<=t k/\t k<3+2*N))(hT:∀k,k<w.heap.size->t' k=t k):Rq w' t' rb ar N L rs c K O C F U:=by
 obtain⟨sv,rv,ov,cv,uv,os,ms,h1,h2,h3⟩:=h;refine⟨sv,rv,ov,cv,uv,os,ms,h1.keep hK (fun k hk e=>⟨(hS k hk e).1,fun e2=>(hS k hk e).2 ⟨by omega,by omega⟩⟩) hT,fun p mb hp=>(h2 p mb hp).keep hK (fun k hk e e2=>(hS k hk e).2 ⟨by omega, ?_⟩) hT,fun p mb hp=> ?_⟩
 ·have:=(lG.1 hp).1;have:=h1.ol;omega
 ·obtain⟨n,h4⟩:=h3 p mb hp;have:=(lG.1 hp).1;have:=h1.ml;exact⟨n,h4.keep hK (fun k hk e e2=>(hS k hk e).2 ⟨by omega,by omega⟩) hT⟩
theorem Rq.retag(h:Rq w t rb ar N L rs c K O C F U)(ht:∀k,t k=0\/(2<=t k/\t k<3+2*N)->t' k=t k):Rq w t' rb ar N L rs c K O C F U:=by
 obtain⟨sv,rv,ov,cv,uv,os,ms,h1,h2,h3⟩:=h;refine⟨sv,rv,ov,cv,uv,os,ms,h1.retag (fun k e=>by rw[ht k (.inl e),e]) (fun k e=>by rw[ht k (.inr ⟨by omega,by omega⟩),e]),fun p mb hp=>(h2 p mb hp).retag fun k e=> ?_,fun p mb hp=> ?_⟩
 ·have:=(lG.1 hp).1;have:=h1.ol;rw[ht k (.inr ⟨by omega,by omega⟩),e]
 ·obtain⟨n,h4⟩:=h3 p mb hp;have:=(lG.1 hp).1;have:=h1.ml;exact⟨n,h4.retag fun k e=>by rw[ht k (.inr ⟨by omega,by omega⟩),e]⟩
end
end Rc
namespace Rc
open Go.RowKit Go.Sort Go.Maps Pt
open Lf (Tv Fw EF mW vz uM)
open Df (bG ic Gm aW LV EL xR)
attribute[local go_sem ↓]wp_at_zero wp_at_succ
theorem EE{l:List (Int×ai)}(h:∀x∈l,0<=x.1):fl EP (l.map fun x=>(x.1.toNat,x.2))=fl EF l:=by
 induction l with
 | nil => rfl
 | cons x l ih=>
  rw[List.map_cons,aR,aR,ih fun y hy=>h y (mO _ hy)]
  congr 1
  have:=h x mX;show[_,_,_,_]=[_,_,_,_];rw[show((x.1.toNat:Nat):Int)=x.1 by omega]
theorem Ko{sv:Value}{vs:List LV}{g:bG}(hok:ic g)(h:Fw EF 167 165 B w sv vs (mW (vz g)))(hn:vs.length=n)(ht:∀k,B<=k->k<w.heap.size->tag k=j):LY EP w tag j sv n (sV g):=by
 have e:fl EV (vs.map fun x=>(x.q,x.m,x.c))=fl EL vs:=by
  clear h hn
  induction vs with
  | nil => rfl
  | cons x l ih => rw[List.map_cons,aR,aR,ih];rfl
 have hr:=h.row;rw[hn,<-e]at hr;refine⟨vs.map fun x=>(x.q,x.m,x.c),⟨aK (E:=EV) (e:=165) (base:=B) (by rw[gQ,hn];exact hr),fun k hk=>ht k (je hr hk) (hr.lt k hk).2⟩,by rw[gQ,hn],fun p x hx=> ?_⟩;rw[gM]at hx;cases e2:vs[p]? with
 | none => rw[e2]at hx;cases hx
 | some y=>
  rw[e2]at hx;cases hx;have h2:=h.each p y e2;have hpos:∀x∈mW (vz g) p,0<=x.1:=fun x hx=>by
   obtain⟨c,hc,_,rfl⟩:=Lf.lu.1 hx;obtain⟨_,q,_,hq⟩:=Lf.Bc hok (Lf.kZ.1 hc);show 0<=c.o;omega
  rw[<-EE hpos]at h2;refine⟨aK (E:=EP) (e:=167) (base:=B) ?_,fun k hk=>ht k (je h2 hk) (h2.lt k hk).2⟩;show w.ownsRow B 167 4 y.v (sV g p).length (fl EP (sV g p));have:(sV g p).length=(mW (vz g) p).length:=gQ _;rw[this];exact h2
theorem F5{gb:Nat}{g:bG}{R:Nat->Nat->List ai}(w:World)(h:Gm B w gb g)(ku:ic g)(hP:uM g)(hT:Tv M w tv (aW g.nodes) R)(hM:M<=w.heap.size)(hl:∀p q,p<aW g.nodes->(R p q).length<=64):
    CL 65 #[aB gb,tv] w fun e w'=>∃sv rv vs,e= .returned (wv g.arity sv rv)/\Hid (Bw w w'/\Fw EF 167 165 w.heap.size w' sv vs (mW (vz g))/\vs.length=aW g.nodes/\w'.ownsRow w.heap.size 3 1 rv (aW g.nodes) (fl ER (sJ (aW g.nodes) R))):=by
 obtain⟨W1,hW1⟩:=aF (w.alloc (.cells #[iV 0, .slice none 0 0, .slice none 0 0] 99));obtain⟨yb,hyb⟩:=aF (w.heap.size);have HB1:Hid (Bw w W1/\W1.heap[yb]? =some (.cells #[iV 0, .slice none 0 0, .slice none 0 0] 99 (0,0))/\yb<W1.heap.size/\w.heap.size=yb):=by
  rw[hW1,hyb];exact⟨((Gr.refl w).alloc _).below,ah _ _,by simp,rfl⟩
 have HA:Hid (∀W,Bw w W->CL 103 #[aB gb] W fun e w'=>e= .returned (iV g.arity)/\w'=W):=fun W hb=>xR W (h.below hb);have HS:Hid (∀W,Bw w W->CL 104 #[aB gb] W (Lf.Rz.Vn W g)):=fun W hb=>Lf.Rz.dD W (h.below hb) ku hP;have hn:=Df.nu ku;have HR:Hid (∀W,Bw w W->CL 105 #[tv] W fun e w'=>∃v,e= .returned v/\w'.ownsRow W.heap.size 3 1 v (aW g.nodes) (fl ER (sJ (aW g.nodes) R))/\Bw W w'):=fun W hb=>DJ W (hT.keep (hb.mono hM)) (nT hM hb.size) hn hl;clear h ku hP hT hM hl;obtain⟨n,hn2⟩:=aF (aW g.nodes);rw[<-hn2]at HR⊢;have HN:=hid hn2;clear hn hn2;go_enter Tryz.func65,Tryz.ntmps65;go_wp2_with fail;rw[<-hW1,<-hyb];clear hW1 hyb;refine(HA.o W1 HB1.o.1).mono ?_;rintro e w2 ⟨rfl,hw2⟩;subst hw2;go_wp2_with fail;refine(HS.o _ HB1.o.1).mono ?_;rintro e w3 hs3;obtain⟨gs,vs,rfl,b3,v3,f3⟩:=hs3;have H3:Hid (Bw w w3/\vs.length=n/\Fw EF 167 165 w.heap.size w3 (sO gs n n) vs (mW (vz g))/\w3.heap[yb]? =some (.cells #[iV 0, .slice none 0 0, .slice none 0 0] 99 (0,0))):=by
  rw[HN.o];refine⟨HB1.o.1.trans (b3.mono HB1.o.1.size),v3,⟨aN f3.row HB1.o.1.size,fun k x hk=>aN (f3.each k x hk) HB1.o.1.size,f3.apart⟩,(b3.block _ HB1.o.2.2.1).trans HB1.o.2.1⟩
 rw[<-HN.o];clear b3 v3 f3;go_wp2_with fail;refine(HR.o w3 H3.o.1).mono ?_;rintro e w4 ⟨rv,he4,r1,r2⟩;obtain⟨rq,rm,rc,rfl⟩:=Df.aD r1;subst he4;have H4:Hid (Bw w w4/\Fw EF 167 165 w.heap.size w4 (sO gs n n) vs (mW (vz g))/\vs.length=n/\w4.ownsRow w.heap.size 3 1 (.slice rq rm rc) n (fl ER (sJ n R))/\w4.heap[yb]? =some (.cells #[iV 0, .slice none 0 0, .slice none 0 0] 99 (0,0))):=⟨H3.o.1.trans (r2.mono H3.o.1.size),H3.o.2.2.1.below r2,H3.o.2.1,aN r1 H3.o.1.size,(r2.block _ (ae H3.o.2.2.2)).trans H3.o.2.2.2⟩;clear r1 r2 H3;have c4:=(aa H4.o.2.2.2.2).1;have f4:=(aa H4.o.2.2.2.2).2;have l4:=ae H4.o.2.2.2.2;have HE:Hid (Bw w (((w4.setCell ⟨yb,0,none⟩ (iV g.arity)).setCell ⟨yb,1,none⟩ (sO gs n n)).setCell ⟨yb,2,none⟩ (.slice rq rm rc))/\Fw EF 167 165 w.heap.size (((w4.setCell ⟨yb,0,none⟩ (iV g.arity)).setCell ⟨yb,1,none⟩ (sO gs n n)).setCell ⟨yb,2,none⟩ (.slice rq rm rc)) (sO gs n n) vs (mW (vz g))/\vs.length=n/\(((w4.setCell ⟨yb,0,none⟩ (iV g.arity)).setCell ⟨yb,1,none⟩ (sO gs n n)).setCell ⟨yb,2,none⟩ (.slice rq rm rc)).ownsRow w.heap.size 3 1 (.slice rq rm rc) n (fl ER (sJ n R))):=by
  obtain⟨q1,k1⟩:=Df.aP H4.o.2.2.2.2 0 (iV g.arity);obtain⟨q2,k2⟩:=Df.aP q1 1 (sO gs n n);obtain⟨q3,k3⟩:=Df.aP q2 2 (.slice rq rm rc);have kk:=(k1.tr k2).tr k3;have hf:=H4.o.2.1;have ho:∀{T:TypeId} {z m:Nat} {v:Value} {xs:List Value},w4.ownsRow w.heap.size T z v m xs->T≠99->(((w4.setCell ⟨yb,0,none⟩ (iV g.arity)).setCell ⟨yb,1,none⟩ (sO gs n n)).setCell ⟨yb,2,none⟩ (.slice rq rm rc)).ownsRow w.heap.size T z v m xs:=fun o hT=>ax kk o fun k e e2=>Df.aJ o H4.o.2.2.2.2 hT k e e2;refine⟨H4.o.1.trans (kk.below H4.o.1.size fun k hk=>by rw[hk,HB1.o.2.2.2];exact nR _),⟨ho hf.row (by decide),fun k x hk=>ho (hf.each k x hk) (by decide),hf.apart⟩,H4.o.2.2.1,ho H4.o.2.2.2.1 (by decide)⟩
 clear H4;go_wp2_with fail;refine bR (v:=wv g.arity (sO gs n n) (.slice rq rm rc)) (by simp only[results,Tryz.results65];go_simp) rfl ?_;exact⟨_,_,vs,rfl,HE.o⟩
end Rc
namespace Rc
open Go.RowKit Go.Sort Go.Maps Pt Hc
structure Ev(N:Nat)(L:Nat->List (Nat×ai))(R:Nat->Nat->List ai)(c:Nat->ai->Int)(K O:Nat->List ai)(C:Nat->ai->Int)(F:Nat->List ai):Prop where
 yO:Fv N L O C F
 JQ:∀p,p<N->FY PX (kH N R O p) (F p)
 own:∀p,p<N->fU (c p) (O p)
 bd:∀p t,p<N->-2147483647<=c p t/\c p t<=2147483647
 kp:∀p t,p<N->c p t≠0->t∈K p
theorem Ev.init(N:Nat)(L:Nat->List (Nat×ai))(R:Nat->Nat->List ai):Ev N L R (fun _ _=>0) (fun _=>[]) (fun _=>[]) (fun _ _=>0) (fun _=>[]) where
 yO:=by
  have e:∀p t,rhs N L (fun _=>[]) (fun _=>[]) p t=0:=fun p t=>by
   have h:¬0<rhs N L (fun _=>[]) (fun _=>[]) p t:=fun k=>by
    rcases qV.1 k with k|⟨q,u,b,_,hu,_⟩
    ·cases k
    ·cases hu
   have:=wU N L (fun _=>[]) (fun _=>[]) p t;omega
  exact⟨fun p t _=>(e p t).symm,fun p _=>⟨.nil,fun t=>⟨fun h=>absurd h (by simp),fun h=>absurd h.1 (by decide)⟩⟩⟩
 JQ p _:=by
  refine⟨.nil,fun t=>⟨fun h=>absurd h (by simp),fun h=> ?_⟩⟩;obtain⟨q,u,a,_,hu,_⟩:=rf.1 h.1;cases hu
 own _ _:=fU.nil
 bd _ _ _:=by omega
 kp _ _ _ h:=absurd rfl h
section
variable {N:Nat} {L:Nat->List (Nat×ai)} {St:Nat->Nat->ai->Prop} {R:Nat->Nat->List ai} {c:Nat->ai->Int} {K O:Nat->List ai} {C:Nat->ai->Int} {F:Nat->List ai}
theorem Ev.inK(h:Ev N L R c K O C F)(hp:p<N):(O p).length<=(K p).length:=by
 refine jb (h.own p hp).nodup fun t ht=>h.kp p t hp ?_;have:=(((h.own p hp).mem t).1 ht).1;omega
theorem Ev.RJ(h:Ev N L R c K O C F)(hT:sN (fun p=>(K p).length) (List.range N)<=T):sN (fun p=>(O p).length) (List.range N)<=T:=nT (kG fun _ hp=>h.inK (mR.1 hp)) hT
theorem RL(N:Nat)(S:Nat->List ai):(vv N S).length=sN (fun p=>(S p).length) (List.range N):=by
 unfold vv sN;rw[List.length_flatMap]
 congr 1
 refine List.map_congr_left fun p _=> ?_;rw[gQ]
def lW(c:Nat->ai->Int)(l:List Th)(p:Nat):ai->Int:=bS (c p) (prt l p)
def BP(K:Nat->List ai)(l:List Th)(p:Nat):List ai:=K p++(prt l p).map Prod.fst
structure Rm(N:Nat)(L:Nat->List (Nat×ai))(T E Z B:Nat):Prop where
 hN:N<=192
 hE:sN (fun q=>(L q).length) (List.range N)<=E
 hZ:sN (fun q=>(L q).length*nK N L q) (List.range N)<=Z
 hB:2*T+6*(T*E+64*T*Z)<=B
 hB2:B<=549755813888
 e:E<=432
 t:T<=15000
theorem Yg(ht:C8 N L St R){rs:List Nat}(xK:rV N L (nk N (mi rs)))(hrl:rs.length=N)(hr:∀x∈rs,x<=N)(Ik:Ev N L R c K O C F)(l:List Th)(hb:∀p,p<N->bad (c p) (prt l p)=false){E Z:Nat}(hm:Rm N L T E Z B)(hK:sN (fun p=>(K p).length) (List.range N)<=T)(hK2:sN (fun p=>(BP K l p).length) (List.range N)<=T):
    ∃On Cn Fn,(∀p,p<N->fU (lW c l p) (On p))/\Ev N L R (lW c l) (BP K l) On Cn Fn/\(oF (zM O On) (List.range N)).length<=2*T/\(∀p,p<N->(F p).length<=64*T/\(Fn p).length<=64*T)/\
     ∀(ms:List Nat) (Q0:List It),ms.length=N->(wq Q0).Perm (oF (zM O On) (List.range N))->(∀y∈Q0,Vq N y)->Ut N L rs ms On C Cn F Fn (M7 N L O F On Fn) B Q0 Q0.length:=by
 have hx:∀p,∃fr,p<N->fU (lW c l p) fr:=fun p=>by
  by_cases hp:p<N
  ·obtain⟨fr,h⟩:=Tf (lW c l p) (BP K l p) fun t h=>zP (Ik.kp p · hp) t (by unfold lW at h;omega);exact⟨fr,fun _=>h⟩
  ·exact⟨[],fun h=>absurd h hp⟩
 obtain⟨On,XF⟩:=Classical.axiomOfChoice hx;have hbd:∀p t,p<N->-2147483647<=lW c l p t/\lW c l p t<=2147483647:=fun p t hp=>SB (Ik.bd p · hp) (hb p hp) t;have hkp:∀p t,p<N->lW c l p t≠0->t∈BP K l p:=fun p t hp h=>zP (Ik.kp p · hp) t h;have hO:=fun p (hp:p<N)=>(Ik.own p hp).nodup;have hN:=fun p (hp:p<N)=>(XF p hp).nodup;have hD:∀p,p<N->Az (O p) (On p) (zM O On p):=fun p hp=>rP (hO p hp) (hN p hp);have hTo:=Ik.RJ hK;have hTn:sN (fun p=>(On p).length) (List.range N)<=T:=by
  refine nT (kG (g:=fun p=>(BP K l p).length) fun p hp=> ?_) hK2;have hp:=mR.1 hp;refine jb (hN p hp) fun t ht=>hkp p t hp ?_;have:=(((XF p hp).mem t).1 ht).1;omega
 obtain⟨Cn,Fn,htr⟩:=ht.turn (W:=oF (zM O On) (List.range N)) Ik.yO Ik.JQ hO hN hD (List.Perm.refl _) hTo hTn hm.hE hm.hZ hm.hB;have h0:=htr (nk N (mi rs));have hwl:(oF (zM O On) (List.range N)).length<=2*T:=VJ hD (nR _) hTo hTn;refine⟨On,Cn,Fn,XF,⟨h0.yO,h0.JQ,XF,hbd,hkp⟩,hwl,fun p hp=>⟨h0.fo p hp,h0.fn p hp⟩,fun ms Q0 hms hq hv=> ?_⟩;have hll:(wq Q0).length=(oF (zM O On) (List.range N)).length:=hq.length_eq;rw[mV]at hll;have e1:=hm.e;have e2:=hm.t;have e3:=hm.hN;have hTE:T*E<=15000*432:=Nat.mul_le_mul e2 e1;have hNT:N*T<=192*15000:=Nat.mul_le_mul e3 e2;have e64:64*T*E=64*(T*E):=Nat.mul_assoc _ _ _;refine⟨hms,hrl,hr,by omega,xK,h0.yO,h0.sup,Fu h0.yE hq,hv,by rw[hll];exact h0.bd,hm.hB2,fun p t hp=> ?_,fun p t hp=> ?_,fun p hp=> ?_, ?_,fun p hp=> ?_⟩
 ·have:=h0.bo p t hp;omega
 ·have:=h0.bn p t hp;omega
 ·have h1:=h0.sl p hp;rw[e64]at h1;omega
 ·rw[RL];have h1:=h0.st;rw[e64]at h1;omega
 ·have:=kF (f:=fun q=>(L q).length) (mR.2 hp);have:=hm.hE;omega
end
open Lf (Fw)
open Df (LV EL)
attribute[local go_sem ↓]wp_at_zero wp_at_succ
theorem Tj:(Tryz.prog.info? 159).map (fun i=>(i.zero,i.size,i.bytes))=some (some (.slice none 0 0),1,24):=by kernel_rfl
theorem D6{ts:List Th}(h:Ls EC w v ts){x:Th}(hj:ts[j]? =some x):∃b off c,v= .slice (some ⟨b,off,none⟩) ts.length c/\b<w.heap.size/\aj w b (off+j*5) (iV x.1)/\aj w b (off+j*5+1) (uV x.2.1.1.1)/\aj w b (off+j*5+2) (uV x.2.1.1.2.1)/\aj w b (off+j*5+3) (uV x.2.1.1.2.2)/\aj w b (off+j*5+4) (iV x.2.2):=by
 obtain⟨b,off,c,hv,hb,hc⟩:=h.get hj;exact⟨b,off,c,hv,hb,hc 0 _ (by decide) rfl,hc 1 _ (by decide) rfl,hc 2 _ (by decide) rfl,hc 3 _ (by decide) rfl,hc 4 _ (by decide) rfl⟩
def Ad(w:World)(n g:Nat)(l:List Th)(W:World):Prop:=∃vs,Fw ED 163 159 w.heap.size W (sO g n n) vs (prt l)/\vs.length=n/\Bw w W
theorem Ad.below{W':World}{l:List Th}(h:Ad w n g l W)(hb:Bw W W'):Ad w n g l W':=by
 obtain⟨vs,h1,h2,h3⟩:=h;exact⟨vs,h1.below hb,h2,h3.trans (hb.mono h3.size)⟩
theorem Ad.cell{w W:World}{n g:Nat}{l:List Th}(h:Ad w n g l W){k:Nat}(hk:k<n):∃vs x,Fw ED 163 159 w.heap.size W (sO g n n) vs (prt l)/\vs.length=n/\Bw w W/\vs[k]? =some x/\W.cell? ⟨g,k,none⟩=some x.v/\g<W.heap.size/\W.ownsRow w.heap.size 163 4 x.v (prt l k).length (fl ED (prt l k)):=by
 obtain⟨vs,h1,h2,h3⟩:=h;obtain⟨x,a1,a2,a3,-,a5⟩:=h1.cell h2 hk;exact⟨vs,x,h1,h2,h3,a1,a2,a3,a5⟩
theorem Ad.rws{l:List Th}(h:Ad w n g l W)(tag:Nat->Nat)(j:Nat):LY ED W (tg tag w j) j (sO g n n) n (prt l):=by
 obtain⟨vs,h1,h2,h3⟩:=h;have e:fl EV (vs.map fun x=>(x.q,x.m,x.c))=fl EL vs:=by
  clear h1 h2
  induction vs with
  | nil => rfl
  | cons x l ih => rw[List.map_cons,aR,aR,ih];rfl
 have hr:=h1.row;rw[h2,<-e]at hr;refine⟨vs.map fun x=>(x.q,x.m,x.c),⟨aK (E:=EV) (e:=159) (base:=w.heap.size) (by rw[gQ,h2];exact hr),fun k hk=>aU (je hr hk)⟩,by rw[gQ,h2],fun p x hx=> ?_⟩;rw[gM]at hx;cases e2:vs[p]? with
 | none => rw[e2]at hx;cases hx
 | some y=>
  rw[e2]at hx;cases hx;have:=h1.each p y e2;exact⟨aK (E:=ED) this,fun k hk=>aU (je this hk)⟩
def kW{β:Type}(i:Nat)(f g:Nat->β)(q:Nat):β:=if q<i then g q else f q
theorem vZ(f g:Nat->β):kW 0 f g=f:=by
 funext q
 exact if_neg (nW q)
theorem F9(i:Nat)(f g:Nat->β):kW i f g i=f i:=if_neg (Nat.lt_irrefl i)
theorem F7{q:Nat}(f g:Nat->β)(h:q<i):kW i f g q=g q:=if_pos h
theorem AQ(i:Nat)(f g:Nat->β):bI (kW i f g) i (g i)=kW (i+1) f g:=by
 funext q
 unfold bI kW;by_cases e:q=i
 ·subst e;rw[if_pos rfl,if_pos (Nat.lt_succ_self _)]
 ·rw[if_neg e];by_cases k:q<i
  ·rw[if_pos k,if_pos (by omega)]
  ·rw[if_neg k,if_neg (by omega)]
theorem wh{f g:Nat->β}(h:f i=g i):kW i f g=kW (i+1) f g:=by
 funext q
 unfold kW;by_cases e:q=i
 ·subst e;rw[if_neg (Nat.lt_irrefl _),if_pos (Nat.lt_succ_self _),h]
 ·by_cases k:q<i
  ·rw[if_pos k,if_pos (by omega)]
  ·rw[if_neg k,if_neg (by omega)]
structure As(w0:World)(aL:Nat->Nat)(w:World)(tag:Nat->Nat)(hb rb:Nat)(ar:Int)(sv rv ov cv uv pv:Value)(N:Nat)(L:Nat->List (Nat×ai))(rs os ms:List Nat)(P:Nat->List Dl)(Q:List It)(np:Nat)(nn:Nat->Nat)(c:Nat->ai->Int)(O:Nat->List ai)(C:Nat->ai->Int)(F:Nat->List ai):Prop where
 rd:Rd w tag rb ar sv rv ov cv uv N L rs ms
 po:Lm EA w tag 0 ov os
 pt:LY ED w tag 4294967296 pv N P
 hm:Hm w tag hb (wv ar sv rv) (kU N rs) Q np
 ow:∀p mb,os[p]? =some mb->Ml w tag (3+N+p) mb (nn p) (c p) (O p)
 cm:∀p mb,ms[p]? =some mb->∃n,Ml w tag (3+p) mb n (C p) (F p)
 kp:Kp (fun k=>aL k≠0) w0 w
 old:∀k,k<w0.heap.size->tag k=aL k
section
variable {w0 w w':World} {aL tag:Nat->Nat} {hb rb:Nat} {ar:Int} {sv rv ov cv uv pv:Value} {N:Nat} {L:Nat->List (Nat×ai)} {rs os ms:List Nat} {P:Nat->List Dl} {Q:List It} {np:Nat} {nn:Nat->Nat} {c:Nat->ai->Int} {O:Nat->List ai} {C:Nat->ai->Int} {F:Nat->List ai}
theorem As.kp'(h:As w0 aL w tag hb rb ar sv rv ov cv uv pv N L rs os ms P Q np nn c O C F)(hj:j≠0)(hK:Kp (fun k=>tag k=j) w w'):Kp (fun k=>aL k≠0) w0 w':=h.kp.trans hK fun k hk e=>by rw[<-h.old k hk,e];exact hj
theorem As.old'(h:As w0 aL w tag hb rb ar sv rv ov cv uv pv N L rs os ms P Q np nn c O C F)(j:Nat):∀k,k<w0.heap.size->Rc.tg tag w j k=aL k:=fun k hk=>by rw[au (nL hk h.kp.size),h.old k hk]
theorem As.heap(h:As w0 aL w tag hb rb ar sv rv ov cv uv pv N L rs os ms P Q np nn c O C F){Q':List It}{FI:Nat}(hm:Hm w' (Rc.tg tag w 1) hb (wv ar sv rv) (kU N rs) Q' FI)(hK:Kp (fun k=>tag k=1) w w'):As w0 aL w' (Rc.tg tag w 1) hb rb ar sv rv ov cv uv pv N L rs os ms P Q' FI nn c O C F:=
 ⟨h.rd.keep hK (fun k _ e=>by omega) (fun k hk=>au hk),h.po.keep hK (fun k _ e=>by omega) (fun k hk=>au hk),h.pt.keep hK (fun k _ e=>by omega) (fun k hk=>au hk),hm,fun p mb hp=>(h.ow p mb hp).keep hK (fun k _ e=>by omega) (fun k hk=>au hk),fun p mb hp=>(h.cm p mb hp).imp fun n hn=>hn.keep hK (fun k _ e=>by omega) (fun k hk=>au hk),h.kp' (by decide) hK,h.old' 1⟩
theorem As.N9(h:As w0 aL w tag hb rb ar sv rv ov cv uv pv N L rs os ms P Q np nn c O C F)(hN:N<=192)(hol:os.length=N)(rC:ms.length=N)(hp:os[p]? =some mb){n':Nat}{f':ai->Int}{fr':List ai}(hm:Ml w' (Rc.tg tag w (3+N+p)) (3+N+p) mb n' f' fr')(hK:Kp (fun k=>tag k=3+N+p) w w'):As w0 aL w' (Rc.tg tag w (3+N+p)) hb rb ar sv rv ov cv uv pv N L rs os ms P Q np (bI nn p n') (bI c p f') (bI O p fr') C F:=by
 have hpl:=(lG.1 hp).1;refine⟨h.rd.keep hK (fun k _ e=>by omega) (fun k hk=>au hk),h.po.keep hK (fun k _ e=>by omega) (fun k hk=>au hk),h.pt.keep hK (fun k _ e=>by omega) (fun k hk=>au hk),h.hm.keep hK (fun k _ e=>by omega) (fun k hk=>au hk),fun q mq hq=> ?_,fun q mq hq=> ?_,h.kp' (by omega) hK,h.old' (3+N+p)⟩
 ·by_cases e:q=p
  ·subst e;rw[hp]at hq;rw[<-oJ hq,bM,bM,bM];exact hm
  ·rw[bK nn n' e,bK c f' e,bK O fr' e];exact(h.ow q mq hq).keep hK (fun k _ e2=>by omega) (fun k hk=>au hk)
 ·have Y5:=(lG.1 hq).1;exact(h.cm q mq hq).imp fun n hn=>hn.keep hK (fun k _ e=>by omega) (fun k hk=>au hk)
theorem As.grow(h:As w0 aL w tag hb rb ar sv rv ov cv uv pv N L rs os ms P Q np nn c O C F)(j:Nat)(hB:Bw w w'):As w0 aL w' (Rc.tg tag w j) hb rb ar sv rv ov cv uv pv N L rs os ms P Q np nn c O C F:=by
 have hK:=Kp.of_below (S:=fun _=>False) hB;exact⟨h.rd.keep hK (fun k _ e=>e.elim) (fun k hk=>au hk),h.po.keep hK (fun k _ e=>e.elim) (fun k hk=>au hk),h.pt.keep hK (fun k _ e=>e.elim) (fun k hk=>au hk),h.hm.keep hK (fun k _ e=>e.elim) (fun k hk=>au hk),fun p mb hp=>(h.ow p mb hp).keep hK (fun k _ e=>e.elim) (fun k hk=>au hk),fun p mb hp=>(h.cm p mb hp).imp fun n hn=>hn.keep hK (fun k _ e=>e.elim) (fun k hk=>au hk),h.kp.trans hK fun k _ e=>e.elim,h.old' j⟩
end
theorem Dj(D:Nat->List (ai×Int))(h:i<=N):(oF D (List.range i)).length<=(oF D (List.range N)).length:=by
 obtain⟨k,rfl⟩:∃k,N=i+k:=⟨N-i,by omega⟩;rw[List.range_add,qd,dQ];omega
structure Wa(N:Nat)(O On:Nat->List ai)(i j:Nat)(Q:List It)(np:Nat):Prop where
 perm:(wq Q).Perm (oF (zM O On) (List.range i)++((zM O On i).take j).map fun d=>(i,d.1,d.2))
 np:np=Q.length
 vs:∀y∈Q,Vq N y
theorem Wa.init(N:Nat)(O On:Nat->List ai):Wa N O On 0 0 [] 0:=⟨by rw[List.take_zero];exact List.Perm.refl _,rfl,fun _ h=>by cases h⟩
theorem Wa.push{O On:Nat->List ai}{Q Q':List It}(h:Wa N O On i j Q np){d:ai×Int}(hd:(zM O On i)[j]? =some d)(hi:i<N)(hn: -1<=d.2/\d.2<=1)(hp:Q'.Perm (Q++[(((i:Int),d.1,d.2),np)])):Wa N O On i (j+1) Q' (np+1):=by
 refine⟨?_, ?_,fun y hy=> ?_⟩
 ·refine(AB hp).trans ?_;rw[F3,tO,hd,Option.toList_some,De,<-aA];refine h.perm.append ?_;show List.Perm [(Int.toNat (i:Int),d.1,d.2)] _;rw[tN];exact List.Perm.refl _
 ·have h2:=hp.length_eq;rw[dQ,vR]at h2;have:=h.np;omega
 ·rcases kr.1 (hp.mem_iff.1 hy)with k|k
  ·exact h.vs y k
  ·rw[yM]at k;rw[k];exact⟨⟨i,rfl,hi⟩,hn⟩
theorem Wa.next{O On:Nat->List ai}{Q:List It}(h:Wa N O On i j Q np)(hj:(zM O On i).length<=j):Wa N O On (i+1) 0 Q np:=by
 refine⟨?_,h.np,h.vs⟩;have h1:=h.perm;rw[tL hj]at h1;rw[List.take_zero,List.map_nil,FZ,vX];exact h1
theorem Wa.len{O On:Nat->List ai}{Q:List It}(h:Wa N O On i j Q np)(hi:i<N)(ht:(oF (zM O On) (List.range N)).length<=T):Q.length<=T:=by
 have h1:=h.perm.length_eq;rw[mV,dQ,gQ,lK]at h1;have h2:=Dj (zM O On) (show i+1<=N by omega);rw[vX,dQ,gQ]at h2;omega
end Rc
end Go.Proofs.YtiiefcalkjeieaaGreat
