import Derived.Test.YtiiefcalkjeieaaGreatJ23
import Derived.Test.YtiiefcalkjeieaaGreatJ27
variable{j n i p np N B T M j' mb g:Nat}{w W:Go.World}{β:Type}{tag tag':Nat->Nat}{tv v:Go.Value}
set_option maxHeartbeats 4000000
set_option maxRecDepth 100000
namespace Go.Proofs.YtiiefcalkjeieaaGreat
namespace Rc
open Go.RowKit Go.Sort Go.Maps Pt
open Lf (Tv bt Ah)
attribute[local go_sem ↓]wp_at_zero wp_at_succ
def zw(_:Nat)(E:Nat->Nat->Bool)(i j p:Nat):Nat:=((List.range i).filter fun r=>E r p).length+if p<j/\E i p=true then 1 else 0
def yw(n:Nat)(E:Nat->Nat->Bool)(i j:Nat):List Nat:=(List.range n).map (zw n E i j)
theorem lh(n:Nat)(E:Nat->Nat->Bool)(i j:Nat):(yw n E i j).length=n:=by simp[yw]
theorem lq(E:Nat->Nat->Bool)(i j:Nat)(hp:p<n):(yw n E i j)[p]? =some (zw n E i j p):=by simp[yw,hp]
theorem Nq(n:Nat)(E:Nat->Nat->Bool):yw n E 0 0=List.replicate n 0:=by
 refine List.ext_getElem? fun p=> ?_;by_cases hp:p<n
 ·rw[lq E 0 0 hp,List.getElem?_replicate,if_pos hp];simp[zw]
 ·rw[lQ (by rw[lh];omega),lQ (by rw[List.length_replicate];omega)]
theorem Ns(E:Nat->Nat->Bool)(i:Nat):yw n E i n=yw n E (i+1) 0:=by
 refine List.ext_getElem? fun p=> ?_;by_cases hp:p<n
 ·rw[lq E _ _ hp,lq E _ _ hp]
  congr 1
  unfold zw;rw[YO,List.filter_append,dO,if_neg (show ¬(p<0/\E (i+1) p=true)by omega)];by_cases e:E i p=true
  ·rw[if_pos ⟨hp,e⟩];simp[e]
  ·rw[if_neg fun k=>e k.2];simp[e]
 ·rw[lQ (by rw[lh];omega),lQ (by rw[lh];omega)]
theorem Nr{E:Nat->Nat->Bool}(e:E i j=false):yw n E i j=yw n E i (j+1):=by
 refine List.map_congr_left fun p _=> ?_;unfold zw
 congr 1
 by_cases k:p=j
 ·subst k;rw[if_neg (by omega),if_neg (by rw[e];simp)]
 ·by_cases k2:p<j
  ·have:p<j+1:=(by omega);simp[k2,this]
  ·have:¬p<j+1:=(by omega);simp[k2,this]
theorem RS{E:Nat->Nat->Bool}(hj:j<n)(e:E i j=true):(yw n E i j).set j (zw n E i j j+1)=yw n E i (j+1):=by
 refine List.ext_getElem? fun p=> ?_;rw[List.getElem?_set];by_cases k:j=p
 ·subst k;rw[if_pos rfl,if_pos (by rw[lh];exact hj),lq E _ _ hj]
  congr 1
  unfold zw;rw[if_neg (by omega),if_pos ⟨by omega,e⟩]
 ·rw[if_neg k];by_cases hp:p<n
  ·rw[lq E _ _ hp,lq E _ _ hp]
   congr 1
   unfold zw
   congr 1
   by_cases k2:p<j
   ·have:p<j+1:=(by omega);simp[k2,this]
   ·have:¬p<j+1:=(by omega);simp[k2,this]
  ·rw[lQ (by rw[lh];omega),lQ (by rw[lh];omega)]
theorem V5(n:Nat)(E:Nat->Nat->Bool)(i j p:Nat):zw n E i j p<=i+1:=by
 unfold zw;have:=List.length_filter_le (fun r=>E r p) (List.range i);rw[List.length_range]at this;split<;>omega
theorem RU(n:Nat)(R:Nat->Nat->List ai):yw n (uh n R) n 0=sF n R:=by
 refine List.map_congr_left fun p _=> ?_;unfold zw UJ;rw[if_neg (by omega)];rfl
theorem WG:(Tryz.prog.info? 3).map (fun i=>(i.zero,i.size,i.bytes))=some (some (.int .i64 0),1,8):=by kernel_rfl
theorem Oe(n:Nat):(madeCells (Value.int .i64 0).cells (n*1)).toList=fl ER (List.replicate n 0):=by
 rw[Nat.mul_one];refine(toList_madeCells_one _ n).trans ?_
 induction n with
 | zero => rfl
 | succ n ih => rw[List.replicate_succ,List.replicate_succ,aO,<-ih];rfl
theorem Dv{R:Nat->Nat->List ai}(w:World)(h:Tv M w tv n R)(hM:M<=w.heap.size)(hn:n<=192)(hl:∀p q,p<n->(R p q).length<=64):Calls Tryz.prog 105 #[tv] w fun e w'=>∃v,e= .returned v/\w'.ownsRow w.heap.size 3 1 v n (fl ER (sF n R))/\Below w.heap.size w w':=by
 have HT:Hid (∀W,Below w.heap.size w W->Tv M W tv n R):=fun W hb=>h.keep (hb.mono hM);have FH:Hid (∀W,Below w.heap.size w W->Calls Tryz.prog 11 #[tv] W fun e w'=>e= .returned (.int .i64 (n:Nat))/\w'=W):=fun W hb=>Lf.eY W (HT.o W hb);have HCO:Hid (∀(i j:Nat) (W:World),Below w.heap.size w W->Calls Tryz.prog 171 #[tv, .agg #[.int .i64 (i:Int), .int .u64 0, .int .u64 0, .int .u64 0], .agg #[.int .i64 (j:Int), .int .u64 0, .int .u64 0, .int .u64 0]] W fun e w'=>e= .returned (.bool (uh n R i j))/\Below W.heap.size W w'):=fun i j W hb=>by
  refine Ah ((i:Int),PX.z) ((j:Int),PX.z) W (HT.o W hb) (nT hM hb.size) ?_;unfold bt;split
  ·rename_i k;exact hl _ _ (by simp only at k;omega)
  ·exact zL _
 clear h hM hl;obtain⟨i0,hi0,hz0,hz1,hz2⟩:=info_parts WG;go_enter Tryz.func105,Tryz.ntmps105;go_wp2_with fail;refine(FH.o w (Below.refl _ _)).mono ?_;rintro e w1 ⟨rfl,hw1⟩;have hw2:=hw1.symm;subst hw2;clear hw1;go_upto_region 2 with(at_make;refine wpList_make_full _ rfl _ _ 97 rfl w.heap.size 3 i0 (.int .i64 0) 1 Tryz.underlying97 hi0 hz0 hz1 _ _ _ _ n rfl rfl rfl rfl (by rw[hz2];omega) (by unfold maxLen;omega) (nR _) ?_;intro w2 hrow hg1);have hb2:Below w.heap.size w w2:=(Kp.grownBy (S:=fun _=>False) hg1 (fun _ h=>by cases h)).below (nR _) (fun _ h=>h.elim);obtain⟨gg,hgg⟩:=aC (w.heap.size);rw[<-hgg]at hrow⊢;have S2:Hid (w2.ownsRow gg 3 1 (.slice (some ⟨gg,0,none⟩) n n) n (fl ER (yw n (uh n R) 0 0))/\Below w.heap.size w w2):=by
  rw[Nq,<-Oe];exact⟨hrow,hb2⟩
 clear hrow hg1 hi0 hz0 hz1 hz2 hb2;have HGG:=hid hgg;clear hgg;have hp2:=FH.o w2 S2.o.2;go_wp2_with fail;refine hp2.mono ?_;clear hp2;rintro e w3 ⟨rfl,hw3⟩;have hw4:=hw3.symm;subst hw4;clear hw3;go_wp2_with fail;go_loopw [11] (fun s11 wr=>∃i:Nat,i<=n/\s11= .int .i64 (i:Nat)/\Hid (wr.ownsRow gg 3 1 (.slice (some ⟨gg,0,none⟩) n n) n (fl ER (yw n (uh n R) i 0))/\Below w.heap.size w wr)) (fun s11 _=>n-(intOf s11).toNat);case atStart=>exact⟨0,zL _,rfl,S2.o⟩
 case round=>
  clear S2;obtain⟨i,hi,rfl,HI⟩:=hrel;by_cases hlt:i<n
  ·have hltz:(i:Int)<(n:Int):=(by omega);have hi1:(0:Int)<=(i:Int):=(by omega);have hp2:=FH.o wr HI.o.2;go_wp2_with fail;refine hp2.mono ?_;clear hp2;rintro e w5 ⟨rfl,G7⟩;subst G7;go_wp2_with fail;go_loopw [16] (fun s16 wx=>∃j:Nat,j<=n/\s16= .int .i64 (j:Nat)/\Hid (wx.ownsRow gg 3 1 (.slice (some ⟨gg,0,none⟩) n n) n (fl ER (yw n (uh n R) i j))/\Below w.heap.size w wx)) (fun s16 _=>n-(intOf s16).toNat);case atStart=>exact⟨0,zL _,rfl,HI.o⟩
   case round=>
    clear HI;obtain⟨j,hj,rfl,HJ⟩:=hrel;by_cases hjl:j<n
    ·have hjz:(j:Int)<(n:Int):=(by omega);have hj1:(0:Int)<=(j:Int):=(by omega);have hco:=HCO.o i j wr HJ.o.2;have HSK:=hid (fun e=>Nr (n:=n) (E:=uh n R) (i:=i) (j:=j) e);have HST:=hid (fun e=>RS (n:=n) (E:=uh n R) (i:=i) (j:=j) hjl e);generalize uh n R i j=eb at hco HSK HST;cases eb with
     | false=>
      go_wp2_with fail;refine hco.mono ?_;clear hco;rintro e w6 ⟨rfl,hb6⟩;have H6:Hid (w6.ownsRow gg 3 1 (.slice (some ⟨gg,0,none⟩) n n) n (fl ER (yw n (uh n R) i (j+1)))/\Below w.heap.size w w6):=by
       rw[<-HSK.o (by first|rfl|trivial)];exact⟨ag HJ.o.1 hb6,HJ.o.2.trans (hb6.mono HJ.o.2.size)⟩
      clear hb6 HJ HSK HST;go_wp2_with fail;go_roundw;case rel=>exact⟨j+1,by omega,by go_num,H6.o⟩
      case measure=>simp[intOf];omega
     | true=>
      go_wp2_with fail;refine hco.mono ?_;clear hco;rintro e w6 ⟨rfl,hb6⟩;have H6:Hid (w6.ownsRow gg 3 1 (.slice (some ⟨gg,0,none⟩) n n) n (fl ER (yw n (uh n R) i j))/\Below w.heap.size w w6):=⟨ag HJ.o.1 hb6,HJ.o.2.trans (hb6.mono HJ.o.2.size)⟩;clear hb6 HJ HSK;obtain⟨x,hx⟩:=aC (zw n (uh n R) i j j);have hxb:x<=1000:=(by rw[hx];have:=V5 n (uh n R) i j j;omega);have hget:=lq (uh n R) i j hjl;rw[<-hx]at hget;have hrow:w6.ownsRow gg 3 1 (.slice (some ⟨gg,0,none⟩) n n) (yw n (uh n R) i j).length (fl ER (yw n (uh n R) i j)):=(by rw[lh];exact H6.o.1);obtain⟨b',o',c',hv',hb',hc'⟩:=(aH (E:=ER) hrow).get hget;simp only[vS,oI,aI,and_true]at hv';obtain⟨⟨rfl,rfl⟩,-,-⟩:=hv';have c0:=hc' 0 _ (by decide) rfl;rw[show ER.k=1 from rfl,Nat.mul_one,nZ,nO]at c0;have hfz:w6.frozen? ⟨gg,j,none⟩=false:=H6.o.1.frozenAt _;have H7:Hid ((w6.setCell ⟨gg,j,none⟩ (.int .i64 ((x:Int)+1))).ownsRow gg 3 1 (.slice (some ⟨gg,0,none⟩) n n) n (fl ER (yw n (uh n R) i (j+1)))/\Below w.heap.size w (w6.setCell ⟨gg,j,none⟩ (.int .i64 ((x:Int)+1)))):=by
       obtain⟨k1,k2⟩:=Ku H6.o.1 j (.int .i64 ((x:Int)+1));have e:=TG ER (yw n (uh n R) i j) j 0 x (x+1) (.int .i64 ((x:Int)+1)) hget (by decide) (by simp[ER]);rw[show ER.k=1 from rfl,Nat.mul_one,nO]at e;rw[e]at k1;have e2:=HST.o (by first|rfl|trivial);rw[<-hx]at e2;rw[e2]at k1;refine⟨k1,H6.o.2.trans (k2.below H6.o.2.size fun k hk=> ?_)⟩;rw[hk,HGG.o];exact nR _
      clear hget hrow hc' H6 HST hx;go_wp2_with fail;go_roundw;case rel=>exact⟨j+1,by omega,by go_num,H7.o⟩
      case measure=>simp[intOf];omega
    ·have hjz:¬(j:Int)<(n:Int):=(by omega);obtain rfl:j=n:=(by omega);have HN:Hid (wr.ownsRow gg 3 1 (.slice (some ⟨gg,0,none⟩) j j) j (fl ER (yw j (uh j R) (i+1) 0))/\Below w.heap.size w wr):=by
      rw[<-Ns];exact HJ.o
     clear HJ;go_wp2_with fail;go_roundw;case rel=>exact⟨i+1,by omega,by go_num,HN.o⟩
     case measure=>simp[intOf];omega
  ·have hltz:¬(i:Int)<(n:Int):=(by omega);obtain rfl:i=n:=(by omega);have HE:Hid (wr.ownsRow w.heap.size 3 1 (.slice (some ⟨gg,0,none⟩) i i) i (fl ER (sF i R))/\Below w.heap.size w wr):=by
    rw[<-RU,<-HGG.o];refine⟨HI.o.1, ?_⟩;rw[HGG.o];exact HI.o.2
   clear HI;go_wp2_with fail;go_ret;exact⟨_,rfl,HE.o.1,HE.o.2⟩
end Rc
namespace Rc
open Go.RowKit Go.Sort Go.Maps Pt Hc
theorem Ml.retag{f:Tm->Int}{fr:List Tm}(h:Ml w tag j mb n f fr)(ht:∀k,tag k=j->tag' k=j'):Ml w tag' j' mb n f fr:=by
 obtain⟨tb,b,cb,v,h1,h2,t1,t2,t3,t4,t5⟩:=h;exact⟨tb,b,cb,v,h1,h2,ht _ t1,ht _ t2,ht _ t3,ht _ t4,fun k hk=>ht k (t5 k hk)⟩
theorem Hm.retag{hb:Nat}{ff:Value}{f:Th->Int}{Q:List It}(h:Hm w tag hb ff f Q np)(ht:∀k,tag k=1->tag' k=1):Hm w tag' hb ff f Q np:=by
 obtain⟨v,h1,h2,h3⟩:=h;exact⟨v,h1,ht _ h2,fun k hk=>ht k (h3 k hk)⟩
theorem Lm.retag{α:Type}{E:El α}{l:List α}(h:Lm E w tag j v l)(ht:∀k,tag k=j->tag' k=j'):Lm E w tag' j' v l:=⟨h.1,fun k hk=>ht k (h.2 k hk)⟩
def LM{α:Type}(E:El α)(w:World)(tag:Nat->Nat)(j:Nat)(v:Value)(N:Nat)(L:Nat->List α):Prop:=∃us:List Sv,Lm EV w tag j v us/\us.length=N/\∀p x,us[p]? =some x->Lm E w tag j (ZF x) (L p)
section
variable {α:Type} {E:El α} {w w':World} {tag tag':Nat->Nat} {j j' N:Nat} {v:Value} {L:Nat->List α} {S:Nat->Prop}
theorem LM.keep(h:LM E w tag j v N L)(hK:Kp S w w')(hS:∀k,k<w.heap.size->S k->tag k≠j)(hT:∀k,k<w.heap.size->tag' k=tag k):LM E w' tag' j v N L:=by
 obtain⟨us,h1,h2,h3⟩:=h;exact⟨us,h1.keep hK hS hT,h2,fun p x hx=>(h3 p x hx).keep hK hS hT⟩
theorem LM.retag(h:LM E w tag j v N L)(ht:∀k,tag k=j->tag' k=j'):LM E w tag' j' v N L:=by
 obtain⟨us,h1,h2,h3⟩:=h;exact⟨us,h1.retag ht,h2,fun p x hx=>(h3 p x hx).retag ht⟩
theorem LM.at(h:LM E w tag j v N L)(hp:p<N):∃(bi oi ci:Nat) (px:Option Addr) (cx:Nat),v= .slice (some ⟨bi,oi,none⟩) N ci/\Lm E w tag j (.slice px (L p).length cx) (L p)/\w.cell? ⟨bi,oi+p,none⟩=some (.slice px (L p).length cx)/\bi<w.heap.size:=by
 obtain⟨us,u1,u2,u3⟩:=h;obtain⟨x,hx⟩:∃x,us[p]? =some x:=⟨us[p]'(by omega),by rw[pW]⟩;obtain⟨bi,oi,ci,h1,h2,h3⟩:=ZR u1.1 hx;have h4:=u3 p x hx;obtain⟨px,cx,h6⟩:=h4.1.form;rw[h6]at h4 h3;rw[u2]at h1;exact⟨bi,oi,ci,px,cx,h1,h4,h3,h2⟩
end
structure Rw(w:World)(t:Nat->Nat)(rb:Nat)(ar:Int)(sv rv ov cv uv:Value)(N:Nat)(L:Nat->List (Nat×ai))(rs os ms:List Nat)(U:List Th):Prop where
 blk:w.heap[rb]? =some (.cells #[.int .i64 ar,sv,rv,ov,cv,uv] 102 (0,0))
 tb:t rb=2
 st:LM EP w t 0 sv N L
 rk:Lm ER w t 0 rv rs
 ow:Lm EA w t 0 ov os
 cm:Lm EA w t 0 cv ms
 ut:Lm EC w t 0 uv U
 ol:os.length=N
 ml:ms.length=N
 rl:rs.length=N
section
variable {w w':World} {t t':Nat->Nat} {rb N:Nat} {ar:Int} {sv rv ov cv uv:Value} {L:Nat->List (Nat×ai)} {rs os ms:List Nat} {U:List Th} {S:Nat->Prop}
theorem Rw.keep(h:Rw w t rb ar sv rv ov cv uv N L rs os ms U)(hK:Kp S w w')(hS:∀k,k<w.heap.size->S k->t k≠0/\t k≠2)(hT:∀k,k<w.heap.size->t' k=t k):Rw w' t' rb ar sv rv ov cv uv N L rs os ms U:=
 have h0:∀k,k<w.heap.size->S k->t k≠0:=fun k hk e=>(hS k hk e).1
 ⟨(hK.block rb (ae h.blk) fun e=>(hS rb (ae h.blk) e).2 h.tb).trans h.blk,by rw[hT rb (ae h.blk)];exact h.tb,h.st.keep hK h0 hT,h.rk.keep hK h0 hT,h.ow.keep hK h0 hT,h.cm.keep hK h0 hT,h.ut.keep hK h0 hT,h.ol,h.ml,h.rl⟩
theorem Rw.retag(h:Rw w t rb ar sv rv ov cv uv N L rs os ms U)(h0:∀k,t k=0->t' k=0)(h2:∀k,t k=2->t' k=2):Rw w t' rb ar sv rv ov cv uv N L rs os ms U:=
 ⟨h.blk,h2 _ h.tb,h.st.retag h0,h.rk.retag h0,h.ow.retag h0,h.cm.retag h0,h.ut.retag h0,h.ol,h.ml,h.rl⟩
theorem Rw.rd(h:Rw w t rb ar sv rv ov cv uv N L rs os ms U)(h0:∀k,t k=0->t' k=0)(h2:∀k,t k=2->t' k=0):Rd w t' rb ar sv rv ov cv uv N L rs ms:=by
 obtain⟨us,u1,u2,u3⟩:=h.st;exact⟨h.blk,⟨us,u1.1,u2,fun p x hx=>⟨(u3 p x hx).1,fun k hk=>h0 k ((u3 p x hx).2 k hk)⟩⟩,h.rk.1,h.cm.1,h2 _ h.tb,fun k hk=>h0 k (u1.2 k hk),fun k hk=>h0 k (h.rk.2 k hk),fun k hk=>h0 k (h.cm.2 k hk)⟩
theorem Rw.turn(h:Rw w t rb ar sv rv ov cv uv N L rs os ms U){vl:Value}{V:List Th}(hv:Lm EC w t 0 vl V):Rw (w.setCell ⟨rb,5,none⟩ vl) t rb ar sv rv ov cv vl N L rs os ms V/\Kp (fun k=>k=rb) w (w.setCell ⟨rb,5,none⟩ vl):=by
 obtain⟨b1,k1⟩:=Df.bC h.blk 5 vl;have h0:∀k,k<w.heap.size->k=rb->t k≠0:=fun k _ e=>by rw[e,h.tb];decide
 refine⟨⟨b1,h.tb,h.st.keep k1 h0 (fun _ _=>rfl),h.rk.keep k1 h0 (fun _ _=>rfl),h.ow.keep k1 h0 (fun _ _=>rfl),h.cm.keep k1 h0 (fun _ _=>rfl),hv.keep k1 h0 (fun _ _=>rfl),h.ol,h.ml,h.rl⟩,k1⟩
end
structure Rq(w:World)(t:Nat->Nat)(rb:Nat)(ar:Int)(N:Nat)(L:Nat->List (Nat×ai))(rs:List Nat)(c:Nat->ai->Int)(K O:Nat->List ai)(C:Nat->ai->Int)(F:Nat->List ai)(U:List Th):Prop where
 ex:∃sv rv ov cv uv os ms,Rw w t rb ar sv rv ov cv uv N L rs os ms U/\(∀p mb,os[p]? =some mb->Ml w t (3+N+p) mb (K p).length (c p) (O p))/\∀p mb,ms[p]? =some mb->∃n,Ml w t (3+p) mb n (C p) (F p)
section
variable {w w':World} {t t':Nat->Nat} {rb N:Nat} {ar:Int} {L:Nat->List (Nat×ai)} {rs:List Nat} {c:Nat->ai->Int} {K O:Nat->List ai} {C:Nat->ai->Int} {F:Nat->List ai} {U:List Th} {S:Nat->Prop}
theorem Rq.keep(h:Rq w t rb ar N L rs c K O C F U)(hK:Kp S w w')(hS:∀k,k<w.heap.size->S k->t k≠0/\¬(2<=t k/\t k<3+2*N))(hT:∀k,k<w.heap.size->t' k=t k):Rq w' t' rb ar N L rs c K O C F U:=by
 obtain⟨sv,rv,ov,cv,uv,os,ms,h1,h2,h3⟩:=h;refine⟨sv,rv,ov,cv,uv,os,ms,h1.keep hK (fun k hk e=>⟨(hS k hk e).1,fun e2=>(hS k hk e).2 ⟨by omega,by omega⟩⟩) hT,fun p mb hp=>(h2 p mb hp).keep hK (fun k hk e e2=>(hS k hk e).2 ⟨by omega, ?_⟩) hT,fun p mb hp=> ?_⟩
 ·have:=(lG.1 hp).1;have:=h1.ol;omega
 ·obtain⟨n,h4⟩:=h3 p mb hp;have:=(lG.1 hp).1;have:=h1.ml;exact⟨n,h4.keep hK (fun k hk e e2=>(hS k hk e).2 ⟨by omega,by omega⟩) hT⟩
theorem Rq.retag(h:Rq w t rb ar N L rs c K O C F U)(ht:∀k,t k=0\/(2<=t k/\t k<3+2*N)->t' k=t k):Rq w t' rb ar N L rs c K O C F U:=by
 obtain⟨sv,rv,ov,cv,uv,os,ms,h1,h2,h3⟩:=h;refine⟨sv,rv,ov,cv,uv,os,ms,h1.retag (fun k e=>by rw[ht k (.inl e),e]) (fun k e=>by rw[ht k (.inr ⟨by omega,by omega⟩),e]),fun p mb hp=>(h2 p mb hp).retag fun k e=> ?_,fun p mb hp=> ?_⟩
 ·have:=(lG.1 hp).1;have:=h1.ol;rw[ht k (.inr ⟨by omega,by omega⟩),e]
 ·obtain⟨n,h4⟩:=h3 p mb hp;have:=(lG.1 hp).1;have:=h1.ml;exact⟨n,h4.retag fun k e=>by rw[ht k (.inr ⟨by omega,by omega⟩),e]⟩
end
end Rc
namespace Rc
open Go.RowKit Go.Sort Go.Maps Pt
open Lf (Tv Fw EF mQ uX uG)
open Df (bD gY Gm aT LV EL xK)
attribute[local go_sem ↓]wp_at_zero wp_at_succ
theorem Er{l:List (Int×ai)}(h:∀x∈l,0<=x.1):fl EP (l.map fun x=>(x.1.toNat,x.2))=fl EF l:=by
 induction l with
 | nil => rfl
 | cons x l ih=>
  rw[List.map_cons,aO,aO,ih fun y hy=>h y (mO _ hy)]
  congr 1
  have:=h x mX;show[_,_,_,_]=[_,_,_,_];rw[show((x.1.toNat:Nat):Int)=x.1 by omega]
theorem Ki{sv:Value}{vs:List LV}{g:bD}(hok:gY g)(h:Fw EF 167 165 B w sv vs (mQ (uX g)))(hn:vs.length=n)(ht:∀k,B<=k->k<w.heap.size->tag k=j):LM EP w tag j sv n (sO g):=by
 have e:fl EV (vs.map fun x=>(x.q,x.m,x.c))=fl EL vs:=by
  clear h hn
  induction vs with
  | nil => rfl
  | cons x l ih => rw[List.map_cons,aO,aO,ih];rfl
 have hr:=h.row;rw[hn,<-e]at hr;refine⟨vs.map fun x=>(x.q,x.m,x.c),⟨aH (E:=EV) (e:=165) (base:=B) (by rw[gK,hn];exact hr),fun k hk=>ht k (ja hr hk) (hr.lt k hk).2⟩,by rw[gK,hn],fun p x hx=> ?_⟩;rw[gM]at hx;cases e2:vs[p]? with
 | none => rw[e2]at hx;cases hx
 | some y=>
  rw[e2]at hx;cases hx;have h2:=h.each p y e2;have hpos:∀x∈mQ (uX g) p,0<=x.1:=fun x hx=>by
   obtain⟨c,hc,_,rfl⟩:=Lf.kZ.1 hx;obtain⟨_,q,_,hq⟩:=Lf.AY hok (Lf.kW.1 hc);show 0<=c.o;omega
  rw[<-Er hpos]at h2;refine⟨aH (E:=EP) (e:=167) (base:=B) ?_,fun k hk=>ht k (ja h2 hk) (h2.lt k hk).2⟩;show w.ownsRow B 167 4 y.v (sO g p).length (fl EP (sO g p));have:(sO g p).length=(mQ (uX g) p).length:=gK _;rw[this];exact h2
theorem FV{gb:Nat}{g:bD}{R:Nat->Nat->List ai}(w:World)(h:Gm B w gb g)(j5:gY g)(hP:uG g)(hT:Tv M w tv (aT g.nodes) R)(hM:M<=w.heap.size)(hl:∀p q,p<aT g.nodes->(R p q).length<=64):
    Calls Tryz.prog 65 #[.pointer (some ⟨gb,0,none⟩),tv] w fun e w'=>∃sv rv vs,e= .returned (wv g.arity sv rv)/\Hid (Below w.heap.size w w'/\Fw EF 167 165 w.heap.size w' sv vs (mQ (uX g))/\vs.length=aT g.nodes/\w'.ownsRow w.heap.size 3 1 rv (aT g.nodes) (fl ER (sF (aT g.nodes) R))):=by
 obtain⟨W1,hW1⟩:=aC (w.alloc (.cells #[.int .i64 0, .slice none 0 0, .slice none 0 0] 99));obtain⟨yb,hyb⟩:=aC (w.heap.size);have HB1:Hid (Below w.heap.size w W1/\W1.heap[yb]? =some (.cells #[.int .i64 0, .slice none 0 0, .slice none 0 0] 99 (0,0))/\yb<W1.heap.size/\w.heap.size=yb):=by
  rw[hW1,hyb];exact⟨((Gr.refl w).alloc _).below,ah _ _,by simp,rfl⟩
 have HA:Hid (∀W,Below w.heap.size w W->Calls Tryz.prog 103 #[.pointer (some ⟨gb,0,none⟩)] W fun e w'=>e= .returned (.int .i64 g.arity)/\w'=W):=fun W hb=>xK W (h.below hb);have HS:Hid (∀W,Below w.heap.size w W->Calls Tryz.prog 104 #[.pointer (some ⟨gb,0,none⟩)] W (Lf.Rz.Vf W g)):=fun W hb=>Lf.Rz.dA W (h.below hb) j5 hP;have hn:=Df.mY j5;have HR:Hid (∀W,Below w.heap.size w W->Calls Tryz.prog 105 #[tv] W fun e w'=>∃v,e= .returned v/\w'.ownsRow W.heap.size 3 1 v (aT g.nodes) (fl ER (sF (aT g.nodes) R))/\Below W.heap.size W w'):=fun W hb=>Dv W (hT.keep (hb.mono hM)) (nT hM hb.size) hn hl;clear h j5 hP hT hM hl;obtain⟨n,hn2⟩:=aC (aT g.nodes);rw[<-hn2]at HR⊢;have HN:=hid hn2;clear hn hn2;go_enter Tryz.func65,Tryz.ntmps65;go_wp2_with fail;rw[<-hW1,<-hyb];clear hW1 hyb;refine(HA.o W1 HB1.o.1).mono ?_;rintro e w2 ⟨rfl,hw2⟩;subst hw2;go_wp2_with fail;refine(HS.o _ HB1.o.1).mono ?_;rintro e w3 hs3;obtain⟨gs,vs,rfl,b3,v3,f3⟩:=hs3;have H3:Hid (Below w.heap.size w w3/\vs.length=n/\Fw EF 167 165 w.heap.size w3 (.slice (some ⟨gs,0,none⟩) n n) vs (mQ (uX g))/\w3.heap[yb]? =some (.cells #[.int .i64 0, .slice none 0 0, .slice none 0 0] 99 (0,0))):=by
  rw[HN.o];refine⟨HB1.o.1.trans (b3.mono HB1.o.1.size),v3,⟨aL f3.row HB1.o.1.size,fun k x hk=>aL (f3.each k x hk) HB1.o.1.size,f3.apart⟩,(b3.block _ HB1.o.2.2.1).trans HB1.o.2.1⟩
 rw[<-HN.o];clear b3 v3 f3;go_wp2_with fail;refine(HR.o w3 H3.o.1).mono ?_;rintro e w4 ⟨rv,he4,r1,r2⟩;obtain⟨rq,rm,rc,rfl⟩:=Df.aB r1;subst he4;have H4:Hid (Below w.heap.size w w4/\Fw EF 167 165 w.heap.size w4 (.slice (some ⟨gs,0,none⟩) n n) vs (mQ (uX g))/\vs.length=n/\w4.ownsRow w.heap.size 3 1 (.slice rq rm rc) n (fl ER (sF n R))/\w4.heap[yb]? =some (.cells #[.int .i64 0, .slice none 0 0, .slice none 0 0] 99 (0,0))):=⟨H3.o.1.trans (r2.mono H3.o.1.size),H3.o.2.2.1.below r2,H3.o.2.1,aL r1 H3.o.1.size,(r2.block _ (ae H3.o.2.2.2)).trans H3.o.2.2.2⟩;clear r1 r2 H3;have c4:=(aa H4.o.2.2.2.2).1;have f4:=(aa H4.o.2.2.2.2).2;have l4:=ae H4.o.2.2.2.2;have HE:Hid (Below w.heap.size w (((w4.setCell ⟨yb,0,none⟩ (.int .i64 g.arity)).setCell ⟨yb,1,none⟩ (.slice (some ⟨gs,0,none⟩) n n)).setCell ⟨yb,2,none⟩ (.slice rq rm rc))/\Fw EF 167 165 w.heap.size (((w4.setCell ⟨yb,0,none⟩ (.int .i64 g.arity)).setCell ⟨yb,1,none⟩ (.slice (some ⟨gs,0,none⟩) n n)).setCell ⟨yb,2,none⟩ (.slice rq rm rc)) (.slice (some ⟨gs,0,none⟩) n n) vs (mQ (uX g))/\vs.length=n/\(((w4.setCell ⟨yb,0,none⟩ (.int .i64 g.arity)).setCell ⟨yb,1,none⟩ (.slice (some ⟨gs,0,none⟩) n n)).setCell ⟨yb,2,none⟩ (.slice rq rm rc)).ownsRow w.heap.size 3 1 (.slice rq rm rc) n (fl ER (sF n R))):=by
  obtain⟨q1,k1⟩:=Df.bC H4.o.2.2.2.2 0 (.int .i64 g.arity);obtain⟨q2,k2⟩:=Df.bC q1 1 (.slice (some ⟨gs,0,none⟩) n n);obtain⟨q3,k3⟩:=Df.bC q2 2 (.slice rq rm rc);have kk:=(k1.trans k2 (fun _ _ h=>h)).trans k3 (fun _ _ h=>h);have hf:=H4.o.2.1;have ho:∀{T:TypeId} {z m:Nat} {v:Value} {xs:List Value},w4.ownsRow w.heap.size T z v m xs->T≠99->(((w4.setCell ⟨yb,0,none⟩ (.int .i64 g.arity)).setCell ⟨yb,1,none⟩ (.slice (some ⟨gs,0,none⟩) n n)).setCell ⟨yb,2,none⟩ (.slice rq rm rc)).ownsRow w.heap.size T z v m xs:=fun o hT=>av kk o fun k e e2=>Df.aF o H4.o.2.2.2.2 hT k e e2;refine⟨H4.o.1.trans (kk.below H4.o.1.size fun k hk=>by rw[hk,HB1.o.2.2.2];exact nR _),⟨ho hf.row (by decide),fun k x hk=>ho (hf.each k x hk) (by decide),hf.apart⟩,H4.o.2.2.1,ho H4.o.2.2.2.1 (by decide)⟩
 clear H4;go_wp2_with fail;refine bR (v:=wv g.arity (.slice (some ⟨gs,0,none⟩) n n) (.slice rq rm rc)) (by simp only[results,Tryz.results65];go_simp) rfl ?_;exact⟨_,_,vs,rfl,HE.o⟩
end Rc
namespace Rc
open Go.RowKit Go.Sort Go.Maps Pt Hc
structure Ev(N:Nat)(L:Nat->List (Nat×ai))(R:Nat->Nat->List ai)(c:Nat->ai->Int)(K O:Nat->List ai)(C:Nat->ai->Int)(F:Nat->List ai):Prop where
 yI:Fb N L O C F
 JK:∀p,p<N->FO PX (kE N R O p) (F p)
 own:∀p,p<N->fP (c p) (O p)
 bd:∀p t,p<N->-2147483647<=c p t/\c p t<=2147483647
 kp:∀p t,p<N->c p t≠0->t∈K p
theorem Ev.init(N:Nat)(L:Nat->List (Nat×ai))(R:Nat->Nat->List ai):Ev N L R (fun _ _=>0) (fun _=>[]) (fun _=>[]) (fun _ _=>0) (fun _=>[]) where
 yI:=by
  have e:∀p t,rhs N L (fun _=>[]) (fun _=>[]) p t=0:=fun p t=>by
   have h:¬0<rhs N L (fun _=>[]) (fun _=>[]) p t:=fun k=>by
    rcases qP.1 k with k|⟨q,u,b,_,hu,_⟩
    ·cases k
    ·cases hu
   have:=wN N L (fun _=>[]) (fun _=>[]) p t;omega
  exact⟨fun p t _=>(e p t).symm,fun p _=>⟨.nil,fun t=>⟨fun h=>absurd h (by simp),fun h=>absurd h.1 (by decide)⟩⟩⟩
 JK p _:=by
  refine⟨.nil,fun t=>⟨fun h=>absurd h (by simp),fun h=> ?_⟩⟩;obtain⟨q,u,a,_,hu,_⟩:=qX.1 h.1;cases hu
 own _ _:=fP.nil
 bd _ _ _:=by omega
 kp _ _ _ h:=absurd rfl h
section
variable {N:Nat} {L:Nat->List (Nat×ai)} {St:Nat->Nat->ai->Prop} {R:Nat->Nat->List ai} {c:Nat->ai->Int} {K O:Nat->List ai} {C:Nat->ai->Int} {F:Nat->List ai}
theorem Ev.inK(h:Ev N L R c K O C F)(hp:p<N):(O p).length<=(K p).length:=by
 refine iX (h.own p hp).nodup fun t ht=>h.kp p t hp ?_;have:=(((h.own p hp).mem t).1 ht).1;omega
theorem Ev.Ru(h:Ev N L R c K O C F)(hT:sN (fun p=>(K p).length) (List.range N)<=T):sN (fun p=>(O p).length) (List.range N)<=T:=nT (kC fun _ hp=>h.inK (mR.1 hp)) hT
theorem Rv(N:Nat)(S:Nat->List ai):(uW N S).length=sN (fun p=>(S p).length) (List.range N):=by
 unfold uW sN;rw[List.length_flatMap]
 congr 1
 refine List.map_congr_left fun p _=> ?_;rw[gK]
def lL(c:Nat->ai->Int)(l:List Th)(p:Nat):ai->Int:=bP (c p) (prt l p)
def BG(K:Nat->List ai)(l:List Th)(p:Nat):List ai:=K p++(prt l p).map Prod.fst
structure Rm(N:Nat)(L:Nat->List (Nat×ai))(T E Z B:Nat):Prop where
 hN:N<=192
 hE:sN (fun q=>(L q).length) (List.range N)<=E
 hZ:sN (fun q=>(L q).length*nH N L q) (List.range N)<=Z
 hB:2*T+6*(T*E+64*T*Z)<=B
 hB2:B<=549755813888
 e:E<=432
 t:T<=15000
theorem X8(ht:CQ N L St R){rs:List Nat}(xC:rQ N L (mW N (mf rs)))(hrl:rs.length=N)(hr:∀x∈rs,x<=N)(Ic:Ev N L R c K O C F)(l:List Th)(hb:∀p,p<N->bad (c p) (prt l p)=false){E Z:Nat}(hm:Rm N L T E Z B)(hK:sN (fun p=>(K p).length) (List.range N)<=T)(hK2:sN (fun p=>(BG K l p).length) (List.range N)<=T):
    ∃On Cn Fn,(∀p,p<N->fP (lL c l p) (On p))/\Ev N L R (lL c l) (BG K l) On Cn Fn/\(oz (zF O On) (List.range N)).length<=2*T/\(∀p,p<N->(F p).length<=64*T/\(Fn p).length<=64*T)/\
     ∀(ms:List Nat) (Q0:List It),ms.length=N->(wq Q0).Perm (oz (zF O On) (List.range N))->(∀y∈Q0,Vq N y)->Uk N L rs ms On C Cn F Fn (MW N L O F On Fn) B Q0 Q0.length:=by
 have hx:∀p,∃fr,p<N->fP (lL c l p) fr:=fun p=>by
  by_cases hp:p<N
  ·obtain⟨fr,h⟩:=SK (lL c l p) (BG K l p) fun t h=>zI (Ic.kp p · hp) t (by unfold lL at h;omega);exact⟨fr,fun _=>h⟩
  ·exact⟨[],fun h=>absurd h hp⟩
 obtain⟨On,Xv⟩:=Classical.axiomOfChoice hx;have hbd:∀p t,p<N->-2147483647<=lL c l p t/\lL c l p t<=2147483647:=fun p t hp=>Sl (Ic.bd p · hp) (hb p hp) t;have hkp:∀p t,p<N->lL c l p t≠0->t∈BG K l p:=fun p t hp h=>zI (Ic.kp p · hp) t h;have hO:=fun p (hp:p<N)=>(Ic.own p hp).nodup;have hN:=fun p (hp:p<N)=>(Xv p hp).nodup;have hD:∀p,p<N->Aq (O p) (On p) (zF O On p):=fun p hp=>rH (hO p hp) (hN p hp);have hTo:=Ic.Ru hK;have hTn:sN (fun p=>(On p).length) (List.range N)<=T:=by
  refine nT (kC (g:=fun p=>(BG K l p).length) fun p hp=> ?_) hK2;have hp:=mR.1 hp;refine iX (hN p hp) fun t ht=>hkp p t hp ?_;have:=(((Xv p hp).mem t).1 ht).1;omega
 obtain⟨Cn,Fn,htr⟩:=ht.turn (W:=oz (zF O On) (List.range N)) Ic.yI Ic.JK hO hN hD (List.Perm.refl _) hTo hTn hm.hE hm.hZ hm.hB;have h0:=htr (mW N (mf rs));have hwl:(oz (zF O On) (List.range N)).length<=2*T:=VB hD (nR _) hTo hTn;refine⟨On,Cn,Fn,Xv,⟨h0.yI,h0.JK,Xv,hbd,hkp⟩,hwl,fun p hp=>⟨h0.fo p hp,h0.fn p hp⟩,fun ms Q0 hms hq hv=> ?_⟩;have hll:(wq Q0).length=(oz (zF O On) (List.range N)).length:=hq.length_eq;rw[mP]at hll;have e1:=hm.e;have e2:=hm.t;have e3:=hm.hN;have hTE:T*E<=15000*432:=Nat.mul_le_mul e2 e1;have hNT:N*T<=192*15000:=Nat.mul_le_mul e3 e2;have e64:64*T*E=64*(T*E):=Nat.mul_assoc _ _ _;refine⟨hms,hrl,hr,by omega,xC,h0.yI,h0.sup,Fa h0.yu hq,hv,by rw[hll];exact h0.bd,hm.hB2,fun p t hp=> ?_,fun p t hp=> ?_,fun p hp=> ?_, ?_,fun p hp=> ?_⟩
 ·have:=h0.bo p t hp;omega
 ·have:=h0.bn p t hp;omega
 ·have h1:=h0.sl p hp;rw[e64]at h1;omega
 ·rw[Rv];have h1:=h0.st;rw[e64]at h1;omega
 ·have:=kz (f:=fun q=>(L q).length) (mR.2 hp);have:=hm.hE;omega
end
open Lf (Fw)
open Df (LV EL)
attribute[local go_sem ↓]wp_at_zero wp_at_succ
theorem SQ:(Tryz.prog.info? 159).map (fun i=>(i.zero,i.size,i.bytes))=some (some (.slice none 0 0),1,24):=by kernel_rfl
theorem DR{ts:List Th}(h:Ls EC w v ts){x:Th}(hj:ts[j]? =some x):∃b off c,v= .slice (some ⟨b,off,none⟩) ts.length c/\b<w.heap.size/\w.cell? ⟨b,off+j*5,none⟩=some (.int .i64 x.1)/\w.cell? ⟨b,off+j*5+1,none⟩=some (.int .u64 x.2.1.1.1)/\w.cell? ⟨b,off+j*5+2,none⟩=some (.int .u64 x.2.1.1.2.1)/\w.cell? ⟨b,off+j*5+3,none⟩=some (.int .u64 x.2.1.1.2.2)/\w.cell? ⟨b,off+j*5+4,none⟩=some (.int .i64 x.2.2):=by
 obtain⟨b,off,c,hv,hb,hc⟩:=h.get hj;exact⟨b,off,c,hv,hb,hc 0 _ (by decide) rfl,hc 1 _ (by decide) rfl,hc 2 _ (by decide) rfl,hc 3 _ (by decide) rfl,hc 4 _ (by decide) rfl⟩
def Ad(w:World)(n g:Nat)(l:List Th)(W:World):Prop:=∃vs,Fw ED 163 159 w.heap.size W (.slice (some ⟨g,0,none⟩) n n) vs (prt l)/\vs.length=n/\Below w.heap.size w W
theorem Ad.below{W':World}{l:List Th}(h:Ad w n g l W)(hb:Below W.heap.size W W'):Ad w n g l W':=by
 obtain⟨vs,h1,h2,h3⟩:=h;exact⟨vs,h1.below hb,h2,h3.trans (hb.mono h3.size)⟩
theorem Ad.cell{w W:World}{n g:Nat}{l:List Th}(h:Ad w n g l W){k:Nat}(hk:k<n):∃vs x,Fw ED 163 159 w.heap.size W (.slice (some ⟨g,0,none⟩) n n) vs (prt l)/\vs.length=n/\Below w.heap.size w W/\vs[k]? =some x/\W.cell? ⟨g,k,none⟩=some x.v/\g<W.heap.size/\W.ownsRow w.heap.size 163 4 x.v (prt l k).length (fl ED (prt l k)):=by
 obtain⟨vs,h1,h2,h3⟩:=h;obtain⟨x,a1,a2,a3,-,a5⟩:=h1.cell h2 hk;exact⟨vs,x,h1,h2,h3,a1,a2,a3,a5⟩
theorem Ad.rws{l:List Th}(h:Ad w n g l W)(tag:Nat->Nat)(j:Nat):LM ED W (tg tag w j) j (.slice (some ⟨g,0,none⟩) n n) n (prt l):=by
 obtain⟨vs,h1,h2,h3⟩:=h;have e:fl EV (vs.map fun x=>(x.q,x.m,x.c))=fl EL vs:=by
  clear h1 h2
  induction vs with
  | nil => rfl
  | cons x l ih => rw[List.map_cons,aO,aO,ih];rfl
 have hr:=h1.row;rw[h2,<-e]at hr;refine⟨vs.map fun x=>(x.q,x.m,x.c),⟨aH (E:=EV) (e:=159) (base:=w.heap.size) (by rw[gK,h2];exact hr),fun k hk=>aR (ja hr hk)⟩,by rw[gK,h2],fun p x hx=> ?_⟩;rw[gM]at hx;cases e2:vs[p]? with
 | none => rw[e2]at hx;cases hx
 | some y=>
  rw[e2]at hx;cases hx;have:=h1.each p y e2;exact⟨aH (E:=ED) this,fun k hk=>aR (ja this hk)⟩
def kT{β:Type}(i:Nat)(f g:Nat->β)(q:Nat):β:=if q<i then g q else f q
theorem vR(f g:Nat->β):kT 0 f g=f:=by
 funext q
 exact if_neg (nW q)
theorem FZ(i:Nat)(f g:Nat->β):kT i f g i=f i:=if_neg (Nat.lt_irrefl i)
theorem FY{q:Nat}(f g:Nat->β)(h:q<i):kT i f g q=g q:=if_pos h
theorem Aw(i:Nat)(f g:Nat->β):bG (kT i f g) i (g i)=kT (i+1) f g:=by
 funext q
 unfold bG kT;by_cases e:q=i
 ·subst e;rw[if_pos rfl,if_pos (Nat.lt_succ_self _)]
 ·rw[if_neg e];by_cases k:q<i
  ·rw[if_pos k,if_pos (by omega)]
  ·rw[if_neg k,if_neg (by omega)]
theorem vT{f g:Nat->β}(h:f i=g i):kT i f g=kT (i+1) f g:=by
 funext q
 unfold kT;by_cases e:q=i
 ·subst e;rw[if_neg (Nat.lt_irrefl _),if_pos (Nat.lt_succ_self _),h]
 ·by_cases k:q<i
  ·rw[if_pos k,if_pos (by omega)]
  ·rw[if_neg k,if_neg (by omega)]
structure As(w0:World)(aJ:Nat->Nat)(w:World)(tag:Nat->Nat)(hb rb:Nat)(ar:Int)(sv rv ov cv uv pv:Value)(N:Nat)(L:Nat->List (Nat×ai))(rs os ms:List Nat)(P:Nat->List Dl)(Q:List It)(np:Nat)(nn:Nat->Nat)(c:Nat->ai->Int)(O:Nat->List ai)(C:Nat->ai->Int)(F:Nat->List ai):Prop where
 rd:Rd w tag rb ar sv rv ov cv uv N L rs ms
 po:Lm EA w tag 0 ov os
 pt:LM ED w tag 4294967296 pv N P
 hm:Hm w tag hb (wv ar sv rv) (kR N rs) Q np
 ow:∀p mb,os[p]? =some mb->Ml w tag (3+N+p) mb (nn p) (c p) (O p)
 cm:∀p mb,ms[p]? =some mb->∃n,Ml w tag (3+p) mb n (C p) (F p)
 kp:Kp (fun k=>aJ k≠0) w0 w
 old:∀k,k<w0.heap.size->tag k=aJ k
section
variable {w0 w w':World} {aJ tag:Nat->Nat} {hb rb:Nat} {ar:Int} {sv rv ov cv uv pv:Value} {N:Nat} {L:Nat->List (Nat×ai)} {rs os ms:List Nat} {P:Nat->List Dl} {Q:List It} {np:Nat} {nn:Nat->Nat} {c:Nat->ai->Int} {O:Nat->List ai} {C:Nat->ai->Int} {F:Nat->List ai}
theorem As.kp'(h:As w0 aJ w tag hb rb ar sv rv ov cv uv pv N L rs os ms P Q np nn c O C F)(hj:j≠0)(hK:Kp (fun k=>tag k=j) w w'):Kp (fun k=>aJ k≠0) w0 w':=h.kp.trans hK fun k hk e=>by rw[<-h.old k hk,e];exact hj
theorem As.old'(h:As w0 aJ w tag hb rb ar sv rv ov cv uv pv N L rs os ms P Q np nn c O C F)(j:Nat):∀k,k<w0.heap.size->Rc.tg tag w j k=aJ k:=fun k hk=>by rw[ak (nL hk h.kp.size),h.old k hk]
theorem As.heap(h:As w0 aJ w tag hb rb ar sv rv ov cv uv pv N L rs os ms P Q np nn c O C F){Q':List It}{Fu:Nat}(hm:Hm w' (Rc.tg tag w 1) hb (wv ar sv rv) (kR N rs) Q' Fu)(hK:Kp (fun k=>tag k=1) w w'):As w0 aJ w' (Rc.tg tag w 1) hb rb ar sv rv ov cv uv pv N L rs os ms P Q' Fu nn c O C F:=
 ⟨h.rd.keep hK (fun k _ e=>by omega) (fun k hk=>ak hk),h.po.keep hK (fun k _ e=>by omega) (fun k hk=>ak hk),h.pt.keep hK (fun k _ e=>by omega) (fun k hk=>ak hk),hm,fun p mb hp=>(h.ow p mb hp).keep hK (fun k _ e=>by omega) (fun k hk=>ak hk),fun p mb hp=>(h.cm p mb hp).imp fun n hn=>hn.keep hK (fun k _ e=>by omega) (fun k hk=>ak hk),h.kp' (by decide) hK,h.old' 1⟩
theorem As.NP(h:As w0 aJ w tag hb rb ar sv rv ov cv uv pv N L rs os ms P Q np nn c O C F)(hN:N<=192)(hol:os.length=N)(ru:ms.length=N)(hp:os[p]? =some mb){n':Nat}{f':ai->Int}{fr':List ai}(hm:Ml w' (Rc.tg tag w (3+N+p)) (3+N+p) mb n' f' fr')(hK:Kp (fun k=>tag k=3+N+p) w w'):As w0 aJ w' (Rc.tg tag w (3+N+p)) hb rb ar sv rv ov cv uv pv N L rs os ms P Q np (bG nn p n') (bG c p f') (bG O p fr') C F:=by
 have hpl:=(lG.1 hp).1;refine⟨h.rd.keep hK (fun k _ e=>by omega) (fun k hk=>ak hk),h.po.keep hK (fun k _ e=>by omega) (fun k hk=>ak hk),h.pt.keep hK (fun k _ e=>by omega) (fun k hk=>ak hk),h.hm.keep hK (fun k _ e=>by omega) (fun k hk=>ak hk),fun q mq hq=> ?_,fun q mq hq=> ?_,h.kp' (by omega) hK,h.old' (3+N+p)⟩
 ·by_cases e:q=p
  ·subst e;rw[hp]at hq;rw[<-oJ hq,bK,bK,bK];exact hm
  ·rw[bI nn n' e,bI c f' e,bI O fr' e];exact(h.ow q mq hq).keep hK (fun k _ e2=>by omega) (fun k hk=>ak hk)
 ·have YU:=(lG.1 hq).1;exact(h.cm q mq hq).imp fun n hn=>hn.keep hK (fun k _ e=>by omega) (fun k hk=>ak hk)
theorem As.grow(h:As w0 aJ w tag hb rb ar sv rv ov cv uv pv N L rs os ms P Q np nn c O C F)(j:Nat)(hB:Below w.heap.size w w'):As w0 aJ w' (Rc.tg tag w j) hb rb ar sv rv ov cv uv pv N L rs os ms P Q np nn c O C F:=by
 have hK:=Kp.of_below (S:=fun _=>False) hB;exact⟨h.rd.keep hK (fun k _ e=>e.elim) (fun k hk=>ak hk),h.po.keep hK (fun k _ e=>e.elim) (fun k hk=>ak hk),h.pt.keep hK (fun k _ e=>e.elim) (fun k hk=>ak hk),h.hm.keep hK (fun k _ e=>e.elim) (fun k hk=>ak hk),fun p mb hp=>(h.ow p mb hp).keep hK (fun k _ e=>e.elim) (fun k hk=>ak hk),fun p mb hp=>(h.cm p mb hp).imp fun n hn=>hn.keep hK (fun k _ e=>e.elim) (fun k hk=>ak hk),h.kp.trans hK fun k _ e=>e.elim,h.old' j⟩
end
theorem C8(D:Nat->List (ai×Int))(h:i<=N):(oz D (List.range i)).length<=(oz D (List.range N)).length:=by
 obtain⟨k,rfl⟩:∃k,N=i+k:=⟨N-i,by omega⟩;rw[List.range_add,p9,dO];omega
structure Wa(N:Nat)(O On:Nat->List ai)(i j:Nat)(Q:List It)(np:Nat):Prop where
 perm:(wq Q).Perm (oz (zF O On) (List.range i)++((zF O On i).take j).map fun d=>(i,d.1,d.2))
 np:np=Q.length
 vs:∀y∈Q,Vq N y
theorem Wa.init(N:Nat)(O On:Nat->List ai):Wa N O On 0 0 [] 0:=⟨by rw[List.take_zero];exact List.Perm.refl _,rfl,fun _ h=>by cases h⟩
theorem Wa.push{O On:Nat->List ai}{Q Q':List It}(h:Wa N O On i j Q np){d:ai×Int}(hd:(zF O On i)[j]? =some d)(hi:i<N)(hn: -1<=d.2/\d.2<=1)(hp:Q'.Perm (Q++[(((i:Int),d.1,d.2),np)])):Wa N O On i (j+1) Q' (np+1):=by
 refine⟨?_, ?_,fun y hy=> ?_⟩
 ·refine(Ar hp).trans ?_;rw[FR,tO,hd,Option.toList_some,CW,<-aA];refine h.perm.append ?_;show List.Perm [(Int.toNat (i:Int),d.1,d.2)] _;rw[tN];exact List.Perm.refl _
 ·have h2:=hp.length_eq;rw[dO,vL]at h2;have:=h.np;omega
 ·rcases j4.1 (hp.mem_iff.1 hy)with k|k
  ·exact h.vs y k
  ·rw[yF]at k;rw[k];exact⟨⟨i,rfl,hi⟩,hn⟩
theorem Wa.next{O On:Nat->List ai}{Q:List It}(h:Wa N O On i j Q np)(hj:(zF O On i).length<=j):Wa N O On (i+1) 0 Q np:=by
 refine⟨?_,h.np,h.vs⟩;have h1:=h.perm;rw[tL hj]at h1;rw[List.take_zero,List.map_nil,FP,vP];exact h1
theorem Wa.len{O On:Nat->List ai}{Q:List It}(h:Wa N O On i j Q np)(hi:i<N)(ht:(oz (zF O On) (List.range N)).length<=T):Q.length<=T:=by
 have h1:=h.perm.length_eq;rw[mP,dO,gK,lK]at h1;have h2:=C8 (zF O On) (show i+1<=N by omega);rw[vP,dO,gK]at h2;omega
end Rc
end Go.Proofs.YtiiefcalkjeieaaGreat
