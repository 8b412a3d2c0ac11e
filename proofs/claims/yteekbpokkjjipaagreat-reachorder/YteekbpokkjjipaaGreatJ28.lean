import Derived.Test.YteekbpokkjjipaaGreatJ24
import Derived.Test.YteekbpokkjjipaaGreatRcSpr
variable{n j rb i p N mb M j' B:Nat}{w:Go.World}{sv rv ov cv uv tv v:Go.Value}{tag tag':Nat->Nat}{ar:Int}{os:List Nat}{α:Type}
set_option maxHeartbeats 4000000
set_option maxRecDepth 100000
namespace Go.Proofs.YteekbpokkjjipaaGreat
namespace Rc
open Go.RowKit Go.Sort Go.Maps Pt
open Lf (Tv bt zN)
attribute[local go_sem ↓]wp_at_zero wp_at_succ
def yU(_:Nat)(E:Nat->Nat->Bool)(i j p:Nat):Nat:=((List.range i).filter fun r=>E r p).length+if p<j/\E i p=true then 1 else 0
def yf(n:Nat)(E:Nat->Nat->Bool)(i j:Nat):List Nat:=(List.range n).map (yU n E i j)
theorem kX(n:Nat)(E:Nat->Nat->Bool)(i j:Nat):(yf n E i j).length=n:=by simp[yf]
theorem kY(E:Nat->Nat->Bool)(i j:Nat)(hp:p<n):(yf n E i j)[p]? =some (yU n E i j p):=by simp[yf,hp]
theorem MS(n:Nat)(E:Nat->Nat->Bool):yf n E 0 0=List.replicate n 0:=by
 refine List.ext_getElem? fun p=> ?_;by_cases hp:p<n
 ·rw[kY E 0 0 hp,List.getElem?_replicate,if_pos hp];simp[yU]
 ·rw[lQ (by rw[kX];omega),lQ (by rw[List.length_replicate];omega)]
theorem MV(E:Nat->Nat->Bool)(i:Nat):yf n E i n=yf n E (i+1) 0:=by
 refine List.ext_getElem? fun p=> ?_;by_cases hp:p<n
 ·rw[kY E _ _ hp,kY E _ _ hp]
  congr 1
  unfold yU;rw[Y6,List.filter_append,dK,if_neg (show ¬(p<0/\E (i+1) p=true)by omega)];by_cases e:E i p=true
  ·rw[if_pos ⟨hp,e⟩];simp[e]
  ·rw[if_neg fun k=>e k.2];simp[e]
 ·rw[lQ (by rw[kX];omega),lQ (by rw[kX];omega)]
theorem MU{E:Nat->Nat->Bool}(e:E i j=false):yf n E i j=yf n E i (j+1):=by
 refine List.map_congr_left fun p _=> ?_;unfold yU
 congr 1
 by_cases k:p=j
 ·subst k;rw[if_neg (by omega),if_neg (by rw[e];simp)]
 ·by_cases k2:p<j
  ·have:p<j+1:=(by omega);simp[k2,this]
  ·have:¬p<j+1:=(by omega);simp[k2,this]
theorem QY{E:Nat->Nat->Bool}(hj:j<n)(e:E i j=true):(yf n E i j).set j (yU n E i j j+1)=yf n E i (j+1):=by
 refine List.ext_getElem? fun p=> ?_;rw[List.getElem?_set];by_cases k:j=p
 ·subst k;rw[if_pos rfl,if_pos (by rw[kX];exact hj),kY E _ _ hj]
  congr 1
  unfold yU;rw[if_neg (by omega),if_pos ⟨by omega,e⟩]
 ·rw[if_neg k];by_cases hp:p<n
  ·rw[kY E _ _ hp,kY E _ _ hp]
   congr 1
   unfold yU
   congr 1
   by_cases k2:p<j
   ·have:p<j+1:=(by omega);simp[k2,this]
   ·have:¬p<j+1:=(by omega);simp[k2,this]
  ·rw[lQ (by rw[kX];omega),lQ (by rw[kX];omega)]
theorem VG(n:Nat)(E:Nat->Nat->Bool)(i j p:Nat):yU n E i j p<=i+1:=by
 unfold yU;have:=List.length_filter_le (fun r=>E r p) (List.range i);rw[List.length_range]at this;split<;>omega
theorem QZ(n:Nat)(R:Nat->Nat->List ah):yf n (tV n R) n 0=rZ n R:=by
 refine List.map_congr_left fun p _=> ?_;unfold yU Ua;rw[if_neg (by omega)];rfl
theorem V5:(Tryz.prog.info? 3).map (fun i=>(i.zero,i.size,i.bytes))=some (some (.int .i64 0),1,8):=by kernel_rfl
theorem Nv(n:Nat):(madeCells (Value.int .i64 0).cells (n*1)).toList=fl ER (List.replicate n 0):=by
 rw[Nat.mul_one];refine(toList_madeCells_one _ n).trans ?_
 induction n with
 | zero => rfl
 | succ n ih => rw[List.replicate_succ,List.replicate_succ,aV,<-ih];rfl
theorem C8{R:Nat->Nat->List ah}(w:World)(h:Tv M w tv n R)(hM:M<=w.heap.size)(hn:n<=192)(hl:∀p q,p<n->(R p q).length<=64):Calls Tryz.prog 105 #[tv] w fun e w'=>∃v,e= .returned v/\w'.ownsRow w.heap.size 3 1 v n (fl ER (rZ n R))/\Below w.heap.size w w':=by
 have HT:Hid (∀W,Below w.heap.size w W->Tv M W tv n R):=fun W hb=>h.keep (hb.mono hM);have BU:Hid (∀W,Below w.heap.size w W->Calls Tryz.prog 11 #[tv] W fun e w'=>e= .returned (.int .i64 (n:Nat))/\w'=W):=fun W hb=>Lf.dU W (HT.o W hb);have HCO:Hid (∀(i j:Nat) (W:World),Below w.heap.size w W->Calls Tryz.prog 171 #[tv, .agg #[.int .i64 (i:Int), .int .u64 0, .int .u64 0, .int .u64 0], .agg #[.int .i64 (j:Int), .int .u64 0, .int .u64 0, .int .u64 0]] W fun e w'=>e= .returned (.bool (tV n R i j))/\Below W.heap.size W w'):=fun i j W hb=>by
  refine zN ((i:Int),PX.z) ((j:Int),PX.z) W (HT.o W hb) (nT hM hb.size) ?_;unfold bt;split
  ·rename_i k;exact hl _ _ (by simp only at k;omega)
  ·exact zL _
 clear h hM hl;obtain⟨i0,hi0,hz0,hz1,hz2⟩:=info_parts V5;go_enter Tryz.func105,Tryz.ntmps105;go_wp2_with fail;refine(BU.o w (Below.refl _ _)).mono ?_;rintro e w1 ⟨rfl,hw1⟩;have hw2:=hw1.symm;subst hw2;clear hw1;go_upto_region 2 with(at_make;refine wpList_make_full _ rfl _ _ 97 rfl w.heap.size 3 i0 (.int .i64 0) 1 Tryz.underlying97 hi0 hz0 hz1 _ _ _ _ n rfl rfl rfl rfl (by rw[hz2];omega) (by unfold maxLen;omega) (nR _) ?_;intro w2 hrow hg1);have hb2:Below w.heap.size w w2:=(Kp.grownBy (S:=fun _=>False) hg1 (fun _ h=>by cases h)).below (nR _) (fun _ h=>h.elim);obtain⟨gg,hgg⟩:=aD (w.heap.size);rw[<-hgg]at hrow⊢;have S2:Hid (w2.ownsRow gg 3 1 (.slice (some ⟨gg,0,none⟩) n n) n (fl ER (yf n (tV n R) 0 0))/\Below w.heap.size w w2):=by
  rw[MS,<-Nv];exact⟨hrow,hb2⟩
 clear hrow hg1 hi0 hz0 hz1 hz2 hb2;have HGG:=hid hgg;clear hgg;have hp2:=BU.o w2 S2.o.2;go_wp2_with fail;refine hp2.mono ?_;clear hp2;rintro e w3 ⟨rfl,hw3⟩;have hw4:=hw3.symm;subst hw4;clear hw3;go_wp2_with fail;go_loopw [11] (fun s11 wr=>∃i:Nat,i<=n/\s11= .int .i64 (i:Nat)/\Hid (wr.ownsRow gg 3 1 (.slice (some ⟨gg,0,none⟩) n n) n (fl ER (yf n (tV n R) i 0))/\Below w.heap.size w wr)) (fun s11 _=>n-(intOf s11).toNat);case atStart=>exact⟨0,zL _,rfl,S2.o⟩
 case round=>
  clear S2;obtain⟨i,hi,rfl,HI⟩:=hrel;by_cases hlt:i<n
  ·have hltz:(i:Int)<(n:Int):=(by omega);have hi1:(0:Int)<=(i:Int):=(by omega);have hp2:=BU.o wr HI.o.2;go_wp2_with fail;refine hp2.mono ?_;clear hp2;rintro e w5 ⟨rfl,ZG⟩;subst ZG;go_wp2_with fail;go_loopw [16] (fun s16 wx=>∃j:Nat,j<=n/\s16= .int .i64 (j:Nat)/\Hid (wx.ownsRow gg 3 1 (.slice (some ⟨gg,0,none⟩) n n) n (fl ER (yf n (tV n R) i j))/\Below w.heap.size w wx)) (fun s16 _=>n-(intOf s16).toNat);case atStart=>exact⟨0,zL _,rfl,HI.o⟩
   case round=>
    clear HI;obtain⟨j,hj,rfl,HJ⟩:=hrel;by_cases hjl:j<n
    ·have hjz:(j:Int)<(n:Int):=(by omega);have hj1:(0:Int)<=(j:Int):=(by omega);have hco:=HCO.o i j wr HJ.o.2;have HSK:=hid (fun e=>MU (n:=n) (E:=tV n R) (i:=i) (j:=j) e);have HST:=hid (fun e=>QY (n:=n) (E:=tV n R) (i:=i) (j:=j) hjl e);generalize tV n R i j=eb at hco HSK HST;cases eb with
     | false=>
      go_wp2_with fail;refine hco.mono ?_;clear hco;rintro e w6 ⟨rfl,hb6⟩;have H6:Hid (w6.ownsRow gg 3 1 (.slice (some ⟨gg,0,none⟩) n n) n (fl ER (yf n (tV n R) i (j+1)))/\Below w.heap.size w w6):=by
       rw[<-HSK.o (by first|rfl|trivial)];exact⟨ag HJ.o.1 hb6,HJ.o.2.trans (hb6.mono HJ.o.2.size)⟩
      clear hb6 HJ HSK HST;go_wp2_with fail;go_roundw;case rel=>exact⟨j+1,by omega,by go_num,H6.o⟩
      case measure=>simp[intOf];omega
     | true=>
      go_wp2_with fail;refine hco.mono ?_;clear hco;rintro e w6 ⟨rfl,hb6⟩;have H6:Hid (w6.ownsRow gg 3 1 (.slice (some ⟨gg,0,none⟩) n n) n (fl ER (yf n (tV n R) i j))/\Below w.heap.size w w6):=⟨ag HJ.o.1 hb6,HJ.o.2.trans (hb6.mono HJ.o.2.size)⟩;clear hb6 HJ HSK;obtain⟨x,hx⟩:=aD (yU n (tV n R) i j j);have hxb:x<=1000:=(by rw[hx];have:=VG n (tV n R) i j j;omega);have hget:=kY (tV n R) i j hjl;rw[<-hx]at hget;have hrow:w6.ownsRow gg 3 1 (.slice (some ⟨gg,0,none⟩) n n) (yf n (tV n R) i j).length (fl ER (yf n (tV n R) i j)):=(by rw[kX];exact H6.o.1);obtain⟨b',o',c',hv',hb',hc'⟩:=(aJ (E:=ER) hrow).get hget;simp only[vS,oI,aI,and_true]at hv';obtain⟨⟨rfl,rfl⟩,-,-⟩:=hv';have c0:=hc' 0 _ (by decide) rfl;rw[show ER.k=1 from rfl,Nat.mul_one,nZ,nO]at c0;have hfz:w6.frozen? ⟨gg,j,none⟩=false:=H6.o.1.frozenAt _;have H7:Hid ((w6.setCell ⟨gg,j,none⟩ (.int .i64 ((x:Int)+1))).ownsRow gg 3 1 (.slice (some ⟨gg,0,none⟩) n n) n (fl ER (yf n (tV n R) i (j+1)))/\Below w.heap.size w (w6.setCell ⟨gg,j,none⟩ (.int .i64 ((x:Int)+1)))):=by
       obtain⟨k1,k2⟩:=yY H6.o.1 j (.int .i64 ((x:Int)+1));have e:=Js ER (yf n (tV n R) i j) j 0 x (x+1) (.int .i64 ((x:Int)+1)) hget (by decide) (by simp[ER]);rw[show ER.k=1 from rfl,Nat.mul_one,nO]at e;rw[e]at k1;have e2:=HST.o (by first|rfl|trivial);rw[<-hx]at e2;rw[e2]at k1;refine⟨k1,H6.o.2.trans (k2.below H6.o.2.size fun k hk=> ?_)⟩;rw[hk,HGG.o];exact nR _
      clear hget hrow hc' H6 HST hx;go_wp2_with fail;go_roundw;case rel=>exact⟨j+1,by omega,by go_num,H7.o⟩
      case measure=>simp[intOf];omega
    ·have hjz:¬(j:Int)<(n:Int):=(by omega);obtain rfl:j=n:=(by omega);have HN:Hid (wr.ownsRow gg 3 1 (.slice (some ⟨gg,0,none⟩) j j) j (fl ER (yf j (tV j R) (i+1) 0))/\Below w.heap.size w wr):=by
      rw[<-MV];exact HJ.o
     clear HJ;go_wp2_with fail;go_roundw;case rel=>exact⟨i+1,by omega,by go_num,HN.o⟩
     case measure=>simp[intOf];omega
  ·have hltz:¬(i:Int)<(n:Int):=(by omega);obtain rfl:i=n:=(by omega);have HE:Hid (wr.ownsRow w.heap.size 3 1 (.slice (some ⟨gg,0,none⟩) i i) i (fl ER (rZ i R))/\Below w.heap.size w wr):=by
    rw[<-QZ,<-HGG.o];refine⟨HI.o.1, ?_⟩;rw[HGG.o];exact HI.o.2
   clear HI;go_wp2_with fail;go_ret;exact⟨_,rfl,HE.o.1,HE.o.2⟩
end Rc
namespace Rc
open Go.RowKit Go.Sort Go.Maps Pt Hc
attribute[local go_sem ↓]wp_at_zero wp_at_succ
theorem aB{base:Nat}{e:TypeId}{s:Nat}{xs:List Value}(h:w.ownsRow base e s v n xs):∃p c,v= .slice p n c:=by
 obtain⟨_,⟨h0,h1⟩|⟨g,cap,cur,h0,_⟩⟩:=h
 ·exact⟨none,0,by rw[h0,h1]⟩
 ·exact⟨_,_,h0⟩
theorem Pv{f:Rs.Sm->Int}{K:List Rs.Sm}{s:Rs.Sm}(h:K[i]? =some s):(K.take (i+1)).map (fun s=>((s.1.1,jV s,f s):Th))=(K.take i).map (fun s=>(s.1.1,jV s,f s))++[(s.1.1,jV s,f s)]:=by
 rw[tO,h,zV];rfl
theorem Zu:aaH:=by
 intro w tb bb n f h hn;have hmx:Tryz.prog.follows .mixedOrders=true:=by kernel_rfl
 obtain⟨k0,hk0,hkn⟩:∃k0,qj f k0/\k0.length<=n:=by
  obtain⟨D,h1,_,h3⟩:=h.ta;obtain⟨ks,hk,hl⟩:=mK h1 h3;exact⟨ks,hk,by rw[hl];exact h1.size_le⟩
 have Lj:Hid (∀ks,qj f ks->ks.length=k0.length):=fun ks hs=>(hs.perm hk0).length_eq;have HL:=hid h;have HKY:=hid (Rs.wV w h (by omega));clear h hk0;go_enter Tryz.func84,Tryz.ntmps84;go_wp2_with fail;refine HKY.o.mono ?_;rintro e w3 ⟨v3,ks,hS,rfl,ho3,hv3,hb3⟩;clear HKY;obtain⟨p3,c3,rfl⟩:=aB ho3;obtain⟨K,hK⟩:=aD (Rs.iJ ks);have hKl:K.length=k0.length:=by rw[hK,dB];exact Lj.o ks hS
 rw[<-hK]at ho3⊢;have hk5:K.length<=n:=by omega
 clear hKl;have HK:=hid hK;have HS:=hid hS;have HO:=hid (aJ (E:=Rs.ES) ho3);have HB3:=hid hb3;have HW:=hid (ho3.lt);clear hK hS ho3 hv3 hb3;go_wp2_with fail;go_loopw [3,5,9] (fun s3 _ s20 wr=>∃(i:Nat) (p:Option Addr) (c:Nat),i<=K.length/\s20= .int .i64 (i:Nat)/\s3= .slice p i c/\Hid (∀g,(Value.slice p i c).ownBlock=some g->w3.heap.size<=g)/\Hid (wr.ownsRow w.heap.size 49 5 (.slice p i c) i (fl EC ((K.take i).map fun s=>(s.1.1,jV s,f s))))/\Hid (Below w.heap.size w wr)/\Hid (Ls Rs.ES wr (.slice p3 K.length c3) K)/\w3.heap.size<=wr.heap.size) (fun _ _ s20 _=>K.length-(intOf s20).toNat);case atStart=>exact⟨0,none,0,zL _,rfl,rfl,fun g hg=>by simp[Value.ownBlock]at hg,oN _ _ _ _,HB3.o,HO.o,nR _⟩
 case round=>
  clear HO;obtain⟨i,p,c,hi5,rfl,rfl,HV,HR,HB,HO,hw3⟩:=hrel;by_cases hlt:i<K.length
  ·have hltz:(i:Int)<(K.length:Int):=(by omega);have hi0:(0:Int)<=(i:Int):=(by omega);obtain⟨s,hs⟩:∃s,K[i]? =some s:=⟨K[i],by simp⟩;obtain⟨b1,o1,c1,e1,z1,x0,x1,x2,x3⟩:=Rs.Ls.atS HO.o hs;simp only[vS]at e1;obtain⟨e1,-,-⟩:=e1;subst e1;go_upto_region 5 with fail;obtain⟨B5,hB5⟩:=aD (wr.heap.size);obtain⟨W5,bV⟩:=aD (wr.alloc (.cells #[.int .i64 s.1.1, .int .u64 s.1.2.1, .int .u64 s.1.2.2.1, .int .u64 s.1.2.2.2] 47));rw[<-hB5];have G5:Gr wr W5:=(by rw[bV];exact(Gr.refl _).alloc _);have L5:=(HL.o.below HB.o).gr (G5.trans (Gr.refl _).drew);have z5:B5<W5.drew.heap.size:=(by rw[bV,hB5];show _<(Rs.Tt.bx s wr).heap.size;simp);have hS0:(fun W=>W.cell? ⟨B5,0,none⟩=some (.int .i64 s.1.1)/\W.cell? ⟨B5,1,none⟩=some (.int .u64 s.1.2.1)/\W.cell? ⟨B5,2,none⟩=some (.int .u64 s.1.2.2.1)/\W.cell? ⟨B5,3,none⟩=some (.int .u64 s.1.2.2.2)) W5.drew:=by
    rw[bV,hB5];exact Rs.Tt.bU s wr
   have hsum:=Rs.Tt.Bw s W5.drew L5;have K3:=hid (hS0);have HRW:=hid (ag HR.o (G5.trans (Gr.refl _).drew).below);have jd:=hid (HB.o.trans ((G5.trans (Gr.refl W5).drew).below.mono HB.o.size));have HOW:=hid (HO.o.below (G5.trans (Gr.refl W5).drew).below);have vC:=hid hs;have hgb:Hid (∀g,(Value.slice p i c).ownBlock=some g->w.heap.size<=g/\g<B5):=fun g hg=>(by rw[hB5];exact HR.o.lt g hg);have ZH:w3.heap.size<=W5.drew.heap.size:=nT hw3 (G5.trans (Gr.refl W5).drew).size;have KEEP:Hid (∀W:World,Below W5.drew.heap.size W5.drew W->(fun W=>W.cell? ⟨B5,0,none⟩=some (.int .i64 s.1.1)/\W.cell? ⟨B5,1,none⟩=some (.int .u64 s.1.2.1)/\W.cell? ⟨B5,2,none⟩=some (.int .u64 s.1.2.2.1)/\W.cell? ⟨B5,3,none⟩=some (.int .u64 s.1.2.2.2)) W):=fun W hb=>⟨(hb.cell (p:=⟨B5,0,none⟩) z5).trans K3.o.1,(hb.cell (p:=⟨B5,1,none⟩) z5).trans K3.o.2.1,(hb.cell (p:=⟨B5,2,none⟩) z5).trans K3.o.2.2.1,(hb.cell (p:=⟨B5,3,none⟩) z5).trans K3.o.2.2.2⟩;rw[show(wr.alloc (.cells #[.int .i64 s.1.1, .int .u64 s.1.2.1, .int .u64 s.1.2.2.1, .int .u64 s.1.2.2.2] 47))=W5 from bV.symm];clear hs x0 x1 x2 x3 z1 L5 G5 HR HB HO bV hB5;refine ay (S:=fun W=>W.cell? ⟨B5,0,none⟩=some (.int .i64 s.1.1)/\W.cell? ⟨B5,1,none⟩=some (.int .u64 s.1.2.1)/\W.cell? ⟨B5,2,none⟩=some (.int .u64 s.1.2.2.1)/\W.cell? ⟨B5,3,none⟩=some (.int .u64 s.1.2.2.2)) (D:=[]) hmx ?_;refine' av 0 hS0 ?_;refine' av 1 hS0 ?_;refine' av 2 hS0 ?_;refine' av 3 hS0 ?_;refine bN 4 fun K hK=> ?_;go_simp;refine hsum.mono ?_;rintro e w6 ⟨rfl,g6⟩;have oW:=KEEP.o w6 g6.below;have UQ:=hid (ag HRW.o g6.below);have G6:=hid g6;clear g6;go_wp2_with fail;refine hK.o _ _ (fun hD=>oW) ?_;clear hK K;try simp only[Act.put,qI,q0,qS]
   refine' av 5 oW ?_;refine bN 6 fun K hK=> ?_;go_simp;have bf:(fun W=>W.cell? ⟨B5,0,none⟩=some (.int .i64 s.1.1)/\W.cell? ⟨B5,1,none⟩=some (.int .u64 s.1.2.1)/\W.cell? ⟨B5,2,none⟩=some (.int .u64 s.1.2.2.1)/\W.cell? ⟨B5,3,none⟩=some (.int .u64 s.1.2.2.2)) (w6.alloc (.cells #[.int .i64 s.1.1, .int .u64 s.1.2.1, .int .u64 s.1.2.2.1, .int .u64 s.1.2.2.2, .int .i64 (f s)] 49)):=KEEP.o _ (G6.o.alloc _).below;refine hK.o _ _ (fun hD=>bf) ?_;clear hK K;try simp only[Act.put,qI,q0,qS]
   refine bN 7 fun K hK=> ?_;refine bQ EC Tryz.underlying26 Rs.wX rfl (by decide) rfl _ _ rfl w.heap.size (.slice p i c) i _ rfl UQ.o (s.1.1,jV s,f s) (by first|rfl|simp) (by omega) (by unfold maxLen;omega) (nT jd.o.size G6.o.size) _ rfl _ ?_;intro g8 bC w8 HO8 HG8 HB8;have K8:=hid (Kp.grownBy (S:=fun k=>(Value.slice p i c).ownBlock=some k) HG8.o (fun _ h=>h));have iP:(fun W=>W.cell? ⟨B5,0,none⟩=some (.int .i64 s.1.1)/\W.cell? ⟨B5,1,none⟩=some (.int .u64 s.1.2.1)/\W.cell? ⟨B5,2,none⟩=some (.int .u64 s.1.2.2.1)/\W.cell? ⟨B5,3,none⟩=some (.int .u64 s.1.2.2.2)) w8:=by
    have zz:∀k,k<W5.drew.heap.size->k<w6.heap.size:=fun k h=>nL h G6.o.size;have c2:∀o,w8.cell? ⟨B5,o,none⟩=w6.cell? ⟨B5,o,none⟩:=fun o=>K8.o.cell (zz _ z5) (fun e=>by have:=hgb.o _ e;omega);exact⟨(c2 0).trans oW.1,(c2 1).trans oW.2.1,(c2 2).trans oW.2.2.1,(c2 3).trans oW.2.2.2⟩
   refine hK.o _ _ (fun hD=>iP) ?_;clear hK K;try simp only[Act.put,qI,q0,qS]
   refine' av 8 iP ?_;refine ak (by kernel_rfl) ?_ _;have z68:=K8.o.size;have HE1:Hid (w8.ownsRow w.heap.size 49 5 (.slice (some ⟨g8,0,none⟩) (i+1) bC) (i+1) (fl EC ((K.take (i+1)).map fun s=>(s.1.1,jV s,f s)))):=by
    rw[Pv vC.o,aT,dx];exact HO8.o
   have HE2:Hid (∀g,(Value.slice (some ⟨g8,0,none⟩) (i+1) bC).ownBlock=some g->w3.heap.size<=g):=fun g hg=>by
    have e:g=g8:=(by simpa[Value.ownBlock]using hg.symm);subst e;rcases HB8.o with h|h
    ·exact HV.o g h
    ·exact nT ZH (nT G6.o.size h)
   have HE3:Hid (Below w.heap.size w w8):=(jd.o.trans (G6.o.below.mono jd.o.size)).trans (K8.o.below (nT jd.o.size G6.o.size) (fun k hk=>(hgb.o k hk).1));have HE4:Hid (Ls Rs.ES w8 (.slice (some ⟨b1,o1,none⟩) K.length c3) K):=K8.o.ls (HOW.o.below G6.o.below) (fun k hk e=>by have h1:=(HW.o k hk).2;have h2:=HV.o k e;omega);have HE5:Hid (w3.heap.size<=w8.heap.size):=nT ZH (nT G6.o.size z68);clear HO8 HG8 HB8 K8 hS0 oW bf iP UQ HRW jd HOW KEEP K3;go_wp2_with fail;go_roundw;case rel=>exact⟨i+1,_,_,by omega,by go_num,rfl,HE2.o,HE1.o,HE3.o,HE4.o,HE5.o⟩
   case measure=>simp[intOf];omega
  ·have hltz:¬(i:Int)<(K.length:Int):=(by omega);have hie:i=K.length:=(by omega);subst hie;have HR':Hid (wr.ownsRow w.heap.size 49 5 (.slice p K.length c) (Pw f ks).length (fl EC (Pw f ks))):=by
    have h:=HR.o;rw[tK]at h;have e1:(Pw f ks).length=K.length:=(by unfold Pw;rw[fQ,<-HK.o]);rw[e1];unfold Pw;rw[<-HK.o];exact h
   go_wp2;go_ret;exact⟨.slice p K.length c,ks,HS.o,rfl,HR'.o,HB.o⟩
theorem gy(n:Int)(w:World):Calls Tryz.prog 135 #[.int .i64 n] w fun e w'=>e= .returned (.bool (Rs.Tt.dR n))/\w'=w:=by
 unfold Rs.Tt.dR;go_enter Tryz.func135,Tryz.ntmps135;go_wp2;all_goals go_ret
 all_goals refine⟨?_,rfl⟩
 all_goals simp_all
theorem dU(w:World)(h:w.heap[rb]? =some (.cells #[.int .i64 ar,sv,rv,ov,cv,uv] 102 (0,0)))(ho:Ls EA w ov os):Calls Tryz.prog 42 #[.pointer (some ⟨rb,0,none⟩)] w fun e w'=>e= .returned (.int .i64 os.length)/\w'=w:=by
 obtain⟨po,co,rfl⟩:=ho.form;have c3:w.cell? ⟨rb,3,none⟩=some (.slice po os.length co):=((aa h).1 3).trans rfl;have l3:=ae h;clear h ho;go_enter Tryz.func42,Tryz.ntmps42;go_wp2;go_ret;exact⟨rfl,rfl⟩
theorem ve(p:Int)(w:World)(h:w.heap[rb]? =some (.cells #[.int .i64 ar,sv,rv,ov,cv,uv] 102 (0,0)))(ho:Ls EA w ov os):Calls Tryz.prog 40 #[.pointer (some ⟨rb,0,none⟩), .int .i64 p] w fun e w'=>e= .returned (.bool (decide (0<=p)&&decide (p<os.length)))/\w'=w:=by
 have H:=hid (fun W (e:W=w)=>(by rw[e];exact dU w h ho:Calls Tryz.prog 42 #[.pointer (some ⟨rb,0,none⟩)] W fun e w'=>e= .returned (.int .i64 os.length)/\w'=W));clear h ho;by_cases hp:0<=p
 ·go_enter Tryz.func40,Tryz.ntmps40;go_wp2_with fail;refine(H.o _ rfl).mono ?_;rintro e w1 ⟨rfl,rfl⟩;go_wp2;go_ret;exact⟨by simp[hp],rfl⟩
 ·go_enter Tryz.func40,Tryz.ntmps40;go_wp2_with fail;go_ret;exact⟨by simp;omega,rfl⟩
def Kr(ms:List Nat)(F:Nat->List ah)(p:Int):List ah:=if 0<=p/\p<ms.length then F p.toNat else[]
theorem sK{L:Nat->List (Nat×ah)}{rs ms:List Nat}{C:Nat->ah->Int}{F:Nat->List ah}{nc:Nat->Nat}(p:Int)(w:World)(hR:Rd w tag rb ar sv rv ov cv uv N L rs ms)(ho:Ls EA w ov os)(hl:os.length=ms.length)(hM:∀q mb,ms[q]? =some mb->Ml w tag (3+q) mb (nc q) (C q) (F q))(hF:∀q,q<ms.length->(F q).length*24<=140737488355328):
    Calls Tryz.prog 12 #[.pointer (some ⟨rb,0,none⟩), .int .i64 p] w fun e w'=>∃v,e= .returned v/\w'.ownsRow w.heap.size 45 3 v (Kr ms F p).length (eG (Kr ms F p))/\Below w.heap.size w w':=by
 have H:=hid (ve p w hR.blk ho);rw[hl]at H;have HR:=hid hR;have HM:=hid hM;have HF:=hid hF;clear hR hM hF ho hl;by_cases hp:0<=p/\p<ms.length
 ·have e1:Kr ms F p=F p.toNat:=if_pos hp;rw[e1];have e2:(decide (0<=p)&&decide (p<(ms.length:Int)))=true:=by simp[hp.1,hp.2]
  rw[e2]at H;clear e1 e2;obtain⟨q,rfl⟩:∃q:Nat,p=q:=⟨p.toNat,by omega⟩;rw[tN];have hq:q<ms.length:=by omega
  obtain⟨mb,hmb⟩:∃mb,ms[q]? =some mb:=⟨ms[q],by rw[qw]⟩;obtain⟨bi,oi,ci,hcv,-,-⟩:=HR.o.come hmb;obtain⟨c0,c1,c2,c3⟩:=HR.o.come' hmb hcv;obtain⟨tb,b,cb,v,hmu,-⟩:=HM.o q mb hmb;have BV:=hid (Go.Proofs.YteekbpokkjjipaaGreat.sK w hmu (HF.o q hq));have hqz:(0:Int)<=(q:Int):=by omega
  have hqN:(q:Int)<(ms.length:Int):=by omega
  clear hmu hp hcv HM HF HR;go_enter Tryz.func12,Tryz.ntmps12;go_wp2_with fail;refine H.o.mono ?_;rintro e w1 ⟨rfl,hw1⟩;subst hw1;go_wp2_with fail;refine BV.o.mono ?_;rintro e w2 ⟨v2,rfl,h1,h2⟩;go_wp2;go_ret;exact⟨v2,rfl,h1,h2⟩
 ·have e1:Kr ms F p=[]:=if_neg hp;rw[e1];have e2:(decide (0<=p)&&decide (p<(ms.length:Int)))=false:=by
   by_cases k:0<=p
   ·have k2:¬p<(ms.length:Int):=fun h=>hp ⟨k,h⟩;simp[k2]
   ·simp[k]
  rw[e2]at H;clear e1 e2 hp HM HF HR;go_enter Tryz.func12,Tryz.ntmps12;go_wp2_with fail;refine H.o.mono ?_;rintro e w1 ⟨rfl,hw1⟩;subst hw1;go_wp2;go_ret;exact⟨_,rfl,oN _ _ _ _,Below.refl _ _⟩
end Rc
namespace Rc
open Go.RowKit Go.Sort Go.Maps Pt Hc
def prt(l:List Th)(p:Nat):List (ah×Int):=(l.filter fun x=>decide (x.1=(p:Int))).map fun x=>(x.2.1,x.2.2)
theorem IW(l m:List Th)(p:Nat):prt (l++m) p=prt l p++prt m p:=by simp[prt]
theorem AO(x:Th)(p:Nat):prt [x] p=if x.1=(p:Int)then[(x.2.1,x.2.2)]else[]:=by
 unfold prt;by_cases h:x.1=(p:Int)
 ·simp[h]
 ·simp[h]
theorem Dc(l:List Th)(x:Th)(p k:Nat)(h:x.1=(p:Int)):prt (l++[x]) k=if k=p then prt l p++[(x.2.1,x.2.2)]else prt l k:=by
 rw[IW,AO];by_cases e:k=p
 ·subst e;rw[if_pos h,if_pos rfl]
 ·rw[if_neg e,if_neg (by rw[h];omega),EN]
theorem qP(l:List Th)(p:Nat):(prt l p).length<=l.length:=by
 unfold prt;rw[fQ];exact List.length_filter_le _ _
theorem uV{l:List Th}{d:ah×Int}:d∈prt l p↔((p:Int),d.1,d.2)∈l:=by
 unfold prt;rw[mM];constructor
 ·rintro⟨x,hx,rfl⟩;rw[mF]at hx;have e:x.1=(p:Int):=by simpa using hx.2
  have:x=((p:Int),x.2.1,x.2.2):=Prod.ext e rfl;rw[<-this];exact hx.1
 ·exact fun h=>⟨_,mF.2 ⟨h,by simp⟩,rfl⟩
theorem RS(f:ah->Int)(P:List ah)(h:∀t,0<f t->t∈P):∃fr,fJ f fr:=by
 have hP:∀t,t∈P.filter (fun t=>decide (0<f t))↔0<f t:=fun t=>by
  rw[mF,dE];exact⟨fun k=>k.2,fun k=>⟨h t k,k⟩⟩
 refine⟨bu au dH [] (P.filter fun t=>decide (0<f t)),oF oQ xw _,fun x hx=> ?_,fun y hy=> ?_⟩
 ·exact(hP x).1 ((Ke oQ).1 hx).1
 ·exact nE oQ [] ((hP y).2 hy)
theorem Mt{ds:List Dl}{t:Tm}(h:∀d∈ds,d.1≠t):Go.Proofs.YteekbpokkjjipaaGreat.sm ds t=0:=by
 unfold Go.Proofs.YteekbpokkjjipaaGreat.sm;have key:∀(ds:List Dl) (g:Tm->Int),(∀d∈ds,d.1≠t)->ds.foldl (fun g d=>upd g d.1 (wrap64 (g d.1+d.2))) g t=g t:=fun ds=>by
  induction ds with
  | nil => exact fun _ _=>rfl
  | cons d ds ih=>
   intro g hd;rw[List.foldl_cons,ih _ fun e he=>hd e (mO _ he),bZ _ _ (fun e=>hd d mX e.symm)]
 exact key ds _ h
theorem zg{f:Tm->Int}{ds:List Dl}{K:List Tm}(hK:∀t,f t≠0->t∈K)(t:Tm)(h:bP f ds t≠0):t∈K++ds.map Prod.fst:=by
 by_cases k:t∈ds.map Prod.fst
 ·exact List.mem_append_right _ k
 ·refine List.mem_append_left _ (hK t fun e=>h ?_);unfold bP;rw[Mt fun d hd e2=>k (mM.2 ⟨d,hd,e2⟩),e];unfold wrap64;omega
theorem zh{f:Tm->Int}(hf:∀t,-2147483647<=f t/\f t<=2147483647):bP f []=f:=by
 funext t
 have:=hf t;unfold bP Go.Proofs.YteekbpokkjjipaaGreat.sm wrap64;simp only[List.foldl_nil];omega
theorem XV{f:Tm->Int}{ds:List Dl}{t:Tm}(hf:∀t,-2147483647<=f t/\f t<=2147483647)(hb:Tt.dR (bP f ds t)=true):bad f ds=true:=by
 by_cases h:t∈ds.map Prod.fst
 ·obtain⟨d,hd,rfl⟩:=mM.1 h;unfold bad;rw[Bool.or_eq_true];exact Or.inr (List.any_eq_true.2 ⟨d,hd,hb⟩)
 ·have e:bP f ds t=f t:=by
    have:=hf t;unfold bP;rw[Mt fun d hd e2=>h (mM.2 ⟨d,hd,e2⟩)];unfold wrap64;omega
  rw[e,Tt.dG.2 (hf t)]at hb;cases hb
theorem Ru{f:Tm->Int}{ds:List Dl}(hf:∀t,-2147483647<=f t/\f t<=2147483647)(hb:bad f ds=false)(t:Tm): -2147483647<=bP f ds t/\bP f ds t<=2147483647:=by
 refine Tt.dG.1 (Bool.eq_false_iff.2 fun k=> ?_);rw[XV hf k]at hb;cases hb
theorem Ph(a:List Tm):mh a a=[]:=by
 have e:yg a a=[]:=by
  unfold yg;rw[List.filter_eq_nil_iff];intro t ht;simp[ht]
 have e2:jE (yg a a++yg a a)=[]:=by
  rw[e];exact List.eq_nil_iff_forall_not_mem.2 fun x hx=>by
   have:=(show x∈jE ([]++[])↔x∈([]:List Tm)++[]from jh).1 hx;simp at this
 unfold mh;rw[e2];rfl
theorem Ml.XX{f:Tm->Int}{fr:List Tm}(h:Ml w tag j mb n f fr)(ds:List Dl)(u:Value)(hu:Ls ED w u ds)(hb:bad f ds=false)(hn:n+2*ds.length+1<=2199023255552){fr':List Tm}(hf:fJ (bP f ds) fr'):
    Calls Tryz.prog 80 #[.pointer (some ⟨mb,0,none⟩),u] w fun e w'=>∃(vo:Value),e= .returned (.tuple #[vo, .int .i64 0])/\Hid (Ml w' (tg tag w j) j mb (n+2*ds.length) (bP f ds) fr'/\w'.ownsRow w.heap.size 163 4 vo (mh fr fr').length (fl ED (mh fr fr'))/\Kp (fun k=>tag k=j) w w'):=by
 obtain⟨tb,b,cb,v,h1,h2,t1,t2,t3,t4,t5⟩:=h;refine(zR ds u w h1 h2 hu hn).mono ?_;rintro e w' (⟨k,_⟩|⟨_,vo,v',fr2,k1,rfl,k2,k3,k4,k5,_⟩)
 ·rw[hb]at k;cases k
 ·obtain rfl:=k1.same hf;obtain⟨l1,l2,l3,l4,l5⟩:=Gj h1;refine⟨vo,rfl,⟨tb,b,cb,v',k3,k1,by rw[aj l1,t1],by rw[aj l2,t2],by rw[aj l3,t3],by rw[aj l4,t4],fun k hk=> ?_⟩,k2,k4.mono fun k hk=> ?_⟩
  ·rcases k5 k hk with e|e
   ·rw[aj (l5 k e),t5 k e]
   ·exact aR e
  ·rcases hk with rfl|rfl|hk
   ·exact t3
   ·exact t4
   ·exact t5 k hk
def za(O On:Nat->List ah)(p:Nat):List (ah×Int):=mh (O p) (On p)
theorem vI(D:Nat->List (ah×Int))(i:Nat):nQ D (List.range (i+1))=nQ D (List.range i)++(D i).map fun d=>(i,d.1,d.2):=by rw[Y6,pM,Qz]
theorem U8{Oo On:Nat->List ah}{D:Nat->List (ah×Int)}(hD:∀p,p<N->yn (Oo p) (On p) (D p))(hi:i<=N){T:Nat}(h1:sN (fun q=>(Oo q).length) (List.range N)<=T)(h2:sN (fun q=>(On q).length) (List.range N)<=T):(nQ D (List.range i)).length<=2*T:=by
 have hle:(nQ D (List.range i)).length<=(nQ D (List.range N)).length:=by
  obtain⟨k,rfl⟩:∃k,N=i+k:=⟨N-i,by omega⟩;rw[List.range_add,pM,dK];omega
 have:=Iw (List.range N) fun p hp=>hD p (mR.1 hp);rw[mH]at this;omega
theorem Ml.retag{f:Tm->Int}{fr:List Tm}(h:Ml w tag j mb n f fr)(ht:∀k,tag k=j->tag' k=j'):Ml w tag' j' mb n f fr:=by
 obtain⟨tb,b,cb,v,h1,h2,t1,t2,t3,t4,t5⟩:=h;exact⟨tb,b,cb,v,h1,h2,ht _ t1,ht _ t2,ht _ t3,ht _ t4,fun k hk=>ht k (t5 k hk)⟩
theorem Hm.retag{hb np:Nat}{ff:Value}{f:Th->Int}{Q:List It}(h:Hm w tag hb ff f Q np)(ht:∀k,tag k=1->tag' k=1):Hm w tag' hb ff f Q np:=by
 obtain⟨v,h1,h2,h3⟩:=h;exact⟨v,h1,ht _ h2,fun k hk=>ht k (h3 k hk)⟩
theorem Lm.retag{E:El α}{l:List α}(h:Lm E w tag j v l)(ht:∀k,tag k=j->tag' k=j'):Lm E w tag' j' v l:=⟨h.1,fun k hk=>ht k (h.2 k hk)⟩
def KU{α:Type}(E:El α)(w:World)(tag:Nat->Nat)(j:Nat)(v:Value)(N:Nat)(L:Nat->List α):Prop:=∃us:List Sv,Lm EV w tag j v us/\us.length=N/\∀p x,us[p]? =some x->Lm E w tag j (Zf x) (L p)
section
variable {α:Type} {E:El α} {w w':World} {tag tag':Nat->Nat} {j j' N:Nat} {v:Value} {L:Nat->List α} {S:Nat->Prop}
theorem KU.keep(h:KU E w tag j v N L)(hK:Kp S w w')(hS:∀k,k<w.heap.size->S k->tag k≠j)(hT:∀k,k<w.heap.size->tag' k=tag k):KU E w' tag' j v N L:=by
 obtain⟨us,h1,h2,h3⟩:=h;exact⟨us,h1.keep hK hS hT,h2,fun p x hx=>(h3 p x hx).keep hK hS hT⟩
theorem KU.retag(h:KU E w tag j v N L)(ht:∀k,tag k=j->tag' k=j'):KU E w tag' j' v N L:=by
 obtain⟨us,h1,h2,h3⟩:=h;exact⟨us,h1.retag ht,h2,fun p x hx=>(h3 p x hx).retag ht⟩
theorem KU.at(h:KU E w tag j v N L)(hp:p<N):∃(bi oi ci:Nat) (px:Option Addr) (cx:Nat),v= .slice (some ⟨bi,oi,none⟩) N ci/\Lm E w tag j (.slice px (L p).length cx) (L p)/\w.cell? ⟨bi,oi+p,none⟩=some (.slice px (L p).length cx)/\bi<w.heap.size:=by
 obtain⟨us,u1,u2,u3⟩:=h;obtain⟨x,hx⟩:∃x,us[p]? =some x:=⟨us[p]'(by omega),by rw[qw]⟩;obtain⟨bi,oi,ci,h1,h2,h3⟩:=Zq u1.1 hx;have h4:=u3 p x hx;obtain⟨px,cx,h6⟩:=h4.1.form;rw[h6]at h4 h3;rw[u2]at h1;exact⟨bi,oi,ci,px,cx,h1,h4,h3,h2⟩
end
structure Rw(w:World)(t:Nat->Nat)(rb:Nat)(ar:Int)(sv rv ov cv uv:Value)(N:Nat)(L:Nat->List (Nat×ah))(rs os ms:List Nat)(U:List Th):Prop where
 blk:w.heap[rb]? =some (.cells #[.int .i64 ar,sv,rv,ov,cv,uv] 102 (0,0))
 tb:t rb=2
 st:KU EP w t 0 sv N L
 rk:Lm ER w t 0 rv rs
 ow:Lm EA w t 0 ov os
 cm:Lm EA w t 0 cv ms
 ut:Lm EC w t 0 uv U
 ol:os.length=N
 ml:ms.length=N
 rl:rs.length=N
section
variable {w w':World} {t t':Nat->Nat} {rb N:Nat} {ar:Int} {sv rv ov cv uv:Value} {L:Nat->List (Nat×ah)} {rs os ms:List Nat} {U:List Th} {S:Nat->Prop}
theorem Rw.keep(h:Rw w t rb ar sv rv ov cv uv N L rs os ms U)(hK:Kp S w w')(hS:∀k,k<w.heap.size->S k->t k≠0/\t k≠2)(hT:∀k,k<w.heap.size->t' k=t k):Rw w' t' rb ar sv rv ov cv uv N L rs os ms U:=
 have h0:∀k,k<w.heap.size->S k->t k≠0:=fun k hk e=>(hS k hk e).1
 ⟨(hK.block rb (ae h.blk) fun e=>(hS rb (ae h.blk) e).2 h.tb).trans h.blk,by rw[hT rb (ae h.blk)];exact h.tb,h.st.keep hK h0 hT,h.rk.keep hK h0 hT,h.ow.keep hK h0 hT,h.cm.keep hK h0 hT,h.ut.keep hK h0 hT,h.ol,h.ml,h.rl⟩
theorem Rw.retag(h:Rw w t rb ar sv rv ov cv uv N L rs os ms U)(h0:∀k,t k=0->t' k=0)(h2:∀k,t k=2->t' k=2):Rw w t' rb ar sv rv ov cv uv N L rs os ms U:=
 ⟨h.blk,h2 _ h.tb,h.st.retag h0,h.rk.retag h0,h.ow.retag h0,h.cm.retag h0,h.ut.retag h0,h.ol,h.ml,h.rl⟩
theorem Rw.rd(h:Rw w t rb ar sv rv ov cv uv N L rs os ms U)(h0:∀k,t k=0->t' k=0)(h2:∀k,t k=2->t' k=0):Rd w t' rb ar sv rv ov cv uv N L rs ms:=by
 obtain⟨us,u1,u2,u3⟩:=h.st;exact⟨h.blk,⟨us,u1.1,u2,fun p x hx=>⟨(u3 p x hx).1,fun k hk=>h0 k ((u3 p x hx).2 k hk)⟩⟩,h.rk.1,h.cm.1,h2 _ h.tb,fun k hk=>h0 k (u1.2 k hk),fun k hk=>h0 k (h.rk.2 k hk),fun k hk=>h0 k (h.cm.2 k hk)⟩
theorem Rw.turn(h:Rw w t rb ar sv rv ov cv uv N L rs os ms U){vl:Value}{V:List Th}(hv:Lm EC w t 0 vl V):Rw (w.setCell ⟨rb,5,none⟩ vl) t rb ar sv rv ov cv vl N L rs os ms V/\Kp (fun k=>k=rb) w (w.setCell ⟨rb,5,none⟩ vl):=by
 obtain⟨b1,k1⟩:=Df.bE h.blk 5 vl;have h0:∀k,k<w.heap.size->k=rb->t k≠0:=fun k _ e=>by rw[e,h.tb];decide
 refine⟨⟨b1,h.tb,h.st.keep k1 h0 (fun _ _=>rfl),h.rk.keep k1 h0 (fun _ _=>rfl),h.ow.keep k1 h0 (fun _ _=>rfl),h.cm.keep k1 h0 (fun _ _=>rfl),hv.keep k1 h0 (fun _ _=>rfl),h.ol,h.ml,h.rl⟩,k1⟩
end
structure Rq(w:World)(t:Nat->Nat)(rb:Nat)(ar:Int)(N:Nat)(L:Nat->List (Nat×ah))(rs:List Nat)(c:Nat->ah->Int)(K O:Nat->List ah)(C:Nat->ah->Int)(F:Nat->List ah)(U:List Th):Prop where
 ex:∃sv rv ov cv uv os ms,Rw w t rb ar sv rv ov cv uv N L rs os ms U/\(∀p mb,os[p]? =some mb->Ml w t (3+N+p) mb (K p).length (c p) (O p))/\∀p mb,ms[p]? =some mb->∃n,Ml w t (3+p) mb n (C p) (F p)
section
variable {w w':World} {t t':Nat->Nat} {rb N:Nat} {ar:Int} {L:Nat->List (Nat×ah)} {rs:List Nat} {c:Nat->ah->Int} {K O:Nat->List ah} {C:Nat->ah->Int} {F:Nat->List ah} {U:List Th} {S:Nat->Prop}
theorem Rq.keep(h:Rq w t rb ar N L rs c K O C F U)(hK:Kp S w w')(hS:∀k,k<w.heap.size->S k->t k≠0/\¬(2<=t k/\t k<3+2*N))(hT:∀k,k<w.heap.size->t' k=t k):Rq w' t' rb ar N L rs c K O C F U:=by
 obtain⟨sv,rv,ov,cv,uv,os,ms,h1,h2,h3⟩:=h;refine⟨sv,rv,ov,cv,uv,os,ms,h1.keep hK (fun k hk e=>⟨(hS k hk e).1,fun e2=>(hS k hk e).2 ⟨by omega,by omega⟩⟩) hT,fun p mb hp=>(h2 p mb hp).keep hK (fun k hk e e2=>(hS k hk e).2 ⟨by omega, ?_⟩) hT,fun p mb hp=> ?_⟩
 ·have:=(lG.1 hp).1;have:=h1.ol;omega
 ·obtain⟨n,h4⟩:=h3 p mb hp;have:=(lG.1 hp).1;have:=h1.ml;exact⟨n,h4.keep hK (fun k hk e e2=>(hS k hk e).2 ⟨by omega,by omega⟩) hT⟩
theorem Rq.retag(h:Rq w t rb ar N L rs c K O C F U)(ht:∀k,t k=0\/(2<=t k/\t k<3+2*N)->t' k=t k):Rq w t' rb ar N L rs c K O C F U:=by
 obtain⟨sv,rv,ov,cv,uv,os,ms,h1,h2,h3⟩:=h;refine⟨sv,rv,ov,cv,uv,os,ms,h1.retag (fun k e=>by rw[ht k (.inl e),e]) (fun k e=>by rw[ht k (.inr ⟨by omega,by omega⟩),e]),fun p mb hp=>(h2 p mb hp).retag fun k e=> ?_,fun p mb hp=> ?_⟩
 ·have:=(lG.1 hp).1;have:=h1.ol;rw[ht k (.inr ⟨by omega,by omega⟩),e]
 ·obtain⟨n,h4⟩:=h3 p mb hp;have:=(lG.1 hp).1;have:=h1.ml;exact⟨n,h4.retag fun k e=>by rw[ht k (.inr ⟨by omega,by omega⟩),e]⟩
end
end Rc
namespace Rc
open Go.RowKit Go.Sort Go.Maps Pt
open Lf (Tv Fw EF mE uS uC)
open Df (bD gQ Gm aO LV EL xx)
attribute[local go_sem ↓]wp_at_zero wp_at_succ
theorem DZ{l:List (Int×ah)}(h:∀x∈l,0<=x.1):fl EP (l.map fun x=>(x.1.toNat,x.2))=fl EF l:=by
 induction l with
 | nil => rfl
 | cons x l ih=>
  rw[List.map_cons,aV,aV,ih fun y hy=>h y (mO _ hy)]
  congr 1
  have:=h x mX;show[_,_,_,_]=[_,_,_,_];rw[show((x.1.toNat:Nat):Int)=x.1 by omega]
theorem JS{vs:List LV}{g:bD}(hok:gQ g)(h:Fw EF 167 165 B w sv vs (mE (uS g)))(hn:vs.length=n)(ht:∀k,B<=k->k<w.heap.size->tag k=j):KU EP w tag j sv n (sH g):=by
 have e:fl EV (vs.map fun x=>(x.q,x.m,x.c))=fl EL vs:=by
  clear h hn
  induction vs with
  | nil => rfl
  | cons x l ih => rw[List.map_cons,aV,aV,ih];rfl
 have hr:=h.row;rw[hn,<-e]at hr;refine⟨vs.map fun x=>(x.q,x.m,x.c),⟨aJ (E:=EV) (e:=165) (base:=B) (by rw[fQ,hn];exact hr),fun k hk=>ht k (iX hr hk) (hr.lt k hk).2⟩,by rw[fQ,hn],fun p x hx=> ?_⟩;rw[gM]at hx;cases e2:vs[p]? with
 | none => rw[e2]at hx;cases hx
 | some y=>
  rw[e2]at hx;cases hx;have h2:=h.each p y e2;have hpos:∀x∈mE (uS g) p,0<=x.1:=fun x hx=>by
   obtain⟨c,hc,_,rfl⟩:=Lf.kW.1 hx;obtain⟨_,q,_,hq⟩:=Lf.Al hok (Lf.kT.1 hc);show 0<=c.o;omega
  rw[<-DZ hpos]at h2;refine⟨aJ (E:=EP) (e:=167) (base:=B) ?_,fun k hk=>ht k (iX h2 hk) (h2.lt k hk).2⟩;show w.ownsRow B 167 4 y.v (sH g p).length (fl EP (sH g p));have:(sH g p).length=(mE (uS g) p).length:=fQ _;rw[this];exact h2
theorem Fq{gb:Nat}{g:bD}{R:Nat->Nat->List ah}(w:World)(h:Gm B w gb g)(j4:gQ g)(hP:uC g)(hT:Tv M w tv (aO g.nodes) R)(hM:M<=w.heap.size)(hl:∀p q,p<aO g.nodes->(R p q).length<=64):
    Calls Tryz.prog 65 #[.pointer (some ⟨gb,0,none⟩),tv] w fun e w'=>∃sv rv vs,e= .returned (wv g.arity sv rv)/\Hid (Below w.heap.size w w'/\Fw EF 167 165 w.heap.size w' sv vs (mE (uS g))/\vs.length=aO g.nodes/\w'.ownsRow w.heap.size 3 1 rv (aO g.nodes) (fl ER (rZ (aO g.nodes) R))):=by
 obtain⟨W1,hW1⟩:=aD (w.alloc (.cells #[.int .i64 0, .slice none 0 0, .slice none 0 0] 99));obtain⟨yb,hyb⟩:=aD (w.heap.size);have HB1:Hid (Below w.heap.size w W1/\W1.heap[yb]? =some (.cells #[.int .i64 0, .slice none 0 0, .slice none 0 0] 99 (0,0))/\yb<W1.heap.size/\w.heap.size=yb):=by
  rw[hW1,hyb];exact⟨((Gr.refl w).alloc _).below,ai _ _,by simp,rfl⟩
 have HA:Hid (∀W,Below w.heap.size w W->Calls Tryz.prog 103 #[.pointer (some ⟨gb,0,none⟩)] W fun e w'=>e= .returned (.int .i64 g.arity)/\w'=W):=fun W hb=>xx W (h.below hb);have HS:Hid (∀W,Below w.heap.size w W->Calls Tryz.prog 104 #[.pointer (some ⟨gb,0,none⟩)] W (Lf.Rz.UK W g)):=fun W hb=>Lf.Rz.dA W (h.below hb) j4 hP;have hn:=Df.mJ j4;have HR:Hid (∀W,Below w.heap.size w W->Calls Tryz.prog 105 #[tv] W fun e w'=>∃v,e= .returned v/\w'.ownsRow W.heap.size 3 1 v (aO g.nodes) (fl ER (rZ (aO g.nodes) R))/\Below W.heap.size W w'):=fun W hb=>C8 W (hT.keep (hb.mono hM)) (nT hM hb.size) hn hl;clear h j4 hP hT hM hl;obtain⟨n,hn2⟩:=aD (aO g.nodes);rw[<-hn2]at HR⊢;have HN:=hid hn2;clear hn hn2;go_enter Tryz.func65,Tryz.ntmps65;go_wp2_with fail;rw[<-hW1,<-hyb];clear hW1 hyb;refine(HA.o W1 HB1.o.1).mono ?_;rintro e w2 ⟨rfl,hw2⟩;subst hw2;go_wp2_with fail;refine(HS.o _ HB1.o.1).mono ?_;rintro e w3 hs3;obtain⟨gs,vs,rfl,b3,v3,f3⟩:=hs3;have H3:Hid (Below w.heap.size w w3/\vs.length=n/\Fw EF 167 165 w.heap.size w3 (.slice (some ⟨gs,0,none⟩) n n) vs (mE (uS g))/\w3.heap[yb]? =some (.cells #[.int .i64 0, .slice none 0 0, .slice none 0 0] 99 (0,0))):=by
  rw[HN.o];refine⟨HB1.o.1.trans (b3.mono HB1.o.1.size),v3,⟨aM f3.row HB1.o.1.size,fun k x hk=>aM (f3.each k x hk) HB1.o.1.size,f3.apart⟩,(b3.block _ HB1.o.2.2.1).trans HB1.o.2.1⟩
 rw[<-HN.o];clear b3 v3 f3;go_wp2_with fail;refine(HR.o w3 H3.o.1).mono ?_;rintro e w4 ⟨rv,he4,r1,r2⟩;obtain⟨rq,rm,rc,rfl⟩:=Df.aB r1;subst he4;have H4:Hid (Below w.heap.size w w4/\Fw EF 167 165 w.heap.size w4 (.slice (some ⟨gs,0,none⟩) n n) vs (mE (uS g))/\vs.length=n/\w4.ownsRow w.heap.size 3 1 (.slice rq rm rc) n (fl ER (rZ n R))/\w4.heap[yb]? =some (.cells #[.int .i64 0, .slice none 0 0, .slice none 0 0] 99 (0,0))):=⟨H3.o.1.trans (r2.mono H3.o.1.size),H3.o.2.2.1.below r2,H3.o.2.1,aM r1 H3.o.1.size,(r2.block _ (ae H3.o.2.2.2)).trans H3.o.2.2.2⟩;clear r1 r2 H3;have c4:=(aa H4.o.2.2.2.2).1;have f4:=(aa H4.o.2.2.2.2).2;have l4:=ae H4.o.2.2.2.2;have HE:Hid (Below w.heap.size w (((w4.setCell ⟨yb,0,none⟩ (.int .i64 g.arity)).setCell ⟨yb,1,none⟩ (.slice (some ⟨gs,0,none⟩) n n)).setCell ⟨yb,2,none⟩ (.slice rq rm rc))/\Fw EF 167 165 w.heap.size (((w4.setCell ⟨yb,0,none⟩ (.int .i64 g.arity)).setCell ⟨yb,1,none⟩ (.slice (some ⟨gs,0,none⟩) n n)).setCell ⟨yb,2,none⟩ (.slice rq rm rc)) (.slice (some ⟨gs,0,none⟩) n n) vs (mE (uS g))/\vs.length=n/\(((w4.setCell ⟨yb,0,none⟩ (.int .i64 g.arity)).setCell ⟨yb,1,none⟩ (.slice (some ⟨gs,0,none⟩) n n)).setCell ⟨yb,2,none⟩ (.slice rq rm rc)).ownsRow w.heap.size 3 1 (.slice rq rm rc) n (fl ER (rZ n R))):=by
  obtain⟨q1,k1⟩:=Df.bE H4.o.2.2.2.2 0 (.int .i64 g.arity);obtain⟨q2,k2⟩:=Df.bE q1 1 (.slice (some ⟨gs,0,none⟩) n n);obtain⟨q3,k3⟩:=Df.bE q2 2 (.slice rq rm rc);have kk:=(k1.trans k2 (fun _ _ h=>h)).trans k3 (fun _ _ h=>h);have hf:=H4.o.2.1;have ho:∀{T:TypeId} {z m:Nat} {v:Value} {xs:List Value},w4.ownsRow w.heap.size T z v m xs->T≠99->(((w4.setCell ⟨yb,0,none⟩ (.int .i64 g.arity)).setCell ⟨yb,1,none⟩ (.slice (some ⟨gs,0,none⟩) n n)).setCell ⟨yb,2,none⟩ (.slice rq rm rc)).ownsRow w.heap.size T z v m xs:=fun o hT=>ax kk o fun k e e2=>Df.aH o H4.o.2.2.2.2 hT k e e2;refine⟨H4.o.1.trans (kk.below H4.o.1.size fun k hk=>by rw[hk,HB1.o.2.2.2];exact nR _),⟨ho hf.row (by decide),fun k x hk=>ho (hf.each k x hk) (by decide),hf.apart⟩,H4.o.2.2.1,ho H4.o.2.2.2.1 (by decide)⟩
 clear H4;go_wp2_with fail;refine bR (v:=wv g.arity (.slice (some ⟨gs,0,none⟩) n n) (.slice rq rm rc)) (by simp only[results,Tryz.results65];go_simp) rfl ?_;exact⟨_,_,vs,rfl,HE.o⟩
end Rc
namespace Rc
open Go.RowKit Go.Sort Go.Maps Pt Hc
theorem G7{r:α->α->Prop}(p9:∀a,¬r a a)(asy:∀a b,r a b->¬r b a):∀{l m:List α},l.Pairwise r->m.Pairwise r->(∀a,a∈l↔a∈m)->l=m:=by
 intro l
 induction l with
 | nil=>
  intro m _ _ h;cases m with
  | nil => rfl
  | cons b m => exact absurd ((h b).2 mX) (by simp)
 | cons a l ih=>
  intro m hl hm h;have hl':=qp.1 hl;cases m with
  | nil => exact absurd ((h a).1 mX) (by simp)
  | cons b m=>
   have hm':=qp.1 hm;have hab:a=b:=by
    rcases eO.1 ((h a).1 mX)with e|e
    ·exact e
    ·rcases eO.1 ((h b).2 mX)with e'|e'
     ·exact e'.symm
     ·exact absurd (hm'.1 a e) (asy _ _ (hl'.1 b e'))
   subst hab
   congr 1
   refine ih hl'.2 hm'.2 fun x=>⟨fun hx=> ?_,fun hx=> ?_⟩
   ·rcases eO.1 ((h x).1 (mO _ hx))with e|e
    ·subst e;exact absurd (hl'.1 x hx) (p9 x)
    ·exact e
   ·rcases eO.1 ((h x).2 (mO _ hx))with e|e
    ·subst e;exact absurd (hm'.1 x hx) (p9 x)
    ·exact e
def nV(N:Nat)(F Fn:Nat->List ah):List Th:=(List.range N).flatMap fun p=>(mh (F p) (Fn p)).map fun d=>((p:Int),d.1,d.2)
theorem Ha{a b:List ah}(ha:a.Nodup)(hb:b.Nodup):(mh a b).Pairwise fun x y=>dH x.1 y.1=true:=by
 unfold mh;exact List.pairwise_map.2 (pV (sj ha hb))
theorem XM(hN:N<=192){F Fn:Nat->List ah}(h1:∀p,p<N->(F p).Nodup)(h2:∀p,p<N->(Fn p).Nodup){ks:List Rs.Sm}(hs:qj (gT N F Fn) ks):Pw (gT N F Fn) ks=nV N F Fn:=by
 have hd:∀p,p<N->yn (F p) (Fn p) (mh (F p) (Fn p)):=fun p hp=>jT (h1 p hp) (h2 p hp);have hg:∀p t,p<N->gT N F Fn (sk p t)=ind (Fn p) t-ind (F p) t:=fun p t hp=>by
  unfold gT;have ha:=j6 (p:=p) (by omega) t;have h3:jV (sk p t)=t:=((kV (p:=p) (t:=t) (by omega)).1 rfl).2;rw[h3,ha];rw[if_pos (by simp only;omega)];simp only[tN]
 have hm:∀p d,p<N->d∈mh (F p) (Fn p)->gT N F Fn (sk p d.1)=d.2:=fun p d hp GD=>by
  rw[hg p d.1 hp];unfold ind;rcases((hd p hp).mem d.1 d.2).1 GD with⟨k1,k2,k3⟩|⟨k1,k2,k3⟩
  ·rw[if_neg k2,if_pos k1,k3];rfl
  ·rw[if_pos k1,if_neg k2,k3];rfl
 have hz:∀p d,p<N->d∈mh (F p) (Fn p)->d.2≠0:=fun p d hp GD=>by
  rcases(hd p hp).sign GD with e|e<;>omega
 have hT:Rs.iJ ks=(List.range N).flatMap fun p=>(mh (F p) (Fn p)).map fun d=>sk p d.1:=by
  refine G7 (r:=fun a b=>Rs.slt a b=true) (fun a h=> ?_) (fun a b h k=> ?_) (Rs.FL hs.1) ?_ fun s=> ?_
  ·rw[Rs.oh]at h;omega
  ·rw[Rs.oh]at h k;omega
  ·rw[List.pairwise_flatMap];refine⟨fun p hp=> ?_,(List.pairwise_lt_range (n:=N)).imp_of_mem fun {p q} hp hq hpq x hx y hy=> ?_⟩
   ·have hp:=mR.1 hp;refine List.pairwise_map.2 ((Ha (h1 p hp) (h2 p hp)).imp fun {x y} h=> ?_);rw[Rs.oh,j6 (by omega),j6 (by omega)];refine Or.inr ⟨rfl, ?_⟩;exact(kR x.1 y.1).1 h
   ·obtain⟨d,_,rfl⟩:=mM.1 hx;obtain⟨e,_,rfl⟩:=mM.1 hy;have hp:=mR.1 hp;have hq:=mR.1 hq;rw[Rs.oh,j6 (by omega),j6 (by omega)];exact Or.inl (by simp only;omega)
  ·rw[show s∈Rs.iJ ks↔s∈ks from jh,hs.2,List.mem_flatMap];constructor
   ·intro h;have h0:=h;unfold gT at h;split at h
    ·rename_i hin;obtain⟨p,hp⟩:∃p:Nat,s.1.1=(p:Int):=⟨s.1.1.toNat,by omega⟩;have hpl:p<N:=(by omega);refine⟨p,mR.2 hpl, ?_⟩;have e:s=sk p (jV s):=MF (by omega) hp;rw[hp,tN]at h;unfold ind at h;by_cases k1:jV s∈F p
     ·by_cases k2:jV s∈Fn p
      ·rw[if_pos k1,if_pos k2]at h;exact absurd rfl h
      ·exact mM.2 ⟨(jV s,-1),((hd p hpl).mem _ _).2 (.inl ⟨k1,k2,rfl⟩),e.symm⟩
     ·by_cases k2:jV s∈Fn p
      ·exact mM.2 ⟨(jV s,1),((hd p hpl).mem _ _).2 (.inr ⟨k2,k1,rfl⟩),e.symm⟩
      ·rw[if_neg k1,if_neg k2]at h;exact absurd rfl h
    ·exact absurd rfl h
   ·rintro⟨p,hp,hx⟩;obtain⟨d,GD,rfl⟩:=mM.1 hx;have hp:=mR.1 hp;rw[hm p d hp GD];exact hz p d hp GD
 unfold Pw nV;rw[hT,List.map_flatMap];have key:∀l:List Nat,(∀p∈l,p<N)->l.flatMap (fun p=>((mh (F p) (Fn p)).map fun d=>sk p d.1).map fun s=>(s.1.1,jV s,gT N F Fn s))=l.flatMap fun p=>(mh (F p) (Fn p)).map fun d=>((p:Int),d.1,d.2):=fun l=>by
  induction l with
  | nil => intro _;rfl
  | cons p l ih=>
   intro hl;have hp:=hl p mX;rw[K4,K4,ih fun q hq=>hl q (mO _ hq)]
   congr 1
   rw[List.map_map];refine List.map_congr_left fun d GD=> ?_;show((sk p d.1).1.1,jV (sk p d.1),gT N F Fn (sk p d.1))=_;rw[hm p d hp GD,j6 (by omega),((kV (p:=p) (t:=d.1) (by omega)).1 rfl).2]
 exact key _ fun p hp=>mR.1 hp
attribute[local go_sem ↓]wp_at_zero wp_at_succ
def Ce(os:List Nat)(C:Nat->ah->Int)(p:Int)(t:ah):Int:=if 0<=p/\p<os.length then C p.toNat t else 0
theorem Q3(h:w.heap[rb]? =some (.cells #[.int .i64 ar,sv,rv,ov,cv,uv] 102 (0,0)))(ho:Ls EA w ov os){q:Nat}(hq:os[q]? =some mb){bi oi ci:Nat}(e:ov= .slice (some ⟨bi,oi,none⟩) n ci):w.cell? ⟨rb,3,none⟩=some (.slice (some ⟨bi,oi,none⟩) n ci)/\rb<w.heap.size/\w.cell? ⟨bi,oi+q,none⟩=some (.pointer (some ⟨mb,0,none⟩))/\bi<w.heap.size:=by
 obtain⟨b',o',c',e',z',x'⟩:=sG ho hq;rw[e]at e';simp only[vS,oI,aI,and_true]at e';obtain⟨⟨rfl,rfl⟩,-,-⟩:=e';exact⟨by rw[<-e];exact((aa h).1 3).trans rfl,ae h,x',z'⟩
theorem dQ{C:Nat->ah->Int}(p:Int)(t:ah)(w:World)(hR:w.heap[rb]? =some (.cells #[.int .i64 ar,sv,rv,ov,cv,uv] 102 (0,0)))(ho:Ls EA w ov os)(hM:∀q mb,os[q]? =some mb->∃tb b cb n v fr,Mu w mb tb b cb n v (C q) fr):
    Calls Tryz.prog 36 #[.pointer (some ⟨rb,0,none⟩), .agg #[.int .i64 p, .int .u64 t.1.1, .int .u64 t.1.2.1, .int .u64 t.1.2.2]] w fun e w'=>e= .returned (.int .i64 (Ce os C p t))/\Gr w w':=by
 have hmx:Tryz.prog.follows .mixedOrders=true:=by kernel_rfl
 obtain⟨W1,hW1⟩:=aD (w.alloc (.cells #[.int .i64 p, .int .u64 t.1.1, .int .u64 t.1.2.1, .int .u64 t.1.2.2] 47));obtain⟨b3,hb3⟩:=aD (w.heap.size);have G1:Hid (Gr w W1):=by rw[hW1];exact(Gr.refl _).alloc _
 have HX:Hid (W1.heap[b3]? =some (.cells #[.int .i64 p, .int .u64 t.1.1, .int .u64 t.1.2.1, .int .u64 t.1.2.2] 47 (0,0))):=by rw[hW1,hb3];exact ai _ _
 have hR1:=(G1.o.below.block rb (ae hR)).trans hR;have ho1:=ho.below G1.o.below;have H:=hid (ve p W1 hR1 ho1);have HR:=hid hR1;have HO:=hid ho1;have HM:=hid hM;clear hR hM ho hR1 ho1;have cx:=(aa HX.o).1;have lx:=ae HX.o;by_cases hp:0<=p/\p<os.length
 ·have e1:Ce os C p t=C p.toNat t:=if_pos hp;rw[e1];have e2:(decide (0<=p)&&decide (p<(os.length:Int)))=true:=by simp[hp.1,hp.2]
  rw[e2]at H;clear e1 e2;obtain⟨q,rfl⟩:∃q:Nat,p=q:=⟨p.toNat,by omega⟩;rw[tN];obtain⟨mb,hmb⟩:∃mb,os[q]? =some mb:=⟨os[q]'(by omega),by rw[qw]⟩;obtain⟨bi,oi,ci,hov,-,-⟩:=sG HO.o hmb;have YR:=hid hov;have zT:=hid hmb;have PV:Hid (∀W,Gr W1 W->Calls Tryz.prog 44 #[.pointer (some ⟨mb,0,none⟩), .agg #[.int .u64 t.1.1, .int .u64 t.1.2.1, .int .u64 t.1.2.2]] W fun e w'=>e= .returned (.int .i64 (C q t))/\Gr W w'):=fun W hW=>by
   obtain⟨tb,b,cb,n,v,fr,hmu⟩:=HM.o q mb zT.o;exact Go.Proofs.YteekbpokkjjipaaGreat.dQ t W (hmu.kp (Kp.aZ (S:=fun _=>False) (G1.o.trans hW)) (fun h=>h) (fun h=>h) (fun h=>h) (fun h=>h) (fun _ _ h=>h))
  have hqz:(0:Int)<=(q:Int):=by omega
  have hqN:(q:Int)<(os.length:Int):=by omega
  clear hov hmb hp;go_enter Tryz.func36,Tryz.ntmps36;go_upto_region 1 with fail;rw[<-hW1,<-hb3];clear hW1 hb3;go_wp2_with fail;refine H.o.mono ?_;rintro e w2 ⟨rfl,hw2⟩;subst hw2;clear H;go_upto_region 3 with fail;clear cx lx;have hS0:(fun W:World=>Gr w2 W) w2.drew:=(Gr.refl w2).drew;have uN:Hid (∀W:World,Gr w2 W->(W.cell? ⟨rb,3,none⟩=some (.slice (some ⟨bi,oi,none⟩) os.length ci)/\rb<W.heap.size/\W.cell? ⟨bi,oi+q,none⟩=some (.pointer (some ⟨mb,0,none⟩))/\bi<W.heap.size)/\W.heap[b3]? =some (.cells #[.int .i64 (q:Int), .int .u64 t.1.1, .int .u64 t.1.2.1, .int .u64 t.1.2.2] 47 (0,0))):=fun W hW=>⟨Q3 ((hW.below.block rb (ae HR.o)).trans HR.o) (HO.o.below hW.below) zT.o YR.o,(hW.below.block b3 (ae HX.o)).trans HX.o⟩;refine ay (S:=fun W:World=>Gr w2 W) (D:=[]) hmx ?_;refine' av 0 hS0 ?_;refine' av 1 hS0 ?_;refine' av 2 hS0 ?_;refine' bB 3 hS0 ?h ?_;case h=>(intro W hSw;obtain⟨⟨c0,c1,c2,c3⟩,-⟩:=uN.o W hSw;go_simp;try(with_reducible rfl))
  refine' av 4 hS0 ?_;refine' bB 5 hS0 ?h ?_;case h=>(intro W hSw;obtain⟨-,c4⟩:=uN.o W hSw;have y0:=(aa c4).1;have yz:=ae c4;go_simp;try(with_reducible rfl))
  refine' av 6 hS0 ?_;refine' bB 7 hS0 ?h ?_;case h=>(intro W hSw;obtain⟨⟨c0,c1,c2,c3⟩,-⟩:=uN.o W hSw;go_simp;try(with_reducible rfl))
  refine' av 8 hS0 ?_;refine' bB 9 hS0 ?h ?_;case h=>(intro W hSw;obtain⟨-,c4⟩:=uN.o W hSw;have y0:=(aa c4).1;have yz:=ae c4;go_simp;try(with_reducible rfl))
  refine bN 10 fun K hK=> ?_;go_simp;refine(PV.o _ hS0).mono ?_;rintro e w7 ⟨rfl,g7⟩;have bf:(fun W:World=>Gr w2 W) w7:=Gr.trans hS0 g7;go_wp2_with fail;refine hK.o _ _ (fun hD=>bf) ?_;clear hK K;try simp only[Act.put,qI,q0,qS]
  refine' av 11 bf ?_;refine ak (by kernel_rfl) ?_ _;go_wp2_with fail;go_ret;exact⟨rfl,G1.o.trans bf⟩
 ·have e1:Ce os C p t=0:=if_neg hp;rw[e1];have e2:(decide (0<=p)&&decide (p<(os.length:Int)))=false:=by
   by_cases k:0<=p
   ·have k2:¬p<(os.length:Int):=fun h=>hp ⟨k,h⟩;simp[k2]
   ·simp[k]
  rw[e2]at H;clear e1 e2 hp HM;go_enter Tryz.func36,Tryz.ntmps36;go_upto_region 1 with fail;rw[<-hW1,<-hb3];clear hW1 hb3;go_wp2_with fail;refine H.o.mono ?_;rintro e w2 ⟨rfl,hw2⟩;subst hw2;go_wp2;go_ret;exact⟨rfl,G1.o⟩
end Rc
end Go.Proofs.YteekbpokkjjipaaGreat
