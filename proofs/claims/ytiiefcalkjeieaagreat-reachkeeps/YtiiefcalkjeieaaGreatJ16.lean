import Derived.Test.YtiiefcalkjeieaaGreatJ14
import Derived.Sort.OwnSortedInts
variable{i k B n g m size p q cap:Nat}{l:List Int}{w:Go.World}{ls:List (List Int)}{a x:Int}
set_option maxHeartbeats 4000000
set_option maxRecDepth 100000
namespace Go.Proofs.YtiiefcalkjeieaaGreat
namespace Df
open Go.RowKit Go.Sort
attribute[local go_sem ↓]wp_at_zero wp_at_succ
theorem OQ:(Tryz.prog.info? 3).map (fun i=>(i.zero,i.size,i.bytes))=some (some (iV 0),1,8):=by kernel_rfl
theorem Z0(n:Nat):(madeCells (Value.int .i64 0).cells (n*1)).toList=(List.replicate n (0:Int)).map (Value.int .i64):=by
 rw[Nat.mul_one];exact(toList_madeCells_one _ n).trans (by simp)
theorem Bz{e:TypeId}{c:Nat}{xs:List Value}(h:w.ownsRow B e size (sO g m c) n xs):∀j,w.frozen? ⟨g,j,none⟩=false:=by
 rcases h.2 with⟨h0,_⟩|⟨g',cap,cur,hv,_,hh,_⟩
 ·cases h0
 ·simp only[vS,oI,aI]at hv;obtain⟨⟨rfl,-,-⟩,-,rfl⟩:=hv;exact(aa hh).2
def Od(w:World)(n:Nat)(ls:List (List Int))(r:Ending)(w':World):Prop:=Bw w w'/\((eX n ls n=none/\r= .returned (.tuple #[.slice none 0 0,iV 27]))\/∃o f d,eX n ls n=some (o,f)/\r= .returned (.tuple #[d,iV 0])/\w'.ownsRow w.heap.size 3 1 d o.length (fl EI o))
theorem KG{t:Nat}(h:t<=m)(ht:eX n ls t=none):eX n ls m=none:=by
 induction m with
 | zero=>
  obtain rfl:t=0:=by omega
  exact ht
 | succ m ih=>
  by_cases e:t=m+1
  ·subst e;exact ht
  ·rw[eX,ih (by omega)]
def Os(w:World)(n g:Nat)(ls:List (List Int))(t:Nat)(vo:Value)(W:World):Prop:=∃o f,eX n ls t=some (o,f)/\Wt w n g f W/\W.ownsRow w.heap.size 3 1 vo o.length (fl EI o)/\(∀k,vo.ownBlock=some k->k≠g)/\o.length=t/\∀k,-1000000-1001*(t:Int)<=f k/\f k<=1000000
theorem DU{M:Nat}{v:Value}(w:World)(hF:Ff M w v ls)(hn:ls.length<=1000)(hx:∀l∈ls,l.length<=1000/\∀x∈l,0<=x/\x<(ls.length:Int)):CL 117 #[v] w (Od w ls.length ls):=by
 have hmx:Tryz.prog.follows .mixedOrders=true:=by kernel_rfl
 obtain⟨p,c,rfl⟩:=hF.form;have HF:=hid hF;have HX:=hid hx;obtain⟨n,hnn⟩:=aF (ls.length);rw[<-hnn]at hn⊢;have HN:=hid hnn;have YO:Hid (∀(i:Nat) (y:Int),iN (ls.take i) y<=1000000):=fun i y=>by
  have h:=Ug (ls:=ls.take i) (m:=1000) (fun l hl=>(hx l (List.mem_of_mem_take hl)).1) y;have h2:(ls.take i).length<=1000:=by rw[lK];omega
  have:=nM 1000 h2;omega
 clear hF hx hnn;obtain⟨i0,hi0,hz0,hz1,hz2⟩:=info_parts OQ;go_enter Tryz.func117,Tryz.ntmps117;go_upto_region 2 with(at_make;refine wpList_make_full _ rfl _ _ 97 rfl w.heap.size 3 i0 (iV 0) 1 Tryz.underlying97 hi0 hz0 hz1 _ _ _ _ n rfl rfl rfl rfl (by rw[hz2];omega) (by unfold maxLen;omega) (nR _) ?_;intro w1 hrow hg1);obtain⟨g,hg⟩:=aF (w.heap.size);rw[<-hg];have W1:Hid (Wt w n g (fun k=>(iN (ls.take 0) (k:Int):Nat)) w1):=by
  refine⟨(Kp.grownBy (S:=fun _=>False) hg1 (fun _ h=>by cases h)).below (nR _) (fun _ h=>h.elim), ?_⟩;rw[hg];refine aV hrow rfl ?_;rw[Z0,PM,PQ];simp[iN]
 clear hrow hg1 hg hi0 hz0 hz1 hz2;go_wp2_with fail;go_loopw [18] (fun V9 wr=>∃i:Nat,i<=n/\V9=iV (i:Nat)/\Hid (Wt w n g (fun k=>(iN (ls.take i) (k:Int):Nat)) wr)) (fun V9 _=>n-(intOf V9).toNat);case atStart=>exact⟨0,zL _,rfl,W1.o⟩
 case round=>
  clear W1;obtain⟨i,hi,rfl,HI⟩:=hrel;by_cases hlt:i<n
  ·have hltz:(i:Int)<(n:Int):=(by omega);have hi1:(0:Int)<=(i:Int):=(by omega);obtain⟨l,hl⟩:∃l,ls[i]? =some l:=⟨ls[i]'(by have:=HN.o;omega),by simp⟩;obtain⟨b,off,c1,q,c2,e1,z0,x0,hz⟩:=HF.o.at hl;have x1:=(HI.o.bl.cell (p:=⟨b,off+i,none⟩) z0).trans x0;have z1:=nL z0 HI.o.bl.size;simp only[vS]at e1;obtain⟨rfl,-,rfl⟩:=e1;have HL:Hid (ls[i]? =some l/\l.length<=1000/\∀x∈l,0<=x/\x<(n:Int)):=⟨hl,(HX.o l (lM hl)).1,by have h:=(HX.o l (lM hl)).2;rw[<-HN.o]at h;exact h⟩;have HZ:=hid (fun(W:World) (hb:Bw w W)=>hz.below hb);have hll:=HL.o.2.1;clear hz hl z0 x0;go_wp2_with fail;clear x1 z1;go_loopw [24] (fun s24 wr=>∃k:Nat,k<=l.length/\s24=iV (k:Nat)/\Hid (Wt w n g (fun y=>(iN (ls.take i) (y:Int)+(l.take k).count (y:Int):Nat)) wr)) (fun s24 _=>l.length-(intOf s24).toNat);case atStart=>exact⟨0,zL _,rfl,HI.o.re (fun k _=>by simp)⟩
   case round=>
    clear HI;obtain⟨k,hk,rfl,HI⟩:=hrel;by_cases hlk:k<l.length
    ·have Cb:(k:Int)<(l.length:Int):=(by omega);have hk0:(0:Int)<=(k:Int):=(by omega);obtain⟨x,hx⟩:∃x,l[k]? =some x:=⟨l[k],by simp⟩;have hxb:=HL.o.2.2 x (lM hx);obtain⟨e,rfl⟩:∃e:Nat,x=(e:Int):=⟨x.toNat,by omega⟩;obtain⟨b2,o2,c3,e2,z2,y0⟩:=xE ((HZ.o wr HI.o.bl).ls hx) hx;simp only[vS]at e2;obtain⟨rfl,-,rfl⟩:=e2;obtain⟨m,hm⟩:∃m:Nat,m=iN (ls.take i) (e:Int)+(l.take k).count (e:Int):=⟨_,rfl⟩;have hc:=(HI.o.cell (k:=e) (by omega)).1;rw[<-hm]at hc;have lg:=(HI.o.cell (k:=e) (by omega)).2;have fg:=Bz HI.o.row;have Xf:m<=2000000:=by
      have h1:=YO.o i (e:Int);have h2:(l.take k).count (e:Int)<=(l.take k).length:=List.count_le_length;rw[lK]at h2;omega
     have FIN:Hid (Wt w n g (fun y=>(iN (ls.take i) (y:Int)+(l.take (k+1)).count (y:Int):Nat)) (wr.setCell ⟨g,e,none⟩ (iV ((m:Int)+1)))):=by
      refine(HI.o.set e ((m:Int)+1)).1.re (fun y _=> ?_);rw[yf hx];unfold upd;by_cases hy:y=e
      ·subst hy;rw[if_pos rfl,if_pos rfl,hm];omega
      ·rw[if_neg hy,if_neg (by omega)];simp
     have he0:(0:Int)<=(e:Int):=(by omega);have hen:(e:Int)<(n:Int):=hxb.2;clear hx hm;go_wp2_with fail;go_roundw;case rel=>exact⟨k+1,by omega,by go_num,FIN.o⟩
     case measure=>simp[intOf];omega
    ·have Cb:¬(k:Int)<(l.length:Int):=(by omega);have FIN:Hid (Wt w n g (fun y=>(iN (ls.take (i+1)) (y:Int):Nat)) wr):=HI.o.re (fun y _=>by have h:l.take k=l:=tL (by omega);rw[Lv HL.o.1,h]);go_wp2_with fail;go_roundw;case rel=>exact⟨i+1,by omega,by go_num,FIN.o⟩
     case measure=>simp[intOf];omega
  ·have hltz:¬(i:Int)<(n:Int):=(by omega);have A1:Hid (Wt w n g (fun k=>(iN ls (k:Int):Nat)) wr):=HI.o.re (fun y _=>by have h:ls.take i=ls:=tL (by have:=HN.o;omega);rw[h]);have C1:Hid (∀y:Int,iN ls y<=1000000):=fun y=>(by have h:=YO.o n y;rw[HN.o,tK]at h;exact h);clear HI;go_wp2_with fail;go_loopw [9,38] (fun s9 RZ wr=>∃(t:Nat) (vo:Value),t<=n/\RZ=iV (t:Nat)/\vo=s9/\Hid (Os w n g ls t vo wr)) (fun _ RZ _=>n-(intOf RZ).toNat);case atStart=>exact⟨0,_,zL _,rfl,rfl,[],_,rfl,A1.o,oN _ _ _ _,(fun k e=>by cases e),rfl,fun k=>by have:=C1.o (k:Int);omega⟩
   case round=>
    clear A1;obtain⟨t,vo,ht,rfl,rfl,HI⟩:=hrel;by_cases hlt2:t<n
    ·have nP:(t:Int)<(n:Int):=(by omega);obtain⟨o,f,ho,hw,hro,hne,hol,hfb⟩:=HI.o;have hr:wr.ownsRow w.heap.size 3 1 (sO g n n) (FM n f).length (fl EI (FM n f)):=aV hw.row (jh n f).symm rfl;have hidx:=He 0 wr (jd (E:=EI) hr) (by rw[jh];omega);have HO:=hid ho;have HW:=hid hw;have HR:Hid (wr.ownsRow w.heap.size 3 1 vo o.length (fl EI o)/\(∀k,vo.ownBlock=some k->k≠g)/\o.length=t/\∀k,-1000000-1001*(t:Int)<=f k/\f k<=1000000):=⟨hro,hne,hol,hfb⟩;clear ho hw hro hne hol hfb hr;go_wp2_with fail;refine hidx.mono ?_;rintro r w2 ⟨hw2,hr2⟩;subst hw2;rcases hr2 with⟨q,rfl,hq1,hq2⟩|⟨rfl,hq1⟩
     ·have WY:q<n:=(by have h:=(lG.1 hq1).1;rw[jh]at h;exact h);have hfq:f q=0:=(by rw[jX f WY]at hq1;exact oJ hq1);have HZN:Hid (vT n f=some q):=by
       show _=_;unfold vT;rw[List.find?_range_eq_some];refine⟨by simp[hfq],by simpa using WY,fun j hj=> ?_⟩;have h:=hq2 j hj;rw[jX f (by omega)]at h;simp only[ne_eq,oI]at h;simpa using h
      have HOT:=hid HR.o.2.2.1;have hq0:(0:Int)<=(q:Int):=(by omega);have hqz:(q:Int)<(n:Int):=(by omega);obtain⟨l,hl⟩:∃l,ls[q]? =some l:=⟨ls[q]'(by have:=HN.o;omega),by simp⟩;have HL:Hid (ls[q]? =some l/\l.length<=1000/\∀x∈l,0<=x/\x<(n:Int)):=⟨hl,(HX.o l (lM hl)).1,by have h:=(HX.o l (lM hl)).2;rw[<-HN.o]at h;exact h⟩;have hll:=HL.o.2.1;clear hidx hq1 hq2 HI;go_wp2_with (at_builtin;refine gB EI Tryz.underlying97 OQ rfl (by decide) rfl _ _ rfl w.heap.size _ o.length _ rfl HR.o.1 (q:Int) rfl (by have:=HOT.o;omega) (by have:=HOT.o;unfold maxLen;omega) HW.o.bl.size _ rfl _ ?_);intro g9 c9 w9 r1 r2 r3;have S9:Hid (Wt w n g f w9/\w9.ownsRow w.heap.size 3 1 (sO g9 (o.length+1) c9) (o++[(q:Int)]).length (fl EI (o++[(q:Int)]))/\g9≠g):=by
       have k2:=Kp.grownBy (S:=fun j=>vo.ownBlock=some j) r2 (fun _ h=>h);refine⟨⟨HW.o.bl.trans (k2.below HW.o.bl.size (fun j e=>(aM HR.o.1 j e).1)),ax k2 HW.o.row (fun j e e2=>HR.o.2.1 j e2 (by simpa[Value.ownBlock]using e.symm))⟩,aV r1 (by simp) (by rw[aT,dM]),fun e=> ?_⟩;rcases r3 with h|h
       ·exact HR.o.2.1 g9 h e
       ·have:=(aM HW.o.row g rfl).2;omega
      clear r1 r2 r3;have hc:=(S9.o.1.cell WY).1;have lg:=(S9.o.1.cell WY).2;have fg:=Bz S9.o.1.row;obtain⟨eF,Ca⟩:=aF (w9.setCell ⟨g,q,none⟩ (iV (-1)));have J6:Hid (Wt w n g (fun y=>(if y=q then -1 else f y)-((l.take 0).count (y:Int):Nat)) eF/\eF.ownsRow w.heap.size 3 1 (sO g9 (o.length+1) c9) (o++[(q:Int)]).length (fl EI (o++[(q:Int)]))):=by
       obtain⟨h1,h2⟩:=S9.o.1.set q (-1);rw[Ca];exact⟨h1.re (fun y _=>by simp[upd]),ax h2 S9.o.2.1 (fun j e e2=>S9.o.2.2 (by simp[Value.ownBlock]at e;omega))⟩
      have aa9:Hid (w9.setCell ⟨g,q,none⟩ (iV (-1))=eF):=Ca.symm;clear Ca;generalize o.length+1=ol at J6 S9⊢;go_upto_region 19 with fail;rw[aa9.o];clear aa9 hc lg fg;obtain⟨b,off,c1,q1,c2,e1,z0,x0,hz⟩:=HF.o.at hl;have x1:=(J6.o.1.bl.cell (p:=⟨b,off+q,none⟩) z0).trans x0;have z1:=nL z0 J6.o.1.bl.size;simp only[vS]at e1;obtain⟨rfl,-,rfl⟩:=e1;have HZ:=hid (fun(W:World) (hb:Bw w W)=>hz.below hb);clear hz hl z0 x0;go_wp2_with fail;clear x1 z1;go_loopw [56] (fun s56 wr=>∃k:Nat,k<=l.length/\s56=iV (k:Nat)/\Hid (Wt w n g (fun y=>(if y=q then -1 else f y)-((l.take k).count (y:Int):Nat)) wr/\wr.ownsRow w.heap.size 3 1 (sO g9 ol c9) (o++[(q:Int)]).length (fl EI (o++[(q:Int)])))) (fun s56 _=>l.length-(intOf s56).toNat);case atStart=>exact⟨0,zL _,rfl,J6.o⟩
      case round=>
       clear J6;obtain⟨k,hk,rfl,HI⟩:=hrel;by_cases hlk:k<l.length
       ·have Cb:(k:Int)<(l.length:Int):=(by omega);have hk0:(0:Int)<=(k:Int):=(by omega);obtain⟨x,hx⟩:∃x,l[k]? =some x:=⟨l[k],by simp⟩;have hxb:=HL.o.2.2 x (lM hx);obtain⟨e,rfl⟩:∃e:Nat,x=(e:Int):=⟨x.toNat,by omega⟩;obtain⟨b2,o2,c3,e2,z2,y0⟩:=xE ((HZ.o wr HI.o.1.bl).ls hx) hx;simp only[vS]at e2;obtain⟨rfl,-,rfl⟩:=e2;obtain⟨m,hm⟩:∃m:Int,m=(if e=q then -1 else f e)-((l.take k).count (e:Int):Nat):=⟨_,rfl⟩;have hc:=(HI.o.1.cell (k:=e) (by omega)).1;rw[<-hm]at hc;have lg:=(HI.o.1.cell (k:=e) (by omega)).2;have fg:=Bz HI.o.1.row;have Xf: -4000000<=m/\m<=2000000:=by
         have h1:=HR.o.2.2.2 e;have h2:(l.take k).count (e:Int)<=(l.take k).length:=List.count_le_length;rw[lK]at h2;rw[hm];split<;>omega
        have FIN:Hid (Wt w n g (fun y=>(if y=q then -1 else f y)-((l.take (k+1)).count (y:Int):Nat)) (wr.setCell ⟨g,e,none⟩ (iV (m-1)))/\(wr.setCell ⟨g,e,none⟩ (iV (m-1))).ownsRow w.heap.size 3 1 (sO g9 ol c9) (o++[(q:Int)]).length (fl EI (o++[(q:Int)]))):=by
         obtain⟨h1,h2⟩:=HI.o.1.set e (m-1);refine⟨h1.re (fun y _=> ?_),ax h2 HI.o.2 (fun j e e2=>S9.o.2.2 (by simp[Value.ownBlock]at e;omega))⟩;rw[yf hx];unfold upd;by_cases hy:y=e
         ·subst hy;rw[if_pos rfl,if_pos rfl,hm];omega
         ·rw[if_neg hy,if_neg (show ¬((e:Nat):Int)=(y:Int)by omega)];simp
        have he0:(0:Int)<=(e:Int):=(by omega);have hen:(e:Int)<(n:Int):=hxb.2;obtain⟨hm1,hm2⟩:=Xf;clear hx hm;go_wp2_with fail;go_roundw;case rel=>exact⟨k+1,by omega,by go_num,FIN.o⟩
        case measure=>simp[intOf];omega
       ·have Cb:¬(k:Int)<(l.length:Int):=(by omega);have FIN:Hid (Os w n g ls (t+1) (sO g9 ol c9) wr):=by
         have h:l.take k=l:=tL (by omega);refine⟨o++[(q:Int)],uj ls f q, ?_,HI.o.1.re (fun y _=>by unfold uj;rw[HL.o.1,h];rfl),HI.o.2,fun j e e2=>S9.o.2.2 (by simp[Value.ownBlock]at e;omega),by rw[dQ,HOT.o];rfl,fun y=> ?_⟩
         ·rw[eX,HO.o];simp only[HZN.o]
         ·have h1:=HR.o.2.2.2 y;have h2:l.count (y:Int)<=l.length:=List.count_le_length;unfold uj;rw[HL.o.1,Option.getD_some];split<;>omega
        go_wp2_with fail;go_roundw;case rel=>exact⟨t+1,_,by omega,by go_num,rfl,FIN.o⟩
        case measure=>simp[intOf];omega
     ·have UB:Hid (eX n ls n=none):=by
        refine KG (t:=t+1) (by omega) ?_;rw[eX,HO.o];have h:vT n f=none:=List.find?_eq_none.2 (fun k hk h=>hq1 (by
         have h1:=jX f (mR.1 hk);have h2:f k=0:=(by simpa using h);rw[h2]at h1;exact lM h1))
        simp only[h]
      go_wp2_with fail;refine bR (v:= .tuple #[.slice none 0 0,iV 27]) (by simp[results,Tryz.results117,go_sem]) rfl ?_;exact⟨HW.o.bl,Or.inl ⟨UB.o,rfl⟩⟩
    ·have nP:¬(t:Int)<(n:Int):=(by omega);obtain rfl:t=n:=(by omega);obtain⟨o,f,ho,hw,hro,hne,hol,hfb⟩:=HI.o;have FIN:Hid (Od w t ls (.returned (.tuple #[vo,iV 0])) wr):=⟨hw.bl,Or.inr ⟨o,f,vo,ho,rfl,hro⟩⟩;obtain⟨qo,mo,co,hvo⟩:=aD hro;subst hvo;clear ho hw hro hne hol hfb;go_wp2_with fail;refine bR (v:= .tuple #[.slice qo mo co,iV 0]) (by simp[results,Tryz.results117,go_sem]) rfl ?_;exact FIN.o
end Df
namespace Df
open Go.RowKit Go.Sort
def Ti(c:dN):Bool:=decide (c.via=(0,0,0))
def QY(ns:List dC)(i:Nat)(c:dN):Nat:=bO ns i+c.dx.toNat
def cOut(ns:List dC)(i:Nat)(c:dN):Nat:=bO ns i+(match ns[i]? with|some n=>n.ins.toNat|none=>0)+c.o.toNat
def Qf(ns:List dC)(i:Nat)(c:dN):Nat×Nat:=(QY ns i c,cOut ns i c)
def pJ(ns:List dC)(i:Nat)(l:List dN):List (Nat×Nat):=(l.filter Ti).map (Qf ns i)
def lI(ns:List dC):Nat->List (Nat×Nat)
 | 0 => []
 | i + 1 => lI ns i++pJ ns i (dA ns (i:Int))
def T9(ns:List dC)(d:dR):Nat×Nat:=(eD ns d,iW ns d)
def j6(ns:List dC)(es:List dR):List (Nat×Nat):=es.map (T9 ns)
def iT(g:bG):List (Nat×Nat):=j6 g.nodes g.aO++lI g.nodes g.nodes.length
def bB(l:List (Nat×Nat))(k:Nat):List Int:=(l.filter fun p=>p.1==k).map fun p=>((p.2:Nat):Int)
def ik(l:List Int):List Int:=l.mergeSort fun x y=>decide (x<=y)
def iq(g:bG):List (List Int):=(List.range (aW g.nodes)).map fun k=>ik (bB (iT g) k)
theorem xS(l:List (Nat×Nat))(p:Nat×Nat)(k:Nat):bB (l++[p]) k=if k=p.1 then bB l p.1++[((p.2:Nat):Int)]else bB l k:=by
 unfold bB;rw[List.filter_append,De];by_cases h:k=p.1
 ·subst h;simp
 ·have h2:¬p.1=k:=fun e=>h e.symm;simp[h,h2]
theorem oU(l:List (Nat×Nat))(k:Nat):(bB l k).length<=l.length:=by
 unfold bB;rw[gQ];exact List.length_filter_le _ _
theorem wH(l:List Int):(ik l).length=l.length:=List.length_mergeSort l
theorem wG:x∈ik l↔x∈l:=(List.mergeSort_perm l _).mem_iff
theorem tJ{l:List (Nat×Nat)}:x∈bB l k↔∃q:Nat,x=(q:Int)/\(k,q)∈l:=by
 unfold bB;constructor
 ·intro h;obtain⟨p,hp,rfl⟩:=mM.1 h;obtain⟨h1,h2⟩:=mF.1 hp;obtain⟨a,b⟩:=p;have h3:a=k:=by simpa using h2
  subst h3;exact⟨b,rfl,h1⟩
 ·rintro⟨q,rfl,h⟩;exact mM.2 ⟨(k,q),mF.2 ⟨h,by simp⟩,rfl⟩
theorem vC(g:bG):(iq g).length=aW g.nodes:=by simp[iq]
theorem Be{g:bG}(hk:k<aW g.nodes):(iq g)[k]? =some (ik (bB (iT g) k)):=by simp[iq,hk]
theorem GU{n:dC}(h:eP a n=0):(Jp n.kind n.ins=true/\q8 n.kind n.outs=true)/\jS a n=0:=by
 unfold eP at h;split at h
 ·cases h
 ·split at h
  ·cases h
  ·split at h
   ·cases h
   ·rename_i h1 h2 h3;exact⟨Classical.not_not.1 h2,h⟩
theorem Qs{o:Nat}{c:dN}(h:c∈kT o i):0<=c.dx/\c.dx<(i:Int)/\0<=c.o/\c.o<(o:Int):=by
 induction i with
 | zero => cases h
 | succ i ih=>
  unfold kT at h;rcases kr.1 h with h|h
  ·have:=ih h;omega
  ·unfold pE at h;obtain⟨p,hp,rfl⟩:=mM.1 h;have:=mR.1 hp;dsimp only;omega
theorem E9{n:dC}(h:eP a n=0){c:dN}(hc:c∈fZ n):(0<=c.dx/\c.dx<n.ins)/\(0<=c.o/\c.o<n.outs):=by
 obtain⟨⟨h1,h2⟩,h3⟩:=GU h;have h4:=jU h;unfold fZ at hc;split at hc
 ·rename_i hk;simp at hc;subst hc;unfold Jp at h1;unfold q8 at h2;rw[if_neg (by omega),if_neg (by omega),if_neg (by omega)]at h1;rw[if_neg (by omega),if_neg (by omega)]at h2;simp at h1 h2;dsimp only;omega
 ·split at hc
  ·rename_i hk;unfold jS at h3;rw[if_neg (by omega),if_neg (by omega),if_pos hk]at h3;split at h3
   ·rename_i hok;obtain⟨j,hj⟩:=iG.1 hc;have:=(vM.1 hok).2 j c hj;exact⟨this.1,this.2.1⟩
   ·cases h3
  ·have:=Qs hc;omega
theorem IC{n:dC}(h:eP a n=0):(fZ n).length<=16:=by
 have h4:=jU h;unfold fZ;split
 ·simp
 ·split
  ·exact(nH h).2
  ·rw[uF];have h1:n.ins.toNat<=4:=(by omega);have h2:n.outs.toNat<=4:=(by omega);exact nT (Nat.mul_le_mul h1 h2) (by decide)
theorem nY(ns:List dC)(i:Nat):dA ns (i:Int)=match ns[i]? with|some n=>fZ n|none=>[]:=by
 unfold dA jB;rw[if_pos (by omega)];rfl
theorem ic.Ya{g:bG}(h:ic g){c:dN}(hc:c∈dA g.nodes (i:Int)):fG g.nodes (i:Int) c.dx=true/\fF g.nodes (i:Int) c.o=true:=by
 rw[nY]at hc;cases e:g.nodes[i]? with
 | none => rw[e]at hc;cases hc
 | some n=>
  rw[e]at hc;have hn:=h.ng i n (lG.1 e).1 e;have hg:=E9 hn hc;unfold fG fF jB;rw[if_pos (by omega),show((i:Nat):Int).toNat=i by omega,e];simp only[dE];exact hg
theorem ic.Cv{g:bG}(h:ic g)(i:Nat):(dA g.nodes (i:Int)).length<=16:=by
 rw[nY];cases e:g.nodes[i]? with
 | none => simp
 | some n => exact IC (h.ng i n (lG.1 e).1 e)
theorem IJ{ns:List dC}{c:dN}(h:fG ns (i:Int) c.dx=true):QQ ns (i:Int) c.dx=(QY ns i c:Nat):=by
 obtain⟨n,hn,h0,_,h1,_⟩:=xN h;unfold QQ QY;rw[if_pos h,show((i:Nat):Int).toNat=i by omega]
 push_cast
 omega
theorem CB{ns:List dC}{c:dN}(hp:Vs ns)(h:fF ns (i:Int) c.o=true):yR ns (i:Int) c.o=(cOut ns i c:Nat):=by
 obtain⟨n,hn,h0,_,h1,_⟩:=rE h;rw[show((i:Nat):Int).toNat=i by omega]at hn;have:=hp n (lM hn);unfold yR cOut;rw[if_pos h,show((i:Nat):Int).toNat=i by omega,hn]
 push_cast
 omega
theorem yu{ns:List dC}{c:dN}(h:fG ns (i:Int) c.dx=true):QY ns i c<aW ns:=by
 obtain⟨n,hn,_,_,h1,h2⟩:=xN h;rw[show((i:Nat):Int).toNat=i by omega]at hn;have:=Dz (p:=c.dx.toNat) hn (lG.1 hn).1 (by omega);exact(lG.1 this).1
theorem Cy{ns:List dC}{c:dN}(h:fF ns (i:Int) c.o=true):cOut ns i c<aW ns:=by
 obtain⟨n,hn,_,_,h1,h2⟩:=rE h;rw[show((i:Nat):Int).toNat=i by omega]at hn;have:=zC (p:=c.o.toNat) hn (lG.1 hn).1 (by omega);unfold cOut;rw[hn];exact(lG.1 this).1
theorem nz{ns:List dC}{d:dR}(h:fF ns d.src d.o=true):eD ns d<aW ns:=(lG.1 (xk h)).1
theorem BX{ns:List dC}{d:dR}(h:fG ns d.dst d.dx=true):iW ns d<aW ns:=(lG.1 (BV h)).1
theorem xu{ns:List dC}{p:Nat×Nat}:p∈lI ns m↔∃i c,i<m/\c∈dA ns ((i:Nat):Int)/\Ti c=true/\p=Qf ns i c:=by
 induction m with
 | zero => simp[lI]
 | succ m ih=>
  unfold lI;rw[kr,ih];constructor
  ·rintro(⟨i,c,h1,h2⟩|h)
   ·exact⟨i,c,by omega,h2⟩
   ·unfold pJ at h;obtain⟨c,hc,rfl⟩:=mM.1 h;obtain⟨h1,h2⟩:=mF.1 hc;exact⟨m,c,by omega,h1,h2,rfl⟩
  ·rintro⟨i,c,h1,h2,h3,rfl⟩;by_cases e:i=m
   ·subst e;exact Or.inr (mM.2 ⟨c,mF.2 ⟨h2,h3⟩,rfl⟩)
   ·exact Or.inl ⟨i,c,by omega,h2,h3,rfl⟩
theorem DW{g:bG}(h:ic g)(m:Nat):(lI g.nodes m).length<=16*m:=by
 induction m with
 | zero => simp[lI]
 | succ m ih=>
  unfold lI pJ;rw[dQ,gQ];have h1:=List.length_filter_le Ti (dA g.nodes (m:Int));have h2:=h.Cv m;omega
theorem Jb{g:bG}(h:ic g):(iT g).length<=432:=by
 unfold iT j6;rw[dQ,gQ];have h1:=DW h g.nodes.length;have h2:=h.nl;have h3:=h.el;omega
theorem M4{g:bG}(h:ic g)(hm:(p,q)∈iT g):p<aW g.nodes/\q<aW g.nodes:=by
 unfold iT at hm;rcases kr.1 hm with hm|hm
 ·obtain⟨d,hd,e⟩:=mM.1 hm;obtain⟨j,hj⟩:=iG.1 hd;have:=h.ends hj;unfold T9 at e;simp only[Prod.mk.injEq]at e;rw[<-e.1,<-e.2];exact⟨nz this.1,BX this.2⟩
 ·obtain⟨i,c,_,h2,_,e⟩:=xu.1 hm;have:=h.Ya h2;unfold Qf at e;simp only[Prod.mk.injEq]at e;rw[e.1,e.2];exact⟨yu this.1,Cy this.2⟩
theorem nu{g:bG}(h:ic g):aW g.nodes<=192:=by
 have h1:=oV h.kI g.nodes.length;have h2:=h.nl;unfold aW;unfold bO at h1;omega
theorem VS{g:bG}(h:ic g):Sp (iq g) p q↔(p,q)∈iT g:=by
 constructor
 ·rintro⟨l,h1,h2⟩;have hp:=(lG.1 h1).1;rw[vC]at hp;rw[Be hp,oI]at h1;subst h1;obtain⟨q',e,h3⟩:=tJ.1 (wG.1 h2);obtain rfl:q=q':=by omega
  exact h3
 ·intro hm;exact⟨_,Be (M4 h hm).1,wG.2 (tJ.2 ⟨q,rfl,hm⟩)⟩
theorem Dx{g:bG}(h:ic g):(iq g).length<=1000/\∀l∈iq g,l.length<=1000/\∀x∈l,0<=x/\x<((iq g).length:Int):=by
 have h1:=nu h;rw[vC];refine⟨by omega,fun l hl=> ?_⟩;obtain⟨k,hk,rfl⟩:=mM.1 hl;refine⟨?_,fun x hx=> ?_⟩
 ·rw[wH];exact nT (oU _ _) (nT (Jb h) (by decide))
 ·obtain⟨q,rfl,hq⟩:=tJ.1 (wG.1 hx);have:=(M4 h hq).2;omega
structure Fo(B:Nat)(w:World)(v:Value)(vs:List LV)(L:Nat->List Int):Prop where
 row:w.ownsRow B 97 1 v vs.length (fl EL vs)
 each:∀(k:Nat) (x:LV),vs[k]? =some x->w.ownsRow B 3 1 x.v (L k).length (fl EI (L k))
 apart:∀(k:Nat) (x:LV),vs[k]? =some x->∀b,x.v.ownBlock=some b->∀(k':Nat) (x':LV),vs[k']? =some x'->x'.v.ownBlock=some b->k'=k
section
variable {B:Nat} {w w1 w':World} {v:Value} {vs:List LV} {L L':Nat->List Int}
theorem Fo.below(h:Fo B w v vs L)(hb:Bw w w'):Fo B w' v vs L:=⟨ag h.row hb,fun k x hk=>ag (h.each k x hk) hb,h.apart⟩
theorem Fo.re(h:Fo B w v vs L)(hL:∀k,k<vs.length->L k=L' k):Fo B w v vs L':=⟨h.row,fun k x hk=>by rw[<-hL k (lG.1 hk).1];exact h.each k x hk,h.apart⟩
theorem Fo.ff(h:Fo B w v vs L)(hl:ls.length=vs.length)(hg:∀k l,ls[k]? =some l->l=L k):Ff w.heap.size w v ls:=
 ⟨vs,jd (E:=EL) h.row,hl.symm,fun i x l hx hls=>by rw[hg i l hls];exact jd (E:=EI) (h.each i x hx)⟩
theorem Fo.step(h:Fo B w v vs L){k pb pc g cap:Nat}{x:LV}(hk:vs[k]? =some x)(hpv:v=sO pb vs.length pc){y:Int}
    (h1:w1.ownsRow B 3 1 (sO g ((L k).length+1) cap) ((L k).length+1) (fl EI (L k)++EI.enc y)) (h2:w.grownBy w1 x.v.ownBlock) (h3:x.v.ownBlock=some g\/w.heap.size<=g) :
    Fo B (w1.setCell ⟨pb,k,none⟩ (sO g ((L k).length+1) cap)) v (vs.set k ⟨some ⟨g,0,none⟩,(L k).length+1,cap⟩) (fun j=>if j=k then L k++[y]else L j)/\Kp (fun j=>v.ownBlock=some j\/x.v.ownBlock=some j) w (w1.setCell ⟨pb,k,none⟩ (sO g ((L k).length+1) cap)):=by
 have hks:=(lG.1 hk).1;have K2:=Kp.grownBy (S:=fun j=>x.v.ownBlock=some j) h2 (fun _ h=>h);have sp1:=ax K2 h.row (fun j e e2=>aH h.row (h.each k x hk) (by decide) j e e2);have sp2:=sp1;rw[hpv]at sp2;obtain⟨so,sk⟩:=jA sp2 k (sO g ((L k).length+1) cap);have hpb:v.ownBlock=some pb:=by rw[hpv];rfl
 have SE:∀{n:Nat} {u:Value} {us:List Value},w1.ownsRow B 3 1 u n us->(w1.setCell ⟨pb,k,none⟩ (sO g ((L k).length+1) cap)).ownsRow B 3 1 u n us:=fun o=>ax sk o (fun j e e2=>aH o sp1 (by decide) j e (by rw[e2];exact hpb));have get:∀(j:Nat) (x':LV),(vs.set k ⟨some ⟨g,0,none⟩,(L k).length+1,cap⟩)[j]? =some x'->(j=k/\x'=⟨some ⟨g,0,none⟩,(L k).length+1,cap⟩)\/(j≠k/\vs[j]? =some x'):=fun j x' hj=>by
  rw[List.getElem?_set]at hj;by_cases e:k=j
  ·subst e;rw[if_pos rfl,if_pos hks]at hj;exact Or.inl ⟨rfl,(oJ hj).symm⟩
  ·rw[if_neg e]at hj;exact Or.inr ⟨fun e2=>e e2.symm,hj⟩
 have EX:∀(j:Nat) (x':LV),vs[j]? =some x'->∀b,x'.v.ownBlock=some b->b<w.heap.size:=fun j x' hj b e=>(aM (h.each j x' hj) b e).2;refine⟨⟨?_, ?_, ?_⟩, ?_⟩
 ·rw[hpv];refine aV so (by simp) ?_;have:=vK EL vs k 0 x ⟨some ⟨g,0,none⟩,(L k).length+1,cap⟩ (sO g ((L k).length+1) cap) hk (by decide) rfl;rw[show EL.k=1 from rfl,Nat.mul_one,nO]at this;exact this
 ·intro j x' hj;rcases get j x' hj with⟨rfl,rfl⟩|⟨hne,hj⟩
  ·simp only[if_true];exact aV (SE h1) (by simp) (by rw[aT,dM])
  ·simp only[if_neg hne];exact SE (ax K2 (h.each j x' hj) (fun b e e2=>hne (h.apart k x hk b e2 j x' hj e)))
 ·intro j x' hj b hb;rcases get j x' hj with⟨rfl,rfl⟩|⟨hne,hj2⟩
  ·obtain rfl:g=b:=(by simpa[Value.ownBlock]using hb);intro k' x' hk' e;rcases get k' x' hk' with⟨rfl,_⟩|⟨hne',hk'⟩
   ·rfl
   ·rcases h3 with h3|h3
    ·exact h.apart j x hk g h3 k' x' hk' e
    ·have:=EX k' x' hk' g e;omega
  ·intro k' t hk' e;rcases get k' t hk' with⟨rfl,rfl⟩|⟨_,hk2⟩
   ·obtain rfl:g=b:=(by simpa[Value.ownBlock]using e);rcases h3 with h3|h3
    ·exact h.apart j x' hj2 g hb k' x hk h3
    ·have:=EX j x' hj2 g hb;omega
   ·exact h.apart j x' hj2 b hb k' t hk2 e
 ·exact(K2.mono (T:=fun j=>v.ownBlock=some j\/x.v.ownBlock=some j) (fun j e=>Or.inr e)).trans sk (fun j _ e=>Or.inl (by rw[e];exact hpb))
theorem Fo.put(h:Fo B w v vs L){x:LV}(hk:vs[k]? =some x)(h2:w.grownBy w1 x.v.ownBlock)(h1:w1.ownsRow B 3 1 x.v l.length (fl EI l)):Fo B w1 v vs (fun j=>if j=k then l else L j)/\Kp (fun j=>x.v.ownBlock=some j) w w1:=by
 have K2:=Kp.grownBy (S:=fun j=>x.v.ownBlock=some j) h2 (fun _ h=>h);refine⟨⟨ax K2 h.row (fun j e e2=>aH h.row (h.each k x hk) (by decide) j e e2),fun j x' hj=> ?_,h.apart⟩,K2⟩;by_cases e:j=k
 ·subst e;rw[hk]at hj;obtain rfl:=oJ hj;simp only[if_true];exact h1
 ·simp only[if_neg e];exact ax K2 (h.each j x' hj) (fun b e1 e2=>e (h.apart k x hk b e2 j x' hj e1))
theorem Fo.blocks(h:Fo B w v vs L){x:LV}(hk:vs[k]? =some x):∀j,v.ownBlock=some j\/x.v.ownBlock=some j->B<=j:=fun j e=>by
 rcases e with e|e
 ·exact(aM h.row j e).1
 ·exact(aM (h.each k x hk) j e).1
theorem Fo.other(h:Fo B w v vs L){x:LV}(hk:vs[k]? =some x)(hK:Kp (fun j=>v.ownBlock=some j\/x.v.ownBlock=some j) w w'){B2:Nat}{T:TypeId}{u:Value}{us:List Value}(ho:w.ownsRow B2 T size u n us)(hT:T≠3)(hT2:T≠97):w'.ownsRow B2 T size u n us:=
 ax hK ho (fun j e e2=>by
  rcases e2 with e2|e2
  ·exact aH ho h.row hT2 j e e2
  ·exact aH ho (h.each k x hk) hT j e e2)
end
theorem Gs{w':World}{os:Array Obj}(h:w.ownsRow B 3 1 (sO g l.length cap) l.length (fl EI l))(hw:w'=grow (putRow (Value.int .i64) (Sort.ahead w n) g 0 (ik l).toArray) os):w'.ownsRow B 3 1 (sO g l.length cap) (ik l).length (fl EI (ik l))/\w.grownBy w' (some g):=by
 subst hw;refine⟨?_,grownBy_sortedI _⟩;rcases h.2 with⟨h0,_⟩|⟨g',cap',cur,hv,hbase,hb,h1,h2,h3,h4⟩
 ·cases h0
 ·simp only[vS,oI,aI]at hv;obtain⟨⟨rfl,-,-⟩,-,rfl⟩:=hv;have:=ownsRow_sortedI (n:=n) (os:=os) (ts:=ik l) (ss:=l) (wH l) hbase hb h1 h2 h3;rw[wH,PQ];exact this
theorem Ag(h:w.ownsRow B 3 1 (sO g l.length cap) l.length (fl EI l)):Holds (Value.int .i64) w g 0 l.toArray/\g<w.heap.size:=by
 rcases h.2 with⟨h0,_⟩|⟨g',cap',cur,hv,hbase,hb,h1,h2,h3,h4⟩
 ·cases h0
 ·simp only[vS,oI,aI]at hv;obtain⟨⟨rfl,-,-⟩,-,rfl⟩:=hv;rw[PQ,Nat.mul_one]at h4;exact⟨holds_of_blockI hb h4,(aG.1 hb).1⟩
theorem Sq{x:LV}(h:w.ownsRow B 3 1 x.v l.length (fl EI l)):(l=[]/\x.q=none/\x.m=0)\/∃g,x.q=some ⟨g,0,none⟩/\x.m=l.length:=by
 obtain⟨q,m,c⟩:=x;rcases h.2 with⟨h0,h1⟩|⟨g',cap',cur,hv,hbase,hb,h1,h2,h3,h4⟩
 ·simp only[vS]at h0;exact Or.inl ⟨List.length_eq_zero_iff.1 (by omega),h0.1,h0.2.1⟩
 ·simp only[vS]at hv;exact Or.inr ⟨g',hv.1,hv.2.1⟩
end Df
end Go.Proofs.YtiiefcalkjeieaaGreat
