import Derived.Test.YteekbpokkjjipaaGreatJ18
import Derived.Sort.OwnSortedInts
variable{ls:List (List Int)}{k i p q n B x g cap:Nat}{us:List Nat}{l:List Int}{a:Int}{w:Go.World}
namespace Go.Proofs.YteekbpokkjjipaaGreat
namespace Df
open Go.RowKit Go.Sort
theorem sub_le{α:Type}[BEq α][LawfulBEq α]:∀(l m:List α),l.Nodup->(∀x∈l,x∈m)->l.length<=m.length:=by
 intro l
 induction l with
 | nil => intro m _ _;simp
 | cons x l ih=>
  intro m hd hs;have hx:=hs x (by simp);have h1:=ih (m.erase x) (List.nodup_cons.1 hd).2 (fun y hy=>by
   have hne:y≠x:=fun e=>(List.nodup_cons.1 hd).1 (e ▸ hy);exact(List.mem_erase_of_ne hne).2 (hs y (by simp[hy])))
  have h2:=(List.perm_cons_erase hx).length_eq;simp only[lC]at h2⊢;omega
theorem all_in(hd:us.Nodup)(hb:∀x∈us,x<n)(hl:us.length=n):∀k,k<n->k∈us:=fun k hk=>by
 by_cases h:k∈us
 ·exact h
 ·have h1:=sub_le (k::us) (List.range n) (List.nodup_cons.2 ⟨h,hd⟩) (fun x hx=>by
    rcases fF.1 hx with rfl|hx
    ·exact List.mem_range.2 hk
    ·exact List.mem_range.2 (hb x hx))
  simp at h1;omega
theorem xN(C:Nat->Nat){l:List Nat}(h:x∈l):(l.map C).sum=C x+((l.erase x).map C).sum:=by
 have h1:=((List.perm_cons_erase h).map C).sum_nat;simpa using h1
theorem KP(C:Nat->Nat):∀(us m:List Nat),us.Nodup->(∀x∈us,x∈m)->(us.map C).sum<=(m.map C).sum:=by
 intro us
 induction us with
 | nil => intro m _ _;simp
 | cons x us ih=>
  intro m hd hs;have h1:=ih (m.erase x) (List.nodup_cons.1 hd).2 (fun y hy=>by
   have hne:y≠x:=fun e=>(List.nodup_cons.1 hd).1 (e ▸ hy);exact(List.mem_erase_of_ne hne).2 (hs y (by simp[hy])))
  rw[xN C (hs x (by simp)),List.map_cons,List.sum_cons];omega
theorem TL(C:Nat->Nat):∀(m us:List Nat),m.Nodup->(∀x∈m,C x≠0->x∈us)->(m.map C).sum<=(us.map C).sum:=by
 intro m
 induction m with
 | nil => intro us _ _;simp
 | cons x m ih=>
  intro us hd hs;by_cases hc:C x=0
  ·rw[List.map_cons,List.sum_cons,hc];have:=ih us (List.nodup_cons.1 hd).2 (fun y hy=>hs y (by simp[hy]));omega
  ·have hx:=hs x (by simp) hc;have h1:=ih (us.erase x) (List.nodup_cons.1 hd).2 (fun y hy hy2=>by
    have hne:y≠x:=fun e=>(List.nodup_cons.1 hd).1 (e ▸ hy);exact(List.mem_erase_of_ne hne).2 (hs y (by simp[hy]) hy2))
   rw[xN C hx,List.map_cons,List.sum_cons];omega
def OT(ls:List (List Int))(k p:Nat):Nat:=((ls[p]?).getD []).count (k:Int)
theorem II:OT ls k p≠0↔Sp ls p k:=by
 unfold OT Sp;cases ls[p]? with
 | none => simp
 | some l => simp[List.count_eq_zero]
theorem wD(ls:List (List Int))(k:Nat):iy ls (k:Int)=((List.range ls.length).map (OT ls k)).sum:=by
 unfold iy
 congr 1
 refine List.ext_getElem (by simp) fun i h1 h2=> ?_;simp[OT,List.getElem?_eq_getElem (show i<ls.length by simpa using h1)]
structure Oi(ls:List (List Int))(us:List Nat)(f:Nat->Int):Prop where
 nd:us.Nodup
 bd:∀x∈us,x<ls.length
 lo:∀k∈us,f k<=-1
 hi:∀k,k∉us->f k=(iy ls (k:Int):Int)-((us.map (OT ls k)).sum:Nat)
 Xg:∀j q,us[j]? =some q->∀p,Sp ls p q->p∈us.take j
abbrev ints(us:List Nat):List Int:=us.map fun(u:Nat)=>(u:Int)
theorem Oi.step{ls:List (List Int)}{us:List Nat}{f:Nat->Int}{p:Nat}(h:Oi ls us f)(hz:ui ls.length f=some p):Oi ls (us++[p]) (rH ls f p):=by
 unfold ui at hz;rw[List.find?_range_eq_some]at hz;obtain⟨h1,h2,_⟩:=hz;have hf:f p=0:=by simpa using h1
 have hn:p<ls.length:=by simpa using h2
 have hp:p∉us:=fun e=>by have:=h.lo p e;omega
 have hpre:∀r,Sp ls r p->r∈us:=fun r hr=>by
  by_cases e:r∈us
  ·exact e
  ·have h3:=KP (OT ls p) (r::us) (List.range ls.length) (List.nodup_cons.2 ⟨e,h.nd⟩) (fun x hx=>by
     rcases fF.1 hx with rfl|hx
     ·exact List.mem_range.2 hr.lt
     ·exact List.mem_range.2 (h.bd x hx))
   rw[<-wD,List.map_cons,List.sum_cons]at h3;have h4:=h.hi p hp;have h5:=II.2 hr;omega
 refine⟨?_, ?_, ?_, ?_, ?_⟩
 ·rw[List.nodup_append];exact⟨h.nd,by simp,fun a ha b hb=>by
   simp at hb;subst hb;exact fun e=>hp (e ▸ ha)⟩
 ·intro x hx;rcases jQ.1 hx with hx|hx
  ·exact h.bd x hx
  ·simp at hx;omega
 ·intro k hk;unfold rH;rcases jQ.1 hk with hk|hk
  ·have:=h.lo k hk;split<;>omega
  ·simp at hk;rw[if_pos hk];omega
 ·intro k hk;have hk1:k∉us:=fun e=>hk (by simp[e]);have hk2:¬k=p:=fun e=>hk (by simp[e]);have:=h.hi k hk1;have e3:rH ls f p k=f k-(OT ls k p:Nat):=by
   unfold rH OT;rw[if_neg hk2]
  rw[e3,DD,List.sum_append];simp only[List.map_cons,List.map_nil,List.sum_cons,List.sum_nil];omega
 ·intro j q hj r hr;by_cases hjl:j<us.length
  ·rw[gL hjl]at hj;have:=h.Xg j q hj r hr;rw[List.take_append_of_le_length (by omega)];exact this
  ·have hlt:=(lG.1 hj).1;simp at hlt;obtain rfl:j=us.length:=(by omega);simp at hj;subst hj;simpa using hpre r hr
theorem LP(ls:List (List Int))(t:Nat)(ht:t<=ls.length):match eB ls.length ls t with
    | some (o, f) => ∃us:List Nat,o=ints us/\us.length=t/\Oi ls us f
    | none => ∃us:List Nat,us.Nodup/\(∀x∈us,x<ls.length)/\us.length<ls.length/\∀k,k<ls.length->k∉us->∃p,p∉us/\Sp ls p k:=by
 induction t with
 | zero => exact⟨[],rfl,rfl,⟨List.nodup_nil,(fun x hx=>by cases hx),(fun k hk=>by cases hk),(fun k _=>by simp),(fun j q hj=>by simp at hj)⟩⟩
 | succ t ih=>
  have ih:=ih (by omega);unfold eB;cases e:eB ls.length ls t with
  | none=>
   rw[e]at ih;exact ih
  | some x=>
   obtain⟨o,f⟩:=x;rw[e]at ih;obtain⟨us,h1,h2,h3⟩:=ih;dsimp only;cases e2:ui ls.length f with
   | none=>
    refine⟨us,h3.nd,h3.bd,by omega,fun k hk hku=> ?_⟩;have hf:f k≠0:=fun e=>by
     have:=List.find?_eq_none.1 e2 k (List.mem_range.2 hk);simp[e]at this
    have h4:=h3.hi k hku;apply Classical.byContradiction;intro hno;have h5:=TL (OT ls k) (List.range ls.length) us List.nodup_range (fun x _ hx=>by
     by_cases e:x∈us
     ·exact e
     ·exact absurd ⟨x,e,II.1 hx⟩ hno)
    have h6:=KP (OT ls k) us (List.range ls.length) h3.nd (fun x hx=>List.mem_range.2 (h3.bd x hx));rw[<-wD]at h5 h6;omega
   | some p=>
    exact⟨us++[p],by simp[h1,ints],by simp[h2],h3.step e2⟩
structure Or(ls:List (List Int))(us:List Nat):Prop where
 nd:us.Nodup
 bd:∀x∈us,x<ls.length
 len:us.length=ls.length
 Xg:∀(i j p q:Nat),us[i]? =some p->us[j]? =some q->Sp ls p q->i<j
theorem yc(h:us.Nodup){j:Nat}(hi:us[i]? =some x)(hj:us[j]? =some x):i=j:=by
 obtain⟨h1,h2⟩:=lG.1 hi;obtain⟨h3,h4⟩:=lG.1 hj;have hp:=List.pairwise_iff_getElem.1 h;by_cases e1:i<j
 ·exact absurd (h2.trans h4.symm) (hp i j h1 h3 e1)
 ·by_cases e2:j<i
  ·exact absurd (h4.trans h2.symm) (hp j i h3 h1 e2)
  ·omega
theorem LM{o:List Int}{f:Nat->Int}(h:eB ls.length ls ls.length=some (o,f)):∃us,o=ints us/\Or ls us:=by
 have h1:=LP ls ls.length (nR _);rw[h]at h1;obtain⟨us,h2,h3,h4⟩:=h1;refine⟨us,h2,⟨h4.nd,h4.bd,h3,fun i j p q hi hj hs=> ?_⟩⟩;obtain⟨i',hi'⟩:=List.mem_iff_getElem?.1 (h4.Xg j q hj p hs);have hlt:=(lG.1 hi').1;rw[lK]at hlt;rw[List.getElem?_take_of_lt (by omega)]at hi';rw[yc h4.nd hi hi'];omega
theorem Or.at(h:Or ls us)(hk:k<ls.length):∃i:Nat,us[i]? =some k:=List.mem_iff_getElem?.1 (all_in h.nd h.bd h.len k hk)
theorem Or.way(h:Or ls us)(hx:∀p q,Sp ls p q->q<ls.length)(l:List Nat)(hw:Wp ls l q):∀(p i j:Nat),l.head? =some p->us[i]? =some p->us[j]? =some q->i<j:=by
 induction l with
 | nil => intro p i j e;cases e
 | cons v l ih=>
  intro p i j e hi hj;simp at e;subst e;obtain⟨u,hu,h2⟩:=hw.next;rcases h2 with⟨_,rfl⟩|⟨h3,h4⟩
  ·exact h.Xg i j v u hi hj hu
  ·obtain⟨k,hk⟩:=h.at (hx v u hu);have h5:=h.Xg i k v u hi hk hu;have h6:=ih h4 u k j h3 hk hj;omega
theorem Or.none(h:Or ls us)(hx:∀p q,Sp ls p q->q<ls.length)(x m:Nat):¬Ry ls x m x:=fun⟨l,h1,h2,_⟩=>by
 have hlt:x<ls.length:=by
  cases l with
  | nil => cases h1
  | cons y l=>
   simp at h1;subst h1;exact Wp.lt _ h2 y (by simp)
 obtain⟨i,hi⟩:=h.at hlt;have:=h.way hx l h2 x i i h1 hi hi;omega
def Kb(ls:List (List Int))(f:Nat->Int)(u:Nat):Nat->Int:=fun k=>if ((k:Nat):Int)∈(ls[u]?).getD []then max (f k) (f u+1)else f k
def xS(ls:List (List Int))(us:List Nat):Nat->Int:=us.foldl (Kb ls) (fun _=>0)
theorem Lt(ls:List (List Int))(us:List Nat)(u:Nat):xS ls (us++[u])=Kb ls (xS ls us) u:=by simp[xS]
theorem pK:((q:Nat):Int)∈(ls[p]?).getD []↔Sp ls p q:=by
 unfold Sp;cases ls[p]? with
 | none => simp
 | some l => simp
structure Rk(ls:List (List Int))(us:List Nat)(t:Nat)(f:Nat->Int):Prop where
 pos:∀k,0<=f k/\f k<=t
 up:∀p q,p∈us.take t->Sp ls p q->f p+1<=f q
 held:∀q,0<f q->∃p,p∈us.take t/\Sp ls p q/\f p+1=f q
theorem Rk.all(h:Or ls us)(t:Nat)(ht:t<=us.length):Rk ls us t (xS ls (us.take t)):=by
 induction t with
 | zero => exact⟨fun k=>by simp[xS],fun p q hp=>by simp at hp,fun q hq=>by simp[xS]at hq⟩
 | succ t ih=>
  have ih:=ih (by omega);obtain⟨u,hu⟩:∃u,us[t]? =some u:=⟨us[t],by simp⟩;have hun:u∉us.take t:=fun e=>by
   obtain⟨i,hi⟩:=List.mem_iff_getElem?.1 e;have hlt:=(lG.1 hi).1;rw[lK]at hlt;rw[List.getElem?_take_of_lt (by omega)]at hi;have:=yc h.nd hi hu;omega
  have e1:us.take (t+1)=us.take t++[u]:=by rw[List.take_add_one,hu];rfl
  rw[e1,Lt];generalize xS ls (us.take t)=f at ih;have hold:∀p,p∈us.take t++[u]->Kb ls f u p=f p:=fun p hp=>by
   unfold Kb;rw[if_neg];intro e;have hs:=pK.1 e;obtain⟨i,hi⟩:=List.mem_iff_getElem?.1 (e1 ▸ hp:p∈us.take (t+1));have hlt:=(lG.1 hi).1;rw[lK]at hlt;rw[List.getElem?_take_of_lt (by omega)]at hi;have:=h.Xg t i u p hu hi hs;omega
  have hge:∀q,f q<=Kb ls f u q:=fun q=>by
   unfold Kb;split
   ·exact Int.le_max_left _ _
   ·exact Int.le_refl _
  refine⟨fun k=> ?_,fun p q hp hs=> ?_,fun q hq=> ?_⟩
  ·have h1:=ih.pos k;have h2:=ih.pos u;unfold Kb;split
   ·omega
   ·omega
  ·rw[e1]at hp;rw[hold p hp];rcases jQ.1 hp with hp|hp
   ·exact Int.le_trans (ih.up p q hp hs) (hge q)
   ·simp at hp;subst hp;unfold Kb;rw[if_pos (pK.2 hs)];exact Int.le_max_right _ _
  ·rw[e1];by_cases hs:Sp ls u q
   ·by_cases hm:f q<=f u+1
    ·refine⟨u,by simp,hs, ?_⟩;rw[hold u (by simp)];unfold Kb;rw[if_pos (pK.2 hs)];omega
    ·obtain⟨p,hp1,hp2,hp3⟩:=ih.held q (by have:=(ih.pos u).1;omega);refine⟨p,by simp[hp1],hp2, ?_⟩;rw[hold p (by simp[hp1])];unfold Kb;rw[if_pos (pK.2 hs)];omega
   ·have e2:Kb ls f u q=f q:=by
      unfold Kb;rw[if_neg (fun e=>hs (pK.1 e))]
    rw[e2]at hq⊢;obtain⟨p,hp1,hp2,hp3⟩:=ih.held q hq;exact⟨p,by simp[hp1],hp2,by rw[hold p (by simp[hp1])];exact hp3⟩
def Qr(c:dF):Bool:=decide (c.via=(0,0,0))
def OQ(ns:List df)(i:Nat)(c:dF):Nat:=bK ns i+c.cO.toNat
def cOut(ns:List df)(i:Nat)(c:dF):Nat:=bK ns i+(match ns[i]? with|some n=>n.ins.toNat|none=>0)+c.o.toNat
def NT(ns:List df)(i:Nat)(c:dF):Nat×Nat:=(OQ ns i c,cOut ns i c)
def nS(ns:List df)(i:Nat)(l:List dF):List (Nat×Nat):=(l.filter Qr).map (NT ns i)
def kS(ns:List df):Nat->List (Nat×Nat)
 | 0 => []
 | i + 1 => kS ns i++nS ns i (cZ ns (i:Int))
def QY(ns:List df)(d:dI):Nat×Nat:=(dW ns d,iF ns d)
def jO(ns:List df)(es:List dI):List (Nat×Nat):=es.map (QY ns)
def iD(g:bI):List (Nat×Nat):=jO g.nodes g.aL++kS g.nodes g.nodes.length
def aY(l:List (Nat×Nat))(k:Nat):List Int:=(l.filter fun p=>p.1==k).map fun p=>((p.2:Nat):Int)
def gP(l:List Int):List Int:=l.mergeSort fun x y=>decide (x<=y)
def gU(g:bI):List (List Int):=(List.range (bg g.nodes)).map fun k=>gP (aY (iD g) k)
theorem vU(l:List (Nat×Nat))(p:Nat×Nat)(k:Nat):aY (l++[p]) k=if k=p.1 then aY l p.1++[((p.2:Nat):Int)]else aY l k:=by
 unfold aY;rw[List.filter_append,DD];by_cases h:k=p.1
 ·subst h;simp
 ·have h2:¬p.1=k:=fun e=>h e.symm;simp[h,h2]
theorem nG(l:List (Nat×Nat))(k:Nat):(aY l k).length<=l.length:=by
 unfold aY;rw[fG];exact List.length_filter_le _ _
theorem uE(l:List Int):(gP l).length=l.length:=List.length_mergeSort l
theorem uD{x:Int}:x∈gP l↔x∈l:=(List.mergeSort_perm l _).mem_iff
theorem ru{l:List (Nat×Nat)}{x:Int}:x∈aY l k↔∃q:Nat,x=(q:Int)/\(k,q)∈l:=by
 unfold aY;constructor
 ·intro h;obtain⟨p,hp,rfl⟩:=mM.1 h;obtain⟨h1,h2⟩:=mF.1 hp;obtain⟨a,b⟩:=p;have h3:a=k:=by simpa using h2
  subst h3;exact⟨b,rfl,h1⟩
 ·rintro⟨q,rfl,h⟩;exact mM.2 ⟨(k,q),mF.2 ⟨h,by simp⟩,rfl⟩
theorem tH(g:bI):(gU g).length=bg g.nodes:=by simp[gU]
theorem zn{g:bI}(hk:k<bg g.nodes):(gU g)[k]? =some (gP (aY (iD g) k)):=by simp[gU,hk]
theorem EY{n:df}(h:ek a n=0):(Hl n.kind n.ins=true/\p8 n.kind n.outs=true)/\jB a n=0:=by
 unfold ek at h;split at h
 ·cases h
 ·split at h
  ·cases h
  ·split at h
   ·cases h
   ·rename_i h1 h2 h3;exact⟨Classical.not_not.1 h2,h⟩
theorem Oh{o:Nat}{c:dF}(h:c∈kv o i):0<=c.cO/\c.cO<(i:Int)/\0<=c.o/\c.o<(o:Int):=by
 induction i with
 | zero => cases h
 | succ i ih=>
  unfold kv at h;rcases jQ.1 h with h|h
  ·have:=ih h;omega
  ·unfold nP at h;obtain⟨p,hp,rfl⟩:=mM.1 h;have:=List.mem_range.1 hp;dsimp only;omega
theorem Db{n:df}(h:ek a n=0){c:dF}(hc:c∈fE n):(0<=c.cO/\c.cO<n.ins)/\(0<=c.o/\c.o<n.outs):=by
 obtain⟨⟨h1,h2⟩,h3⟩:=EY h;have h4:=jD h;unfold fE at hc;split at hc
 ·rename_i hk;simp at hc;subst hc;unfold Hl at h1;unfold p8 at h2;rw[if_neg (by omega),if_neg (by omega),if_neg (by omega)]at h1;rw[if_neg (by omega),if_neg (by omega)]at h2;simp at h1 h2;dsimp only;omega
 ·split at hc
  ·rename_i hk;unfold jB at h3;rw[if_neg (by omega),if_neg (by omega),if_pos hk]at h3;split at h3
   ·rename_i hok;obtain⟨j,hj⟩:=List.mem_iff_getElem?.1 hc;have:=(tX.1 hok).2 j c hj;exact⟨this.1,this.2.1⟩
   ·cases h3
  ·have:=Oh hc;omega
theorem F4{n:df}(h:ek a n=0):(fE n).length<=16:=by
 have h4:=jD h;unfold fE;split
 ·simp
 ·split
  ·exact(mE h).2
  ·rw[rY];have h1:n.ins.toNat<=4:=(by omega);have h2:n.outs.toNat<=4:=(by omega);exact nT (Nat.mul_le_mul h1 h2) (by decide)
theorem mR(ns:List df)(i:Nat):cZ ns (i:Int)=match ns[i]? with|some n=>fE n|none=>[]:=by
 unfold cZ iZ;rw[if_pos (by omega)];rfl
theorem gI.VU{g:bI}(h:gI g){c:dF}(hc:c∈cZ g.nodes (i:Int)):eP g.nodes (i:Int) c.cO=true/\eO g.nodes (i:Int) c.o=true:=by
 rw[mR]at hc;cases e:g.nodes[i]? with
 | none => rw[e]at hc;cases hc
 | some n=>
  rw[e]at hc;have hn:=h.ng i n (lG.1 e).1 e;have hg:=Db hn hc;unfold eP eO iZ;rw[if_pos (by omega),show((i:Nat):Int).toNat=i by omega,e];simp only[decide_eq_true_eq];exact hg
theorem gI.Ar{g:bI}(h:gI g)(i:Nat):(cZ g.nodes (i:Int)).length<=16:=by
 rw[mR];cases e:g.nodes[i]? with
 | none => simp
 | some n => exact F4 (h.ng i n (lG.1 e).1 e)
theorem F9{ns:List df}{c:dF}(h:eP ns (i:Int) c.cO=true):OI ns (i:Int) c.cO=(OQ ns i c:Nat):=by
 obtain⟨n,hn,h0,_,h1,_⟩:=vO h;unfold OI OQ;rw[if_pos h,show((i:Nat):Int).toNat=i by omega]
 push_cast
 omega
theorem Ay{ns:List df}{c:dF}(hp:Tc ns)(h:eO ns (i:Int) c.o=true):xk ns (i:Int) c.o=(cOut ns i c:Nat):=by
 obtain⟨n,hn,h0,_,h1,_⟩:=qh h;rw[show((i:Nat):Int).toNat=i by omega]at hn;have:=hp n (lM hn);unfold xk cOut;rw[if_pos h,show((i:Nat):Int).toNat=i by omega,hn]
 push_cast
 omega
theorem wJ{ns:List df}{c:dF}(h:eP ns (i:Int) c.cO=true):OQ ns i c<bg ns:=by
 obtain⟨n,hn,_,_,h1,h2⟩:=vO h;rw[show((i:Nat):Int).toNat=i by omega]at hn;have:=Bw (p:=c.cO.toNat) hn (lG.1 hn).1 (by omega);exact(lG.1 this).1
theorem Aw{ns:List df}{c:dF}(h:eO ns (i:Int) c.o=true):cOut ns i c<bg ns:=by
 obtain⟨n,hn,_,_,h1,h2⟩:=qh h;rw[show((i:Nat):Int).toNat=i by omega]at hn;have:=xP (p:=c.o.toNat) hn (lG.1 hn).1 (by omega);unfold cOut;rw[hn];exact(lG.1 this).1
theorem mh{ns:List df}{d:dI}(h:eO ns d.src d.o=true):dW ns d<bg ns:=(lG.1 (uW h)).1
theorem Ab{ns:List df}{d:dI}(h:eP ns d.dst d.cO=true):iF ns d<bg ns:=(lG.1 (Aa h)).1
theorem uY{ns:List df}{m:Nat}{p:Nat×Nat}:p∈kS ns m↔∃i c,i<m/\c∈cZ ns ((i:Nat):Int)/\Qr c=true/\p=NT ns i c:=by
 induction m with
 | zero => simp[kS]
 | succ m ih=>
  unfold kS;rw[jQ,ih];constructor
  ·rintro(⟨i,c,h1,h2⟩|h)
   ·exact⟨i,c,by omega,h2⟩
   ·unfold nS at h;obtain⟨c,hc,rfl⟩:=mM.1 h;obtain⟨h1,h2⟩:=mF.1 hc;exact⟨m,c,by omega,h1,h2,rfl⟩
  ·rintro⟨i,c,h1,h2,h3,rfl⟩;by_cases e:i=m
   ·subst e;exact Or.inr (mM.2 ⟨c,mF.2 ⟨h2,h3⟩,rfl⟩)
   ·exact Or.inl ⟨i,c,by omega,h2,h3,rfl⟩
theorem BQ{g:bI}(h:gI g)(m:Nat):(kS g.nodes m).length<=16*m:=by
 induction m with
 | zero => simp[kS]
 | succ m ih=>
  unfold kS nS;rw[dH,fG];have h1:=List.length_filter_le Qr (cZ g.nodes (m:Int));have h2:=h.Ar m;omega
theorem GK{g:bI}(h:gI g):(iD g).length<=432:=by
 unfold iD jO;rw[dH,fG];have h1:=BQ h g.nodes.length;have h2:=h.nl;have h3:=h.el;omega
theorem KQ{g:bI}(h:gI g)(hm:(p,q)∈iD g):p<bg g.nodes/\q<bg g.nodes:=by
 unfold iD at hm;rcases jQ.1 hm with hm|hm
 ·obtain⟨d,hd,e⟩:=mM.1 hm;obtain⟨j,hj⟩:=List.mem_iff_getElem?.1 hd;have:=h.ends hj;unfold QY at e;simp only[Prod.mk.injEq]at e;rw[<-e.1,<-e.2];exact⟨mh this.1,Ab this.2⟩
 ·obtain⟨i,c,_,h2,_,e⟩:=uY.1 hm;have:=h.VU h2;unfold NT at e;simp only[Prod.mk.injEq]at e;rw[e.1,e.2];exact⟨wJ this.1,Aw this.2⟩
theorem mf{g:bI}(h:gI g):bg g.nodes<=192:=by
 have h1:=nH h.jW g.nodes.length;have h2:=h.nl;unfold bg;unfold bK at h1;omega
theorem TS{g:bI}(h:gI g):Sp (gU g) p q↔(p,q)∈iD g:=by
 constructor
 ·rintro⟨l,h1,h2⟩;have hp:=(lG.1 h1).1;rw[tH]at hp;rw[zn hp,oI]at h1;subst h1;obtain⟨q',e,h3⟩:=ru.1 (uD.1 h2);obtain rfl:q=q':=by omega
  exact h3
 ·intro hm;exact⟨_,zn (KQ h hm).1,uD.2 (ru.2 ⟨q,rfl,hm⟩)⟩
theorem Bu{g:bI}(h:gI g):(gU g).length<=1000/\∀l∈gU g,l.length<=1000/\∀x∈l,0<=x/\x<((gU g).length:Int):=by
 have h1:=mf h;rw[tH];refine⟨by omega,fun l hl=> ?_⟩;obtain⟨k,hk,rfl⟩:=mM.1 hl;refine⟨?_,fun x hx=> ?_⟩
 ·rw[uE];exact nT (nG _ _) (nT (GK h) (by decide))
 ·obtain⟨q,rfl,hq⟩:=ru.1 (uD.1 hx);have:=(KQ h hq).2;omega
structure Fo(B:Nat)(w:World)(v:Value)(vs:List LV)(L:Nat->List Int):Prop where
 row:w.ownsRow B 97 1 v vs.length (fl EL vs)
 each:∀(k:Nat) (x:LV),vs[k]? =some x->w.ownsRow B 3 1 x.v (L k).length (fl EI (L k))
 apart:∀(k:Nat) (x:LV),vs[k]? =some x->∀b,x.v.ownBlock=some b->∀(k':Nat) (x':LV),vs[k']? =some x'->x'.v.ownBlock=some b->k'=k
section
variable {B:Nat} {w w1 w':World} {v:Value} {vs:List LV} {L L':Nat->List Int}
theorem Fo.below(h:Fo B w v vs L)(hb:Below w.heap.size w w'):Fo B w' v vs L:=⟨ag h.row hb,fun k x hk=>ag (h.each k x hk) hb,h.apart⟩
theorem Fo.re(h:Fo B w v vs L)(hL:∀k,k<vs.length->L k=L' k):Fo B w v vs L':=⟨h.row,fun k x hk=>by rw[<-hL k (lG.1 hk).1];exact h.each k x hk,h.apart⟩
theorem Fo.ff(h:Fo B w v vs L)(hl:ls.length=vs.length)(hg:∀k l,ls[k]? =some l->l=L k):Ff w.heap.size w v ls:=
 ⟨vs,iM (E:=EL) h.row,hl.symm,fun i x l hx hls=>by rw[hg i l hls];exact iM (E:=EI) (h.each i x hx)⟩
theorem Fo.step(h:Fo B w v vs L){k pb pc g cap:Nat}{x:LV}(hk:vs[k]? =some x)(hpv:v= .slice (some ⟨pb,0,none⟩) vs.length pc){y:Int}
    (h1:w1.ownsRow B 3 1 (.slice (some ⟨g,0,none⟩) ((L k).length+1) cap) ((L k).length+1) (fl EI (L k)++EI.enc y)) (h2:w.grownBy w1 x.v.ownBlock) (h3:x.v.ownBlock=some g\/w.heap.size<=g) :
    Fo B (w1.setCell ⟨pb,k,none⟩ (.slice (some ⟨g,0,none⟩) ((L k).length+1) cap)) v (vs.set k ⟨some ⟨g,0,none⟩,(L k).length+1,cap⟩) (fun j=>if j=k then L k++[y]else L j)/\Kp (fun j=>v.ownBlock=some j\/x.v.ownBlock=some j) w (w1.setCell ⟨pb,k,none⟩ (.slice (some ⟨g,0,none⟩) ((L k).length+1) cap)):=by
 have hks:=(lG.1 hk).1;have K2:=Kp.grownBy (S:=fun j=>x.v.ownBlock=some j) h2 (fun _ h=>h);have sp1:=ay K2 h.row (fun j e e2=>aC h.row (h.each k x hk) (by decide) j e e2);have sp2:=sp1;rw[hpv]at sp2;obtain⟨so,sk⟩:=iY sp2 k (.slice (some ⟨g,0,none⟩) ((L k).length+1) cap);have hpb:v.ownBlock=some pb:=by rw[hpv];rfl
 have Qb:∀{n:Nat} {u:Value} {us:List Value},w1.ownsRow B 3 1 u n us->(w1.setCell ⟨pb,k,none⟩ (.slice (some ⟨g,0,none⟩) ((L k).length+1) cap)).ownsRow B 3 1 u n us:=fun o=>ay sk o (fun j e e2=>aC o sp1 (by decide) j e (by rw[e2];exact hpb));have get:∀(j:Nat) (x':LV),(vs.set k ⟨some ⟨g,0,none⟩,(L k).length+1,cap⟩)[j]? =some x'->(j=k/\x'=⟨some ⟨g,0,none⟩,(L k).length+1,cap⟩)\/(j≠k/\vs[j]? =some x'):=fun j x' hj=>by
  rw[List.getElem?_set]at hj;by_cases e:k=j
  ·subst e;rw[if_pos rfl,if_pos hks]at hj;exact Or.inl ⟨rfl,(Option.some.inj hj).symm⟩
  ·rw[if_neg e]at hj;exact Or.inr ⟨fun e2=>e e2.symm,hj⟩
 have CY:∀(j:Nat) (x':LV),vs[j]? =some x'->∀b,x'.v.ownBlock=some b->b<w.heap.size:=fun j x' hj b e=>(aH (h.each j x' hj) b e).2;refine⟨⟨?_, ?_, ?_⟩, ?_⟩
 ·rw[hpv];refine aP so (by simp) ?_;have:=tT EL vs k 0 x ⟨some ⟨g,0,none⟩,(L k).length+1,cap⟩ (.slice (some ⟨g,0,none⟩) ((L k).length+1) cap) hk (by decide) rfl;rw[show EL.k=1 from rfl,Nat.mul_one,nO]at this;exact this
 ·intro j x' hj;rcases get j x' hj with⟨rfl,rfl⟩|⟨hne,hj⟩
  ·simp only[if_true];exact aP (Qb h1) (by simp) (by rw[aS,dK])
  ·simp only[if_neg hne];exact Qb (ay K2 (h.each j x' hj) (fun b e e2=>hne (h.apart k x hk b e2 j x' hj e)))
 ·intro j x' hj b hb;rcases get j x' hj with⟨rfl,rfl⟩|⟨hne,hj2⟩
  ·obtain rfl:g=b:=(by simpa[Value.ownBlock]using hb);intro k' x' hk' e;rcases get k' x' hk' with⟨rfl,_⟩|⟨hne',hk'⟩
   ·rfl
   ·rcases h3 with h3|h3
    ·exact h.apart j x hk g h3 k' x' hk' e
    ·have:=CY k' x' hk' g e;omega
  ·intro k' t hk' e;rcases get k' t hk' with⟨rfl,rfl⟩|⟨_,hk2⟩
   ·obtain rfl:g=b:=(by simpa[Value.ownBlock]using e);rcases h3 with h3|h3
    ·exact h.apart j x' hj2 g hb k' x hk h3
    ·have:=CY j x' hj2 g hb;omega
   ·exact h.apart j x' hj2 b hb k' t hk2 e
 ·exact(K2.mono (T:=fun j=>v.ownBlock=some j\/x.v.ownBlock=some j) (fun j e=>Or.inr e)).trans sk (fun j _ e=>Or.inl (by rw[e];exact hpb))
theorem Fo.put(h:Fo B w v vs L){x:LV}(hk:vs[k]? =some x)(h2:w.grownBy w1 x.v.ownBlock)(h1:w1.ownsRow B 3 1 x.v l.length (fl EI l)):Fo B w1 v vs (fun j=>if j=k then l else L j)/\Kp (fun j=>x.v.ownBlock=some j) w w1:=by
 have K2:=Kp.grownBy (S:=fun j=>x.v.ownBlock=some j) h2 (fun _ h=>h);refine⟨⟨ay K2 h.row (fun j e e2=>aC h.row (h.each k x hk) (by decide) j e e2),fun j x' hj=> ?_,h.apart⟩,K2⟩;by_cases e:j=k
 ·subst e;rw[hk]at hj;obtain rfl:=Option.some.inj hj;simp only[if_true];exact h1
 ·simp only[if_neg e];exact ay K2 (h.each j x' hj) (fun b e1 e2=>e (h.apart k x hk b e2 j x' hj e1))
theorem Fo.blocks(h:Fo B w v vs L){x:LV}(hk:vs[k]? =some x):∀j,v.ownBlock=some j\/x.v.ownBlock=some j->B<=j:=fun j e=>by
 rcases e with e|e
 ·exact(aH h.row j e).1
 ·exact(aH (h.each k x hk) j e).1
theorem Fo.other(h:Fo B w v vs L){x:LV}(hk:vs[k]? =some x)(hK:Kp (fun j=>v.ownBlock=some j\/x.v.ownBlock=some j) w w'){B2:Nat}{T:TypeId}{size:Nat}{u:Value}{us:List Value}(ho:w.ownsRow B2 T size u n us)(hT:T≠3)(hT2:T≠97):w'.ownsRow B2 T size u n us:=
 ay hK ho (fun j e e2=>by
  rcases e2 with e2|e2
  ·exact aC ho h.row hT2 j e e2
  ·exact aC ho (h.each k x hk) hT j e e2)
end
theorem Er{w':World}{os:Array Obj}(h:w.ownsRow B 3 1 (.slice (some ⟨g,0,none⟩) l.length cap) l.length (fl EI l))(hw:w'=grow (putRow (Value.int .i64) (Sort.ahead w n) g 0 (gP l).toArray) os):w'.ownsRow B 3 1 (.slice (some ⟨g,0,none⟩) l.length cap) (gP l).length (fl EI (gP l))/\w.grownBy w' (some g):=by
 subst hw;refine⟨?_,grownBy_sortedI _⟩;rcases h.2 with⟨h0,_⟩|⟨g',cap',cur,hv,hbase,hb,h1,h2,h3,h4⟩
 ·cases h0
 ·simp only[vS,oI,aI]at hv;obtain⟨⟨rfl,-,-⟩,-,rfl⟩:=hv;have:=ownsRow_sortedI (n:=n) (os:=os) (ts:=gP l) (ss:=l) (uE l) hbase hb h1 h2 h3;rw[uE,NC];exact this
theorem yE(h:w.ownsRow B 3 1 (.slice (some ⟨g,0,none⟩) l.length cap) l.length (fl EI l)):Holds (Value.int .i64) w g 0 l.toArray/\g<w.heap.size:=by
 rcases h.2 with⟨h0,_⟩|⟨g',cap',cur,hv,hbase,hb,h1,h2,h3,h4⟩
 ·cases h0
 ·simp only[vS,oI,aI]at hv;obtain⟨⟨rfl,-,-⟩,-,rfl⟩:=hv;rw[NC,Nat.mul_one]at h4;exact⟨holds_of_blockI hb h4,(aG.1 hb).1⟩
theorem PS{x:LV}(h:w.ownsRow B 3 1 x.v l.length (fl EI l)):(l=[]/\x.q=none/\x.m=0)\/∃g,x.q=some ⟨g,0,none⟩/\x.m=l.length:=by
 obtain⟨q,m,c⟩:=x;rcases h.2 with⟨h0,h1⟩|⟨g',cap',cur,hv,hbase,hb,h1,h2,h3,h4⟩
 ·simp only[vS]at h0;exact Or.inl ⟨List.length_eq_zero_iff.1 (by omega),h0.1,h0.2.1⟩
 ·simp only[vS]at hv;exact Or.inr ⟨g',hv.1,hv.2.1⟩
end Df
end Go.Proofs.YteekbpokkjjipaaGreat
