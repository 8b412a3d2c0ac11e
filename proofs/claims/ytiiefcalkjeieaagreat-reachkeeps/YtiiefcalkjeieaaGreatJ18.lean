import Derived.Test.YtiiefcalkjeieaaGreatJ17
import Derived.Sort.OwnSortedInts
import Derived.Test.YtiiefcalkjeieaaGreatKSo
variable{ls:List (List Int)}{k i n p q B g x cap:Nat}{us:List Nat}{l:List Int}{w:Go.World}{a:Int}
set_option maxHeartbeats 8000000
set_option maxRecDepth 100000
namespace Go.Proofs.YtiiefcalkjeieaaGreat
namespace Df
open Go.RowKit Go.Sort
theorem sub_le{α:Type}[BEq α][LawfulBEq α]:∀(l m:List α),l.Nodup->(∀x∈l,x∈m)->l.length<=m.length:=by
 intro l
 induction l with
 | nil => intro m _ _;simp
 | cons x l ih=>
  intro m hd hs;have hx:=hs x (by simp);have h1:=ih (m.erase x) (List.nodup_cons.1 hd).2 (fun y hy=>by
   have hne:y≠x:=fun e=>(List.nodup_cons.1 hd).1 (e ▸ hy);exact(List.mem_erase_of_ne hne).2 (hs y (by simp[hy])))
  have h2:=(List.perm_cons_erase hx).length_eq;simp only[lC]at h2⊢;omega
theorem all_in(hd:us.Nodup)(hb:∀x∈us,x<n)(hl:us.length=n):∀k,k<n->k∈us:=fun k hk=>by
 by_cases h:k∈us
 ·exact h
 ·have h1:=sub_le (k::us) (List.range n) (List.nodup_cons.2 ⟨h,hd⟩) (fun x hx=>by
    rcases fU.1 hx with rfl|hx
    ·exact mR.2 hk
    ·exact mR.2 (hb x hx))
  simp at h1;omega
theorem zh(C:Nat->Nat){l:List Nat}(h:x∈l):(l.map C).sum=C x+((l.erase x).map C).sum:=by
 have h1:=((List.perm_cons_erase h).map C).sum_nat;simpa using h1
theorem MQ(C:Nat->Nat):∀(us m:List Nat),us.Nodup->(∀x∈us,x∈m)->(us.map C).sum<=(m.map C).sum:=by
 intro us
 induction us with
 | nil => intro m _ _;simp
 | cons x us ih=>
  intro m hd hs;have h1:=ih (m.erase x) (List.nodup_cons.1 hd).2 (fun y hy=>by
   have hne:y≠x:=fun e=>(List.nodup_cons.1 hd).1 (e ▸ hy);exact(List.mem_erase_of_ne hne).2 (hs y (by simp[hy])))
  rw[zh C (hs x (by simp)),List.map_cons,List.sum_cons];omega
theorem VG(C:Nat->Nat):∀(m us:List Nat),m.Nodup->(∀x∈m,C x≠0->x∈us)->(m.map C).sum<=(us.map C).sum:=by
 intro m
 induction m with
 | nil => intro us _ _;simp
 | cons x m ih=>
  intro us hd hs;by_cases hc:C x=0
  ·rw[List.map_cons,List.sum_cons,hc];have:=ih us (List.nodup_cons.1 hd).2 (fun y hy=>hs y (by simp[hy]));omega
  ·have hx:=hs x (by simp) hc;have h1:=ih (us.erase x) (List.nodup_cons.1 hd).2 (fun y hy hy2=>by
    have hne:y≠x:=fun e=>(List.nodup_cons.1 hd).1 (e ▸ hy);exact(List.mem_erase_of_ne hne).2 (hs y (by simp[hy]) hy2))
   rw[zh C hx,List.map_cons,List.sum_cons];omega
def QR(ls:List (List Int))(k p:Nat):Nat:=((ls[p]?).getD []).count (k:Int)
theorem JU:QR ls k p≠0↔Sp ls p k:=by
 unfold QR Sp;cases ls[p]? with
 | none => simp
 | some l => simp[List.count_eq_zero]
theorem xX(ls:List (List Int))(k:Nat):iJ ls (k:Int)=((List.range ls.length).map (QR ls k)).sum:=by
 unfold iJ
 congr 1
 refine List.ext_getElem (by simp) fun i h1 h2=> ?_;simp[QR,List.getElem?_eq_getElem (show i<ls.length by simpa using h1)]
structure Oi(ls:List (List Int))(us:List Nat)(f:Nat->Int):Prop where
 nd:us.Nodup
 bd:∀x∈us,x<ls.length
 lo:∀k∈us,f k<=-1
 hi:∀k,k∉us->f k=(iJ ls (k:Int):Int)-((us.map (QR ls k)).sum:Nat)
 Za:∀j q,us[j]? =some q->∀p,Sp ls p q->p∈us.take j
abbrev ints(us:List Nat):List Int:=us.map fun(u:Nat)=>(u:Int)
theorem Oi.step{ls:List (List Int)}{us:List Nat}{f:Nat->Int}{p:Nat}(h:Oi ls us f)(hz:vM ls.length f=some p):Oi ls (us++[p]) (tZ ls f p):=by
 unfold vM at hz;rw[List.find?_range_eq_some]at hz;obtain⟨h1,h2,_⟩:=hz;have hf:f p=0:=by simpa using h1
 have hn:p<ls.length:=by simpa using h2
 have hp:p∉us:=fun e=>by have:=h.lo p e;omega
 have hpre:∀r,Sp ls r p->r∈us:=fun r hr=>by
  by_cases e:r∈us
  ·exact e
  ·have h3:=MQ (QR ls p) (r::us) (List.range ls.length) (List.nodup_cons.2 ⟨e,h.nd⟩) (fun x hx=>by
     rcases fU.1 hx with rfl|hx
     ·exact mR.2 hr.lt
     ·exact mR.2 (h.bd x hx))
   rw[<-xX,List.map_cons,List.sum_cons]at h3;have h4:=h.hi p hp;have h5:=JU.2 hr;omega
 refine⟨?_, ?_, ?_, ?_, ?_⟩
 ·rw[List.nodup_append];exact⟨h.nd,by simp,fun a ha b hb=>by
   simp at hb;subst hb;exact fun e=>hp (e ▸ ha)⟩
 ·intro x hx;rcases j4.1 hx with hx|hx
  ·exact h.bd x hx
  ·simp at hx;omega
 ·intro k hk;unfold tZ;rcases j4.1 hk with hk|hk
  ·have:=h.lo k hk;split<;>omega
  ·simp at hk;rw[if_pos hk];omega
 ·intro k hk;have hk1:k∉us:=fun e=>hk (by simp[e]);have hk2:¬k=p:=fun e=>hk (by simp[e]);have:=h.hi k hk1;have e3:tZ ls f p k=f k-(QR ls k p:Nat):=by
   unfold tZ QR;rw[if_neg hk2]
  rw[e3,CW,List.sum_append];simp only[List.map_cons,List.map_nil,List.sum_cons,List.sum_nil];omega
 ·intro j q hj r hr;by_cases hjl:j<us.length
  ·rw[gL hjl]at hj;have:=h.Za j q hj r hr;rw[List.take_append_of_le_length (by omega)];exact this
  ·have hlt:=(lG.1 hj).1;simp at hlt;obtain rfl:j=us.length:=(by omega);simp at hj;subst hj;simpa using hpre r hr
theorem ND(ls:List (List Int))(t:Nat)(ht:t<=ls.length):match eQ ls.length ls t with
    | some (o, f) => ∃us:List Nat,o=ints us/\us.length=t/\Oi ls us f
    | none => ∃us:List Nat,us.Nodup/\(∀x∈us,x<ls.length)/\us.length<ls.length/\∀k,k<ls.length->k∉us->∃p,p∉us/\Sp ls p k:=by
 induction t with
 | zero => exact⟨[],rfl,rfl,⟨List.nodup_nil,(fun x hx=>by cases hx),(fun k hk=>by cases hk),(fun k _=>by simp),(fun j q hj=>by simp at hj)⟩⟩
 | succ t ih=>
  have ih:=ih (by omega);unfold eQ;cases e:eQ ls.length ls t with
  | none=>
   rw[e]at ih;exact ih
  | some x=>
   obtain⟨o,f⟩:=x;rw[e]at ih;obtain⟨us,h1,h2,h3⟩:=ih;dsimp only;cases e2:vM ls.length f with
   | none=>
    refine⟨us,h3.nd,h3.bd,by omega,fun k hk hku=> ?_⟩;have hf:f k≠0:=fun e=>by
     have:=List.find?_eq_none.1 e2 k (mR.2 hk);simp[e]at this
    have h4:=h3.hi k hku;apply Classical.byContradiction;intro hno;have h5:=VG (QR ls k) (List.range ls.length) us List.nodup_range (fun x _ hx=>by
     by_cases e:x∈us
     ·exact e
     ·exact absurd ⟨x,e,JU.1 hx⟩ hno)
    have h6:=MQ (QR ls k) us (List.range ls.length) h3.nd (fun x hx=>mR.2 (h3.bd x hx));rw[<-xX]at h5 h6;omega
   | some p=>
    exact⟨us++[p],by simp[h1,ints],by simp[h2],h3.step e2⟩
structure Or(ls:List (List Int))(us:List Nat):Prop where
 nd:us.Nodup
 bd:∀x∈us,x<ls.length
 len:us.length=ls.length
 Za:∀(i j p q:Nat),us[i]? =some p->us[j]? =some q->Sp ls p q->i<j
theorem zH(h:us.Nodup){j:Nat}(hi:us[i]? =some x)(hj:us[j]? =some x):i=j:=by
 obtain⟨h1,h2⟩:=lG.1 hi;obtain⟨h3,h4⟩:=lG.1 hj;have hp:=List.pairwise_iff_getElem.1 h;by_cases e1:i<j
 ·exact absurd (h2.trans h4.symm) (hp i j h1 h3 e1)
 ·by_cases e2:j<i
  ·exact absurd (h4.trans h2.symm) (hp j i h3 h1 e2)
  ·omega
theorem NC{o:List Int}{f:Nat->Int}(h:eQ ls.length ls ls.length=some (o,f)):∃us,o=ints us/\Or ls us:=by
 have h1:=ND ls ls.length (nR _);rw[h]at h1;obtain⟨us,h2,h3,h4⟩:=h1;refine⟨us,h2,⟨h4.nd,h4.bd,h3,fun i j p q hi hj hs=> ?_⟩⟩;obtain⟨i',hi'⟩:=iG.1 (h4.Za j q hj p hs);have hlt:=(lG.1 hi').1;rw[lK]at hlt;rw[List.getElem?_take_of_lt (by omega)]at hi';rw[zH h4.nd hi hi'];omega
theorem Or.at(h:Or ls us)(hk:k<ls.length):∃i:Nat,us[i]? =some k:=iG.1 (all_in h.nd h.bd h.len k hk)
theorem Or.way(h:Or ls us)(hx:∀p q,Sp ls p q->q<ls.length)(l:List Nat)(hw:Wp ls l q):∀(p i j:Nat),l.head? =some p->us[i]? =some p->us[j]? =some q->i<j:=by
 induction l with
 | nil => intro p i j e;cases e
 | cons v l ih=>
  intro p i j e hi hj;simp at e;subst e;obtain⟨u,hu,h2⟩:=hw.next;rcases h2 with⟨_,rfl⟩|⟨h3,h4⟩
  ·exact h.Za i j v u hi hj hu
  ·obtain⟨k,hk⟩:=h.at (hx v u hu);have h5:=h.Za i k v u hi hk hu;have h6:=ih h4 u k j h3 hk hj;omega
theorem Or.none(h:Or ls us)(hx:∀p q,Sp ls p q->q<ls.length)(x m:Nat):¬Ry ls x m x:=fun⟨l,h1,h2,_⟩=>by
 have hlt:x<ls.length:=by
  cases l with
  | nil => cases h1
  | cons y l=>
   simp at h1;subst h1;exact Wp.lt _ h2 y (by simp)
 obtain⟨i,hi⟩:=h.at hlt;have:=h.way hx l h2 x i i h1 hi hi;omega
def L8(ls:List (List Int))(f:Nat->Int)(u:Nat):Nat->Int:=fun k=>if ((k:Nat):Int)∈(ls[u]?).getD []then max (f k) (f u+1)else f k
def zw(ls:List (List Int))(us:List Nat):Nat->Int:=us.foldl (L8 ls) (fun _=>0)
theorem Nn(ls:List (List Int))(us:List Nat)(u:Nat):zw ls (us++[u])=L8 ls (zw ls us) u:=by simp[zw]
theorem qM:((q:Nat):Int)∈(ls[p]?).getD []↔Sp ls p q:=by
 unfold Sp;cases ls[p]? with
 | none => simp
 | some l => simp
structure Rk(ls:List (List Int))(us:List Nat)(t:Nat)(f:Nat->Int):Prop where
 pos:∀k,0<=f k/\f k<=t
 up:∀p q,p∈us.take t->Sp ls p q->f p+1<=f q
 held:∀q,0<f q->∃p,p∈us.take t/\Sp ls p q/\f p+1=f q
theorem Rk.all(h:Or ls us)(t:Nat)(ht:t<=us.length):Rk ls us t (zw ls (us.take t)):=by
 induction t with
 | zero => exact⟨fun k=>by simp[zw],fun p q hp=>by simp at hp,fun q hq=>by simp[zw]at hq⟩
 | succ t ih=>
  have ih:=ih (by omega);obtain⟨u,hu⟩:∃u,us[t]? =some u:=⟨us[t],by simp⟩;have hun:u∉us.take t:=fun e=>by
   obtain⟨i,hi⟩:=iG.1 e;have hlt:=(lG.1 hi).1;rw[lK]at hlt;rw[List.getElem?_take_of_lt (by omega)]at hi;have:=zH h.nd hi hu;omega
  have e1:us.take (t+1)=us.take t++[u]:=by rw[tO,hu];rfl
  rw[e1,Nn];generalize zw ls (us.take t)=f at ih;have hold:∀p,p∈us.take t++[u]->L8 ls f u p=f p:=fun p hp=>by
   unfold L8;rw[if_neg];intro e;have hs:=qM.1 e;obtain⟨i,hi⟩:=iG.1 (e1 ▸ hp:p∈us.take (t+1));have hlt:=(lG.1 hi).1;rw[lK]at hlt;rw[List.getElem?_take_of_lt (by omega)]at hi;have:=h.Za t i u p hu hi hs;omega
  have hge:∀q,f q<=L8 ls f u q:=fun q=>by
   unfold L8;split
   ·exact Int.le_max_left _ _
   ·exact Int.le_refl _
  refine⟨fun k=> ?_,fun p q hp hs=> ?_,fun q hq=> ?_⟩
  ·have h1:=ih.pos k;have h2:=ih.pos u;unfold L8;split
   ·omega
   ·omega
  ·rw[e1]at hp;rw[hold p hp];rcases j4.1 hp with hp|hp
   ·exact Int.le_trans (ih.up p q hp hs) (hge q)
   ·simp at hp;subst hp;unfold L8;rw[if_pos (qM.2 hs)];exact Int.le_max_right _ _
  ·rw[e1];by_cases hs:Sp ls u q
   ·by_cases hm:f q<=f u+1
    ·refine⟨u,by simp,hs, ?_⟩;rw[hold u (by simp)];unfold L8;rw[if_pos (qM.2 hs)];omega
    ·obtain⟨p,hp1,hp2,hp3⟩:=ih.held q (by have:=(ih.pos u).1;omega);refine⟨p,by simp[hp1],hp2, ?_⟩;rw[hold p (by simp[hp1])];unfold L8;rw[if_pos (qM.2 hs)];omega
   ·have e2:L8 ls f u q=f q:=by
      unfold L8;rw[if_neg (fun e=>hs (qM.1 e))]
    rw[e2]at hq⊢;obtain⟨p,hp1,hp2,hp3⟩:=ih.held q hq;exact⟨p,by simp[hp1],hp2,by rw[hold p (by simp[hp1])];exact hp3⟩
def SN(c:dL):Bool:=decide (c.via=(0,0,0))
def QQ(ns:List dx)(i:Nat)(c:dL):Nat:=bM ns i+c.df.toNat
def cOut(ns:List dx)(i:Nat)(c:dL):Nat:=bM ns i+(match ns[i]? with|some n=>n.ins.toNat|none=>0)+c.o.toNat
def PY(ns:List dx)(i:Nat)(c:dL):Nat×Nat:=(QQ ns i c,cOut ns i c)
def pE(ns:List dx)(i:Nat)(l:List dL):List (Nat×Nat):=(l.filter SN).map (PY ns i)
def lD(ns:List dx):Nat->List (Nat×Nat)
 | 0 => []
 | i + 1 => lD ns i++pE ns i (dh ns (i:Int))
def TQ(ns:List dx)(d:dQ):Nat×Nat:=(eB ns d,iR ns d)
def jZ(ns:List dx)(es:List dQ):List (Nat×Nat):=es.map (TQ ns)
def iP(g:bD):List (Nat×Nat):=jZ g.nodes g.aM++lD g.nodes g.nodes.length
def bf(l:List (Nat×Nat))(k:Nat):List Int:=(l.filter fun p=>p.1==k).map fun p=>((p.2:Nat):Int)
def ib(l:List Int):List Int:=l.mergeSort fun x y=>decide (x<=y)
def ig(g:bD):List (List Int):=(List.range (aT g.nodes)).map fun k=>ib (bf (iP g) k)
theorem xL(l:List (Nat×Nat))(p:Nat×Nat)(k:Nat):bf (l++[p]) k=if k=p.1 then bf l p.1++[((p.2:Nat):Int)]else bf l k:=by
 unfold bf;rw[List.filter_append,CW];by_cases h:k=p.1
 ·subst h;simp
 ·have h2:¬p.1=k:=fun e=>h e.symm;simp[h,h2]
theorem oO(l:List (Nat×Nat))(k:Nat):(bf l k).length<=l.length:=by
 unfold bf;rw[gK];exact List.length_filter_le _ _
theorem wz(l:List Int):(ib l).length=l.length:=List.length_mergeSort l
theorem wy{x:Int}:x∈ib l↔x∈l:=(List.mergeSort_perm l _).mem_iff
theorem sU{l:List (Nat×Nat)}{x:Int}:x∈bf l k↔∃q:Nat,x=(q:Int)/\(k,q)∈l:=by
 unfold bf;constructor
 ·intro h;obtain⟨p,hp,rfl⟩:=mM.1 h;obtain⟨h1,h2⟩:=mF.1 hp;obtain⟨a,b⟩:=p;have h3:a=k:=by simpa using h2
  subst h3;exact⟨b,rfl,h1⟩
 ·rintro⟨q,rfl,h⟩;exact mM.2 ⟨(k,q),mF.2 ⟨h,by simp⟩,rfl⟩
theorem uY(g:bD):(ig g).length=aT g.nodes:=by simp[ig]
theorem A7{g:bD}(hk:k<aT g.nodes):(ig g)[k]? =some (ib (bf (iP g) k)):=by simp[ig,hk]
theorem GJ{n:dx}(h:eH a n=0):(Jj n.kind n.ins=true/\qW n.kind n.outs=true)/\jO a n=0:=by
 unfold eH at h;split at h
 ·cases h
 ·split at h
  ·cases h
  ·split at h
   ·cases h
   ·rename_i h1 h2 h3;exact⟨Classical.not_not.1 h2,h⟩
theorem Ql{o:Nat}{c:dL}(h:c∈kQ o i):0<=c.df/\c.df<(i:Int)/\0<=c.o/\c.o<(o:Int):=by
 induction i with
 | zero => cases h
 | succ i ih=>
  unfold kQ at h;rcases j4.1 h with h|h
  ·have:=ih h;omega
  ·unfold oW at h;obtain⟨p,hp,rfl⟩:=mM.1 h;have:=mR.1 hp;dsimp only;omega
theorem EM{n:dx}(h:eH a n=0){c:dL}(hc:c∈fQ n):(0<=c.df/\c.df<n.ins)/\(0<=c.o/\c.o<n.outs):=by
 obtain⟨⟨h1,h2⟩,h3⟩:=GJ h;have h4:=jQ h;unfold fQ at hc;split at hc
 ·rename_i hk;simp at hc;subst hc;unfold Jj at h1;unfold qW at h2;rw[if_neg (by omega),if_neg (by omega),if_neg (by omega)]at h1;rw[if_neg (by omega),if_neg (by omega)]at h2;simp at h1 h2;dsimp only;omega
 ·split at hc
  ·rename_i hk;unfold jO at h3;rw[if_neg (by omega),if_neg (by omega),if_pos hk]at h3;split at h3
   ·rename_i hok;obtain⟨j,hj⟩:=iG.1 hc;have:=(vG.1 hok).2 j c hj;exact⟨this.1,this.2.1⟩
   ·cases h3
  ·have:=Ql hc;omega
theorem Iu{n:dx}(h:eH a n=0):(fQ n).length<=16:=by
 have h4:=jQ h;unfold fQ;split
 ·simp
 ·split
  ·exact(nC h).2
  ·rw[uA];have h1:n.ins.toNat<=4:=(by omega);have h2:n.outs.toNat<=4:=(by omega);exact nT (Nat.mul_le_mul h1 h2) (by decide)
theorem nS(ns:List dx)(i:Nat):dh ns (i:Int)=match ns[i]? with|some n=>fQ n|none=>[]:=by
 unfold dh jv;rw[if_pos (by omega)];rfl
theorem gY.XZ{g:bD}(h:gY g){c:dL}(hc:c∈dh g.nodes (i:Int)):fE g.nodes (i:Int) c.df=true/\fD g.nodes (i:Int) c.o=true:=by
 rw[nS]at hc;cases e:g.nodes[i]? with
 | none => rw[e]at hc;cases hc
 | some n=>
  rw[e]at hc;have hn:=h.ng i n (lG.1 e).1 e;have hg:=EM hn hc;unfold fE fD jv;rw[if_pos (by omega),show((i:Nat):Int).toNat=i by omega,e];simp only[dE];exact hg
theorem gY.Ce{g:bD}(h:gY g)(i:Nat):(dh g.nodes (i:Int)).length<=16:=by
 rw[nS];cases e:g.nodes[i]? with
 | none => simp
 | some n => exact Iu (h.ng i n (lG.1 e).1 e)
theorem IA{ns:List dx}{c:dL}(h:fE ns (i:Int) c.df=true):QH ns (i:Int) c.df=(QQ ns i c:Nat):=by
 obtain⟨n,hn,h0,_,h1,_⟩:=xG h;unfold QH QQ;rw[if_pos h,show((i:Nat):Int).toNat=i by omega]
 push_cast
 omega
theorem Cr{ns:List dx}{c:dL}(hp:Vi ns)(h:fD ns (i:Int) c.o=true):yL ns (i:Int) c.o=(cOut ns i c:Nat):=by
 obtain⟨n,hn,h0,_,h1,_⟩:=rz h;rw[show((i:Nat):Int).toNat=i by omega]at hn;have:=hp n (lM hn);unfold yL cOut;rw[if_pos h,show((i:Nat):Int).toNat=i by omega,hn]
 push_cast
 omega
theorem yh{ns:List dx}{c:dL}(h:fE ns (i:Int) c.df=true):QQ ns i c<aT ns:=by
 obtain⟨n,hn,_,_,h1,h2⟩:=xG h;rw[show((i:Nat):Int).toNat=i by omega]at hn;have:=Dp (p:=c.df.toNat) hn (lG.1 hn).1 (by omega);exact(lG.1 this).1
theorem Ck{ns:List dx}{c:dL}(h:fD ns (i:Int) c.o=true):cOut ns i c<aT ns:=by
 obtain⟨n,hn,_,_,h1,h2⟩:=rz h;rw[show((i:Nat):Int).toNat=i by omega]at hn;have:=zn (p:=c.o.toNat) hn (lG.1 hn).1 (by omega);unfold cOut;rw[hn];exact(lG.1 this).1
theorem nk{ns:List dx}{d:dQ}(h:fD ns d.src d.o=true):eB ns d<aT ns:=(lG.1 (wW h)).1
theorem BN{ns:List dx}{d:dQ}(h:fE ns d.dst d.df=true):iR ns d<aT ns:=(lG.1 (BM h)).1
theorem wY{ns:List dx}{m:Nat}{p:Nat×Nat}:p∈lD ns m↔∃i c,i<m/\c∈dh ns ((i:Nat):Int)/\SN c=true/\p=PY ns i c:=by
 induction m with
 | zero => simp[lD]
 | succ m ih=>
  unfold lD;rw[j4,ih];constructor
  ·rintro(⟨i,c,h1,h2⟩|h)
   ·exact⟨i,c,by omega,h2⟩
   ·unfold pE at h;obtain⟨c,hc,rfl⟩:=mM.1 h;obtain⟨h1,h2⟩:=mF.1 hc;exact⟨m,c,by omega,h1,h2,rfl⟩
  ·rintro⟨i,c,h1,h2,h3,rfl⟩;by_cases e:i=m
   ·subst e;exact Or.inr (mM.2 ⟨c,mF.2 ⟨h2,h3⟩,rfl⟩)
   ·exact Or.inl ⟨i,c,by omega,h2,h3,rfl⟩
theorem DI{g:bD}(h:gY g)(m:Nat):(lD g.nodes m).length<=16*m:=by
 induction m with
 | zero => simp[lD]
 | succ m ih=>
  unfold lD pE;rw[dO,gK];have h1:=List.length_filter_le SN (dh g.nodes (m:Int));have h2:=h.Ce m;omega
theorem I5{g:bD}(h:gY g):(iP g).length<=432:=by
 unfold iP jZ;rw[dO,gK];have h1:=DI h g.nodes.length;have h2:=h.nl;have h3:=h.el;omega
theorem MS{g:bD}(h:gY g)(hm:(p,q)∈iP g):p<aT g.nodes/\q<aT g.nodes:=by
 unfold iP at hm;rcases j4.1 hm with hm|hm
 ·obtain⟨d,hd,e⟩:=mM.1 hm;obtain⟨j,hj⟩:=iG.1 hd;have:=h.ends hj;unfold TQ at e;simp only[Prod.mk.injEq]at e;rw[<-e.1,<-e.2];exact⟨nk this.1,BN this.2⟩
 ·obtain⟨i,c,_,h2,_,e⟩:=wY.1 hm;have:=h.XZ h2;unfold PY at e;simp only[Prod.mk.injEq]at e;rw[e.1,e.2];exact⟨yh this.1,Ck this.2⟩
theorem mY{g:bD}(h:gY g):aT g.nodes<=192:=by
 have h1:=oP h.kF g.nodes.length;have h2:=h.nl;unfold aT;unfold bM at h1;omega
theorem VK{g:bD}(h:gY g):Sp (ig g) p q↔(p,q)∈iP g:=by
 constructor
 ·rintro⟨l,h1,h2⟩;have hp:=(lG.1 h1).1;rw[uY]at hp;rw[A7 hp,oI]at h1;subst h1;obtain⟨q',e,h3⟩:=sU.1 (wy.1 h2);obtain rfl:q=q':=by omega
  exact h3
 ·intro hm;exact⟨_,A7 (MS h hm).1,wy.2 (sU.2 ⟨q,rfl,hm⟩)⟩
theorem Dk{g:bD}(h:gY g):(ig g).length<=1000/\∀l∈ig g,l.length<=1000/\∀x∈l,0<=x/\x<((ig g).length:Int):=by
 have h1:=mY h;rw[uY];refine⟨by omega,fun l hl=> ?_⟩;obtain⟨k,hk,rfl⟩:=mM.1 hl;refine⟨?_,fun x hx=> ?_⟩
 ·rw[wz];exact nT (oO _ _) (nT (I5 h) (by decide))
 ·obtain⟨q,rfl,hq⟩:=sU.1 (wy.1 hx);have:=(MS h hq).2;omega
structure Fo(B:Nat)(w:World)(v:Value)(vs:List LV)(L:Nat->List Int):Prop where
 row:w.ownsRow B 97 1 v vs.length (fl EL vs)
 each:∀(k:Nat) (x:LV),vs[k]? =some x->w.ownsRow B 3 1 x.v (L k).length (fl EI (L k))
 apart:∀(k:Nat) (x:LV),vs[k]? =some x->∀b,x.v.ownBlock=some b->∀(k':Nat) (x':LV),vs[k']? =some x'->x'.v.ownBlock=some b->k'=k
section
variable {B:Nat} {w w1 w':World} {v:Value} {vs:List LV} {L L':Nat->List Int}
theorem Fo.below(h:Fo B w v vs L)(hb:Below w.heap.size w w'):Fo B w' v vs L:=⟨ag h.row hb,fun k x hk=>ag (h.each k x hk) hb,h.apart⟩
theorem Fo.re(h:Fo B w v vs L)(hL:∀k,k<vs.length->L k=L' k):Fo B w v vs L':=⟨h.row,fun k x hk=>by rw[<-hL k (lG.1 hk).1];exact h.each k x hk,h.apart⟩
theorem Fo.ff(h:Fo B w v vs L)(hl:ls.length=vs.length)(hg:∀k l,ls[k]? =some l->l=L k):Ff w.heap.size w v ls:=
 ⟨vs,iZ (E:=EL) h.row,hl.symm,fun i x l hx hls=>by rw[hg i l hls];exact iZ (E:=EI) (h.each i x hx)⟩
theorem Fo.step(h:Fo B w v vs L){k pb pc g cap:Nat}{x:LV}(hk:vs[k]? =some x)(hpv:v= .slice (some ⟨pb,0,none⟩) vs.length pc){y:Int}
    (h1:w1.ownsRow B 3 1 (.slice (some ⟨g,0,none⟩) ((L k).length+1) cap) ((L k).length+1) (fl EI (L k)++EI.enc y)) (h2:w.grownBy w1 x.v.ownBlock) (h3:x.v.ownBlock=some g\/w.heap.size<=g) :
    Fo B (w1.setCell ⟨pb,k,none⟩ (.slice (some ⟨g,0,none⟩) ((L k).length+1) cap)) v (vs.set k ⟨some ⟨g,0,none⟩,(L k).length+1,cap⟩) (fun j=>if j=k then L k++[y]else L j)/\Kp (fun j=>v.ownBlock=some j\/x.v.ownBlock=some j) w (w1.setCell ⟨pb,k,none⟩ (.slice (some ⟨g,0,none⟩) ((L k).length+1) cap)):=by
 have hks:=(lG.1 hk).1;have K2:=Kp.grownBy (S:=fun j=>x.v.ownBlock=some j) h2 (fun _ h=>h);have sp1:=av K2 h.row (fun j e e2=>aD h.row (h.each k x hk) (by decide) j e e2);have sp2:=sp1;rw[hpv]at sp2;obtain⟨so,sk⟩:=jr sp2 k (.slice (some ⟨g,0,none⟩) ((L k).length+1) cap);have hpb:v.ownBlock=some pb:=by rw[hpv];rfl
 have Sq:∀{n:Nat} {u:Value} {us:List Value},w1.ownsRow B 3 1 u n us->(w1.setCell ⟨pb,k,none⟩ (.slice (some ⟨g,0,none⟩) ((L k).length+1) cap)).ownsRow B 3 1 u n us:=fun o=>av sk o (fun j e e2=>aD o sp1 (by decide) j e (by rw[e2];exact hpb));have get:∀(j:Nat) (x':LV),(vs.set k ⟨some ⟨g,0,none⟩,(L k).length+1,cap⟩)[j]? =some x'->(j=k/\x'=⟨some ⟨g,0,none⟩,(L k).length+1,cap⟩)\/(j≠k/\vs[j]? =some x'):=fun j x' hj=>by
  rw[List.getElem?_set]at hj;by_cases e:k=j
  ·subst e;rw[if_pos rfl,if_pos hks]at hj;exact Or.inl ⟨rfl,(oJ hj).symm⟩
  ·rw[if_neg e]at hj;exact Or.inr ⟨fun e2=>e e2.symm,hj⟩
 have EB:∀(j:Nat) (x':LV),vs[j]? =some x'->∀b,x'.v.ownBlock=some b->b<w.heap.size:=fun j x' hj b e=>(aK (h.each j x' hj) b e).2;refine⟨⟨?_, ?_, ?_⟩, ?_⟩
 ·rw[hpv];refine aS so (by simp) ?_;have:=vE EL vs k 0 x ⟨some ⟨g,0,none⟩,(L k).length+1,cap⟩ (.slice (some ⟨g,0,none⟩) ((L k).length+1) cap) hk (by decide) rfl;rw[show EL.k=1 from rfl,Nat.mul_one,nO]at this;exact this
 ·intro j x' hj;rcases get j x' hj with⟨rfl,rfl⟩|⟨hne,hj⟩
  ·simp only[if_true];exact aS (Sq h1) (by simp) (by rw[aQ,dK])
  ·simp only[if_neg hne];exact Sq (av K2 (h.each j x' hj) (fun b e e2=>hne (h.apart k x hk b e2 j x' hj e)))
 ·intro j x' hj b hb;rcases get j x' hj with⟨rfl,rfl⟩|⟨hne,hj2⟩
  ·obtain rfl:g=b:=(by simpa[Value.ownBlock]using hb);intro k' x' hk' e;rcases get k' x' hk' with⟨rfl,_⟩|⟨hne',hk'⟩
   ·rfl
   ·rcases h3 with h3|h3
    ·exact h.apart j x hk g h3 k' x' hk' e
    ·have:=EB k' x' hk' g e;omega
  ·intro k' t hk' e;rcases get k' t hk' with⟨rfl,rfl⟩|⟨_,hk2⟩
   ·obtain rfl:g=b:=(by simpa[Value.ownBlock]using e);rcases h3 with h3|h3
    ·exact h.apart j x' hj2 g hb k' x hk h3
    ·have:=EB j x' hj2 g hb;omega
   ·exact h.apart j x' hj2 b hb k' t hk2 e
 ·exact(K2.mono (T:=fun j=>v.ownBlock=some j\/x.v.ownBlock=some j) (fun j e=>Or.inr e)).trans sk (fun j _ e=>Or.inl (by rw[e];exact hpb))
theorem Fo.put(h:Fo B w v vs L){x:LV}(hk:vs[k]? =some x)(h2:w.grownBy w1 x.v.ownBlock)(h1:w1.ownsRow B 3 1 x.v l.length (fl EI l)):Fo B w1 v vs (fun j=>if j=k then l else L j)/\Kp (fun j=>x.v.ownBlock=some j) w w1:=by
 have K2:=Kp.grownBy (S:=fun j=>x.v.ownBlock=some j) h2 (fun _ h=>h);refine⟨⟨av K2 h.row (fun j e e2=>aD h.row (h.each k x hk) (by decide) j e e2),fun j x' hj=> ?_,h.apart⟩,K2⟩;by_cases e:j=k
 ·subst e;rw[hk]at hj;obtain rfl:=oJ hj;simp only[if_true];exact h1
 ·simp only[if_neg e];exact av K2 (h.each j x' hj) (fun b e1 e2=>e (h.apart k x hk b e2 j x' hj e1))
theorem Fo.blocks(h:Fo B w v vs L){x:LV}(hk:vs[k]? =some x):∀j,v.ownBlock=some j\/x.v.ownBlock=some j->B<=j:=fun j e=>by
 rcases e with e|e
 ·exact(aK h.row j e).1
 ·exact(aK (h.each k x hk) j e).1
theorem Fo.other(h:Fo B w v vs L){x:LV}(hk:vs[k]? =some x)(hK:Kp (fun j=>v.ownBlock=some j\/x.v.ownBlock=some j) w w'){B2:Nat}{T:TypeId}{size:Nat}{u:Value}{us:List Value}(ho:w.ownsRow B2 T size u n us)(hT:T≠3)(hT2:T≠97):w'.ownsRow B2 T size u n us:=
 av hK ho (fun j e e2=>by
  rcases e2 with e2|e2
  ·exact aD ho h.row hT2 j e e2
  ·exact aD ho (h.each k x hk) hT j e e2)
end
theorem Gh{w':World}{os:Array Obj}(h:w.ownsRow B 3 1 (.slice (some ⟨g,0,none⟩) l.length cap) l.length (fl EI l))(hw:w'=grow (putRow (Value.int .i64) (Sort.ahead w n) g 0 (ib l).toArray) os):w'.ownsRow B 3 1 (.slice (some ⟨g,0,none⟩) l.length cap) (ib l).length (fl EI (ib l))/\w.grownBy w' (some g):=by
 subst hw;refine⟨?_,grownBy_sortedI _⟩;rcases h.2 with⟨h0,_⟩|⟨g',cap',cur,hv,hbase,hb,h1,h2,h3,h4⟩
 ·cases h0
 ·simp only[vS,oI,aI]at hv;obtain⟨⟨rfl,-,-⟩,-,rfl⟩:=hv;have:=ownsRow_sortedI (n:=n) (os:=os) (ts:=ib l) (ss:=l) (wz l) hbase hb h1 h2 h3;rw[wz,PH];exact this
theorem zZ(h:w.ownsRow B 3 1 (.slice (some ⟨g,0,none⟩) l.length cap) l.length (fl EI l)):Holds (Value.int .i64) w g 0 l.toArray/\g<w.heap.size:=by
 rcases h.2 with⟨h0,_⟩|⟨g',cap',cur,hv,hbase,hb,h1,h2,h3,h4⟩
 ·cases h0
 ·simp only[vS,oI,aI]at hv;obtain⟨⟨rfl,-,-⟩,-,rfl⟩:=hv;rw[PH,Nat.mul_one]at h4;exact⟨holds_of_blockI hb h4,(aG.1 hb).1⟩
theorem Sb{x:LV}(h:w.ownsRow B 3 1 x.v l.length (fl EI l)):(l=[]/\x.q=none/\x.m=0)\/∃g,x.q=some ⟨g,0,none⟩/\x.m=l.length:=by
 obtain⟨q,m,c⟩:=x;rcases h.2 with⟨h0,h1⟩|⟨g',cap',cur,hv,hbase,hb,h1,h2,h3,h4⟩
 ·simp only[vS]at h0;exact Or.inl ⟨List.length_eq_zero_iff.1 (by omega),h0.1,h0.2.1⟩
 ·simp only[vS]at hv;exact Or.inr ⟨g',hv.1,hv.2.1⟩
attribute[local go_sem ↓]wp_at_zero wp_at_succ
theorem WE:(Tryz.prog.info? 97).map (fun i=>(i.zero,i.size,i.bytes))=some (some (.slice none 0 0),1,24):=by kernel_rfl
theorem abX(vs:List LV):fl EL vs=vs.map LV.v:=by
 induction vs with
 | nil => rfl
 | cons x l ih => rw[aO,ih];rfl
theorem ZP(n:Nat):(madeCells (Value.slice none 0 0).cells (n*1)).toList=fl EL (List.replicate n ⟨none,0,0⟩):=by
 rw[Nat.mul_one,abX];exact(toList_madeCells_one _ n).trans (by simp)
theorem PE(a b c:Value)(w:World):Sem.run Tryz.prog (Instr.field 25 (.agg #[a,b,c]) 2) w= .ok c w:=by kernel_rfl
theorem Fo.made{w1:World}(hrow:w1.ownsRow w.heap.size 97 1 (.slice (some ⟨w.heap.size,0,none⟩) n n) n (madeCells (Value.slice none 0 0).cells (n*1)).toList):Fo w.heap.size w1 (.slice (some ⟨w.heap.size,0,none⟩) n n) (List.replicate n ⟨none,0,0⟩) (fun _=>[]):=by
 have hnil:∀(k:Nat) (x:LV),(List.replicate n (⟨none,0,0⟩:LV))[k]? =some x->x=⟨none,0,0⟩:=fun k x h=>List.eq_of_mem_replicate (lM h);refine⟨?_,fun k x h=> ?_,fun k x h b e=> ?_⟩
 ·rw[List.length_replicate];rw[ZP]at hrow;exact hrow
 ·rw[hnil k x h];exact oN _ _ _ _
 ·rw[hnil k x h]at e;cases e
def Sg(w:World)(n g:Nat)(l:List (Nat×Nat))(W:World):Prop:=∃vs,Fo w.heap.size W (.slice (some ⟨g,0,none⟩) n n) vs (bf l)/\vs.length=n/\Below w.heap.size w W
theorem Sg.below{W W':World}{l:List (Nat×Nat)}(h:Sg w n g l W)(hb:Below W.heap.size W W'):Sg w n g l W':=by
 obtain⟨vs,h1,h2,h3⟩:=h;exact⟨vs,h1.below hb,h2,h3.trans (hb.mono h3.size)⟩
theorem Sg.cell{w W:World}{n g:Nat}{l:List (Nat×Nat)}(h:Sg w n g l W){k:Nat}(hk:k<n):∃vs x,Fo w.heap.size W (.slice (some ⟨g,0,none⟩) n n) vs (bf l)/\vs.length=n/\Below w.heap.size w W/\vs[k]? =some x/\W.cell? ⟨g,k,none⟩=some x.v/\g<W.heap.size/\W.ownsRow w.heap.size 3 1 x.v (bf l k).length (fl EI (bf l k)):=by
 obtain⟨vs,h1,h2,h3⟩:=h;obtain⟨x,hx⟩:∃x,vs[k]? =some x:=⟨vs[k]'(by omega),by simp⟩;obtain⟨b,off,c,hv,hb,hc⟩:=qh (aH (E:=EL) h1.row) hx;simp only[vS,oI,aI]at hv;obtain⟨⟨rfl,rfl,-⟩,-,-⟩:=hv;rw[nZ]at hc;exact⟨vs,x,h1,h2,h3,hx,hc,hb,h1.each k x hx⟩
theorem dA{gb:Nat}{g:bD}(w:World)(h:Gm B w gb g)(j5:gY g):Calls Tryz.prog 118 #[.pointer (some ⟨gb,0,none⟩)] w fun r w'=>∃v,r= .returned v/\Hid (Below w.heap.size w w'/\Ff w'.heap.size w' v (ig g)):=by
 have hmx:Tryz.prog.follows .mixedOrders=true:=by kernel_rfl
 have HM:Hid (∀W,Below w.heap.size w W->Gm B W gb g):=fun W hb=>h.below hb;have iM:=hid j5;have hpl:=mY j5;have hp:=iI w h;obtain⟨n,hn⟩:=aC (aT g.nodes);rw[<-hn]at hpl hp;have HN:=hid hn;have hnl:=j5.nl;have hel:=j5.el;clear h j5 hn;obtain⟨i0,hi0,hz0,hz1,hz2⟩:=info_parts WE;go_enter Tryz.func118,Tryz.ntmps118;go_wp2_with fail;refine hp.mono ?_;clear hp;rintro r w1 ⟨rfl,hw1⟩;have hw2:=hw1.symm;subst hw2;clear hw1;go_upto_region 2 with(at_make;refine wpList_make_full _ rfl _ _ 211 rfl w.heap.size 97 i0 (.slice none 0 0) 1 Tryz.underlying211 hi0 hz0 hz1 _ _ _ _ n rfl rfl rfl rfl (by rw[hz2];omega) (by unfold maxLen;omega) (nR _) ?_;intro w2 hrow hg1);have hb2:Below w.heap.size w w2:=(Kp.grownBy (S:=fun _=>False) hg1 (fun _ h=>by cases h)).below (nR _) (fun _ h=>h.elim);have S2:Hid (Sg w n w.heap.size [] w2):=⟨_,(Fo.made hrow).re (fun k _=>rfl),by simp,hb2⟩;obtain⟨gg,hgg⟩:=aC (w.heap.size);rw[<-hgg]at S2⊢;have hraw:=xI w2 (HM.o w2 hb2);clear hrow hg1 hgg hi0 hz0 hz1 hz2 hb2;go_wp2_with fail;refine hraw.mono ?_;clear hraw;rintro r w3 ⟨nv,ev,ys,HR⟩;obtain⟨rfl,hb3,hys,hcg⟩:=HR.o;clear HR;have S3:Hid (Sg w n gg [] w3/\w3.ownsRow w2.heap.size 151 5 ev g.aM.length (fl ED g.aM)):=⟨S2.o.below hb3,hcg.aM⟩;obtain⟨qn,mn,cn,hq⟩:=aB hcg.nodes;obtain⟨qe,me,ce,hqe⟩:=aB hcg.aM;subst hq;subst hqe;obtain⟨rfl,hce⟩:=aZ hcg.aM _ _ _ rfl;obtain⟨es,hes⟩:=aC (g.aM);rw[<-hes]at S3 hel hce⊢;have HES:=hid hes;generalize ru:es.length=el at S3 hel hce⊢;have CJ:=hid ru;clear hcg hys hb3 S2 hes ru;dsimp only[jc];have fd:=PE (.int .i64 g.arity) (.slice qn mn cn) (.slice qe el ce);go_wp2_with fail;go_loopw [20] (fun s20 wr=>∃i:Nat,i<=el/\s20= .int .i64 (i:Nat)/\Hid (Sg w n gg (jZ g.nodes (es.take i)) wr/\wr.ownsRow w2.heap.size 151 5 (.slice qe el ce) el (fl ED es))) (fun s20 _=>el-(intOf s20).toNat);case atStart=>exact⟨0,zL _,rfl,S3.o⟩
 case round=>
  clear S3;obtain⟨i,hi,rfl,HI⟩:=hrel;by_cases hlt:i<el
  ·have hltz:(i:Int)<(el:Int):=(by omega);have hi1:(0:Int)<=(i:Int):=(by omega);obtain⟨y,hy⟩:∃y,es[i]? =some y:=⟨es[i]'(by have:=CJ.o;omega),by simp⟩;have HY:=hid hy;have uF:Hid (fD g.nodes y.src y.o=true/\fE g.nodes y.dst y.df=true):=iM.o.ends (by rw[<-HES.o];exact hy);obtain⟨b1,o1,q1,gN,rU,x0,x1,x2,x3,x4⟩:=sJ (aH (E:=ED) (aS HI.o.2 CJ.o.symm rfl)) hy;simp only[vS]at gN;obtain⟨rfl,-,rfl⟩:=gN;clear hy;obtain⟨yb,hyb⟩:=aC (wr.heap.size);obtain⟨W5,bU⟩:=aC (wr.alloc (.cells (aW y) 151));have P5:Hid (Sg w n gg (jZ g.nodes (es.take i)) W5/\W5.ownsRow w2.heap.size 151 5 (.slice (some ⟨b1,o1,none⟩) el ce) el (fl ED es)/\W5.heap[yb]? =some (.cells (aW y) 151 (0,0))):=by
    have g5:=((Gr.refl wr).alloc (.cells (aW y) 151)).below;rw[bU,hyb];exact⟨HI.o.1.below g5,ag HI.o.2 g5,ah _ _⟩
   have gZ:Hid (wr.alloc (.cells #[.int .i64 y.src, .int .i64 y.o, .int .i64 y.dst, .int .i64 y.df, .bool y.keyed] 151)=W5/\wr.heap.size=yb):=⟨bU.symm,hyb.symm⟩;clear bU hyb HI;go_upto_region 5 with fail;rw[gZ.o.1,gZ.o.2];clear gZ x0 x1 x2 x3 x4 rU;have hout:=nN y.src y.o W5 (HM.o W5 (by obtain⟨_,_,_,h⟩:=P5.o.1;exact h));rw[vk uF.o.1 iM.o.kF]at hout;obtain⟨fr,hfr⟩:=aC (eB g.nodes y);rw[<-hfr]at hout;have hfn:fr<n:=(by rw[hfr,HN.o];exact nk uF.o.1);have J5:=hid hfr;clear hfr;have c5:=(aa P5.o.2.2).1;have l5:=ae P5.o.2.2;go_wp2_with fail;refine hout.mono ?_;clear hout c5 l5;rintro r W6 ⟨rfl,g6⟩;go_upto_region 6 with fail;obtain⟨pl,kL⟩:=aC (jZ g.nodes (es.take i));obtain⟨pi,hpi⟩:=aC (iR g.nodes y);have hS:=P5.o.1.below g6.below;have YF:=hid (ag P5.o.2.1 g6.below);have HD:Hid (W6.heap[yb]? =some (.cells (aW y) 151 (0,0))):=(g6.below.block _ (ae P5.o.2.2)).trans P5.o.2.2;have uB:Hid (pl++[(fr,pi)]=jZ g.nodes (es.take (i+1))):=by
    show _=_;rw[kL,J5.o,hpi,tO,HY.o];simp[jZ,TQ]
   rw[<-kL]at hS;have hll:=oO pl fr;have hpn:pl.length<=48:=by
    rw[kL];simp only[jZ,gK,lK];omega
   obtain⟨vs,⟨xq,xm,xc⟩,f1,f2,f3,f4,f5,f6,f7⟩:=hS.cell hfn;have HF:Hid (Fo w.heap.size W6 (.slice (some ⟨gg,0,none⟩) n n) vs (bf pl)/\vs.length=n/\vs[fr]? =some ⟨xq,xm,xc⟩):=⟨f1,f2,f4⟩;have vJ:=hid f3;have jG:=hid f3.size;have HC:Hid (W6.cell? ⟨gg,fr,none⟩=some (.slice xq xm xc)/\gg<W6.heap.size/\fr=fr):=⟨f5,f6,rfl⟩;have uD:Hid (∀W,Below W6.heap.size W6 W->Calls Tryz.prog 116 #[.pointer (some ⟨gb,0,none⟩), .int .i64 y.dst, .int .i64 y.df] W fun r w'=>r= .returned (.int .i64 ((pi:Nat):Int))/\Gr W w'):=fun W hb=>by
    have h:=rD y.dst y.df W (HM.o W (f3.trans (hb.mono f3.size)));rw[BO uF.o.2,<-hpi]at h;exact h.mono (fun r w' hr=>⟨hr.1,by rw[hr.2];exact Gr.refl _⟩)
   obtain⟨LL,mK⟩:=aC (bf pl fr);rw[<-mK]at f7 hll;have HRW:=hid f7;have vI:=hid mK;have uS:Hid (LL.length<=48):=nT hll hpn;have hf0:(0:Int)<=(fr:Int):=(by omega);have hfz:(fr:Int)<(n:Int):=(by omega);clear f1 f2 f3 f4 f5 f6 f7 mK hll hpn kL hpi hS g6 P5;have hB0:Below W6.heap.size W6 W6.drew:=(Gr.refl W6).drew.below;have gG:Hid (∀W,Below W6.heap.size W6 W->W.cell? ⟨gg,fr,none⟩=some (.slice xq xm xc)/\gg<W.heap.size/\W.heap[yb]? =some (.cells (aW y) 151 (0,0))):=fun W hb=>⟨(hb.cell (p:=⟨gg,fr,none⟩) HC.o.2.1).trans HC.o.1,nL HC.o.2.1 hb.size,(hb.block _ (ae HD.o)).trans HD.o⟩;have hS0:=gG.o _ hB0;refine ax (S:=fun W=>W.cell? ⟨gg,fr,none⟩=some (.slice xq xm xc)/\gg<W.heap.size/\W.heap[yb]? =some (.cells (aW y) 151 (0,0))) (D:=[15]) hmx ?_;refine' aj 0 hS0 ?_;refine' aj 1 hS0 ?_;refine' aj 2 hS0 ?_;refine' aj 3 hS0 ?_;refine' aj 4 hS0 ?_;refine' bu 5 hS0 ?h ?_;case h=>(intro W hSw;have hc:=hSw.1;have hl:=hSw.2.1;go_simp;try(with_reducible rfl))
   refine' aj 6 hS0 ?_;refine' aj 7 hS0 ?_;refine' bu 8 hS0 ?h ?_;case h=>(intro W hSw;have hc:=(aa hSw.2.2).1;have hl:=ae hSw.2.2;go_simp;try(with_reducible rfl))
   refine' aj 9 hS0 ?_;refine' bu 10 hS0 ?h ?_;case h=>(intro W hSw;have hc:=(aa hSw.2.2).1;have hl:=ae hSw.2.2;go_simp;try(with_reducible rfl))
   refine bF 11 fun K hK=> ?_;go_simp;refine(uD.o _ hB0).mono ?_;rintro r w7 ⟨rfl,g7⟩;have aY:Below W6.heap.size W6 w7:=hB0.trans (g7.below.mono hB0.size);clear g7;go_wp2_with fail;refine hK.o _ _ (fun hD=>gG.o _ aY) ?_;clear hK K;try simp only[Act.put,qI,q0,qS]
   refine bF 12 fun K hK=> ?_;go_simp;have iV:Below W6.heap.size W6 (w7.alloc (.cells #[.int .i64 ((pi:Nat):Int)] 3)):=aY.trans (((Gr.refl w7).alloc _).below.mono aY.size);refine hK.o _ _ (fun hD=>gG.o _ iV) ?_;clear hK K;try simp only[Act.put,qI,q0,qS]
   refine bF 13 fun K hK=> ?_;refine bQ EI Tryz.underlying97 mg rfl (by decide) rfl _ _ rfl w.heap.size (.slice xq xm xc) LL.length (fl EI LL) rfl (ag HRW.o aY) ((pi:Nat):Int) (by first|rfl|simp) (by have:=uS.o;omega) (by have:=uS.o;unfold maxLen;omega) (nT jG.o aY.size) _ rfl _ ?_;intro g8 bB w8 h8 k8 n8;have ST:Hid (Sg w n gg (pl++[(fr,pi)]) (w8.setCell ⟨gg,fr,none⟩ (.slice (some ⟨g8,0,none⟩) (LL.length+1) bB))/\(w8.setCell ⟨gg,fr,none⟩ (.slice (some ⟨g8,0,none⟩) (LL.length+1) bB)).ownsRow w2.heap.size 151 5 (.slice (some ⟨b1,o1,none⟩) el ce) el (fl ED es)):=by
    have hf:=HF.o.1.below aY;rw[vI.o]at h8⊢;obtain⟨h1,h2⟩:=hf.step HF.o.2.2 (by rw[HF.o.2.1]) h8.o k8.o n8.o;refine⟨⟨_,h1.re (fun k _=>(xL pl (fr,pi) k).symm),by rw[lZ];exact HF.o.2.1,(vJ.o.trans (aY.mono vJ.o.size)).trans (h2.below (nT vJ.o.size aY.size) (hf.blocks HF.o.2.2))⟩, ?_⟩;exact hf.other HF.o.2.2 h2 (ag YF.o aY) (by decide) (by decide)
   have dN:=(Kp.grownBy (S:=fun k=>(Value.slice xq xm xc).ownBlock=some k) k8.o (fun _ h=>h));have F8:Hid (w8.frozen? ⟨gg,fr,none⟩=false/\gg<w8.heap.size/\w8.cell? ⟨gg,fr,none⟩=some (.slice xq xm xc)/\w8.heap[yb]? =some (.cells (aW y) 151 (0,0))):=by
    have hf:=HF.o.1.below aY;have hne:=aD hf.row (hf.each fr _ HF.o.2.2) (by decide);have JE:=av dN hf.row (fun j e e2=>hne j e e2);rw[HF.o.2.1]at JE;exact⟨JE.frozenAt _,nL HC.o.2.1 (nT aY.size dN.size),(dN.cell (nL HC.o.2.1 aY.size) (fun e=>hne gg rfl e)).trans ((aY.cell (p:=⟨gg,fr,none⟩) HC.o.2.1).trans HC.o.1),(dN.block _ (nL (ae HD.o) aY.size) (fun e=>aF (ag HRW.o aY) (gG.o _ aY).2.2 (by decide) yb e rfl)).trans (gG.o _ aY).2.2⟩
   clear h8 k8 n8 dN;generalize LL.length+1=ll at ST⊢;refine hK.o _ _ (fun hD=>⟨F8.o.2.2.1,F8.o.2.1,F8.o.2.2.2⟩) ?_;clear hK K;try simp only[Act.put,qI,q0,qS]
   refine' aj 14 ⟨F8.o.2.2.1,F8.o.2.1,F8.o.2.2.2⟩ ?_;refine bF 15 fun K hK=> ?_;have c8:=F8.o.2.2.1;have f8:=F8.o.1;have l8:=F8.o.2.1;go_simp;generalize (w8.setCell ⟨gg,fr,none⟩ (.slice (some ⟨g8,0,none⟩) ll bB))=w9 at ST⊢;clear c8 f8 l8;refine hK.o _ _ (fun hD=>absurd (by decide) hD) ?_;clear hK K;try simp only[Act.put,qI,q0,qS]
   refine au (by kernel_rfl) ?_ _;have FIN:Hid (Sg w n gg (jZ g.nodes (es.take (i+1))) w9/\w9.ownsRow w2.heap.size 151 5 (.slice (some ⟨b1,o1,none⟩) el ce) el (fl ED es)):=(by rw[<-uB.o];exact ST.o);clear ST uB hS0 aY hB0 gG;go_upto_region 7 with fail;go_wp2_with fail;go_roundw;case rel=>exact⟨i+1,by omega,by go_num,FIN.o⟩
   case measure=>simp[intOf];omega
  ·have hltz:¬(i:Int)<(el:Int):=(by omega);have S9:Hid (Sg w n gg (jZ g.nodes es) wr):=by
    have h:=HI.o.1;rw[tL (by have:=CJ.o;omega)]at h;exact h
   have Hl:=jy wr (HM.o wr (by obtain⟨_,_,_,h⟩:=S9.o;exact h));obtain⟨nl,Ho⟩:=aC (g.nodes.length);rw[<-Ho]at Hl hnl;have lW:=hid Ho;clear HI Ho;go_wp2_with fail;refine Hl.mono ?_;clear Hl;rintro r dP ⟨rfl,BP⟩;subst BP;go_wp2_with fail;go_loopw [48] (fun Ni wr=>∃i:Nat,i<=nl/\Ni= .int .i64 (i:Nat)/\Hid (Sg w n gg (jZ g.nodes es++lD g.nodes i) wr)) (fun Ni _=>nl-(intOf Ni).toNat);case atStart=>exact⟨0,zL _,rfl,by have h:=S9.o;show Sg _ _ _ _ _;simpa[lD]using h⟩
   case round=>
    clear S9;obtain⟨j,hj,rfl,HI⟩:=hrel;by_cases hlj:j<nl
    ·have Xc:(j:Int)<(nl:Int):=(by omega);have hj1:(0:Int)<=(j:Int):=(by omega);have hcon:=qp (j:Int) wr (HM.o wr (by obtain⟨_,_,_,h⟩:=HI.o;exact h));obtain⟨cs,hcs⟩:=aC (dh g.nodes (j:Int));rw[<-hcs]at hcon;have hcl:cs.length<=16:=(by rw[hcs];exact iM.o.Ce j);have HCS:=hid hcs;clear hcs;go_wp2_with fail;refine hcon.mono ?_;clear hcon;rintro r kr ⟨dv,rfl,xD,hcr⟩;obtain⟨qc,mc,cc,hqc⟩:=aB hcr;subst hqc;obtain⟨rfl,hcc⟩:=aZ hcr _ _ _ rfl;have hB1:∃b,b=wr.heap.size:=⟨_,rfl⟩;obtain⟨B1,hB1⟩:=hB1;rw[<-hB1]at hcr;have Yl:Hid (Sg w n gg (jZ g.nodes es++lD g.nodes j) kr/\kr.ownsRow B1 205 5 (.slice qc cs.length cc) cs.length (fl EC cs)):=⟨HI.o.below xD,hcr⟩;generalize ru:cs.length=cl at Yl hcl hcc⊢;have J6:=hid ru;clear xD hcr HI ru hB1;go_wp2_with fail;go_loopw [55] (fun VV wr=>∃k:Nat,k<=cl/\VV= .int .i64 (k:Nat)/\Hid (Sg w n gg (jZ g.nodes es++lD g.nodes j++pE g.nodes j (cs.take k)) wr/\wr.ownsRow B1 205 5 (.slice qc cl cc) cl (fl EC cs))) (fun VV _=>cl-(intOf VV).toNat);case atStart=>exact⟨0,zL _,rfl,by have h:=Yl.o;show Sg _ _ _ _ _/\_;simpa[pE]using h⟩
     case round=>
      clear Yl;obtain⟨k,hk,rfl,HI⟩:=hrel;by_cases hlk:k<cl
      ·have BQ:(k:Int)<(cl:Int):=(by omega);have hk1:(0:Int)<=(k:Int):=(by omega);obtain⟨y,hy⟩:∃y,cs[k]? =some y:=⟨cs[k]'(by have:=J6.o;omega),by simp⟩;have HY:=hid hy;have uF:Hid (fE g.nodes (j:Int) y.df=true/\fD g.nodes (j:Int) y.o=true):=iM.o.XZ (by rw[<-HCS.o];exact lM hy);obtain⟨b1,o1,q1,gN,rU,x0,x1,x2,x3,x4⟩:=sK (aH (E:=EC) (aS HI.o.2 J6.o.symm rfl)) hy;simp only[vS]at gN;obtain⟨rfl,-,rfl⟩:=gN;clear hy;obtain⟨yb,hyb⟩:=aC (wr.heap.size);obtain⟨W5,bU⟩:=aC (wr.alloc (.cells (cO y) 205));have P5:Hid (Sg w n gg (jZ g.nodes es++lD g.nodes j++pE g.nodes j (cs.take k)) W5/\W5.ownsRow B1 205 5 (.slice (some ⟨b1,o1,none⟩) cl cc) cl (fl EC cs)/\W5.heap[yb]? =some (.cells (cO y) 205 (0,0))):=by
        have g5:=((Gr.refl wr).alloc (.cells (cO y) 205)).below;rw[bU,hyb];exact⟨HI.o.1.below g5,ag HI.o.2 g5,ah _ _⟩
       have gZ:Hid (wr.alloc (.cells #[.int .i64 y.df, .int .i64 y.o, .int .u64 (y.via.1:Nat), .int .u64 (y.via.2.1:Nat), .int .u64 (y.via.2.2:Nat)] 205)=W5/\wr.heap.size=yb):=⟨bU.symm,hyb.symm⟩;clear bU hyb HI;go_upto_region 14 with fail;rw[gZ.o.1,gZ.o.2];clear gZ x0 x1 x2 x3 x4 rU;have c5:=(aa P5.o.2.2).1;have l5:=ae P5.o.2.2;by_cases hE:y.via=(0,0,0)
       ·have hin:=rD (j:Int) y.df W5 (HM.o W5 (by obtain⟨_,_,_,h⟩:=P5.o.1;exact h));rw[IA uF.o.1]at hin;obtain⟨fr,hfr⟩:=aC (QQ g.nodes j y);rw[<-hfr]at hin;have hfn:fr<n:=(by rw[hfr,HN.o];exact yh uF.o.1);have J5:=hid hfr;clear hfr;obtain⟨hE1,hE2,hE3⟩:y.via.1=0/\y.via.2.1=0/\y.via.2.2=0:=(by rw[hE];exact⟨rfl,rfl,rfl⟩);go_wp2_with fail;refine hin.mono ?_;clear hin c5 l5;rintro r W6 ⟨rfl,Pk⟩;subst Pk;go_upto_region 16 with fail;obtain⟨pl,kL⟩:=aC (jZ g.nodes es++lD g.nodes j++pE g.nodes j (cs.take k));obtain⟨pi,hpi⟩:=aC (cOut g.nodes j y);have hS:=P5.o.1;have YF:=hid P5.o.2.1;have HD:=hid P5.o.2.2;have uB:Hid (pl++[(fr,pi)]=jZ g.nodes es++lD g.nodes j++pE g.nodes j (cs.take (k+1))):=by
         show _=_;rw[kL,J5.o,hpi,tO,HY.o];simp[pE,SN,PY,hE]
        rw[<-kL]at hS;have hll:=oO pl fr;have hpn:pl.length<=500:=by
         have h1:=DI iM.o j;have h2:(pE g.nodes j (cs.take k)).length<=k:=by
          unfold pE;rw[gK];exact nT (List.length_filter_le _ _) (by rw[lK];omega)
         rw[kL,dO,dO];simp only[jZ,gK];have:=CJ.o;omega
        obtain⟨vs,⟨xq,xm,xc⟩,f1,f2,f3,f4,f5,f6,f7⟩:=hS.cell hfn;have HF:Hid (Fo w.heap.size W6 (.slice (some ⟨gg,0,none⟩) n n) vs (bf pl)/\vs.length=n/\vs[fr]? =some ⟨xq,xm,xc⟩):=⟨f1,f2,f4⟩;have vJ:=hid f3;have jG:=hid f3.size;have HC:Hid (W6.cell? ⟨gg,fr,none⟩=some (.slice xq xm xc)/\gg<W6.heap.size/\fr=fr):=⟨f5,f6,rfl⟩;have uD:Hid (∀W,Below W6.heap.size W6 W->Calls Tryz.prog 115 #[.pointer (some ⟨gb,0,none⟩), .int .i64 (j:Int), .int .i64 y.o] W fun r w'=>r= .returned (.int .i64 ((pi:Nat):Int))/\Gr W w'):=fun W hb=>by
         have h:=nN (j:Int) y.o W (HM.o W (f3.trans (hb.mono f3.size)));rw[Cr iM.o.kF uF.o.2,<-hpi]at h;exact h
        obtain⟨LL,mK⟩:=aC (bf pl fr);rw[<-mK]at f7 hll;have HRW:=hid f7;have vI:=hid mK;have uS:Hid (LL.length<=500):=nT hll hpn;have hf0:(0:Int)<=(fr:Int):=(by omega);have hfz:(fr:Int)<(n:Int):=(by omega);clear f1 f2 f3 f4 f5 f6 f7 mK hll hpn kL hpi hS P5;have hB0:Below W6.heap.size W6 W6.drew:=(Gr.refl W6).drew.below;have gG:Hid (∀W,Below W6.heap.size W6 W->W.cell? ⟨gg,fr,none⟩=some (.slice xq xm xc)/\gg<W.heap.size/\W.heap[yb]? =some (.cells (cO y) 205 (0,0))):=fun W hb=>⟨(hb.cell (p:=⟨gg,fr,none⟩) HC.o.2.1).trans HC.o.1,nL HC.o.2.1 hb.size,(hb.block _ (ae HD.o)).trans HD.o⟩;have hS0:=gG.o _ hB0;refine ax (S:=fun W=>W.cell? ⟨gg,fr,none⟩=some (.slice xq xm xc)/\gg<W.heap.size/\W.heap[yb]? =some (.cells (cO y) 205 (0,0))) (D:=[14]) hmx ?_;refine' aj 0 hS0 ?_;refine' aj 1 hS0 ?_;refine' aj 2 hS0 ?_;refine' aj 3 hS0 ?_;refine' aj 4 hS0 ?_;refine' bu 5 hS0 ?h ?_;case h=>(intro W hSw;have hc:=hSw.1;have hl:=hSw.2.1;go_simp;try(with_reducible rfl))
        refine' aj 6 hS0 ?_;refine' aj 7 hS0 ?_;refine' aj 8 hS0 ?_;refine' bu 9 hS0 ?h ?_;case h=>(intro W hSw;have hc:=(aa hSw.2.2).1;have hl:=ae hSw.2.2;go_simp;try(with_reducible rfl))
        refine bF 10 fun K hK=> ?_;go_simp;refine(uD.o _ hB0).mono ?_;rintro r w7 ⟨rfl,g7⟩;have aY:Below W6.heap.size W6 w7:=hB0.trans (g7.below.mono hB0.size);clear g7;go_wp2_with fail;refine hK.o _ _ (fun hD=>gG.o _ aY) ?_;clear hK K;try simp only[Act.put,qI,q0,qS]
        refine bF 11 fun K hK=> ?_;go_simp;have iV:Below W6.heap.size W6 (w7.alloc (.cells #[.int .i64 ((pi:Nat):Int)] 3)):=aY.trans (((Gr.refl w7).alloc _).below.mono aY.size);refine hK.o _ _ (fun hD=>gG.o _ iV) ?_;clear hK K;try simp only[Act.put,qI,q0,qS]
        refine bF 12 fun K hK=> ?_;refine bQ EI Tryz.underlying97 mg rfl (by decide) rfl _ _ rfl w.heap.size (.slice xq xm xc) LL.length (fl EI LL) rfl (ag HRW.o aY) ((pi:Nat):Int) (by first|rfl|simp) (by have:=uS.o;omega) (by have:=uS.o;unfold maxLen;omega) (nT jG.o aY.size) _ rfl _ ?_;intro g8 bB w8 h8 k8 n8;have ST:Hid (Sg w n gg (pl++[(fr,pi)]) (w8.setCell ⟨gg,fr,none⟩ (.slice (some ⟨g8,0,none⟩) (LL.length+1) bB))/\(w8.setCell ⟨gg,fr,none⟩ (.slice (some ⟨g8,0,none⟩) (LL.length+1) bB)).ownsRow B1 205 5 (.slice (some ⟨b1,o1,none⟩) cl cc) cl (fl EC cs)):=by
         have hf:=HF.o.1.below aY;rw[vI.o]at h8⊢;obtain⟨h1,h2⟩:=hf.step HF.o.2.2 (by rw[HF.o.2.1]) h8.o k8.o n8.o;refine⟨⟨_,h1.re (fun k _=>(xL pl (fr,pi) k).symm),by rw[lZ];exact HF.o.2.1,(vJ.o.trans (aY.mono vJ.o.size)).trans (h2.below (nT vJ.o.size aY.size) (hf.blocks HF.o.2.2))⟩, ?_⟩;exact hf.other HF.o.2.2 h2 (ag YF.o aY) (by decide) (by decide)
        have dN:=(Kp.grownBy (S:=fun k=>(Value.slice xq xm xc).ownBlock=some k) k8.o (fun _ h=>h));have F8:Hid (w8.frozen? ⟨gg,fr,none⟩=false/\gg<w8.heap.size/\w8.cell? ⟨gg,fr,none⟩=some (.slice xq xm xc)/\w8.heap[yb]? =some (.cells (cO y) 205 (0,0))):=by
         have hf:=HF.o.1.below aY;have hne:=aD hf.row (hf.each fr _ HF.o.2.2) (by decide);have JE:=av dN hf.row (fun j e e2=>hne j e e2);rw[HF.o.2.1]at JE;exact⟨JE.frozenAt _,nL HC.o.2.1 (nT aY.size dN.size),(dN.cell (nL HC.o.2.1 aY.size) (fun e=>hne gg rfl e)).trans ((aY.cell (p:=⟨gg,fr,none⟩) HC.o.2.1).trans HC.o.1),(dN.block _ (nL (ae HD.o) aY.size) (fun e=>aF (ag HRW.o aY) (gG.o _ aY).2.2 (by decide) yb e rfl)).trans (gG.o _ aY).2.2⟩
        clear h8 k8 n8 dN;generalize LL.length+1=ll at ST⊢;refine hK.o _ _ (fun hD=>⟨F8.o.2.2.1,F8.o.2.1,F8.o.2.2.2⟩) ?_;clear hK K;try simp only[Act.put,qI,q0,qS]
        refine' aj 13 ⟨F8.o.2.2.1,F8.o.2.1,F8.o.2.2.2⟩ ?_;refine bF 14 fun K hK=> ?_;have c8:=F8.o.2.2.1;have f8:=F8.o.1;have l8:=F8.o.2.1;go_simp;generalize (w8.setCell ⟨gg,fr,none⟩ (.slice (some ⟨g8,0,none⟩) ll bB))=w9 at ST⊢;clear c8 f8 l8;refine hK.o _ _ (fun hD=>absurd (by decide) hD) ?_;clear hK K;try simp only[Act.put,qI,q0,qS]
        refine au (by kernel_rfl) ?_ _;have FIN:Hid (Sg w n gg (jZ g.nodes es++lD g.nodes j++pE g.nodes j (cs.take (k+1))) w9/\w9.ownsRow B1 205 5 (.slice (some ⟨b1,o1,none⟩) cl cc) cl (fl EC cs)):=(by rw[<-uB.o];exact ST.o);clear ST uB hS0 aY hB0 gG;go_upto_region 17 with fail;go_wp2_with fail;go_roundw;case rel=>exact⟨k+1,by omega,by go_num,FIN.o⟩
        case measure=>simp[intOf];omega
       ·have FIN:Hid (Sg w n gg (jZ g.nodes es++lD g.nodes j++pE g.nodes j (cs.take (k+1))) W5/\W5.ownsRow B1 205 5 (.slice (some ⟨b1,o1,none⟩) cl cc) cl (fl EC cs)):=by
          have e1:pE g.nodes j (cs.take (k+1))=pE g.nodes j (cs.take k):=by
           rw[tO,HY.o];simp[pE,SN,hE]
          rw[e1];exact⟨P5.o.1,P5.o.2.1⟩
        clear P5;have hne:¬(y.via.1=0/\y.via.2.1=0/\y.via.2.2=0):=fun e=>hE (Prod.ext e.1 (Prod.ext e.2.1 e.2.2));clear hE;have abA:y.via.1≠0\/(y.via.1=0/\y.via.2.1≠0)\/(y.via.1=0/\y.via.2.1=0/\y.via.2.2≠0):=(by omega);clear hne;rcases abA with h1|⟨h1,h2⟩|⟨h1,h2,h3⟩
        ·go_wp2_with fail;go_roundw;case rel=>exact⟨k+1,by omega,by go_num,FIN.o⟩
         case measure=>simp[intOf];omega
        ·go_wp2_with fail;go_roundw;case rel=>exact⟨k+1,by omega,by go_num,FIN.o⟩
         case measure=>simp[intOf];omega
        ·go_wp2_with fail;go_roundw;case rel=>exact⟨k+1,by omega,by go_num,FIN.o⟩
         case measure=>simp[intOf];omega
      ·have BQ:¬(k:Int)<(cl:Int):=(by omega);have FIN:Hid (Sg w n gg (jZ g.nodes es++lD g.nodes (j+1)) wr):=by
        have h:=HI.o.1;rw[tL (by have:=J6.o;omega),HCS.o,aA]at h;exact h
       clear HI;go_wp2_with fail;go_roundw;case rel=>exact⟨j+1,by omega,by go_num,FIN.o⟩
       case measure=>simp[intOf];omega
    ·have Xc:¬(j:Int)<(nl:Int):=(by omega);have S20:Hid (∃vs,Fo w.heap.size wr (.slice (some ⟨gg,0,none⟩) n n) vs (fun k=>if k<0 then ib (bf (iP g) k)else bf (iP g) k)/\vs.length=n/\Below w.heap.size w wr):=by
      have h:=HI.o;obtain rfl:j=nl:=(by omega);have e1:jZ g.nodes es++lD g.nodes j=iP g:=(by unfold iP;rw[HES.o,lW.o]);rw[e1]at h;obtain⟨vs,h1,h2,h3⟩:=h;exact⟨vs,h1.re (fun k _=>by rw[if_neg (nW _)]),h2,h3⟩
     clear HI;go_wp2_with fail;go_loopw [86] (fun s86 wr=>∃i:Nat,i<=n/\s86= .int .i64 (i:Nat)/\Hid (∃vs,Fo w.heap.size wr (.slice (some ⟨gg,0,none⟩) n n) vs (fun k=>if k<i then ib (bf (iP g) k)else bf (iP g) k)/\vs.length=n/\Below w.heap.size w wr)) (fun s86 _=>n-(intOf s86).toNat)
     case atStart=>exact⟨0,zL _,rfl,S20.o⟩
     case round=>
      clear S20;obtain⟨k,hk,rfl,HI⟩:=hrel;by_cases hlk:k<n
      ·have BQ:(k:Int)<(n:Int):=(by omega);have hk1:(0:Int)<=(k:Int):=(by omega);obtain⟨vs,f1,f2,f3⟩:=HI.o;obtain⟨x,hx⟩:∃x,vs[k]? =some x:=⟨vs[k]'(by omega),by simp⟩;obtain⟨b,off,c,hv,hb,hc⟩:=qh (aH (E:=EL) f1.row) hx;simp only[vS,oI,aI]at hv;obtain⟨⟨rfl,rfl,-⟩,-,-⟩:=hv;rw[nZ]at hc;have he:=f1.each k x hx;rw[if_neg (Nat.lt_irrefl k)]at he;have HF:Hid (Fo w.heap.size wr (.slice (some ⟨gg,0,none⟩) n n) vs (fun j=>if j<k then ib (bf (iP g) j)else bf (iP g) j)/\vs.length=n/\Below w.heap.size w wr/\vs[k]? =some x):=⟨f1,f2,f3,hx⟩
       have hll:(bf (iP g) k).length<=432:=nT (oO _ _) (I5 iM.o);have Uv:Hid (∀W,Fo w.heap.size W (.slice (some ⟨gg,0,none⟩) n n) vs (fun j=>if j=k then ib (bf (iP g) k)else if j<k then ib (bf (iP g) j)else bf (iP g) j)->Below w.heap.size w W->∃vs,Fo w.heap.size W (.slice (some ⟨gg,0,none⟩) n n) vs (fun j=>if j<k+1 then ib (bf (iP g) j)else bf (iP g) j)/\vs.length=n/\Below w.heap.size w W):=fun W h1 h2=>⟨vs,h1.re (fun j _=>by
        by_cases e1:j=k
        ·subst e1;rw[if_pos rfl,if_pos (Nat.lt_succ_self _)]
        ·rw[if_neg e1];by_cases e2:j<k
         ·rw[if_pos e2,if_pos (by omega)]
         ·rw[if_neg e2,if_neg (by omega)]),HF.o.2.1,h2⟩
       obtain⟨q,m,c2⟩:=x;rcases Sb he with⟨e0,eq,em⟩|⟨gk,eq,em⟩
       ·dsimp only at eq em;subst eq;subst em;have hs:=AnyM.slices_Sort_int_none Tryz.lSort none c2 wr;change Calls Tryz.prog 181 _ _ _ at hs;have FIN:=hid (Uv.o wr (HF.o.1.re (fun j _=>by
         by_cases e1:j=k
         ·subst e1;rw[if_pos rfl,if_neg (Nat.lt_irrefl _),e0];simp[ib]
         ·rw[if_neg e1])) HF.o.2.2.1)
        clear HF Uv f1 f2 f3 hx he HI;go_wp2_with fail;refine hs.mono ?_;clear hs;rintro r Zx ⟨rfl,hw⟩;subst hw;go_wp2_with fail;go_roundw;case rel=>exact⟨k+1,by omega,by go_num,FIN.o⟩
        case measure=>simp[intOf];omega
       ·dsimp only at eq em;subst eq;subst em;have hs:=AnyM.slices_Sort_int Tryz.lSort gk 0 c2 (bf (iP g) k) wr (zZ he).1 (zZ he).2 (by omega);change Calls Tryz.prog 181 _ _ _ at hs;have HE:=hid he;generalize hgl:(bf (iP g) k).length=ll at hs hc hll;have Mk:=hid hgl;clear f1 f2 f3 hx he HI hgl;go_wp2_with fail;refine hs.mono ?_;clear hs;rintro r Zx ⟨rfl,nn,os,hw⟩;have FIN:Hid (∃vs,Fo w.heap.size Zx (.slice (some ⟨gg,0,none⟩) n n) vs (fun j=>if j<k+1 then ib (bf (iP g) j)else bf (iP g) j)/\vs.length=n/\Below w.heap.size w Zx):=by
         obtain⟨h1,h2⟩:=Gh HE.o (w':=Zx) (n:=nn) (os:=os) hw;obtain⟨h3,h4⟩:=HF.o.1.put HF.o.2.2.2 h2 h1;exact Uv.o Zx h3 (HF.o.2.2.1.trans (h4.below HF.o.2.2.1.size (fun j e=>(aK HE.o j e).1)))
        clear hw HF Uv HE;go_wp2_with fail;go_roundw;case rel=>exact⟨k+1,by omega,by go_num,FIN.o⟩
        case measure=>simp[intOf];omega
      ·have BQ:¬(k:Int)<(n:Int):=(by omega);have FIN:Hid (Below w.heap.size w wr/\Ff wr.heap.size wr (.slice (some ⟨gg,0,none⟩) n n) (ig g)):=by
        obtain⟨vs,h1,h2,h3⟩:=HI.o;refine⟨h3,h1.ff (by rw[uY,h2,HN.o]) (fun j l hl=> ?_)⟩;have hj:=(lG.1 hl).1;rw[uY]at hj;rw[A7 hj]at hl;rw[if_pos (by have:=HN.o;omega)];exact(oJ hl).symm
       clear HI;go_wp2_with fail;go_ret;exact⟨_,rfl,FIN.o⟩
end Df
end Go.Proofs.YtiiefcalkjeieaaGreat
