import Derived.Test.YtiiefcalkjeieaaGreatJ13
variable{ls:List (List Int)}{q k i n p j x:Nat}{us vs:List Nat}{l:List Int}{f:Nat->Int}
set_option maxHeartbeats 1000000
namespace Go.Proofs.YtiiefcalkjeieaaGreat
namespace Df
open Go.RowKit Go.Sort
attribute[local go_sem ↓]wp_at_zero wp_at_succ
theorem He{M:Nat}{v:Value}(x:Int)(w:World)(hL:Lz EI M w v l)(hl:l.length<=140737488351232):CL 180 #[v,iV x] w fun r w'=>w'=w/\((∃k:Nat,r= .returned (iV (k:Nat))/\l[k]? =some x/\∀j,j<k->l[j]?≠some x)\/(r= .returned (iV (-1))/\x∉l)):=by
 obtain⟨p,c,rfl⟩:=hL.form;have HL:=hid hL;clear hL;go_enter Tryz.func180,Tryz.ntmps180;go_wp2_with fail;go_loopw [8] (fun s8 wr=>∃i:Nat,i<=l.length/\s8=iV (i:Nat)/\wr=w/\Hid (∀j,j<i->l[j]?≠some x)) (fun s8 _=>l.length-(intOf s8).toNat);case atStart=>exact⟨0,zL _,rfl,rfl,fun j hj=>absurd hj (nW _)⟩
 case round=>
  obtain⟨i,hi,rfl,hw,HI⟩:=hrel;subst hw;by_cases hlt:i<l.length
  ·have hltz:(i:Int)<(l.length:Int):=(by omega);have hi0:(0:Int)<=(i:Int):=(by omega);obtain⟨y,hy⟩:∃y,l[i]? =some y:=⟨l[i],by simp⟩;obtain⟨b1,o1,c1,e1,z1,x0⟩:=xE (HL.o.ls hy) hy;simp only[vS]at e1;obtain⟨rfl,-,rfl⟩:=e1;have HY:=hid hy;clear hy;by_cases hxy:x=y
   ·subst hxy;go_wp2_with fail;go_ret;exact⟨rfl,Or.inl ⟨i,rfl,HY.o,HI.o⟩⟩
   ·have hz:(x==y)=false:=(by simpa using hxy);have FIN:Hid (∀j,j<i+1->l[j]?≠some x):=fun j hj h=>by
     by_cases e:j=i
     ·subst e;rw[HY.o]at h;exact hxy (oJ h).symm
     ·exact HI.o j (by omega) h
    go_wp2_with fail;go_roundw;case rel=>exact⟨i+1,by omega,by go_num,trivial,FIN.o⟩
    case measure=>simp[intOf];omega
  ·have hltz:¬(i:Int)<(l.length:Int):=(by omega);go_wp2_with fail;go_ret;refine⟨rfl,Or.inr ⟨rfl,fun hm=> ?_⟩⟩;obtain⟨j,hj⟩:=iG.1 hm;exact HI.o j (by have:=(lG.1 hj).1;omega) hj
end Df
namespace Df
open Go.RowKit Go.Sort
structure LV where
 q:Option Addr
 m:Nat
 c:Nat
abbrev LV.v(x:LV):Value:= .slice x.q x.m x.c
def EL:El LV where
 k:=1
 enc x:=[x.v]
 len _:=rfl
 one x u hu:=by
  simp at hu;subst hu;rfl
theorem qp{w:World}{v:Value}{ts:List LV}(h:Ls EL w v ts){x:LV}(hj:ts[j]? =some x):∃b off c,v= .slice (some ⟨b,off,none⟩) ts.length c/\b<w.heap.size/\w.cell? ⟨b,off+j,none⟩=some x.v:=by
 obtain⟨b,off,c,hv,hb,hc⟩:=h.get hj;have h0:=hc 0 _ (by decide) rfl;simp only[show EL.k=1 from rfl,Nat.mul_one,nO]at h0;exact⟨b,off,c,hv,hb,h0⟩
def Ff(M:Nat)(w:World)(v:Value)(ls:List (List Int)):Prop:=∃vs:List LV,Lz EL M w v vs/\vs.length=ls.length/\∀(i:Nat) (x:LV) (l:List Int),vs[i]? =some x->ls[i]? =some l->Lz EI M w x.v l
section
variable {M:Nat} {w w':World} {v:Value} {ls:List (List Int)}
theorem Ff.form(h:Ff M w v ls):∃p c,v= .slice p ls.length c:=by
 obtain⟨vs,h1,h2,_⟩:=h;rw[<-h2];exact h1.form
theorem Ff.at(h:Ff M w v ls)(hl:ls[i]? =some l):∃b off c q c2,v= .slice (some ⟨b,off,none⟩) ls.length c/\b<w.heap.size/\aj w b (off+i) (.slice q l.length c2)/\Lz EI M w (.slice q l.length c2) l:=by
 obtain⟨vs,h1,h2,h3⟩:=h;have hi:=(lG.1 hl).1;obtain⟨x,hx⟩:∃x,vs[i]? =some x:=⟨vs[i]'(by omega),by simp⟩;have hz:=h3 i x l hx hl;obtain⟨b,off,c,hv,hb,hc⟩:=qp (h1.ls hx) hx;obtain⟨q,c2,hq⟩:=hz.form;rw[hq]at hc hz;exact⟨b,off,c,q,c2,by rw[hv,h2],hb,hc,hz⟩
end
def iN(ls:List (List Int))(x:Int):Nat:=(ls.map fun l=>l.count x).sum
theorem Fb(a b:List (List Int))(x:Int):iN (a++b) x=iN a x+iN b x:=by simp[iN]
def FM(n:Nat)(f:Nat->Int):List Int:=(List.range n).map f
theorem jh(n:Nat)(f:Nat->Int):(FM n f).length=n:=by simp[FM]
theorem jX(f:Nat->Int)(h:k<n):(FM n f)[k]? =some (f k):=by simp[FM,h]
def upd(f:Nat->Int)(k:Nat)(x:Int):Nat->Int:=fun j=>if j=k then x else f j
theorem TM(n:Nat)(f:Nat->Int)(k:Nat)(x:Int):(FM n f).set k x=FM n (upd f k x):=by
 refine List.ext_getElem? fun j=> ?_;rw[List.getElem?_set];by_cases hj:j<n
 ·by_cases e:k=j
  ·subst e;rw[if_pos rfl,if_pos (by rw[jh];exact hj),jX _ hj];simp[upd]
  ·rw[if_neg e,jX _ hj,jX _ hj];have:¬j=k:=fun h=>e h.symm;simp[upd,this]
 ·have h2:(FM n (upd f k x))[j]? =none:=lQ (by rw[jh];omega);rw[h2];split
  ·rw[if_neg (by rw[jh];omega)]
  ·exact lQ (by rw[jh];omega)
theorem TN{g:Nat->Int}(h:∀k,k<n->f k=g k):FM n f=FM n g:=by
 unfold FM;exact List.map_congr_left fun k hk=>h k (mR.1 hk)
theorem PM(n:Nat):List.replicate n (0:Int)=FM n (fun _=>0):=by
 refine List.ext_getElem? fun j=> ?_;by_cases hj:j<n
 ·rw[jX _ hj];simp[hj]
 ·rw[lQ (by simp;omega),lQ (by rw[jh];omega)]
def vT(n:Nat)(f:Nat->Int):Option Nat:=(List.range n).find? fun k=>f k==0
def uj(ls:List (List Int))(f:Nat->Int)(p:Nat):Nat->Int:=fun k=>(if k=p then -1 else f k)-(((ls[p]?).getD []).count (k:Int):Nat)
def eX(n:Nat)(ls:List (List Int)):Nat->Option (List Int×(Nat->Int))
 | 0 => some ([],fun k=>(iN ls (k:Int):Nat))
 | t + 1 => match eX n ls t with
  | none => none
  | some (o, f) => match vT n f with
   | none => none
   | some p => some (o++[(p:Int)],uj ls f p)
theorem PQ(l:List Int):fl EI l=l.map (Value.int .i64):=by
 induction l with
 | nil => rfl
 | cons x l ih => rw[aR,ih];rfl
theorem TR(S:List Int)(e:Nat)(x:Int):(fl EI S).set e (iV x)=fl EI (S.set e x):=by rw[PQ,PQ,List.map_set]
theorem Ug{m:Nat}(h:∀l∈ls,l.length<=m)(x:Int):iN ls x<=ls.length*m:=by
 induction ls with
 | nil => simp[iN]
 | cons l ls ih=>
  have h1:=ih fun l hl=>h l (by simp[hl]);have h2:=h l (by simp);have h3:l.count x<=l.length:=List.count_le_length;have h4:iN (l::ls) x=l.count x+iN ls x:=by simp[iN]
  rw[h4,lC,Nat.add_mul,Nat.one_mul];omega
theorem yf{x:Int}(hx:l[k]? =some x)(y:Int):(l.take (k+1)).count y=(l.take k).count y+if x=y then 1 else 0:=by
 rw[tO,hx,List.count_append];simp[List.count_singleton]
theorem Lv(hl:ls[i]? =some l)(y:Int):iN (ls.take (i+1)) y=iN (ls.take i) y+l.count y:=by
 rw[tO,hl,Fb];simp[iN]
structure Wt(w:World)(n g:Nat)(f:Nat->Int)(W:World):Prop where
 bl:Bw w W
 row:W.ownsRow w.heap.size 3 1 (sO g n n) n (fl EI (FM n f))
section
variable {w W W':World} {n g:Nat} {f:Nat->Int}
theorem Wt.set(h:Wt w n g f W)(k:Nat)(x:Int):Wt w n g (upd f k x) (W.setCell ⟨g,k,none⟩ (iV x))/\Kp (fun j=>j=g) W (W.setCell ⟨g,k,none⟩ (iV x)):=by
 obtain⟨h1,h2⟩:=jA h.row k (iV x);rw[TR,TM]at h1;exact⟨⟨h.bl.trans (h2.below h.bl.size (fun j e=>by rw[e];exact(aM h.row g rfl).1)),h1⟩,h2⟩
theorem Wt.cell(h:Wt w n g f W){k:Nat}(hk:k<n):aj W g k (iV (f k))/\g<W.heap.size:=by
 have hr:W.ownsRow w.heap.size 3 1 (sO g n n) (FM n f).length (fl EI (FM n f)):=aV h.row (jh n f).symm rfl;obtain⟨b,o,c,hv,hb,hx⟩:=(aK (E:=EI) hr).get (jX f hk);simp only[vS,oI,aI]at hv;obtain⟨⟨rfl,rfl,-⟩,-,-⟩:=hv;have h0:=hx 0 _ (by decide) rfl;simp only[nZ,show EI.k=1 from rfl,Nat.mul_one,nO]at h0;exact⟨h0,hb⟩
theorem Wt.re{f':Nat->Int}(h:Wt w n g f W)(hf:∀k,k<n->f k=f' k):Wt w n g f' W:=⟨h.bl,by rw[<-TN hf];exact h.row⟩
end
def Sp(ls:List (List Int))(p q:Nat):Prop:=∃l,ls[p]? =some l/\((q:Nat):Int)∈l
def Wp(ls:List (List Int)):List Nat->Nat->Prop
 | [], _ => True
 | [v], q => Sp ls v q
 | v::u::vs, q => Sp ls v u/\Wp ls (u::vs) q
theorem Wp.tail{v:Nat}(h:Wp ls (v::vs) q):Wp ls vs q:=by
 cases vs with
 | nil => trivial
 | cons a vs => exact h.2
theorem Wp.next{v:Nat}(h:Wp ls (v::vs) q):∃u,Sp ls v u/\((vs=[]/\u=q)\/(vs.head? =some u/\Wp ls vs q)):=by
 cases vs with
 | nil => exact⟨q,h,Or.inl ⟨rfl,rfl⟩⟩
 | cons a vs => exact⟨a,h.1,Or.inr ⟨rfl,h.2⟩⟩
theorem Sp.lt(h:Sp ls p q):p<ls.length:=by
 obtain⟨l,hl,_⟩:=h;exact(lG.1 hl).1
theorem Wp.lt(l:List Nat)(h:Wp ls l q):∀x∈l,x<ls.length:=by
 induction l with
 | nil => intro x hx;cases hx
 | cons v l ih=>
  intro x hx;rcases gq.1 hx with rfl|hx
  ·obtain⟨u,hu,_⟩:=h.next;exact hu.lt
  ·exact ih h.tail x hx
def Ry(ls:List (List Int))(q m p:Nat):Prop:=∃l:List Nat,l.head? =some p/\Wp ls l q/\l.length<=m
theorem sub_le{α:Type}[BEq α][LawfulBEq α]:∀(l m:List α),l.Nodup->(∀x∈l,x∈m)->l.length<=m.length:=by
 intro l
 induction l with
 | nil => intro m _ _;simp
 | cons x l ih=>
  intro m hd hs;have hx:=hs x (by simp);have h1:=ih (m.erase x) (List.nodup_cons.1 hd).2 (fun y hy=>by
   have hne:y≠x:=fun e=>(List.nodup_cons.1 hd).1 (e ▸ hy);exact(List.mem_erase_of_ne hne).2 (hs y (by simp[hy])))
  have h2:=(List.perm_cons_erase hx).length_eq;simp only[lC]at h2⊢;omega
theorem all_in(hd:us.Nodup)(hb:∀x∈us,x<n)(hl:us.length=n):∀k,k<n->k∈us:=fun k hk=>by
 by_cases h:k∈us
 ·exact h
 ·have h1:=sub_le (k::us) (List.range n) (List.nodup_cons.2 ⟨h,hd⟩) (fun x hx=>by
    rcases gq.1 hx with rfl|hx
    ·exact mR.2 hk
    ·exact mR.2 (hb x hx))
  simp at h1;omega
theorem zx(C:Nat->Nat){l:List Nat}(h:x∈l):(l.map C).sum=C x+((l.erase x).map C).sum:=by
 have h1:=((List.perm_cons_erase h).map C).sum_nat;simpa using h1
theorem M3(C:Nat->Nat):∀(us m:List Nat),us.Nodup->(∀x∈us,x∈m)->(us.map C).sum<=(m.map C).sum:=by
 intro us
 induction us with
 | nil => intro m _ _;simp
 | cons x us ih=>
  intro m hd hs;have h1:=ih (m.erase x) (List.nodup_cons.1 hd).2 (fun y hy=>by
   have hne:y≠x:=fun e=>(List.nodup_cons.1 hd).1 (e ▸ hy);exact(List.mem_erase_of_ne hne).2 (hs y (by simp[hy])))
  rw[zx C (hs x (by simp)),List.map_cons,List.sum_cons];omega
theorem VO(C:Nat->Nat):∀(m us:List Nat),m.Nodup->(∀x∈m,C x≠0->x∈us)->(m.map C).sum<=(us.map C).sum:=by
 intro m
 induction m with
 | nil => intro us _ _;simp
 | cons x m ih=>
  intro us hd hs;by_cases hc:C x=0
  ·rw[List.map_cons,List.sum_cons,hc];have:=ih us (List.nodup_cons.1 hd).2 (fun y hy=>hs y (by simp[hy]));omega
  ·have hx:=hs x (by simp) hc;have h1:=ih (us.erase x) (List.nodup_cons.1 hd).2 (fun y hy hy2=>by
    have hne:y≠x:=fun e=>(List.nodup_cons.1 hd).1 (e ▸ hy);exact(List.mem_erase_of_ne hne).2 (hs y (by simp[hy]) hy2))
   rw[zx C hx,List.map_cons,List.sum_cons];omega
def QZ(ls:List (List Int))(k p:Nat):Nat:=((ls[p]?).getD []).count (k:Int)
theorem J2:QZ ls k p≠0↔Sp ls p k:=by
 unfold QZ Sp;cases ls[p]? with
 | none => simp
 | some l => simp[List.count_eq_zero]
theorem yj(ls:List (List Int))(k:Nat):iN ls (k:Int)=((List.range ls.length).map (QZ ls k)).sum:=by
 unfold iN
 congr 1
 refine List.ext_getElem (by simp) fun i h1 h2=> ?_;simp[QZ,List.getElem?_eq_getElem (show i<ls.length by simpa using h1)]
structure Oi(ls:List (List Int))(us:List Nat)(f:Nat->Int):Prop where
 nd:us.Nodup
 bd:∀x∈us,x<ls.length
 lo:∀k∈us,f k<=-1
 hi:∀k,k∉us->f k=(iN ls (k:Int):Int)-((us.map (QZ ls k)).sum:Nat)
 Zi:∀j q,us[j]? =some q->∀p,Sp ls p q->p∈us.take j
abbrev ints(us:List Nat):List Int:=us.map fun(u:Nat)=>(u:Int)
theorem Oi.step{ls:List (List Int)}{us:List Nat}{f:Nat->Int}{p:Nat}(h:Oi ls us f)(hz:vT ls.length f=some p):Oi ls (us++[p]) (uj ls f p):=by
 unfold vT at hz;rw[List.find?_range_eq_some]at hz;obtain⟨h1,h2,_⟩:=hz;have hf:f p=0:=by simpa using h1
 have hn:p<ls.length:=by simpa using h2
 have hp:p∉us:=fun e=>by have:=h.lo p e;omega
 have hpre:∀r,Sp ls r p->r∈us:=fun r hr=>by
  by_cases e:r∈us
  ·exact e
  ·have h3:=M3 (QZ ls p) (r::us) (List.range ls.length) (List.nodup_cons.2 ⟨e,h.nd⟩) (fun x hx=>by
     rcases gq.1 hx with rfl|hx
     ·exact mR.2 hr.lt
     ·exact mR.2 (h.bd x hx))
   rw[<-yj,List.map_cons,List.sum_cons]at h3;have h4:=h.hi p hp;have h5:=J2.2 hr;omega
 refine⟨?_, ?_, ?_, ?_, ?_⟩
 ·rw[List.nodup_append];exact⟨h.nd,by simp,fun a ha b hb=>by
   simp at hb;subst hb;exact fun e=>hp (e ▸ ha)⟩
 ·intro x hx;rcases kr.1 hx with hx|hx
  ·exact h.bd x hx
  ·simp at hx;omega
 ·intro k hk;unfold uj;rcases kr.1 hk with hk|hk
  ·have:=h.lo k hk;split<;>omega
  ·simp at hk;rw[if_pos hk];omega
 ·intro k hk;have hk1:k∉us:=fun e=>hk (by simp[e]);have hk2:¬k=p:=fun e=>hk (by simp[e]);have:=h.hi k hk1;have e3:uj ls f p k=f k-(QZ ls k p:Nat):=by
   unfold uj QZ;rw[if_neg hk2]
  rw[e3,De,List.sum_append];simp only[List.map_cons,List.map_nil,List.sum_cons,List.sum_nil];omega
 ·intro j q hj r hr;by_cases hjl:j<us.length
  ·rw[gL hjl]at hj;have:=h.Zi j q hj r hr;rw[List.take_append_of_le_length (by omega)];exact this
  ·have hlt:=(lG.1 hj).1;simp at hlt;obtain rfl:j=us.length:=(by omega);simp at hj;subst hj;simpa using hpre r hr
theorem NN(ls:List (List Int))(t:Nat)(ht:t<=ls.length):match eX ls.length ls t with
    | some (o, f) => ∃us:List Nat,o=ints us/\us.length=t/\Oi ls us f
    | none => ∃us:List Nat,us.Nodup/\(∀x∈us,x<ls.length)/\us.length<ls.length/\∀k,k<ls.length->k∉us->∃p,p∉us/\Sp ls p k:=by
 induction t with
 | zero => exact⟨[],rfl,rfl,⟨List.nodup_nil,(fun x hx=>by cases hx),(fun k hk=>by cases hk),(fun k _=>by simp),(fun j q hj=>by simp at hj)⟩⟩
 | succ t ih=>
  have ih:=ih (by omega);unfold eX;cases e:eX ls.length ls t with
  | none=>
   rw[e]at ih;exact ih
  | some x=>
   obtain⟨o,f⟩:=x;rw[e]at ih;obtain⟨us,h1,h2,h3⟩:=ih;dsimp only;cases e2:vT ls.length f with
   | none=>
    refine⟨us,h3.nd,h3.bd,by omega,fun k hk hku=> ?_⟩;have hf:f k≠0:=fun e=>by
     have:=List.find?_eq_none.1 e2 k (mR.2 hk);simp[e]at this
    have h4:=h3.hi k hku;apply Classical.byContradiction;intro hno;have h5:=VO (QZ ls k) (List.range ls.length) us List.nodup_range (fun x _ hx=>by
     by_cases e:x∈us
     ·exact e
     ·exact absurd ⟨x,e,J2.1 hx⟩ hno)
    have h6:=M3 (QZ ls k) us (List.range ls.length) h3.nd (fun x hx=>mR.2 (h3.bd x hx));rw[<-yj]at h5 h6;omega
   | some p=>
    exact⟨us++[p],by simp[h1,ints],by simp[h2],h3.step e2⟩
structure Or(ls:List (List Int))(us:List Nat):Prop where
 nd:us.Nodup
 bd:∀x∈us,x<ls.length
 len:us.length=ls.length
 Zi:∀(i j p q:Nat),us[i]? =some p->us[j]? =some q->Sp ls p q->i<j
theorem zO(h:us.Nodup)(hi:us[i]? =some x)(hj:us[j]? =some x):i=j:=by
 obtain⟨h1,h2⟩:=lG.1 hi;obtain⟨h3,h4⟩:=lG.1 hj;have hp:=List.pairwise_iff_getElem.1 h;by_cases e1:i<j
 ·exact absurd (h2.trans h4.symm) (hp i j h1 h3 e1)
 ·by_cases e2:j<i
  ·exact absurd (h4.trans h2.symm) (hp j i h3 h1 e2)
  ·omega
theorem NM{o:List Int}(h:eX ls.length ls ls.length=some (o,f)):∃us,o=ints us/\Or ls us:=by
 have h1:=NN ls ls.length (nR _);rw[h]at h1;obtain⟨us,h2,h3,h4⟩:=h1;refine⟨us,h2,⟨h4.nd,h4.bd,h3,fun i j p q hi hj hs=> ?_⟩⟩;obtain⟨i',hi'⟩:=iG.1 (h4.Zi j q hj p hs);have hlt:=(lG.1 hi').1;rw[lK]at hlt;rw[List.getElem?_take_of_lt (by omega)]at hi';rw[zO h4.nd hi hi'];omega
theorem Or.at(h:Or ls us)(hk:k<ls.length):∃i:Nat,us[i]? =some k:=iG.1 (all_in h.nd h.bd h.len k hk)
theorem Or.way(h:Or ls us)(hx:∀p q,Sp ls p q->q<ls.length)(l:List Nat)(hw:Wp ls l q):∀(p i j:Nat),l.head? =some p->us[i]? =some p->us[j]? =some q->i<j:=by
 induction l with
 | nil => intro p i j e;cases e
 | cons v l ih=>
  intro p i j e hi hj;simp at e;subst e;obtain⟨u,hu,h2⟩:=hw.next;rcases h2 with⟨_,rfl⟩|⟨h3,h4⟩
  ·exact h.Zi i j v u hi hj hu
  ·obtain⟨k,hk⟩:=h.at (hx v u hu);have h5:=h.Zi i k v u hi hk hu;have h6:=ih h4 u k j h3 hk hj;omega
theorem Or.none(h:Or ls us)(hx:∀p q,Sp ls p q->q<ls.length)(x m:Nat):¬Ry ls x m x:=fun⟨l,h1,h2,_⟩=>by
 have hlt:x<ls.length:=by
  cases l with
  | nil => cases h1
  | cons y l=>
   simp at h1;subst h1;exact Wp.lt _ h2 y (by simp)
 obtain⟨i,hi⟩:=h.at hlt;have:=h.way hx l h2 x i i h1 hi hi;omega
def Mh(ls:List (List Int))(f:Nat->Int)(u:Nat):Nat->Int:=fun k=>if ((k:Nat):Int)∈(ls[u]?).getD []then max (f k) (f u+1)else f k
def zG(ls:List (List Int))(us:List Nat):Nat->Int:=us.foldl (Mh ls) (fun _=>0)
theorem Ny(ls:List (List Int))(us:List Nat)(u:Nat):zG ls (us++[u])=Mh ls (zG ls us) u:=by simp[zG]
theorem qQ:((q:Nat):Int)∈(ls[p]?).getD []↔Sp ls p q:=by
 unfold Sp;cases ls[p]? with
 | none => simp
 | some l => simp
structure Rk(ls:List (List Int))(us:List Nat)(t:Nat)(f:Nat->Int):Prop where
 pos:∀k,0<=f k/\f k<=t
 up:∀p q,p∈us.take t->Sp ls p q->f p+1<=f q
 held:∀q,0<f q->∃p,p∈us.take t/\Sp ls p q/\f p+1=f q
theorem Rk.all(h:Or ls us)(t:Nat)(ht:t<=us.length):Rk ls us t (zG ls (us.take t)):=by
 induction t with
 | zero => exact⟨fun k=>by simp[zG],fun p q hp=>by simp at hp,fun q hq=>by simp[zG]at hq⟩
 | succ t ih=>
  have ih:=ih (by omega);obtain⟨u,hu⟩:∃u,us[t]? =some u:=⟨us[t],by simp⟩;have hun:u∉us.take t:=fun e=>by
   obtain⟨i,hi⟩:=iG.1 e;have hlt:=(lG.1 hi).1;rw[lK]at hlt;rw[List.getElem?_take_of_lt (by omega)]at hi;have:=zO h.nd hi hu;omega
  have e1:us.take (t+1)=us.take t++[u]:=by rw[tO,hu];rfl
  rw[e1,Ny];generalize zG ls (us.take t)=f at ih;have hold:∀p,p∈us.take t++[u]->Mh ls f u p=f p:=fun p hp=>by
   unfold Mh;rw[if_neg];intro e;have hs:=qQ.1 e;obtain⟨i,hi⟩:=iG.1 (e1 ▸ hp:p∈us.take (t+1));have hlt:=(lG.1 hi).1;rw[lK]at hlt;rw[List.getElem?_take_of_lt (by omega)]at hi;have:=h.Zi t i u p hu hi hs;omega
  have hge:∀q,f q<=Mh ls f u q:=fun q=>by
   unfold Mh;split
   ·exact Int.le_max_left _ _
   ·exact Int.le_refl _
  refine⟨fun k=> ?_,fun p q hp hs=> ?_,fun q hq=> ?_⟩
  ·have h1:=ih.pos k;have h2:=ih.pos u;unfold Mh;split
   ·omega
   ·omega
  ·rw[e1]at hp;rw[hold p hp];rcases kr.1 hp with hp|hp
   ·exact Int.le_trans (ih.up p q hp hs) (hge q)
   ·simp at hp;subst hp;unfold Mh;rw[if_pos (qQ.2 hs)];exact Int.le_max_right _ _
  ·rw[e1];by_cases hs:Sp ls u q
   ·by_cases hm:f q<=f u+1
    ·refine⟨u,by simp,hs, ?_⟩;rw[hold u (by simp)];unfold Mh;rw[if_pos (qQ.2 hs)];omega
    ·obtain⟨p,hp1,hp2,hp3⟩:=ih.held q (by have:=(ih.pos u).1;omega);refine⟨p,by simp[hp1],hp2, ?_⟩;rw[hold p (by simp[hp1])];unfold Mh;rw[if_pos (qQ.2 hs)];omega
   ·have e2:Mh ls f u q=f q:=by
      unfold Mh;rw[if_neg (fun e=>hs (qQ.1 e))]
    rw[e2]at hq⊢;obtain⟨p,hp1,hp2,hp3⟩:=ih.held q hq;exact⟨p,by simp[hp1],hp2,by rw[hold p (by simp[hp1])];exact hp3⟩
end Df
end Go.Proofs.YtiiefcalkjeieaaGreat
