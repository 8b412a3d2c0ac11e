import Derived.Test.YteekbpokkjjipaaGreatJ4
import Derived.Deep.DeepCutAuto
import Derived.Deep.LoopGhost
variable{i at_ j c n a hb g cap:Nat}{w:Go.World}{v ff:Go.Value}
set_option maxHeartbeats 1000000
namespace Go.Proofs.YteekbpokkjjipaaGreat
namespace Hp
variable {ι:Type} {A:ι->ι->Bool}
def par(i:Nat):Nat:=(i-1)/2
theorem eH(h:0<i):par i<i:=by unfold par;omega
theorem zI(h:0<j):par j=i↔j=2*i+1\/j=2*i+2:=by unfold par;omega
def yP(A:ι->ι->Bool):Prop:=(∀a b c,A b a=false->A c b=false->A c a=false)/\∀a b,A a b=true->A b a=false
theorem yP.self(h:yP A)(a:ι):A a a=false:=by
 cases e:A a a with
 | false => rfl
 | true => exact e.symm.trans (h.2 a a e)
def bW(A:ι->ι->Bool)(L:List ι):Prop:=∀i x y,0<i->L[i]? =some x->L[par i]? =some y->A x y=false
theorem bW.top(hA:yP A){L:List ι}(h:bW A L){t:ι}(ht:L[0]? =some t):∀(i:Nat) (x:ι),L[i]? =some x->A x t=false:=by
 intro i
 induction i using Nat.strongRecOn with
 | ind i ih=>
  intro x hx;by_cases h0:i=0
  ·subst h0;rw[ht]at hx;cases hx;exact hA.self t
  ·have hp:=eH (Nat.pos_of_ne_zero h0);have hl:=(lG.1 hx).1;obtain⟨y,hy⟩:∃y,L[par i]? =some y:=⟨L[par i]'(by omega),by rw[nY]⟩;exact hA.1 _ _ _ (ih _ hp y hy) (h i x y (Nat.pos_of_ne_zero h0) hx hy)
inductive Wy (Q:Nat->Prop):Nat->Nat->Prop
 | refl (i:Nat):Wy Q i i
 | step {i a:Nat}:0<i->Q i->Wy Q (par i) a->Wy Q i a
variable {Q:Nat->Prop}
theorem Wy.snoc(h:Wy Q n i)(h0:0<i)(hq:Q i):Wy Q n (par i):=by
 induction h with
 | refl i => exact .step h0 hq (.refl _)
 | step a b _ ih => exact .step a b (ih h0 hq)
theorem Wy.le(h:Wy Q i a):a<=i:=by
 induction h with
 | refl i => exact nR _
 | step h0 _ _ ih => have:=eH h0;omega
theorem Wy.next(h:Wy Q i a)(hl:a<i):0<i/\Q i/\Wy Q (par i) a:=by
 cases h with
 | refl => omega
 | step a b c => exact⟨a,b,c⟩
theorem set_perm{L:List ι}{y:ι}(x:ι)(h:L[i]? =some y):(y::L.set i x).Perm (x::L):=by
 induction L generalizing i with
 | nil => simp at h
 | cons a L ih=>
  cases i with
  | zero => simp at h;subst h;simp only[List.set_cons_zero];exact List.Perm.swap _ _ _
  | succ i=>
   simp only[List.set_cons_succ];exact(List.Perm.swap _ _ _).trans (((ih (by simpa using h)).cons a).trans (List.Perm.swap _ _ _))
theorem swap_perm{M:List ι}{p:Nat}{y:ι}(x:ι)(hi:i<M.length)(hp:M[p]? =some y)(hne:i≠p):((M.set i y).set p x).Perm (M.set i x):=by
 have h1:(y::(M.set i y).set p x).Perm (x::M.set i y):=set_perm x (by rw[List.getElem?_set_ne hne];exact hp);have hz:M[i]? =some M[i]:=by rw[nY]
 have h2:(M[i]::M.set i y).Perm (y::M):=set_perm y hz;have h3:(M[i]::M.set i x).Perm (x::M):=set_perm x hz;refine List.Perm.cons_inv (a:=y) (List.Perm.cons_inv (a:=M[i]) ?_);refine(h1.cons _).trans ((List.Perm.swap _ _ _).trans ((h2.cons x).trans ((List.Perm.swap _ _ _).trans ((h3.symm.cons y).trans (List.Perm.swap _ _ _)))))
def QU(A:ι->ι->Bool)(L:List ι)(x:ι)(i:Nat):Prop:=∃y,L[par i]? =some y/\A x y=true
def HH(A:ι->ι->Bool)(N:List ι)(i:Nat):Prop:=
 (∀j a b,0<j->j≠i->N[j]? =some a->N[par j]? =some b->A a b=false)/\∀j a b,0<j->par j=i->0<i->N[j]? =some a->N[par i]? =some b->A a b=false
structure dR(A:ι->ι->Bool)(L:List ι)(x:ι)(at_:Nat)(M:List ι)(i:Nat):Prop where
 way:Wy (QU A L x) i at_
 len:M.length=L.length+1
 ile:i<=L.length
 old:∀j,j<=i->M[j]? =(L++[x])[j]?
 perm:(M.set i x).Perm (L++[x])
 hp:yP A->bW A L->HH A (M.set i x) i
theorem dR.init{L:List ι}{x:ι}(h:Wy (QU A L x) L.length at_):dR A L x at_ (L++[x]) L.length:=by
 have e:(L++[x]).set L.length x=L++[x]:=by rw[List.set_append_right _ _ (nR _)];simp
 refine⟨h,by simp,nR _,fun _ _=>rfl,by rw[e],fun hA hH=> ?_⟩;rw[e];refine⟨fun j a b h0 hne ha hb=> ?_,fun j a b h0 hp _ ha _=> ?_⟩
 ·have hl:=(lG.1 ha).1;simp at hl;have:=eH h0;rw[gL (by omega)]at ha hb;exact hH j a b h0 ha hb
 ·have hl:=(lG.1 ha).1;simp at hl;have:=eH h0;omega
theorem dR.step{L:List ι}{x:ι}{at_ i:Nat}{M:List ι}(h:dR A L x at_ M i)(hlt:at_<i):∃y,M[par i]? =some y/\dR A L x at_ (M.set i y) (par i):=by
 obtain⟨h0,⟨y,hy,hxy⟩,hw⟩:=h.way.next hlt;have hp:=eH h0;have hM:M[par i]? =some y:=by
  rw[h.old _ (by omega),gL (by have:=h.ile;omega)];exact hy
 have hil:i<M.length:=by rw[h.len];have:=h.ile;omega
 refine⟨y,hM,hw,by rw[lZ];exact h.len,by have:=h.ile;omega,fun j hj=> ?_,(swap_perm x hil hM (by omega)).trans h.perm,fun hA hH=> ?_⟩
 ·rw[List.getElem?_set_ne (by omega)];exact h.old j (by omega)
 ·obtain⟨H1,H2⟩:=h.hp hA hH;have hpl:par i<(M.set i y).length:=by rw[lZ];omega
  have eo:∀j,j≠i->j≠par i->((M.set i y).set (par i) x)[j]? =(M.set i x)[j]? :=fun j h1 h2=>by
   rw[List.getElem?_set_ne (Ne.symm h2),List.getElem?_set_ne (Ne.symm h1),List.getElem?_set_ne (Ne.symm h1)]
  have ep:((M.set i y).set (par i) x)[par i]? =some x:=by rw[List.getElem?_set_self hpl]
  have ei:((M.set i y).set (par i) x)[i]? =some y:=by rw[List.getElem?_set_ne (by omega),List.getElem?_set_self hil]
  have np:(M.set i x)[par i]? =some y:=by rw[List.getElem?_set_ne (by omega)];exact hM
  have le1:A y x=false:=hA.2 _ _ hxy;refine⟨fun j a b hj hne ha hb=> ?_,fun j a b hj hpj hp0 ha hb=> ?_⟩
  ·by_cases hji:j=i
   ·subst hji;rw[ei]at ha;rw[ep]at hb;cases ha;cases hb;exact le1
   ·rw[eo j hji hne]at ha;by_cases h1:par j=par i
    ·rw[h1,ep]at hb;cases hb;exact hA.1 _ _ _ le1 (H1 j a y hj hji ha (by rw[h1];exact np))
    ·by_cases h2:par j=i
     ·rw[h2,ei]at hb;cases hb;exact H2 j a y hj h2 h0 ha np
     ·rw[eo _ h2 h1]at hb;exact H1 j a b hj hji ha hb
  ·have hpp:=eH hp0;rw[eo _ (by omega) (by omega)]at hb;have hyb:A y b=false:=H1 (par i) y b hp0 (by omega) np hb;by_cases hji:j=i
   ·subst hji;rw[ei]at ha;cases ha;exact hyb
   ·have hjp:j≠par i:=(by intro e;have:=eH hj;omega);rw[eo j hji hjp]at ha;exact hA.1 _ _ _ hyb (H1 j a y hj hji ha (by rw[hpj];exact np))
theorem dR.done{L:List ι}{x:ι}{M:List ι}(h:dR A L x at_ M at_)(he:at_=0\/∃y,L[par at_]? =some y/\A x y=false):(M.set at_ x).Perm (L++[x])/\(yP A->bW A L->bW A (M.set at_ x)):=by
 refine⟨h.perm,fun hA hH j a b hj ha hb=> ?_⟩;obtain⟨H1,_⟩:=h.hp hA hH;by_cases e:j=at_
 ·subst e;rcases he with he|⟨y,hy,hxy⟩
  ·omega
  ·have hp:=eH hj;have hl:=h.ile;rw[List.getElem?_set_self (by rw[h.len];omega)]at ha;rw[List.getElem?_set_ne (by omega),h.old _ (by omega),gL (by omega),hy]at hb;cases ha;cases hb;exact hxy
 ·exact H1 j a b hj e ha hb
def QD(A:ι->ι->Bool)(M0:List ι)(s:ι)(i:Nat):Prop:=
 i<M0.length/\(yP A->∀x,M0[i]? =some x->A s x=false/\∀j y,0<j->par j=par i->M0[j]? =some y->A y x=false)
def nV(A:ι->ι->Bool)(M0:List ι)(at_ c:Nat)(x:ι):Prop:=
 M0[c]? =some x/\((c=2*at_+1/\∀y,M0[2*at_+2]? =some y->A y x=false)\/(c=2*at_+2/\∃y,M0[2*at_+1]? =some y/\A x y=true))
theorem nV.par{M0:List ι}{x:ι}(h:nV A M0 at_ c x):0<c/\Hp.par c=at_:=by
 have h0:0<c:=by rcases h.2 with⟨h,_⟩|⟨h,_⟩<;>omega
 exact⟨h0,(zI h0).2 (by rcases h.2 with⟨h,_⟩|⟨h,_⟩;exact Or.inl h;exact Or.inr h)⟩
theorem nV.least{M0:List ι}{x:ι}(hA:yP A)(h:nV A M0 at_ c x){y:ι}(h0:0<j)(hj:Hp.par j=at_)(hy:M0[j]? =some y):A y x=false:=by
 obtain⟨hx,h⟩:=h;rcases(zI h0).1 hj with e|e
 ·rcases h with⟨rfl,_⟩|⟨_,z,hz,hxz⟩
  ·rw[<-e,hy]at hx;cases hx;exact hA.self _
  ·rw[<-e,hy]at hz;cases hz;exact hA.2 _ _ hxz
 ·rcases h with⟨_,h⟩|⟨rfl,_⟩
  ·exact h y (by rw[<-e];exact hy)
  ·rw[<-e,hy]at hx;cases hx;exact hA.self _
structure Dn(A:ι->ι->Bool)(M0:List ι)(s:ι)(at_:Nat):Prop where
 lt:at_=0\/at_<M0.length
 way:Wy (QD A M0 s) at_ 0
def mY(A:ι->ι->Bool)(M0:List ι)(s:ι)(at_:Nat):Prop:=yP A->∀j y,0<j->par j=at_->M0[j]? =some y->A y s=false
theorem Dn.step{M0:List ι}{s x:ι}{at_ c:Nat}(h:Dn A M0 s at_)(hp:nV A M0 at_ c x)(hx:A x s=true):Dn A M0 s c:=by
 obtain⟨h0,hc⟩:=hp.par;have hl:=(lG.1 hp.1).1;refine⟨Or.inr hl, .step h0 ⟨hl,fun hA z hz=> ?_⟩ (by rw[hc];exact h.way)⟩;rw[hp.1]at hz;cases hz;exact⟨hA.2 _ _ hx,fun j y hj he hy=>hp.least hA hj (he.trans hc) hy⟩
theorem Dn.stop{M0:List ι}{s x:ι}(hp:nV A M0 at_ c x)(hx:A x s=false):mY A M0 s at_:=by
 intro hA j y hj he hy;exact hA.1 _ _ _ hx (hp.least hA hj he hy)
theorem Dn.none{M0:List ι}{s:ι}(h:M0.length<=2*at_+1):mY A M0 s at_:=by
 intro _ j y hj he hy;have hl:=(lG.1 hy).1;rcases(zI hj).1 he with e|e<;>omega
structure jf(A:ι->ι->Bool)(M0:List ι)(s:ι)(M:List ι)(i:Nat)(mv:ι):Prop where
 way:Wy (QD A M0 s) i 0
 len:M.length=M0.length
 MS:i<M0.length
 old:∀j,j<=2*i->M[j]? =M0[j]?
 perm:(mv::M).Perm (s::M0)
 hp:yP A->bW A M0->(∀j a b,0<j->j≠i->(M.set i mv)[j]? =some a->(M.set i mv)[par j]? =some b->A a b=false)/\(0<i->∀y,M[i]? =some y->A mv y=false)
theorem jf.init{M0:List ι}{s:ι}(h:Dn A M0 s at_)(he:mY A M0 s at_)(hm:0<M0.length):jf A M0 s M0 at_ s:=by
 have hlt:at_<M0.length:=by rcases h.lt with h|h<;>omega
 refine⟨h.way,rfl,hlt,fun _ _=>rfl,List.Perm.refl _,fun hA hH=>⟨fun j a b hj hne ha hb=> ?_,fun h0 y hy=> ?_⟩⟩
 ·rw[List.getElem?_set_ne (Ne.symm hne)]at ha;by_cases e:par j=at_
  ·rw[e,List.getElem?_set_self hlt]at hb;cases hb;exact he hA j a hj e ha
  ·rw[List.getElem?_set_ne (Ne.symm e)]at hb;exact hH j a b hj ha hb
 ·exact((h.way.next h0).2.1.2 hA y hy).1
theorem jf.step{M0:List ι}{s mv:ι}{i:Nat}{M:List ι}(h:jf A M0 s M i mv)(h0:0<i):∃y,M[i]? =some y/\jf A M0 s (M.set i mv) (par i) y:=by
 obtain⟨_,hq,hw⟩:=h.way.next h0;have hp:=eH h0;have hil:i<M.length:=by rw[h.len];exact h.MS
 obtain⟨y,hy⟩:∃y,M[i]? =some y:=⟨M[i],by rw[nY]⟩;have hy0:M0[i]? =some y:=by rw[<-h.old i (by omega)];exact hy
 have hpp:2*par i+1<=i:=by unfold par;omega
 refine⟨y,hy,hw,by rw[lZ];exact h.len,by have:=h.MS;omega,fun j hj=> ?_,(set_perm mv hy).trans h.perm,fun hA hH=> ?_⟩
 ·rw[List.getElem?_set_ne (by omega)];exact h.old j (by omega)
 ·obtain⟨H1,H2⟩:=h.hp hA hH;have hpl:par i<(M.set i mv).length:=by rw[lZ];omega
  have ep:((M.set i mv).set (par i) y)[par i]? =some y:=by rw[List.getElem?_set_self hpl]
  have eo:∀j,j≠par i->((M.set i mv).set (par i) y)[j]? =(M.set i mv)[j]? :=fun j h1=>List.getElem?_set_ne (Ne.symm h1);refine⟨fun j a b hj hne ha hb=> ?_,fun hp0 z hz=> ?_⟩
  ·rw[eo j hne]at ha;by_cases h1:par j=par i
   ·rw[h1,ep]at hb;cases hb;by_cases hji:j=i
    ·subst hji;rw[List.getElem?_set_self hil]at ha;cases ha;exact H2 h0 y hy
    ·have hj2:j<=2*i:=by
       rcases(zI hj).1 h1 with e|e<;>omega
     rw[List.getElem?_set_ne (Ne.symm hji),h.old j hj2]at ha;exact(hq.2 hA y hy0).2 j a hj h1 ha
   ·rw[eo _ h1]at hb;by_cases hji:j=i
    ·subst hji;exact absurd rfl h1
    ·exact H1 j a b hj hji ha hb
  ·rw[List.getElem?_set_ne (by omega),h.old _ (by omega)]at hz;exact hH i y z h0 hy0 hz
theorem jf.done{M0:List ι}{s mv:ι}{M:List ι}(h:jf A M0 s M 0 mv):(∃t,M0[0]? =some t/\(t::M.set 0 mv).Perm (s::M0))/\(yP A->bW A M0->bW A (M.set 0 mv)):=by
 refine⟨?_,fun hA hH j a b hj ha hb=>(h.hp hA hH).1 j a b hj (by omega) ha hb⟩;have hl:=h.MS;obtain⟨t,ht⟩:∃t,M0[0]? =some t:=⟨M0[0],by rw[nY]⟩;exact⟨t,ht,(set_perm mv ((h.old 0 (by omega)).trans ht)).trans h.perm⟩
theorem bW.take{L:List ι}(h:bW A L)(n:Nat):bW A (L.take n):=by
 intro i x y h0 hx hy;rw[List.getElem?_take]at hx hy;split at hx
 ·split at hy
  ·exact h i x y h0 hx hy
  ·cases hy
 ·cases hx
end Hp
namespace Hc
open Go.RowKit Go.Sort Hp
attribute [local go_sem ↓] Go.wp_at_zero Go.wp_at_succ
abbrev Th:=Int×Pt.ah×Int
abbrev tv(a:Th):Value:= .agg #[.int .i64 a.1, .int .u64 a.2.1.1.1, .int .u64 a.2.1.1.2.1, .int .u64 a.2.1.1.2.2, .int .i64 a.2.2]
abbrev It:=Th×Nat
abbrev iv(x:It):Value:= .agg #[.int .i64 x.1.1, .int .u64 x.1.2.1.1.1, .int .u64 x.1.2.1.1.2.1, .int .u64 x.1.2.1.1.2.2, .int .i64 x.1.2.2, .int .u64 (x.2:Nat)]
def EI:El It where
 k:=6
 enc x:=[.int .i64 x.1.1, .int .u64 x.1.2.1.1.1, .int .u64 x.1.2.1.1.2.1, .int .u64 x.1.2.1.1.2.2, .int .i64 x.1.2.2, .int .u64 (x.2:Nat)]
 len _:=rfl
 one x u hu:=by
  simp at hu;rcases hu with rfl|rfl|rfl|rfl|rfl|rfl<;>rfl
theorem gz{ts:List It}(h:Ls EI w v ts){x:It}(hj:ts[j]? =some x):
    ∃b off c,v= .slice (some ⟨b,off,none⟩) ts.length c/\b<w.heap.size/\w.cell? ⟨b,off+j*6,none⟩=some (.int .i64 x.1.1)/\w.cell? ⟨b,off+j*6+1,none⟩=some (.int .u64 x.1.2.1.1.1)/\w.cell? ⟨b,off+j*6+2,none⟩=some (.int .u64 x.1.2.1.1.2.1)/\w.cell? ⟨b,off+j*6+3,none⟩=some (.int .u64 x.1.2.1.1.2.2)/\w.cell? ⟨b,off+j*6+4,none⟩=some (.int .i64 x.1.2.2)/\w.cell? ⟨b,off+j*6+5,none⟩=some (.int .u64 (x.2:Nat)):=by
 obtain⟨b,off,c,hv,hb,hc⟩:=h.get hj;exact⟨b,off,c,hv,hb,hc 0 _ (by decide) rfl,hc 1 _ (by decide) rfl,hc 2 _ (by decide) rfl,hc 3 _ (by decide) rfl,hc 4 _ (by decide) rfl,hc 5 _ (by decide) rfl⟩
abbrev fv(ff:Value):Value:= .func (.func 86) #[ff] #[]
structure dS(K:World->Prop)(V:Th->Prop)(ff:Value)(r:Th->Th->Bool):Prop where
 enter:∀args w,(callFunc 86 args).run Tryz.prog w= .ok (.enter 86 args) w
 calls:∀(a b:Th) (W:World),V a->V b->K W->Calls Tryz.prog 86 #[ff,tv a,tv b] W fun e w'=>e= .returned (.bool (r a b))/\Gr W w'
 gr:∀W W',K W->Gr W W'->K W'
def aT(r:Th->Th->Bool)(a b:It):Bool:=if a.2<b.2 then !r b.1 a.1 else r a.1 b.1
structure Hb(w:World)(hb:Nat)(ff:Value)(v:Value)(L:List It)(np:Nat):Prop where
 blk:w.heap[hb]? =some (.cells #[fv ff,v, .int .u64 (np:Nat)] 249 (0,0))
 own:w.ownsRow 0 251 6 v L.length (fl EI L)
 off:v.ownBlock≠some hb
section
variable {w w':World} {hb np:Nat} {ff:Value} {v:Value} {L:List It}
theorem Hb.lt(h:Hb w hb ff v L np):hb<w.heap.size:=(aG.1 h.blk).1
theorem Hb.c0(h:Hb w hb ff v L np):w.cell? ⟨hb,0,none⟩=some (fv ff):=by simp[World.cell?,h.blk]
theorem Hb.c1(h:Hb w hb ff v L np):w.cell? ⟨hb,1,none⟩=some v:=by simp[World.cell?,h.blk]
theorem Hb.c2(h:Hb w hb ff v L np):w.cell? ⟨hb,2,none⟩=some (.int .u64 (np:Nat)):=by simp[World.cell?,h.blk]
theorem Hb.fz(h:Hb w hb ff v L np)(o:Nat):w.frozen? ⟨hb,o,none⟩=false:=by simp[World.frozen?,h.blk]
theorem Hb.oW(h:Hb w hb ff v L np):Ls EI w v L:=aJ (E:=EI) h.own
theorem Hb.row(h:Hb w hb ff v L np):∀k,v.ownBlock=some k->k<w.heap.size:=fun k hk=>(h.own.lt k hk).2
theorem Hb.kp{S:Nat->Prop}(h:Hb w hb ff v L np)(hk:Kp S w w')(h1:¬S hb)(h2:∀k,v.ownBlock=some k->¬S k):Hb w' hb ff v L np:=
 ⟨(hk.block hb h.lt h1).trans h.blk,ay hk h.own h2,h.off⟩
theorem Hb.below(h:Hb w hb ff v L np)(hb':Below w.heap.size w w'):Hb w' hb ff v L np:=h.kp (S:=fun _=>False) (Kp.of_below hb') (fun h=>h) (fun _ _ h=>h)
theorem Hb.gr(h:Hb w hb ff v L np)(hg:Gr w w'):Hb w' hb ff v L np:=h.below hg.below
end
theorem kZ{n:Value}(h:w.heap[hb]? =some (.cells #[fv ff,v,n] 249 (0,0))):
    (∀v2,(w.setCell ⟨hb,1,none⟩ v2).heap[hb]? =some (.cells #[fv ff,v2,n] 249 (0,0))/\Kp (fun k=>k=hb) w (w.setCell ⟨hb,1,none⟩ v2))/\(∀n2,(w.setCell ⟨hb,2,none⟩ n2).heap[hb]? =some (.cells #[fv ff,v,n2] 249 (0,0))/\Kp (fun k=>k=hb) w (w.setCell ⟨hb,2,none⟩ n2)):=by
 refine⟨fun v2=> ?_,fun n2=> ?_⟩
 ·have e:=setCell_eq_setRow w hb 1 _ _ _ v2 h;rw[e];exact⟨by rw[setRow_heap w hb _ _ _ _ h];simp,rfl,rfl,rfl,by simp[World.setRow],fun k _ hne=>setRow_other w hb k _ (by omega)⟩
 ·have e:=setCell_eq_setRow w hb 2 _ _ _ n2 h;rw[e];exact⟨by rw[setRow_heap w hb _ _ _ _ h];simp,rfl,rfl,rfl,by simp[World.setRow],fun k _ hne=>setRow_other w hb k _ (by omega)⟩
theorem Hb.BB{np:Nat}{L:List It}(h:Hb w hb ff v L np)(n:Nat):Hb (w.setCell ⟨hb,2,none⟩ (.int .u64 n)) hb ff v L n/\Kp (fun k=>k=hb) w (w.setCell ⟨hb,2,none⟩ (.int .u64 n)):=by
 obtain⟨h1,h2⟩:=(kZ h.blk).2 (.int .u64 n);exact⟨⟨h1,ay h2 h.own (fun k hk e=>h.off (e ▸ hk)),h.off⟩,h2⟩
theorem bY{e:TypeId}{s q:Nat}{xs:List Value}(u:Value)(h:w.ownsRow 0 e s (.slice (some ⟨g,0,none⟩) n cap) n xs):
    (w.setCell ⟨g,q,none⟩ u).ownsRow 0 e s (.slice (some ⟨g,0,none⟩) n cap) n (xs.set q u)/\Kp (fun k=>k=g) w (w.setCell ⟨g,q,none⟩ u):=by
 obtain⟨h1,⟨h0,_⟩|⟨g',cap',cur,hv,hg,hh,h2,h3,h4,h5⟩⟩:=h
 ·cases h0
 ·cases hv;have e1:=setCell_eq_setRow w g q _ _ _ u hh;have hk1:Kp (fun k=>k=g) w (w.setCell ⟨g,q,none⟩ u):=by
   rw[e1];exact⟨rfl,rfl,rfl,by simp[World.setRow],fun q _ hne=>setRow_other _ g q _ (by omega)⟩
  refine⟨⟨by simpa using h1,Or.inr ⟨g,cap,_,rfl,hg,by rw[e1];exact setRow_heap _ g _ _ _ _ hh,h2,h3, ?_, ?_⟩⟩,hk1⟩
  ·simp[h4]
  ·rw[Array.toList_setIfInBounds,List.take_set,h5]
theorem Ao(L:List It)(i:Nat)(x:It):(((((((fl EI L).set (i*6) (.int .i64 x.1.1)).set (i*6+1) (.int .u64 x.1.2.1.1.1)).set (i*6+2) (.int .u64 x.1.2.1.1.2.1)).set (i*6+3) (.int .u64 x.1.2.1.1.2.2)).set (i*6+4) (.int .i64 x.1.2.2)).set (i*6+5) (.int .u64 (x.2:Nat)))=fl EI (L.set i x):=by
 induction L generalizing i with
 | nil => simp[fl]
 | cons y L ih=>
  rw[aQ];cases i with
  | zero => simp[EI,fl]
  | succ i=>
   rw[List.set_cons_succ,aQ,<-ih i,show(i+1)*6=i*6+6 by omega];simp[EI]
theorem eY{N:Nat}{L:List It}(x:It)(h:w.ownsRow 0 251 6 (.slice (some ⟨g,0,none⟩) N cap) N (fl EI L)):((((((w.setCell ⟨g,i*6,none⟩ (.int .i64 x.1.1)).setCell ⟨g,i*6+1,none⟩ (.int .u64 x.1.2.1.1.1)).setCell ⟨g,i*6+2,none⟩ (.int .u64 x.1.2.1.1.2.1)).setCell ⟨g,i*6+3,none⟩ (.int .u64 x.1.2.1.1.2.2)).setCell ⟨g,i*6+4,none⟩ (.int .i64 x.1.2.2)).setCell ⟨g,i*6+5,none⟩ (.int .u64 (x.2:Nat))).ownsRow 0 251 6 (.slice (some ⟨g,0,none⟩) N cap) N (fl EI (L.set i x))/\Kp (fun k=>k=g) w ((((((w.setCell ⟨g,i*6,none⟩ (.int .i64 x.1.1)).setCell ⟨g,i*6+1,none⟩ (.int .u64 x.1.2.1.1.1)).setCell ⟨g,i*6+2,none⟩ (.int .u64 x.1.2.1.1.2.1)).setCell ⟨g,i*6+3,none⟩ (.int .u64 x.1.2.1.1.2.2)).setCell ⟨g,i*6+4,none⟩ (.int .i64 x.1.2.2)).setCell ⟨g,i*6+5,none⟩ (.int .u64 (x.2:Nat))):=by
 obtain⟨h0,m0⟩:=bY (q:=i*6) (.int .i64 x.1.1) h;obtain⟨h1,m1⟩:=bY (q:=i*6+1) (.int .u64 x.1.2.1.1.1) h0;obtain⟨h2,m2⟩:=bY (q:=i*6+2) (.int .u64 x.1.2.1.1.2.1) h1;obtain⟨h3,m3⟩:=bY (q:=i*6+3) (.int .u64 x.1.2.1.1.2.2) h2;obtain⟨h4,m4⟩:=bY (q:=i*6+4) (.int .i64 x.1.2.2) h3;obtain⟨h5,m5⟩:=bY (q:=i*6+5) (.int .u64 (x.2:Nat)) h4;refine⟨?_,(((((m0.trans m1 (fun _ _ h=>h)).trans m2 (fun _ _ h=>h)).trans m3 (fun _ _ h=>h)).trans m4 (fun _ _ h=>h)).trans m5 (fun _ _ h=>h))⟩;rw[<-Ao];exact h5
def dO(hb:Nat)(v v':Value)(w w':World):Prop:=Kp (fun k=>k=hb\/v.ownBlock=some k) w w'/\∀g,v'.ownBlock=some g->v.ownBlock=some g\/w.heap.size<=g
theorem fO(i:Nat)(h0:0<i)(hl:i<9223372036854775807)(w:World):Calls Tryz.prog 147 #[.int .i64 i] w fun e w'=>e= .returned (.int .i64 (par i:Nat))/\w'=w:=by
 have hz:((i:Int)-1).tdiv 2=(par i:Nat):=by
  unfold par;rw[Int.tdiv_eq_ediv_of_nonneg (by omega)];omega
 go_enter Tryz.func147,Tryz.ntmps147;go_wp2;go_ret;refine⟨?_,rfl⟩;have hw:wrap64 (par i:Nat)=(par i:Nat):=by unfold wrap64;have:=eH h0;omega
 show Ending.returned (Value.int _ (wrap64 (par i:Nat)))=_;rw[hw]
theorem ku(ff:Value)(r:Th->Th->Bool){K:World->Prop}{V:Th->Prop}(hF:dS K V ff r)(x y:It)(hx:V x.1)(hy:V y.1)(hb:Nat)(w:World)(hk:K w)(hlt:hb<w.heap.size)(cf:w.cell? ⟨hb,0,none⟩=some (fv ff)):
    Calls Tryz.prog 209 #[.pointer (some ⟨hb,0,none⟩),iv x,iv y] w fun e w'=>e= .returned (.bool (aT r x y))/\Gr w w':=by
 have he:=hF.enter;have hc1:=fun W=>hF.calls y.1 x.1 W hy hx;have hc2:=fun W=>hF.calls x.1 y.1 W hx hy;have WE:Hid (∀W,Gr w W->K W):=fun W g=>hF.gr _ _ hk g;have hm:Tryz.prog.follows .mixedOrders=true:=by kernel_rfl
 obtain⟨W1,hW1⟩:=aB ((w.alloc (.cells #[.int .i64 x.1.1, .int .u64 x.1.2.1.1.1, .int .u64 x.1.2.1.1.2.1, .int .u64 x.1.2.1.1.2.2, .int .i64 x.1.2.2, .int .u64 (x.2:Nat)] 251)).alloc (.cells #[.int .i64 y.1.1, .int .u64 y.1.2.1.1.1, .int .u64 y.1.2.1.1.2.1, .int .u64 y.1.2.1.1.2.2, .int .i64 y.1.2.2, .int .u64 (y.2:Nat)] 251));have G1:Gr w W1:=by rw[hW1];exact((Gr.refl _).alloc _).alloc _
 have hz:w.heap.size+1<W1.heap.size:=by rw[hW1];simp
 obtain⟨nb,hnb⟩:=aB (w.heap.size);have k0:=cell_grown (a:=⟨hb,0,none⟩) (Nat.lt_trans hlt (Nat.lt_of_succ_lt hz)) ((G1.cell hlt).trans cf);obtain⟨p0,p1,p2,p3,p4,p5⟩:W1.cell? ⟨nb,0,none⟩=some (.int .i64 x.1.1)/\W1.cell? ⟨nb,1,none⟩=some (.int .u64 x.1.2.1.1.1)/\W1.cell? ⟨nb,2,none⟩=some (.int .u64 x.1.2.1.1.2.1)/\W1.cell? ⟨nb,3,none⟩=some (.int .u64 x.1.2.1.1.2.2)/\W1.cell? ⟨nb,4,none⟩=some (.int .i64 x.1.2.2)/\W1.cell? ⟨nb,5,none⟩=some (.int .u64 (x.2:Nat)):=by rw[hW1,hnb];simp
 obtain⟨q0,q1,q2,q3,q4,q5⟩:W1.cell? ⟨nb+1,0,none⟩=some (.int .i64 y.1.1)/\W1.cell? ⟨nb+1,1,none⟩=some (.int .u64 y.1.2.1.1.1)/\W1.cell? ⟨nb+1,2,none⟩=some (.int .u64 y.1.2.1.1.2.1)/\W1.cell? ⟨nb+1,3,none⟩=some (.int .u64 y.1.2.1.1.2.2)/\W1.cell? ⟨nb+1,4,none⟩=some (.int .i64 y.1.2.2)/\W1.cell? ⟨nb+1,5,none⟩=some (.int .u64 (y.2:Nat)):=by rw[hW1,hnb];simp
 have k10:=cell_grown (w:=W1) (a:=⟨nb,0,none⟩) (by rw[hnb];exact Nat.lt_of_succ_lt hz) p0;have k11:=cell_grown (w:=W1) (a:=⟨nb,1,none⟩) (by rw[hnb];exact Nat.lt_of_succ_lt hz) p1;have k12:=cell_grown (w:=W1) (a:=⟨nb,2,none⟩) (by rw[hnb];exact Nat.lt_of_succ_lt hz) p2;have k13:=cell_grown (w:=W1) (a:=⟨nb,3,none⟩) (by rw[hnb];exact Nat.lt_of_succ_lt hz) p3;have k14:=cell_grown (w:=W1) (a:=⟨nb,4,none⟩) (by rw[hnb];exact Nat.lt_of_succ_lt hz) p4;have k15:=cell_grown (w:=W1) (a:=⟨nb,5,none⟩) (by rw[hnb];exact Nat.lt_of_succ_lt hz) p5;have k20:=cell_grown (w:=W1) (a:=⟨nb+1,0,none⟩) (by rw[hnb];exact hz) q0;have k21:=cell_grown (w:=W1) (a:=⟨nb+1,1,none⟩) (by rw[hnb];exact hz) q1;have k22:=cell_grown (w:=W1) (a:=⟨nb+1,2,none⟩) (by rw[hnb];exact hz) q2;have k23:=cell_grown (w:=W1) (a:=⟨nb+1,3,none⟩) (by rw[hnb];exact hz) q3;have k24:=cell_grown (w:=W1) (a:=⟨nb+1,4,none⟩) (by rw[hnb];exact hz) q4;have k25:=cell_grown (w:=W1) (a:=⟨nb+1,5,none⟩) (by rw[hnb];exact hz) q5;by_cases hlt2:x.2<y.2
 ·have hlz:(x.2:Int)<(y.2:Int):=by omega
  have HA:Hid (aT r x y= !r y.1 x.1):=by unfold aT;rw[if_pos hlt2];rfl
  rw[HA.o];generalize r y.1 x.1=rr at hc1⊢;clear hc2 HA;go_enter Tryz.func209,Tryz.ntmps209;go_upto_region 2 with fail;rw[<-hW1,<-hnb];clear hW1 hnb cf;go_quiet_grown (first|(go_at_call 86;refine Calls.grown_of (v:= .bool rr) (hc1 _ (WE.o _ ((G1.drewN _).grown _)))));go_wp2;go_ret;exact⟨rfl,(G1.drewN _).grown _⟩
 ·have hlz:¬(x.2:Int)<(y.2:Int):=by omega
  have HA:Hid (aT r x y=r x.1 y.1):=by unfold aT;rw[if_neg hlt2];rfl
  rw[HA.o];generalize r x.1 y.1=rr at hc2⊢;clear hc1 HA;go_enter Tryz.func209,Tryz.ntmps209;go_upto_region 3 with fail;rw[<-hW1,<-hnb];clear hW1 hnb cf;go_quiet_grown (first|(go_at_call 86;refine Calls.grown_of (v:= .bool rr) (hc2 _ (WE.o _ ((G1.drewN _).grown _)))));go_wp2;go_ret;exact⟨rfl,(G1.drewN _).grown _⟩
end Hc
end Go.Proofs.YteekbpokkjjipaaGreat
