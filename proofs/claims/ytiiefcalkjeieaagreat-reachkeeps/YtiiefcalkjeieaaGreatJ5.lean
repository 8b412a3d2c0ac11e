import Derived.Test.YtiiefcalkjeieaaGreatJ2
import Derived.Deep.DrawnRows
import Derived.Deep.DeepCutAuto
import Derived.Deep.LoopGhost
import Derived.Deep.QuietTactic
import Derived.BigQuiet
import Derived.Shelf.SlSortCmp.QuietGrown
variable{p i at_ N j c n a hb g cap q:Nat}{w:Go.World}{v ff:Go.Value}{α β:Type}
set_option maxHeartbeats 1000000
namespace Go.Proofs.YtiiefcalkjeieaaGreat
namespace Hp
variable {ι:Type} {A:ι->ι->Bool}
def par(i:Nat):Nat:=(i-1)/2
theorem fD(h:0<i):par i<i:=by unfold par;omega
theorem Bu(h:0<j):par j=i↔j=2*i+1\/j=2*i+2:=by unfold par;omega
def Av(A:ι->ι->Bool):Prop:=(∀a b c,A b a=false->A c b=false->A c a=false)/\∀a b,A a b=true->A b a=false
theorem Av.self(h:Av A)(a:ι):A a a=false:=by
 cases e:A a a with
 | false => rfl
 | true => exact e.symm.trans (h.2 a a e)
def bZ(A:ι->ι->Bool)(L:List ι):Prop:=∀i x y,0<i->L[i]? =some x->L[par i]? =some y->A x y=false
theorem bZ.top(hA:Av A){L:List ι}(h:bZ A L){t:ι}(ht:L[0]? =some t):∀(i:Nat) (x:ι),L[i]? =some x->A x t=false:=by
 intro i
 induction i using Nat.strongRecOn with
 | ind i ih=>
  intro x hx;by_cases h0:i=0
  ·subst h0;rw[ht]at hx;cases hx;exact hA.self t
  ·have hp:=fD (Nat.pos_of_ne_zero h0);have hl:=(lG.1 hx).1;obtain⟨y,hy⟩:∃y,L[par i]? =some y:=⟨L[par i]'(by omega),by rw[p8]⟩;exact hA.1 _ _ _ (ih _ hp y hy) (h i x y (Nat.pos_of_ne_zero h0) hx hy)
inductive Wy (Q:Nat->Prop):Nat->Nat->Prop
 | refl (i:Nat):Wy Q i i
 | step {i a:Nat}:0<i->Q i->Wy Q (par i) a->Wy Q i a
variable {Q:Nat->Prop}
theorem Wy.snoc(h:Wy Q n i)(h0:0<i)(hq:Q i):Wy Q n (par i):=by
 induction h with
 | refl i => exact .step h0 hq (.refl _)
 | step a b _ ih => exact .step a b (ih h0 hq)
theorem Wy.le(h:Wy Q i a):a<=i:=by
 induction h with
 | refl i => exact nR _
 | step h0 _ _ ih => have:=fD h0;omega
theorem Wy.next(h:Wy Q i a)(hl:a<i):0<i/\Q i/\Wy Q (par i) a:=by
 cases h with
 | refl => omega
 | step a b c => exact⟨a,b,c⟩
theorem set_perm{L:List ι}{y:ι}(x:ι)(h:L[i]? =some y):(y::L.set i x).Perm (x::L):=by
 induction L generalizing i with
 | nil => simp at h
 | cons a L ih=>
  cases i with
  | zero => simp at h;subst h;simp only[List.set_cons_zero];exact List.Perm.swap _ _ _
  | succ i=>
   simp only[List.set_cons_succ];exact(List.Perm.swap _ _ _).trans (((ih (by simpa using h)).cons a).trans (List.Perm.swap _ _ _))
theorem swap_perm{M:List ι}{y:ι}(x:ι)(hi:i<M.length)(hp:M[p]? =some y)(hne:i≠p):((M.set i y).set p x).Perm (M.set i x):=by
 have h1:(y::(M.set i y).set p x).Perm (x::M.set i y):=set_perm x (by rw[gX hne];exact hp);have hz:M[i]? =some M[i]:=by rw[p8]
 have h2:(M[i]::M.set i y).Perm (y::M):=set_perm y hz;have h3:(M[i]::M.set i x).Perm (x::M):=set_perm x hz;refine List.Perm.cons_inv (a:=y) (List.Perm.cons_inv (a:=M[i]) ?_);refine(h1.cons _).trans ((List.Perm.swap _ _ _).trans ((h2.cons x).trans ((List.Perm.swap _ _ _).trans ((h3.symm.cons y).trans (List.Perm.swap _ _ _)))))
def QU(A:ι->ι->Bool)(L:List ι)(x:ι)(i:Nat):Prop:=∃y,L[par i]? =some y/\A x y=true
def HH(A:ι->ι->Bool)(N:List ι)(i:Nat):Prop:=
 (∀j a b,0<j->j≠i->N[j]? =some a->N[par j]? =some b->A a b=false)/\∀j a b,0<j->par j=i->0<i->N[j]? =some a->N[par i]? =some b->A a b=false
structure dY(A:ι->ι->Bool)(L:List ι)(x:ι)(at_:Nat)(M:List ι)(i:Nat):Prop where
 way:Wy (QU A L x) i at_
 len:M.length=L.length+1
 ile:i<=L.length
 old:∀j,j<=i->M[j]? =(L++[x])[j]?
 perm:(M.set i x).Perm (L++[x])
 hp:Av A->bZ A L->HH A (M.set i x) i
theorem dY.init{L:List ι}{x:ι}(h:Wy (QU A L x) L.length at_):dY A L x at_ (L++[x]) L.length:=by
 have e:(L++[x]).set L.length x=L++[x]:=by rw[List.set_append_right _ _ (nR _)];simp
 refine⟨h,by simp,nR _,fun _ _=>rfl,by rw[e],fun hA hH=> ?_⟩;rw[e];refine⟨fun j a b h0 hne ha hb=> ?_,fun j a b h0 hp _ ha _=> ?_⟩
 ·have hl:=(lG.1 ha).1;simp at hl;have:=fD h0;rw[gL (by omega)]at ha hb;exact hH j a b h0 ha hb
 ·have hl:=(lG.1 ha).1;simp at hl;have:=fD h0;omega
theorem dY.step{L:List ι}{x:ι}{at_ i:Nat}{M:List ι}(h:dY A L x at_ M i)(hlt:at_<i):∃y,M[par i]? =some y/\dY A L x at_ (M.set i y) (par i):=by
 obtain⟨h0,⟨y,hy,hxy⟩,hw⟩:=h.way.next hlt;have hp:=fD h0;have hM:M[par i]? =some y:=by
  rw[h.old _ (by omega),gL (by have:=h.ile;omega)];exact hy
 have hil:i<M.length:=by rw[h.len];have:=h.ile;omega
 refine⟨y,hM,hw,by rw[lZ];exact h.len,by have:=h.ile;omega,fun j hj=> ?_,(swap_perm x hil hM (by omega)).trans h.perm,fun hA hH=> ?_⟩
 ·rw[gX (by omega)];exact h.old j (by omega)
 ·obtain⟨H1,H2⟩:=h.hp hA hH;have hpl:par i<(M.set i y).length:=by rw[lZ];omega
  have eo:∀j,j≠i->j≠par i->((M.set i y).set (par i) x)[j]? =(M.set i x)[j]? :=fun j h1 h2=>by
   rw[gX (Ne.symm h2),gX (Ne.symm h1),gX (Ne.symm h1)]
  have ep:((M.set i y).set (par i) x)[par i]? =some x:=by rw[List.getElem?_set_self hpl]
  have ei:((M.set i y).set (par i) x)[i]? =some y:=by rw[gX (by omega),List.getElem?_set_self hil]
  have np:(M.set i x)[par i]? =some y:=by rw[gX (by omega)];exact hM
  have le1:A y x=false:=hA.2 _ _ hxy;refine⟨fun j a b hj hne ha hb=> ?_,fun j a b hj hpj hp0 ha hb=> ?_⟩
  ·by_cases hji:j=i
   ·subst hji;rw[ei]at ha;rw[ep]at hb;cases ha;cases hb;exact le1
   ·rw[eo j hji hne]at ha;by_cases h1:par j=par i
    ·rw[h1,ep]at hb;cases hb;exact hA.1 _ _ _ le1 (H1 j a y hj hji ha (by rw[h1];exact np))
    ·by_cases h2:par j=i
     ·rw[h2,ei]at hb;cases hb;exact H2 j a y hj h2 h0 ha np
     ·rw[eo _ h2 h1]at hb;exact H1 j a b hj hji ha hb
  ·have hpp:=fD hp0;rw[eo _ (by omega) (by omega)]at hb;have hyb:A y b=false:=H1 (par i) y b hp0 (by omega) np hb;by_cases hji:j=i
   ·subst hji;rw[ei]at ha;cases ha;exact hyb
   ·have hjp:j≠par i:=(by intro e;have:=fD hj;omega);rw[eo j hji hjp]at ha;exact hA.1 _ _ _ hyb (H1 j a y hj hji ha (by rw[hpj];exact np))
theorem dY.done{L:List ι}{x:ι}{M:List ι}(h:dY A L x at_ M at_)(he:at_=0\/∃y,L[par at_]? =some y/\A x y=false):(M.set at_ x).Perm (L++[x])/\(Av A->bZ A L->bZ A (M.set at_ x)):=by
 refine⟨h.perm,fun hA hH j a b hj ha hb=> ?_⟩;obtain⟨H1,_⟩:=h.hp hA hH;by_cases e:j=at_
 ·subst e;rcases he with he|⟨y,hy,hxy⟩
  ·omega
  ·have hp:=fD hj;have hl:=h.ile;rw[List.getElem?_set_self (by rw[h.len];omega)]at ha;rw[gX (by omega),h.old _ (by omega),gL (by omega),hy]at hb;cases ha;cases hb;exact hxy
 ·exact H1 j a b hj e ha hb
def QD(A:ι->ι->Bool)(M0:List ι)(s:ι)(i:Nat):Prop:=
 i<M0.length/\(Av A->∀x,M0[i]? =some x->A s x=false/\∀j y,0<j->par j=par i->M0[j]? =some y->A y x=false)
def pQ(A:ι->ι->Bool)(M0:List ι)(at_ c:Nat)(x:ι):Prop:=
 M0[c]? =some x/\((c=2*at_+1/\∀y,M0[2*at_+2]? =some y->A y x=false)\/(c=2*at_+2/\∃y,M0[2*at_+1]? =some y/\A x y=true))
theorem pQ.par{M0:List ι}{x:ι}(h:pQ A M0 at_ c x):0<c/\Hp.par c=at_:=by
 have h0:0<c:=by rcases h.2 with⟨h,_⟩|⟨h,_⟩<;>omega
 exact⟨h0,(Bu h0).2 (by rcases h.2 with⟨h,_⟩|⟨h,_⟩;exact Or.inl h;exact Or.inr h)⟩
theorem pQ.least{M0:List ι}{x:ι}(hA:Av A)(h:pQ A M0 at_ c x){y:ι}(h0:0<j)(hj:Hp.par j=at_)(hy:M0[j]? =some y):A y x=false:=by
 obtain⟨hx,h⟩:=h;rcases(Bu h0).1 hj with e|e
 ·rcases h with⟨rfl,_⟩|⟨_,z,hz,hxz⟩
  ·rw[<-e,hy]at hx;cases hx;exact hA.self _
  ·rw[<-e,hy]at hz;cases hz;exact hA.2 _ _ hxz
 ·rcases h with⟨_,h⟩|⟨rfl,_⟩
  ·exact h y (by rw[<-e];exact hy)
  ·rw[<-e,hy]at hx;cases hx;exact hA.self _
structure Dn(A:ι->ι->Bool)(M0:List ι)(s:ι)(at_:Nat):Prop where
 lt:at_=0\/at_<M0.length
 way:Wy (QD A M0 s) at_ 0
def oC(A:ι->ι->Bool)(M0:List ι)(s:ι)(at_:Nat):Prop:=Av A->∀j y,0<j->par j=at_->M0[j]? =some y->A y s=false
theorem Dn.step{M0:List ι}{s x:ι}{at_ c:Nat}(h:Dn A M0 s at_)(hp:pQ A M0 at_ c x)(hx:A x s=true):Dn A M0 s c:=by
 obtain⟨h0,hc⟩:=hp.par;have hl:=(lG.1 hp.1).1;refine⟨Or.inr hl, .step h0 ⟨hl,fun hA z hz=> ?_⟩ (by rw[hc];exact h.way)⟩;rw[hp.1]at hz;cases hz;exact⟨hA.2 _ _ hx,fun j y hj he hy=>hp.least hA hj (he.trans hc) hy⟩
theorem Dn.stop{M0:List ι}{s x:ι}(hp:pQ A M0 at_ c x)(hx:A x s=false):oC A M0 s at_:=by
 intro hA j y hj he hy;exact hA.1 _ _ _ hx (hp.least hA hj he hy)
theorem Dn.none{M0:List ι}{s:ι}(h:M0.length<=2*at_+1):oC A M0 s at_:=by
 intro _ j y hj he hy;have hl:=(lG.1 hy).1;rcases(Bu hj).1 he with e|e<;>omega
structure jH(A:ι->ι->Bool)(M0:List ι)(s:ι)(M:List ι)(i:Nat)(mv:ι):Prop where
 way:Wy (QD A M0 s) i 0
 len:M.length=M0.length
 OX:i<M0.length
 old:∀j,j<=2*i->M[j]? =M0[j]?
 perm:(mv::M).Perm (s::M0)
 hp:Av A->bZ A M0->(∀j a b,0<j->j≠i->(M.set i mv)[j]? =some a->(M.set i mv)[par j]? =some b->A a b=false)/\(0<i->∀y,M[i]? =some y->A mv y=false)
theorem jH.init{M0:List ι}{s:ι}(h:Dn A M0 s at_)(he:oC A M0 s at_)(hm:0<M0.length):jH A M0 s M0 at_ s:=by
 have hlt:at_<M0.length:=by rcases h.lt with h|h<;>omega
 refine⟨h.way,rfl,hlt,fun _ _=>rfl,List.Perm.refl _,fun hA hH=>⟨fun j a b hj hne ha hb=> ?_,fun h0 y hy=> ?_⟩⟩
 ·rw[gX (Ne.symm hne)]at ha;by_cases e:par j=at_
  ·rw[e,List.getElem?_set_self hlt]at hb;cases hb;exact he hA j a hj e ha
  ·rw[gX (Ne.symm e)]at hb;exact hH j a b hj ha hb
 ·exact((h.way.next h0).2.1.2 hA y hy).1
theorem jH.step{M0:List ι}{s mv:ι}{i:Nat}{M:List ι}(h:jH A M0 s M i mv)(h0:0<i):∃y,M[i]? =some y/\jH A M0 s (M.set i mv) (par i) y:=by
 obtain⟨_,hq,hw⟩:=h.way.next h0;have hp:=fD h0;have hil:i<M.length:=by rw[h.len];exact h.OX
 obtain⟨y,hy⟩:∃y,M[i]? =some y:=⟨M[i],by rw[p8]⟩;have hy0:M0[i]? =some y:=by rw[<-h.old i (by omega)];exact hy
 have hpp:2*par i+1<=i:=by unfold par;omega
 refine⟨y,hy,hw,by rw[lZ];exact h.len,by have:=h.OX;omega,fun j hj=> ?_,(set_perm mv hy).trans h.perm,fun hA hH=> ?_⟩
 ·rw[gX (by omega)];exact h.old j (by omega)
 ·obtain⟨H1,H2⟩:=h.hp hA hH;have hpl:par i<(M.set i mv).length:=by rw[lZ];omega
  have ep:((M.set i mv).set (par i) y)[par i]? =some y:=by rw[List.getElem?_set_self hpl]
  have eo:∀j,j≠par i->((M.set i mv).set (par i) y)[j]? =(M.set i mv)[j]? :=fun j h1=>gX (Ne.symm h1);refine⟨fun j a b hj hne ha hb=> ?_,fun hp0 z hz=> ?_⟩
  ·rw[eo j hne]at ha;by_cases h1:par j=par i
   ·rw[h1,ep]at hb;cases hb;by_cases hji:j=i
    ·subst hji;rw[List.getElem?_set_self hil]at ha;cases ha;exact H2 h0 y hy
    ·have hj2:j<=2*i:=by
       rcases(Bu hj).1 h1 with e|e<;>omega
     rw[gX (Ne.symm hji),h.old j hj2]at ha;exact(hq.2 hA y hy0).2 j a hj h1 ha
   ·rw[eo _ h1]at hb;by_cases hji:j=i
    ·subst hji;exact absurd rfl h1
    ·exact H1 j a b hj hji ha hb
  ·rw[gX (by omega),h.old _ (by omega)]at hz;exact hH i y z h0 hy0 hz
theorem jH.done{M0:List ι}{s mv:ι}{M:List ι}(h:jH A M0 s M 0 mv):(∃t,M0[0]? =some t/\(t::M.set 0 mv).Perm (s::M0))/\(Av A->bZ A M0->bZ A (M.set 0 mv)):=by
 refine⟨?_,fun hA hH j a b hj ha hb=>(h.hp hA hH).1 j a b hj (by omega) ha hb⟩;have hl:=h.OX;obtain⟨t,ht⟩:∃t,M0[0]? =some t:=⟨M0[0],by rw[p8]⟩;exact⟨t,ht,(set_perm mv ((h.old 0 (by omega)).trans ht)).trans h.perm⟩
theorem bZ.take{L:List ι}(h:bZ A L)(n:Nat):bZ A (L.take n):=by
 intro i x y h0 hx hy;rw[List.getElem?_take]at hx hy;split at hx
 ·split at hy
  ·exact h i x y h0 hx hy
  ·cases hy
 ·cases hx
end Hp
namespace Hc
open Go.RowKit Go.Sort Hp
attribute[local go_sem ↓]wp_at_zero wp_at_succ
abbrev Th:=Int×Pt.ai×Int
abbrev tv(a:Th):Value:= .agg #[.int .i64 a.1, .int .u64 a.2.1.1.1, .int .u64 a.2.1.1.2.1, .int .u64 a.2.1.1.2.2, .int .i64 a.2.2]
abbrev It:=Th×Nat
abbrev iv(x:It):Value:= .agg #[.int .i64 x.1.1, .int .u64 x.1.2.1.1.1, .int .u64 x.1.2.1.1.2.1, .int .u64 x.1.2.1.1.2.2, .int .i64 x.1.2.2, .int .u64 (x.2:Nat)]
def EI:El It where
 k:=6
 enc x:=[iV x.1.1,uV x.1.2.1.1.1,uV x.1.2.1.1.2.1,uV x.1.2.1.1.2.2,iV x.1.2.2,uV (x.2:Nat)]
 len _:=rfl
 one x u hu:=by
  simp at hu;rcases hu with rfl|rfl|rfl|rfl|rfl|rfl<;>rfl
theorem gV{ts:List It}(h:Ls EI w v ts){x:It}(hj:ts[j]? =some x):
    ∃b off c,v= .slice (some ⟨b,off,none⟩) ts.length c/\b<w.heap.size/\aj w b (off+j*6) (iV x.1.1)/\aj w b (off+j*6+1) (uV x.1.2.1.1.1)/\aj w b (off+j*6+2) (uV x.1.2.1.1.2.1)/\aj w b (off+j*6+3) (uV x.1.2.1.1.2.2)/\aj w b (off+j*6+4) (iV x.1.2.2)/\aj w b (off+j*6+5) (uV (x.2:Nat)):=by
 obtain⟨b,off,c,hv,hb,hc⟩:=h.get hj;exact⟨b,off,c,hv,hb,hc 0 _ (by decide) rfl,hc 1 _ (by decide) rfl,hc 2 _ (by decide) rfl,hc 3 _ (by decide) rfl,hc 4 _ (by decide) rfl,hc 5 _ (by decide) rfl⟩
abbrev fv(ff:Value):Value:= .func (.func 86) #[ff] #[]
structure dZ(K:World->Prop)(V:Th->Prop)(ff:Value)(r:Th->Th->Bool):Prop where
 enter:∀args w,(callFunc 86 args).run Tryz.prog w= .ok (.enter 86 args) w
 calls:∀(a b:Th) (W:World),V a->V b->K W->CL 86 #[ff,tv a,tv b] W fun e w'=>e= .returned (.bool (r a b))/\Gr W w'
 gr:∀W W',K W->Gr W W'->K W'
def aX(r:Th->Th->Bool)(a b:It):Bool:=if a.2<b.2 then !r b.1 a.1 else r a.1 b.1
structure Hb(w:World)(hb:Nat)(ff:Value)(v:Value)(L:List It)(np:Nat):Prop where
 blk:w.heap[hb]? =some (.cells #[fv ff,v,uV (np:Nat)] 249 (0,0))
 own:w.ownsRow 0 251 6 v L.length (fl EI L)
 off:v.ownBlock≠some hb
section
variable {w w':World} {hb np:Nat} {ff:Value} {v:Value} {L:List It}
theorem Hb.lt(h:Hb w hb ff v L np):hb<w.heap.size:=(aG.1 h.blk).1
theorem Hb.c0(h:Hb w hb ff v L np):w.cell? ⟨hb,0,none⟩=some (fv ff):=by simp[World.cell?,h.blk]
theorem Hb.c1(h:Hb w hb ff v L np):w.cell? ⟨hb,1,none⟩=some v:=by simp[World.cell?,h.blk]
theorem Hb.c2(h:Hb w hb ff v L np):w.cell? ⟨hb,2,none⟩=some (uV (np:Nat)):=by simp[World.cell?,h.blk]
theorem Hb.fz(h:Hb w hb ff v L np)(o:Nat):w.frozen? ⟨hb,o,none⟩=false:=by simp[World.frozen?,h.blk]
theorem Hb.qF(h:Hb w hb ff v L np):Ls EI w v L:=aK (E:=EI) h.own
theorem Hb.row(h:Hb w hb ff v L np):∀k,v.ownBlock=some k->k<w.heap.size:=fun k hk=>(h.own.lt k hk).2
theorem Hb.kp{S:Nat->Prop}(h:Hb w hb ff v L np)(hk:Kp S w w')(h1:¬S hb)(h2:∀k,v.ownBlock=some k->¬S k):Hb w' hb ff v L np:=
 ⟨(hk.block hb h.lt h1).trans h.blk,ax hk h.own h2,h.off⟩
theorem Hb.below(h:Hb w hb ff v L np)(hb':Bw w w'):Hb w' hb ff v L np:=h.kp (S:=fun _=>False) (Kp.of_below hb') (fun h=>h) (fun _ _ h=>h)
theorem Hb.gr(h:Hb w hb ff v L np)(hg:Gr w w'):Hb w' hb ff v L np:=h.below hg.below
end
theorem lY{n:Value}(h:w.heap[hb]? =some (.cells #[fv ff,v,n] 249 (0,0))):
    (∀v2,(w.setCell ⟨hb,1,none⟩ v2).heap[hb]? =some (.cells #[fv ff,v2,n] 249 (0,0))/\Kp (fun k=>k=hb) w (w.setCell ⟨hb,1,none⟩ v2))/\(∀n2,(w.setCell ⟨hb,2,none⟩ n2).heap[hb]? =some (.cells #[fv ff,v,n2] 249 (0,0))/\Kp (fun k=>k=hb) w (w.setCell ⟨hb,2,none⟩ n2)):=by
 refine⟨fun v2=> ?_,fun n2=> ?_⟩
 ·have e:=setCell_eq_setRow w hb 1 _ _ _ v2 h;rw[e];exact⟨by rw[setRow_heap w hb _ _ _ _ h];simp,rfl,rfl,rfl,by simp[World.setRow],fun k _ hne=>setRow_other w hb k _ (by omega)⟩
 ·have e:=setCell_eq_setRow w hb 2 _ _ _ n2 h;rw[e];exact⟨by rw[setRow_heap w hb _ _ _ _ h];simp,rfl,rfl,rfl,by simp[World.setRow],fun k _ hne=>setRow_other w hb k _ (by omega)⟩
theorem Hb.DF{np:Nat}{L:List It}(h:Hb w hb ff v L np)(n:Nat):Hb (w.setCell ⟨hb,2,none⟩ (uV n)) hb ff v L n/\Kp (fun k=>k=hb) w (w.setCell ⟨hb,2,none⟩ (uV n)):=by
 obtain⟨h1,h2⟩:=(lY h.blk).2 (uV n);exact⟨⟨h1,ax h2 h.own (fun k hk e=>h.off (e ▸ hk)),h.off⟩,h2⟩
theorem cO{e:TypeId}{s:Nat}{xs:List Value}(u:Value)(h:w.ownsRow 0 e s (sO g n cap) n xs):
    (w.setCell ⟨g,q,none⟩ u).ownsRow 0 e s (sO g n cap) n (xs.set q u)/\Kp (fun k=>k=g) w (w.setCell ⟨g,q,none⟩ u):=by
 obtain⟨h1,⟨h0,_⟩|⟨g',cap',cur,hv,hg,hh,h2,h3,h4,h5⟩⟩:=h
 ·cases h0
 ·cases hv;have e1:=setCell_eq_setRow w g q _ _ _ u hh;have hk1:Kp (fun k=>k=g) w (w.setCell ⟨g,q,none⟩ u):=by
   rw[e1];exact⟨rfl,rfl,rfl,by simp[World.setRow],fun q _ hne=>setRow_other _ g q _ (by omega)⟩
  refine⟨⟨by simpa using h1,Or.inr ⟨g,cap,_,rfl,hg,by rw[e1];exact setRow_heap _ g _ _ _ _ hh,h2,h3, ?_, ?_⟩⟩,hk1⟩
  ·simp[h4]
  ·rw[Array.toList_setIfInBounds,List.take_set,h5]
theorem Cs(L:List It)(i:Nat)(x:It):(((((((fl EI L).set (i*6) (iV x.1.1)).set (i*6+1) (uV x.1.2.1.1.1)).set (i*6+2) (uV x.1.2.1.1.2.1)).set (i*6+3) (uV x.1.2.1.1.2.2)).set (i*6+4) (iV x.1.2.2)).set (i*6+5) (uV (x.2:Nat)))=fl EI (L.set i x):=by
 induction L generalizing i with
 | nil => simp[fl]
 | cons y L ih=>
  rw[aR];cases i with
  | zero => simp[EI,fl]
  | succ i=>
   rw[List.set_cons_succ,aR,<-ih i,show(i+1)*6=i*6+6 by omega];simp[EI]
theorem fM{L:List It}(x:It)(h:w.ownsRow 0 251 6 (sO g N cap) N (fl EI L)):((((((w.setCell ⟨g,i*6,none⟩ (iV x.1.1)).setCell ⟨g,i*6+1,none⟩ (uV x.1.2.1.1.1)).setCell ⟨g,i*6+2,none⟩ (uV x.1.2.1.1.2.1)).setCell ⟨g,i*6+3,none⟩ (uV x.1.2.1.1.2.2)).setCell ⟨g,i*6+4,none⟩ (iV x.1.2.2)).setCell ⟨g,i*6+5,none⟩ (uV (x.2:Nat))).ownsRow 0 251 6 (sO g N cap) N (fl EI (L.set i x))/\Kp (fun k=>k=g) w ((((((w.setCell ⟨g,i*6,none⟩ (iV x.1.1)).setCell ⟨g,i*6+1,none⟩ (uV x.1.2.1.1.1)).setCell ⟨g,i*6+2,none⟩ (uV x.1.2.1.1.2.1)).setCell ⟨g,i*6+3,none⟩ (uV x.1.2.1.1.2.2)).setCell ⟨g,i*6+4,none⟩ (iV x.1.2.2)).setCell ⟨g,i*6+5,none⟩ (uV (x.2:Nat))):=by
 obtain⟨h0,m0⟩:=cO (q:=i*6) (iV x.1.1) h;obtain⟨h1,m1⟩:=cO (q:=i*6+1) (uV x.1.2.1.1.1) h0;obtain⟨h2,m2⟩:=cO (q:=i*6+2) (uV x.1.2.1.1.2.1) h1;obtain⟨h3,m3⟩:=cO (q:=i*6+3) (uV x.1.2.1.1.2.2) h2;obtain⟨h4,m4⟩:=cO (q:=i*6+4) (iV x.1.2.2) h3;obtain⟨h5,m5⟩:=cO (q:=i*6+5) (uV (x.2:Nat)) h4;refine⟨?_,(((((m0.tr m1).tr m2).tr m3).tr m4).tr m5)⟩;rw[<-Cs];exact h5
def dX(hb:Nat)(v v':Value)(w w':World):Prop:=Kp (fun k=>k=hb\/v.ownBlock=some k) w w'/\∀g,v'.ownBlock=some g->v.ownBlock=some g\/w.heap.size<=g
theorem gD(i:Nat)(h0:0<i)(hl:i<9223372036854775807)(w:World):CL 147 #[iV i] w fun e w'=>e= .returned (iV (par i:Nat))/\w'=w:=by
 have hz:((i:Int)-1).tdiv 2=(par i:Nat):=by
  unfold par;rw[Int.tdiv_eq_ediv_of_nonneg (by omega)];omega
 go_enter Tryz.func147,Tryz.ntmps147;go_wp2;go_ret;refine⟨?_,rfl⟩;have hw:wrap64 (par i:Nat)=(par i:Nat):=by unfold wrap64;have:=fD h0;omega
 show Ending.returned (Value.int _ (wrap64 (par i:Nat)))=_;rw[hw]
theorem kS(ff:Value)(r:Th->Th->Bool){K:World->Prop}{V:Th->Prop}(hF:dZ K V ff r)(x y:It)(hx:V x.1)(hy:V y.1)(hb:Nat)(w:World)(hk:K w)(hlt:hb<w.heap.size)(cf:aj w hb 0 (fv ff)):
    CL 209 #[aB hb,iv x,iv y] w fun e w'=>e= .returned (.bool (aX r x y))/\Gr w w':=by
 have he:=hF.enter;have hc1:=fun W=>hF.calls y.1 x.1 W hy hx;have hc2:=fun W=>hF.calls x.1 y.1 W hx hy;have YJ:Hid (∀W,Gr w W->K W):=fun W g=>hF.gr _ _ hk g;have hm:Tryz.prog.follows .mixedOrders=true:=by kernel_rfl
 obtain⟨W1,hW1⟩:=aF ((w.alloc (.cells #[iV x.1.1,uV x.1.2.1.1.1,uV x.1.2.1.1.2.1,uV x.1.2.1.1.2.2,iV x.1.2.2,uV (x.2:Nat)] 251)).alloc (.cells #[iV y.1.1,uV y.1.2.1.1.1,uV y.1.2.1.1.2.1,uV y.1.2.1.1.2.2,iV y.1.2.2,uV (y.2:Nat)] 251));have G1:Gr w W1:=by rw[hW1];exact((Gr.refl _).alloc _).alloc _
 have hz:w.heap.size+1<W1.heap.size:=by rw[hW1];simp
 obtain⟨nb,hnb⟩:=aF (w.heap.size);have k0:=cell_grown (a:=⟨hb,0,none⟩) (nU hlt (Nat.lt_of_succ_lt hz)) ((G1.cell hlt).trans cf);obtain⟨p0,p1,p2,p3,p4,p5⟩:W1.cell? ⟨nb,0,none⟩=some (iV x.1.1)/\W1.cell? ⟨nb,1,none⟩=some (uV x.1.2.1.1.1)/\W1.cell? ⟨nb,2,none⟩=some (uV x.1.2.1.1.2.1)/\W1.cell? ⟨nb,3,none⟩=some (uV x.1.2.1.1.2.2)/\W1.cell? ⟨nb,4,none⟩=some (iV x.1.2.2)/\W1.cell? ⟨nb,5,none⟩=some (uV (x.2:Nat)):=by rw[hW1,hnb];simp
 obtain⟨q0,q1,q2,q3,q4,q5⟩:W1.cell? ⟨nb+1,0,none⟩=some (iV y.1.1)/\W1.cell? ⟨nb+1,1,none⟩=some (uV y.1.2.1.1.1)/\W1.cell? ⟨nb+1,2,none⟩=some (uV y.1.2.1.1.2.1)/\W1.cell? ⟨nb+1,3,none⟩=some (uV y.1.2.1.1.2.2)/\W1.cell? ⟨nb+1,4,none⟩=some (iV y.1.2.2)/\W1.cell? ⟨nb+1,5,none⟩=some (uV (y.2:Nat)):=by rw[hW1,hnb];simp
 have k10:=cell_grown (w:=W1) (a:=⟨nb,0,none⟩) (by rw[hnb];exact Nat.lt_of_succ_lt hz) p0;have k11:=cell_grown (w:=W1) (a:=⟨nb,1,none⟩) (by rw[hnb];exact Nat.lt_of_succ_lt hz) p1;have k12:=cell_grown (w:=W1) (a:=⟨nb,2,none⟩) (by rw[hnb];exact Nat.lt_of_succ_lt hz) p2;have k13:=cell_grown (w:=W1) (a:=⟨nb,3,none⟩) (by rw[hnb];exact Nat.lt_of_succ_lt hz) p3;have k14:=cell_grown (w:=W1) (a:=⟨nb,4,none⟩) (by rw[hnb];exact Nat.lt_of_succ_lt hz) p4;have k15:=cell_grown (w:=W1) (a:=⟨nb,5,none⟩) (by rw[hnb];exact Nat.lt_of_succ_lt hz) p5;have k20:=cell_grown (w:=W1) (a:=⟨nb+1,0,none⟩) (by rw[hnb];exact hz) q0;have k21:=cell_grown (w:=W1) (a:=⟨nb+1,1,none⟩) (by rw[hnb];exact hz) q1;have k22:=cell_grown (w:=W1) (a:=⟨nb+1,2,none⟩) (by rw[hnb];exact hz) q2;have k23:=cell_grown (w:=W1) (a:=⟨nb+1,3,none⟩) (by rw[hnb];exact hz) q3;have k24:=cell_grown (w:=W1) (a:=⟨nb+1,4,none⟩) (by rw[hnb];exact hz) q4;have k25:=cell_grown (w:=W1) (a:=⟨nb+1,5,none⟩) (by rw[hnb];exact hz) q5;by_cases hlt2:x.2<y.2
 ·have hlz:(x.2:Int)<(y.2:Int):=by omega
  have HA:Hid (aX r x y= !r y.1 x.1):=by unfold aX;rw[if_pos hlt2];rfl
  rw[HA.o];generalize r y.1 x.1=rr at hc1⊢;clear hc2 HA;go_enter Tryz.func209,Tryz.ntmps209;go_upto_region 2 with fail;rw[<-hW1,<-hnb];clear hW1 hnb cf;go_quiet_grown (first|(go_at_call 86;refine Calls.grown_of (v:= .bool rr) (hc1 _ (YJ.o _ ((G1.drewN _).grown _)))));go_wp2;go_ret;exact⟨rfl,(G1.drewN _).grown _⟩
 ·have hlz:¬(x.2:Int)<(y.2:Int):=by omega
  have HA:Hid (aX r x y=r x.1 y.1):=by unfold aX;rw[if_neg hlt2];rfl
  rw[HA.o];generalize r x.1 y.1=rr at hc2⊢;clear hc1 HA;go_enter Tryz.func209,Tryz.ntmps209;go_upto_region 3 with fail;rw[<-hW1,<-hnb];clear hW1 hnb cf;go_quiet_grown (first|(go_at_call 86;refine Calls.grown_of (v:= .bool rr) (hc2 _ (YJ.o _ ((G1.drewN _).grown _)))));go_wp2;go_ret;exact⟨rfl,(G1.drewN _).grown _⟩
end Hc
namespace Pt
structure rV(N:Nat)(L:Nat->List (Nat×ai))(ps:Nat×ai->Nat):Prop where
 inj:∀p q t u,p<N->q<N->ps (p,t)=ps (q,u)->p=q/\t=u
 up:∀p t u,p<N->PX.aX t u->t≠u->ps (p,t)<ps (p,u)
 step:∀p q t u b,p<N->(q,b)∈L p->bJ b t=some u->q<N/\ps (p,t)<ps (q,u)
structure Dc(f:ai->Int)(l:List ai):Prop where
 so:l.Pairwise PX.mh
 mem:∀t,t∈l↔0<f t/\∀u,0<f u->PX.aX u t->u=t
theorem Dc.nodup{f:ai->Int}{l:List ai}(h:Dc f l):l.Nodup:=h.so.imp fun {a b} k (e:a=b)=>bL.qy b (by rw[e]at k;exact k)
theorem Dc.same{f:ai->Int}{l m:List ai}(h:Dc f l)(k:Dc f m):l=m:=AX bL h.so k.so fun a=>by rw[h.mem,k.mem]
def FJ(l:List (Nat×ai))(u:ai):List (Nat×ai):=l.filterMap fun s=>(bJ s.2 u).map fun v=>(s.1,v)
def ar1(l:List (Nat×ai))(us:List ai):List (Nat×ai):=us.flatMap (FJ l)
def arr(N:Nat)(L:Nat->List (Nat×ai))(F:Nat->List ai):List (Nat×ai):=(List.range N).flatMap fun q=>ar1 (L q) (F q)
theorem BH{l:List (Nat×ai)}{u v:ai}:(p,v)∈FJ l u↔∃b,(p,b)∈l/\bJ b u=some v:=by
 unfold FJ;rw[List.mem_filterMap];constructor
 ·rintro⟨⟨q,b⟩,hs,hv⟩;simp only[Option.map_eq_some_iff,Prod.mk.injEq]at hv;obtain⟨a,ha,rfl,rfl⟩:=hv;exact⟨b,hs,ha⟩
 ·rintro⟨b,hs,hv⟩;exact⟨(p,b),hs,by simp[hv]⟩
theorem Jz{L:Nat->List (Nat×ai)}{F:Nat->List ai}{t:ai}:(p,t)∈arr N L F↔∃q u b,q<N/\u∈F q/\(p,b)∈L q/\bJ b u=some t:=by
 unfold arr ar1;simp only[List.mem_flatMap,mR,BH];constructor
 ·rintro⟨q,hq,u,hu,b,hb,ht⟩;exact⟨q,u,b,hq,hu,hb,ht⟩
 ·rintro⟨q,u,b,hq,hu,hb,ht⟩;exact⟨q,hq,u,hu,b,hb,ht⟩
def sm{α:Type}(c:α->Int)(l:List α):Int:=(l.map c).sum
section
variable {α β:Type}
theorem VU(c:α->Int):sm c []=0:=rfl
theorem aS(c:α->Int)(a:α)(l:List α):sm c (a::l)=c a+sm c l:=by simp[sm]
theorem sG(c:α->Int)(l m:List α):sm c (l++m)=sm c l+sm c m:=by
 induction l with
 | nil => simp[sm]
 | cons a l ih => rw[List.cons_append,aS,aS,ih];omega
theorem Jg{c:α->Int}{l m:List α}(h:l.Perm m):sm c l=sm c m:=by
 induction h with
 | nil => rfl
 | cons a _ ih => rw[aS,aS,ih]
 | swap a b l => rw[aS,aS,aS,aS];omega
 | trans _ _ h1 h2 => rw[h1,h2]
theorem zD(c:α->Int)(q:α->Bool)(l:List α)(h:∀a∈l,q a=false->c a=0):sm c (l.filter q)=sm c l:=by
 induction l with
 | nil => rfl
 | cons a l ih=>
  rw[List.filter_cons];have ih:=ih fun b hb=>h b (mO _ hb);cases hq:q a with
  | true => rw[if_pos rfl,aS,aS,ih]
  | false => rw[if_neg (by simp),aS,h a mX hq,ih];omega
theorem jQ{c:α->Int}{l:List α}(h:∀a∈l,c a=0):sm c l=0:=by
 induction l with
 | nil => rfl
 | cons a l ih => rw[aS,h a mX,ih fun b hb=>h b (mO _ hb)];rfl
theorem Bh[DecidableEq α]{c:α->Int}{l m:List α}(hl:l.Nodup)(hm:m.Nodup)(h:∀a,c a≠0->(a∈l↔a∈m)):sm c l=sm c m:=by
 rw[<-zD c (fun a=>decide (c a≠0)) l (fun a _ ha=>by simpa using ha),<-zD c (fun a=>decide (c a≠0)) m (fun a _ ha=>by simpa using ha)];refine Jg ((List.perm_ext_iff_of_nodup (hl.filter _) (hm.filter _)).2 fun a=> ?_);rw[mF,mF];constructor
 ·rintro⟨h1,h2⟩;exact⟨(h a (by simpa using h2)).1 h1,h2⟩
 ·rintro⟨h1,h2⟩;exact⟨(h a (by simpa using h2)).2 h1,h2⟩
theorem qi(c:β->Int)(f:α->List β)(l:List α):sm c (l.flatMap f)=sm (fun a=>sm c (f a)) l:=by
 induction l with
 | nil => rfl
 | cons a l ih => rw[Ri,sG,aS,ih]
theorem eZ{c d:α->Int}{l:List α}(h:∀a∈l,c a=d a):sm c l=sm d l:=by
 induction l with
 | nil => rfl
 | cons a l ih => rw[aS,aS,h a mX,ih fun b hb=>h b (mO _ hb)]
theorem oL{c:α->Int}{l:List α}(h:∀a∈l,0<=c a):0<=sm c l:=by
 induction l with
 | nil => exact Int.le_refl _
 | cons a l ih=>
  have h1:=h a mX;have h2:=ih fun b hb=>h b (mO _ hb);rw[aS];omega
theorem VT{c:α->Int}{l:List α}(h:∀a∈l,0<=c a){a:α}(ha:a∈l)(hp:0<c a):0<sm c l:=by
 induction l with
 | nil => cases ha
 | cons b l ih=>
  have h2:=oL fun x hx=>h x (mO b hx);have h1:=h b mX;rw[aS];rcases gq.1 ha with rfl|ha
  ·omega
  ·have:=ih (fun x hx=>h x (mO _ hx)) ha;omega
theorem wM{c:α->Int}{l:List α}(h:∀a∈l,0<=c a):0<sm c l↔∃a∈l,0<c a:=by
 refine⟨fun hp=>Classical.byContradiction fun hn=> ?_,fun⟨a,ha,hp⟩=>VT h ha hp⟩;have:sm c l=0:=jQ fun a ha=>by
  have h1:=h a ha;have h2:¬0<c a:=fun k=>hn ⟨a,ha,k⟩;omega
 omega
theorem VV(c:α->Int)(l:List α):sm (fun a=> - c a) l= - sm c l:=by
 induction l with
 | nil => rfl
 | cons a l ih => rw[aS,aS,ih];omega
end
def one(y x:Nat×ai):Int:=if x=y then 1 else 0
theorem one_nonneg(y x:Nat×ai):0<=one y x:=by unfold one;split<;>omega
def ct(l:List (Nat×ai))(y:Nat×ai)(u:ai):Int:=sm (one y) (FJ l u)
theorem Am(l:List (Nat×ai))(y:Nat×ai)(u:ai):0<=ct l y u:=oL fun _ _=>one_nonneg _ _
theorem X8{l:List (Nat×ai)}{t u:ai}:0<ct l (p,t) u↔∃b,(p,b)∈l/\bJ b u=some t:=by
 unfold ct;rw[wM fun _ _=>one_nonneg _ _,<-BH];constructor
 ·rintro⟨a,ha,hp⟩;unfold one at hp;split at hp
  ·rename_i e;rw[<-e];exact ha
  ·omega
 ·intro h;exact⟨_,h,by unfold one;rw[if_pos rfl];omega⟩
def QX(N:Nat)(L:Nat->List (Nat×ai))(F:Nat->List ai)(y:Nat×ai):Int:=sm (fun q=>sm (ct (L q) y) (F q)) (List.range N)
theorem Yd(N:Nat)(L:Nat->List (Nat×ai))(F:Nat->List ai)(y:Nat×ai):QX N L F y=sm (one y) (arr N L F):=by
 unfold QX arr;rw[qi];refine eZ fun q _=> ?_;unfold ar1;rw[qi];rfl
theorem ym(N:Nat)(L:Nat->List (Nat×ai))(F:Nat->List ai)(y:Nat×ai):0<=QX N L F y:=oL fun _ _=>oL fun _ _=>Am _ _ _
theorem Ui{L:Nat->List (Nat×ai)}{F:Nat->List ai}{t:ai}:0<QX N L F (p,t)↔∃q u b,q<N/\u∈F q/\(p,b)∈L q/\bJ b u=some t:=by
 rw[<-Jz,Yd,wM fun _ _=>one_nonneg _ _];constructor
 ·rintro⟨a,ha,hp⟩;unfold one at hp;split at hp
  ·rename_i e;rw[<-e];exact ha
  ·omega
 ·intro h;exact⟨_,h,by unfold one;rw[if_pos rfl];omega⟩
def rhs(N:Nat)(L:Nat->List (Nat×ai))(O F:Nat->List ai)(p:Nat)(t:ai):Int:=(if t∈O p then 1 else 0)+QX N L F (p,t)
theorem wU(N:Nat)(L:Nat->List (Nat×ai))(O F:Nat->List ai)(p:Nat)(t:ai):0<=rhs N L O F p t:=by
 unfold rhs;have:=ym N L F (p,t);split<;>omega
theorem qV{L:Nat->List (Nat×ai)}{O F:Nat->List ai}{t:ai}:0<rhs N L O F p t↔t∈O p\/∃q u b,q<N/\u∈F q/\(p,b)∈L q/\bJ b u=some t:=by
 rw[<-Ui];unfold rhs;have:=ym N L F (p,t);by_cases h:t∈O p
 ·rw[if_pos h];exact⟨fun _=> .inl h,fun _=>by omega⟩
 ·rw[if_neg h];exact⟨fun k=> .inr (by omega),fun k=>k.elim (fun k=>absurd k h) (fun k=>by omega)⟩
structure Fv(N:Nat)(L:Nat->List (Nat×ai))(O:Nat->List ai)(C:Nat->ai->Int)(F:Nat->List ai):Prop where
 eq:∀p t,p<N->C p t=rhs N L O F p t
 fr:∀p,p<N->Dc (C p) (F p)
def qa(W:List (Nat×ai×Int))(y:Nat×ai):Int:=sm (fun e=>if (e.1,e.2.1)=y then e.2.2 else 0) W
structure QO(N:Nat)(L:Nat->List (Nat×ai))(O:Nat->List ai)(C:Nat->ai->Int)(F:Nat->List ai)(W:List (Nat×ai×Int)):Prop where
 eq:∀p t,p<N->C p t+qa W (p,t)=rhs N L O F p t
 fr:∀p,p<N->Dc (C p) (F p)
section
variable {N:Nat} {L:Nat->List (Nat×ai)} {ps:Nat×ai->Nat} {O F Fn:Nat->List ai} {C Cn:Nat->ai->Int} {W:List (Nat×ai×Int)}
theorem XO(hO:rV N L ps){t:ai}(hp:p<N)(h:Dc (C p) (F p))(k:Dc (Cn p) (Fn p))(e:∀v,ps (p,v)<=ps (p,t)->C p v=Cn p v):t∈F p↔t∈Fn p:=by
 have hv:∀v,PX.aX v t->C p v=Cn p v:=fun v hv=>e v (by
  by_cases q:v=t
  ·rw[q];exact nR _
  ·exact nE (hO.up p v t hp hv q))
 rw[h.mem,k.mem,e t (nR _)];constructor
 ·rintro⟨h1,h2⟩;exact⟨h1,fun u hu ha=>h2 u (by rw[hv u ha];exact hu) ha⟩
 ·rintro⟨h1,h2⟩;exact⟨h1,fun u hu ha=>h2 u (by rw[<-hv u ha];exact hu) ha⟩
theorem NH(hO:rV N L ps)(h:∀p,p<N->Dc (C p) (F p))(k:∀p,p<N->Dc (Cn p) (Fn p)){t:ai}(e:∀q v,q<N->ps (q,v)<ps (p,t)->C q v=Cn q v):rhs N L O F p t=rhs N L O Fn p t:=by
 unfold rhs QX;rw[eZ (d:=fun q=>sm (ct (L q) (p,t)) (Fn q)) fun q hq=> ?_];have hq:=mR.1 hq;refine Bh (h q hq).nodup (k q hq).nodup fun u hu=> ?_;have hp:0<ct (L q) (p,t) u:=by have:=Am (L q) (p,t) u;omega
 obtain⟨b,hb,hv⟩:=X8.1 hp;have hs:=(hO.step q p u t b hq hb hv).2;exact XO hO hq (h q hq) (k q hq) fun v hv=>e q v hq (by omega)
theorem QO.settled(hO:rV N L ps)(h:QO N L O C F W)(s:Fv N L O Cn Fn){x:Nat}(hW:∀e∈W,x<=ps (e.1,e.2.1)):∀(k p:Nat) (t:ai),ps (p,t)=k->p<N->k<x->C p t=Cn p t:=by
 intro k
 induction k using Nat.strongRecOn with
 | _ k ih=>
  intro p t hk hp hx;have e0:qa W (p,t)=0:=jQ fun e he=>by
   rw[if_neg];intro e1;have:=hW e he;rw[e1,hk]at this;omega
  have e1:=h.eq p t hp;rw[e0,NH hO h.fr s.fr (Cn:=Cn) (fun q v hq hv=>ih (ps (q,v)) (by omega) q v rfl hq (by omega)),<-s.eq p t hp]at e1;omega
theorem QO.first(hO:rV N L ps)(h:QO N L O C F W)(s:Fv N L O Cn Fn){t:ai}(hp:p<N)(hW:∀e∈W,ps (p,t)<=ps (e.1,e.2.1)):C p t+qa W (p,t)=Cn p t:=by
 rw[h.eq p t hp,NH hO h.fr s.fr (fun q v hq hv=>h.settled hO s hW (ps (q,v)) q v rfl hq hv),<-s.eq p t hp]
theorem QO.fin(hO:rV N L ps)(h:QO N L O C F [])(s:Fv N L O Cn Fn)(hp:p<N):(∀t,C p t=Cn p t)/\F p=Fn p:=by
 have h1:∀t,C p t=Cn p t:=fun t=>h.settled hO s (x:=ps (p,t)+1) (fun e he=>by cases he) (ps (p,t)) p t rfl hp (by omega);refine⟨h1,(h.fr p hp).same ?_⟩;rw[show C p=Cn p from funext h1];exact s.fr p hp
end
structure Az(a b:List ai)(ds:List (ai×Int)):Prop where
 nd:(ds.map Prod.fst).Nodup
 mem:∀t n,(t,n)∈ds↔(t∈a/\t∉b/\n= -1)\/(t∈b/\t∉a/\n=1)
def jR(l:List (Nat×ai))(ds:List (ai×Int)):List (Nat×ai×Int):=ds.flatMap fun d=>(FJ l d.1).map fun x=>(x.1,x.2,d.2)
theorem VW(c:Int)(f:α->Int)(l:List α):sm (fun a=>f a*c) l=sm f l*c:=by
 induction l with
 | nil => simp[sm]
 | cons a l ih => rw[aS,aS,ih,Int.add_mul]
theorem p9(W V:List (Nat×ai×Int))(y:Nat×ai):qa (W++V) y=qa W y+qa V y:=sG _ _ _
theorem qJ{W V:List (Nat×ai×Int)}(h:W.Perm V)(y:Nat×ai):qa W y=qa V y:=Jg h
theorem Gt(c:β->Int)(f:α->β)(l:List α):sm c (l.map f)=sm (fun a=>c (f a)) l:=by
 induction l with
 | nil => rfl
 | cons a l ih => rw[List.map_cons,aS,aS,ih]
theorem Rl(l:List (Nat×ai))(ds:List (ai×Int))(y:Nat×ai):qa (jR l ds) y=sm (fun d=>ct l y d.1*d.2) ds:=by
 unfold qa jR;rw[qi];refine eZ fun d _=> ?_;rw[Gt];unfold ct;rw[<-VW];refine eZ fun x _=> ?_;unfold one;by_cases e:x=y
 ·rw[if_pos e,if_pos e,Int.one_mul]
 ·rw[if_neg e,if_neg e,Int.zero_mul]
theorem Nc(f g:α->Int)(l:List α):sm (fun a=>f a+g a) l=sm f l+sm g l:=by
 induction l with
 | nil => rfl
 | cons a l ih => rw[aS,aS,aS,ih];omega
theorem Az.sum{a b:List ai}{ds:List (ai×Int)}(h:Az a b ds)(ha:a.Nodup)(hb:b.Nodup)(c:ai->Int):sm (fun d=>c d.1*d.2) ds=sm c b-sm c a:=by
 have hin:∀t n,(t,n)∈ds->n=(if t∈b then 1 else 0)-(if t∈a then 1 else 0):=fun t n ht=>by
  rcases(h.mem t n).1 ht with⟨h1,h2,rfl⟩|⟨h1,h2,rfl⟩
  ·rw[if_neg h2,if_pos h1];rfl
  ·rw[if_pos h1,if_neg h2];rfl
 have e1:sm (fun d=>c d.1*d.2) ds=sm (fun t=>c t*((if t∈b then 1 else 0)-(if t∈a then 1 else 0))) (ds.map Prod.fst):=by
  rw[Gt];exact eZ fun d hd=>by rw[hin d.1 d.2 hd]
 rw[e1];have hu:∀(m:List ai),m.Nodup->(∀t∈a,t∈m)->(∀t∈b,t∈m)->(∀t∈ds.map Prod.fst,t∈m)->sm (fun t=>c t*((if t∈b then 1 else 0)-(if t∈a then 1 else 0))) (ds.map Prod.fst)=sm c b-sm c a:=fun m hm k1 k2 k3=>by
  have e2:sm (fun t=>c t*((if t∈b then 1 else 0)-(if t∈a then 1 else 0))) (ds.map Prod.fst)=sm (fun t=>c t*((if t∈b then 1 else 0)-(if t∈a then 1 else 0))) m:=by
   refine Bh h.nd hm fun t ht=>⟨k3 t,fun _=> ?_⟩;by_cases h1:t∈a
   ·by_cases h2:t∈b
    ·simp[h1,h2]at ht
    ·exact mM.2 ⟨(t,-1),(h.mem t _).2 (.inl ⟨h1,h2,rfl⟩),rfl⟩
   ·by_cases h2:t∈b
    ·exact mM.2 ⟨(t,1),(h.mem t _).2 (.inr ⟨h2,h1,rfl⟩),rfl⟩
    ·simp[h1,h2]at ht
  have e3:∀l:List ai,l.Nodup->(∀t∈l,t∈m)->sm c l=sm (fun t=>c t*(if t∈l then 1 else 0)) m:=fun l hl hs=>by
   rw[<-eZ (c:=fun t=>c t*(if t∈l then 1 else 0)) (d:=c) (l:=l) fun t ht=>by rw[if_pos ht,Int.mul_one]];refine Bh hl hm fun t ht=>⟨hs t,fun _=>Classical.byContradiction fun e=>ht (by simp[e])⟩
  rw[e2,e3 a ha k1,e3 b hb k2];have e4:=Nc (fun t=>c t*(if t∈b then 1 else 0)) (fun t=> - (c t*(if t∈a then 1 else 0))) m;rw[VV]at e4;rw[Int.sub_eq_add_neg,<-e4];refine eZ fun t _=> ?_;rw[Int.mul_sub];omega
 exact hu (a++b.filter fun t=>decide (t∉a)) (List.nodup_append.2 ⟨ha,hb.filter _,fun x hx y hy=>by
  rintro rfl;simp only[mF,dE]at hy;exact hy.2 hx⟩) (fun t ht=>List.mem_append_left _ ht) (fun t ht=>by
   by_cases e:t∈a
   ·exact List.mem_append_left _ e
   ·exact List.mem_append_right _ (mF.2 ⟨ht,by simpa using e⟩)) (fun t ht=>by
   obtain⟨d,hd,rfl⟩:=mM.1 ht;rcases(h.mem d.1 d.2).1 hd with k|k
   ·exact List.mem_append_left _ k.1
   ·exact List.mem_append_right _ (mF.2 ⟨k.1,by simpa using k.2.1⟩))
def bI{β:Type}(f:Nat->β)(p:Nat)(x:β):Nat->β:=fun q=>if q=p then x else f q
theorem bM(f:Nat->β)(p:Nat)(x:β):bI f p x p=x:=if_pos rfl
theorem bK(f:Nat->β)(x:β)(h:q≠p):bI f p x q=f q:=if_neg h
theorem Uh{L:Nat->List (Nat×ai)}{F:Nat->List ai}(hp:p<N)(l:List ai)(y:Nat×ai):QX N L (bI F p l) y=QX N L F y+(sm (ct (L p) y) l-sm (ct (L p) y) (F p)):=by
 unfold QX;have key:∀m:List Nat,m.Nodup->p∈m->sm (fun q=>sm (ct (L q) y) (bI F p l q)) m=sm (fun q=>sm (ct (L q) y) (F q)) m+(sm (ct (L p) y) l-sm (ct (L p) y) (F p)):=fun m=>by
  induction m with
  | nil => intro _ h;cases h
  | cons a m ih=>
   intro hn hm;have hn':=List.nodup_cons.1 hn;rw[aS,aS];by_cases e:a=p
   ·subst e;rw[bM,eZ (d:=fun q=>sm (ct (L q) y) (F q)) (l:=m) fun q hq=>by rw[bK F l (show q≠a from fun e=>hn'.1 (e ▸ hq))]];omega
   ·rw[bK F l e,ih hn'.2 ((gq.1 hm).resolve_left fun h=>e h.symm)];omega
 exact key _ List.nodup_range (mR.2 hp)
section
variable {N:Nat} {L:Nat->List (Nat×ai)} {ps:Nat×ai->Nat} {O F Fn:Nat->List ai} {C Cn:Nat->ai->Int} {W:List (Nat×ai×Int)}
theorem QO.pop(h:QO N L O C F W)(hp:p<N){t:ai}{f':ai->Int}{l':List ai}{ds:List (ai×Int)}{W1:List (Nat×ai×Int)}(hf:∀u,f' u=if u=t then C p t+qa W (p,t)else C p u)(hl:Dc f' l')(hd:Az (F p) l' ds)(hW1:∀y,qa W1 y=if y=(p,t)then 0 else qa W y):
    QO N L O (bI C p f') (bI F p l') (W1++jR (L p) ds):=by
 refine⟨fun q u hq=> ?_,fun q hq=> ?_⟩
 ·rw[p9,Rl,hd.sum (h.fr p hp).nodup hl.nodup];have e:=h.eq q u hq;unfold rhs at e⊢;rw[Uh hp,hW1];by_cases e1:q=p
  ·subst e1;rw[bM,hf];by_cases e2:u=t
   ·subst e2;rw[if_pos rfl,if_pos rfl];omega
   ·rw[if_neg e2,if_neg fun k=>e2 (Prod.mk.inj k).2];omega
  ·rw[bK C f' e1,if_neg fun k=>e1 (Prod.mk.inj k).1];omega
 ·by_cases e:q=p
  ·subst e;rw[bM,bM];exact hl
  ·rw[bK C f' e,bK F l' e];exact h.fr q hq
theorem Iy{f f':ai->Int}{l l':List ai}{t u:ai}(h:Dc f l)(k:Dc f' l')(he:∀v,v≠t->f' v=f v)(hu:¬(u∈l↔u∈l')):PX.aX t u:=by
 refine Classical.byContradiction fun hn=>hu ?_;have hne:∀v,PX.aX v u->v≠t:=fun v hv e=>hn (e ▸ hv);rw[h.mem,k.mem,he u (hne u (bL.refl u))];constructor
 ·rintro⟨h1,h2⟩;exact⟨h1,fun v hv ha=>h2 v (by rw[<-he v (hne v ha)];exact hv) ha⟩
 ·rintro⟨h1,h2⟩;exact⟨h1,fun v hv ha=>h2 v (by rw[he v (hne v ha)];exact hv) ha⟩
theorem Az.turned{a b:List ai}{ds:List (ai×Int)}(h:Az a b ds){u:ai}(hu:u∈ds.map Prod.fst):¬(u∈a↔u∈b):=by
 obtain⟨d,hd,rfl⟩:=mM.1 hu;rcases(h.mem d.1 d.2).1 hd with⟨h1,h2,_⟩|⟨h1,h2,_⟩
 ·exact fun e=>h2 (e.1 h1)
 ·exact fun e=>h2 (e.2 h1)
theorem Kz(hO:rV N L ps)(hp:p<N){t:ai}{ds:List (ai×Int)}(hd:∀u∈ds.map Prod.fst,PX.aX t u):∀e∈jR (L p) ds,e.1<N/\ps (p,t)<ps (e.1,e.2.1):=by
 intro e he;unfold jR at he;obtain⟨d,hd1,he⟩:=List.mem_flatMap.1 he;obtain⟨x,hx,rfl⟩:=mM.1 he;obtain⟨b,hb,hv⟩:=BH.1 (show(x.1,x.2)∈FJ (L p) d.1 from hx);obtain⟨h1,h2⟩:=hO.step p x.1 d.1 x.2 b hp hb hv;refine⟨h1,Nat.lt_of_le_of_lt ?_ h2⟩;have h3:=hd d.1 (mM.2 ⟨d,hd1,rfl⟩);by_cases e:t=d.1
 ·rw[e];exact nR _
 ·exact nE (hO.up p t d.1 hp h3 e)
end
end Pt
end Go.Proofs.YtiiefcalkjeieaaGreat
