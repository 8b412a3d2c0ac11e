import Derived.Test.YtiiefcalkjeieaaGreatJ1
variable{q n k d:Nat}
namespace Go.Proofs.YtiiefcalkjeieaaGreat
namespace Pt
structure Px(α:Type) where
 aX:α->α->Prop
 mh:α->α->Prop
 thn:α->α->Option α
 z:α
structure Px.Ok{α:Type}(X:Px α):Prop where
 refl:∀a,X.aX a a
 trans:∀{a b c},X.aX a b->X.aX b c->X.aX a c
 told:∀{a b},X.aX a b->a=b\/X.mh a b
 tt:∀{a b c},X.mh a b->X.mh b c->X.mh a c
 qy:∀a,¬X.mh a a
 tot:∀a b,X.mh a b\/a=b\/X.mh b a
 mono:∀{a b c d},X.aX a b->X.thn b c=some d->∃e,X.thn a c=some e/\X.aX e d
 up:∀{a b c},X.thn a b=some c->X.aX a c
section
variable {α:Type} {X:Px α} {St:Nat->Nat->α->Prop} {p:Nat}
inductive Wy (X:Px α) (St:Nat->Nat->α->Prop) (p:Nat):Nat->α->Prop
 | nil:Wy X St p p X.z
 | step {q q':Nat} {a b c:α}:Wy X St p q a->St q q' b->X.thn a b=some c->Wy X St p q' c
def Lea(X:Px α)(St:Nat->Nat->α->Prop)(p q:Nat)(a:α):Prop:=Wy X St p q a/\∀b,Wy X St p q b->X.aX b a->b=a
def pY(X:Px α)(l:List α)(a:α):Prop:=∃x∈l,X.aX x a
structure Iv(X:Px α)(St:Nat->Nat->α->Prop)(p:Nat)(rows:Nat->List α)(opn:List (Nat×α)):Prop where
 rw:∀q a,a∈rows q->Wy X St p q a
 ow:∀q a,(q,a)∈opn->Wy X St p q a
 st:pY X (rows p) X.z\/(p,X.z)∈opn
 sp:∀q a,a∈rows q->∀q' b c,St q q' b->X.thn a b=some c->pY X (rows q') c\/(q',c)∈opn
 ls:∀q a,a∈rows q->∀b,Wy X St p q b->X.aX b a->b=a
 so:∀q,(rows q).Pairwise X.mh
 lo:∀q a,a∈rows q->∀q' b,(q',b)∈opn->¬X.mh b a
theorem pY.trans(hX:X.Ok){l:List α}{a b:α}(h:pY X l a)(hab:X.aX a b):pY X l b:=by
 obtain⟨x,hx,hxa⟩:=h;exact⟨x,hx,hX.trans hxa hab⟩
theorem pY.sub{l m:List α}{a:α}(h:pY X l a)(hs:∀x∈l,x∈m):pY X m a:=by
 obtain⟨x,hx,hxa⟩:=h;exact⟨x,hs x hx,hxa⟩
theorem Iv.init:Iv X St p (fun _=>[]) [(p,X.z)]:=
 ⟨fun _ _ h=>by simp at h,fun q a h=>by simp at h;obtain⟨rfl,rfl⟩:=h;exact .nil,Or.inr (by simp),fun _ _ h=>by simp at h,fun _ _ h=>by simp at h,fun _=>List.Pairwise.nil,fun _ _ h=>by simp at h⟩
theorem Iv.done(hX:X.Ok){rows:Nat->List α}{opn:List (Nat×α)}(h:Iv X St p rows opn){w:α}(hw:∀q b,(q,b)∈opn->¬X.mh b w){u:α}(hu:Wy X St p q u):X.mh u w->pY X (rows q) u:=by
 induction hu with
 | nil=>
  intro ht;rcases h.st with h1|h1
  ·exact h1
  ·exact absurd ht (hw _ _ h1)
 | @step q q' a b c ha hs hc ih=>
  intro ht;have h1:X.mh a w:=(hX.told (hX.up hc)).elim (fun e=>e ▸ ht) (fun e=>hX.tt e ht);obtain⟨x,hx,hxa⟩:=ih h1;obtain⟨e,he,Va⟩:=hX.mono hxa hc;rcases h.sp q x hx q' b e hs he with h2|h2
  ·exact h2.trans hX Va
  ·exact absurd ((hX.told Va).elim (fun k=>k ▸ ht) (fun k=>hX.tt k ht)) (hw _ _ h2)
theorem Iv.all(hX:X.Ok){rows:Nat->List α}(h:Iv X St p rows []){u:α}(hu:Wy X St p q u):pY X (rows q) u:=by
 induction hu with
 | nil=>
  rcases h.st with h1|h1
  ·exact h1
  ·simp at h1
 | @step q q' a b c ha hs hc ih=>
  obtain⟨x,hx,hxa⟩:=ih;obtain⟨e,he,Va⟩:=hX.mono hxa hc;rcases h.sp q x hx q' b e hs he with h2|h2
  ·exact h2.trans hX Va
  ·simp at h2
theorem Iv.skip{rows:Nat->List α}{opn rest:List (Nat×α)}{q0:Nat}{w:α}(h:Iv X St p rows opn)(h1:∀x∈opn,x=(q0,w)\/x∈rest)(h2:∀x∈rest,x∈opn)(hc:pY X (rows q0) w):Iv X St p rows rest:=by
 refine⟨h.rw,fun q a ha=>h.ow q a (h2 _ ha), ?_,fun q a ha q' b c hs hb=> ?_,h.ls,h.so,fun q a ha q' b hb=>h.lo q a ha q' b (h2 _ hb)⟩
 ·rcases h.st with k|k
  ·exact Or.inl k
  ·rcases h1 _ k with e|e
   ·simp only[Prod.mk.injEq]at e;exact Or.inl (by rw[e.1,e.2];exact hc)
   ·exact Or.inr e
 ·rcases h.sp q a ha q' b c hs hb with k|k
  ·exact Or.inl k
  ·rcases h1 _ k with e|e
   ·simp only[Prod.mk.injEq]at e;exact Or.inl (by rw[e.1,e.2];exact hc)
   ·exact Or.inr e
def dO(rows:Nat->List α)(q0:Nat)(w:α):Nat->List α:=fun q=>if q=q0 then rows q++[w]else rows q
theorem kL{rows:Nat->List α}{q0:Nat}{w a:α}:a∈dO rows q0 w q↔a∈rows q\/q=q0/\a=w:=by
 unfold dO;split
 ·rename_i e;simp[e]
 ·rename_i e;simp[e]
theorem Iv.take(hX:X.Ok){rows:Nat->List α}{opn rest Sw:List (Nat×α)}{q0:Nat}{w:α}(h:Iv X St p rows opn)(hm:(q0,w)∈opn)(hf:∀q b,(q,b)∈opn->¬X.mh b w)(h1:∀x∈opn,x=(q0,w)\/x∈rest)(h2:∀x∈rest,x∈opn)(hc:¬pY X (rows q0) w)
    (h3:∀x∈rest,x∈Sw) (h4:∀q c,(q,c)∈Sw->(q,c)∈rest\/∃b,St q0 q b/\X.thn w b=some c) (h5:∀q b c,St q0 q b->X.thn w b=some c->pY X (dO rows q0 w q) c\/(q,c)∈Sw):Iv X St p (dO rows q0 w) Sw:=by
 have hsub:∀q,∀x∈rows q,x∈dO rows q0 w q:=fun q x hx=>kL.2 (Or.inl hx);have hself:pY X (dO rows q0 w q0) w:=⟨w,kL.2 (Or.inr ⟨rfl,rfl⟩),hX.refl w⟩;have hww:=h.ow q0 w hm;have hlow:∀q a,a∈rows q->∀q' c b,St q0 q' b->X.thn w b=some c->¬X.mh c a:=fun q a ha q' c b hs hb ht=>by
  rcases hX.told (hX.up hb)with e|e
  ·exact h.lo q a ha q0 w hm (e ▸ ht)
  ·exact h.lo q a ha q0 w hm (hX.tt e ht)
 refine⟨fun q a ha=> ?_,fun q c hqc=> ?_, ?_,fun q a ha q' b c hs hb=> ?_,fun q a ha b hb Ib=> ?_,fun q=> ?_,fun q a ha q' c hqc=> ?_⟩
 ·rcases kL.1 ha with k|⟨rfl,rfl⟩
  ·exact h.rw q a k
  ·exact hww
 ·rcases h4 q c hqc with k|⟨b,hs,hb⟩
  ·exact h.ow q c (h2 _ k)
  ·exact .step hww hs hb
 ·rcases h.st with k|k
  ·exact Or.inl (k.sub (hsub p))
  ·rcases h1 _ k with e|e
   ·simp only[Prod.mk.injEq]at e;exact Or.inl (by rw[e.1,e.2];exact hself)
   ·exact Or.inr (h3 _ e)
 ·rcases kL.1 ha with k|⟨rfl,rfl⟩
  ·rcases h.sp q a k q' b c hs hb with k2|k2
   ·exact Or.inl (k2.sub (hsub q'))
   ·rcases h1 _ k2 with e|e
    ·simp only[Prod.mk.injEq]at e;exact Or.inl (by rw[e.1,e.2];exact hself)
    ·exact Or.inr (h3 _ e)
  ·exact h5 q' b c hs hb
 ·rcases kL.1 ha with k|⟨rfl,rfl⟩
  ·exact h.ls q a k b hb Ib
  ·rcases hX.told Ib with e|e
   ·exact e
   ·exact absurd ((h.done hX hf hb e).trans hX Ib) hc
 ·unfold dO;split
  ·rename_i e;subst e;refine List.pairwise_append.2 ⟨h.so q,List.pairwise_singleton _ _,fun a ha b hb=> ?_⟩;simp only[yM]at hb;subst hb;rcases hX.tot a b with k|k|k
   ·exact k
   ·exact absurd ⟨a,ha,k ▸ hX.refl a⟩ hc
   ·exact absurd k (h.lo q a ha q b hm)
  ·exact h.so q
 ·rcases kL.1 ha with k|⟨rfl,rfl⟩
  ·rcases h4 q' c hqc with k2|⟨b,hs,hb⟩
   ·exact h.lo q a k q' c (h2 _ k2)
   ·exact hlow q a k q' c b hs hb
  ·rcases h4 q' c hqc with k2|⟨b,hs,hb⟩
   ·exact hf q' c (h2 _ k2)
   ·intro ht;rcases hX.told (hX.up hb)with e|e
    ·exact hX.qy a (by rw[e]at ht⊢;exact ht)
    ·exact hX.qy a (hX.tt e ht)
theorem jb{l m:List α}(hl:l.Nodup)(h:∀a∈l,a∈m):l.length<=m.length:=by
 induction l generalizing m with
 | nil => simp
 | cons a l ih=>
  obtain⟨s,t,rfl⟩:=List.append_of_mem (h a (by simp));have hn:=List.nodup_cons.1 hl;have:=ih (m:=s++t) hn.2 (fun b hb=>by
   have h1:=h b (by simp[hb]);simp only[kr,gq]at h1⊢;rcases h1 with h1|rfl|h1
   ·exact Or.inl h1
   ·exact absurd hb hn.1
   ·exact Or.inr h1)
  simp at this⊢;omega
theorem AX(hX:X.Ok){l m:List α}(hl:l.Pairwise X.mh)(hm:m.Pairwise X.mh)(h:∀a,a∈l↔a∈m):l=m:=by
 induction l generalizing m with
 | nil=>
  cases m with
  | nil => rfl
  | cons b m => exact absurd ((h b).2 (by simp)) (by simp)
 | cons a l ih=>
  cases m with
  | nil => exact absurd ((h a).1 (by simp)) (by simp)
  | cons b m=>
   have ha:=qD.1 hl;have hb:=qD.1 hm;have e:a=b:=by
    rcases gq.1 ((h a).1 (by simp))with e|e
    ·exact e
    ·rcases gq.1 ((h b).2 (by simp))with k|k
     ·exact k.symm
     ·exact absurd (hX.tt (hb.1 a e) (ha.1 b k)) (hX.qy b)
   subst e;rw[ih ha.2 hb.2 (fun x=>⟨fun hx=> ?_,fun hx=> ?_⟩)]
   ·rcases gq.1 ((h x).1 (mO _ hx))with k|k
    ·subst k;exact absurd (ha.1 _ hx) (hX.qy _)
    ·exact k
   ·rcases gq.1 ((h x).2 (mO _ hx))with k|k
    ·subst k;exact absurd (hb.1 _ hx) (hX.qy _)
    ·exact k
def r9(X:Px α)(St:Nat->Nat->α->Prop)(p:Nat):Option (Nat->List α)->Prop
 | none => ∃(q:Nat) (l:List α),l.Nodup/\64<l.length/\∀a∈l,Lea X St p q a
 | some rows => ∀q,(rows q).Pairwise X.mh/\(∀a,a∈rows q↔Lea X St p q a)/\(rows q).length<=64
theorem Iv.lea{rows:Nat->List α}{opn:List (Nat×α)}(h:Iv X St p rows opn){a:α}(ha:a∈rows q):Lea X St p q a:=⟨h.rw q a ha,h.ls q a ha⟩
theorem Iv.nodup(hX:X.Ok){rows:Nat->List α}{opn:List (Nat×α)}(h:Iv X St p rows opn)(q:Nat):(rows q).Nodup:=
 List.Pairwise.imp (S:=fun a b=>a≠b) (fun {a b} k (e:a=b)=>hX.qy b (by rw[e]at k;exact k)) (h.so q)
theorem Iv.wide(hX:X.Ok){rows:Nat->List α}{opn:List (Nat×α)}(h:Iv X St p rows opn)(hq:64<(rows q).length):r9 X St p none:=⟨q,rows q,h.nodup hX q,hq,fun _ ha=>h.lea ha⟩
theorem Iv.fin(hX:X.Ok){rows:Nat->List α}(h:Iv X St p rows [])(hl:∀q,(rows q).length<=64):r9 X St p (some rows):=fun q=>by
 refine⟨h.so q,fun a=>⟨fun ha=>h.lea ha,fun ha=> ?_⟩,hl q⟩;obtain⟨x,hx,hxa⟩:=h.all hX ha.1;have:=ha.2 x (h.rw q x hx) hxa;exact this ▸ hx
theorem r9.same(hX:X.Ok){r s:Option (Nat->List α)}(hr:r9 X St p r)(hs:r9 X St p s):r=s:=by
 have key:∀rows,r9 X St p none->r9 X St p (some rows)->False:=fun rows h1 h2=>by
  obtain⟨q,l,hn,hl,ha⟩:=h1;have h3:=jb hn (fun a k=>((h2 q).2.1 a).2 (ha a k));have h4:=(h2 q).2.2;omega
 cases r with
 | none=>
  cases s with
  | none => rfl
  | some rows => exact(key rows hr hs).elim
 | some rows=>
  cases s with
  | none => exact(key rows hs hr).elim
  | some rows'=>
   refine congrArg some (funext fun q=>AX hX (hr q).1 (hs q).1 (fun a=> ?_));rw[(hr q).2.1,(hs q).2.1]
end
abbrev ai:={ p:Int×Int×Int // (Lit.int .u64 p.1).wf=true/\(Lit.int .u64 p.2.1).wf=true/\(Lit.int .u64 p.2.2).wf=true }
theorem kV(x:Int):(Lit.int .u64 x).wf=true↔0<=x/\x<18446744073709551616:=by
 have e1:IntKind.u64.min=0:=rfl;have e2:IntKind.u64.max=18446744073709551615:=rfl;simp only[Lit.wf,e1,e2,bA,dE];omega
theorem dw{s t:ai}(h1:s.1.1=t.1.1)(h2:s.1.2.1=t.1.2.1)(h3:s.1.2.2=t.1.2.2):s=t:=Subtype.ext (Prod.ext h1 (Prod.ext h2 h3))
theorem bY(s:ai):(0<=s.1.1/\s.1.1<18446744073709551616)/\(0<=s.1.2.1/\s.1.2.1<18446744073709551616)/\(0<=s.1.2.2/\s.1.2.2<18446744073709551616):=
 ⟨(kV _).1 s.2.1,(kV _).1 s.2.2.1,(kV _).1 s.2.2.2⟩
def bJ(a b:ai):Option ai:=
 if h:a.1.1+b.1.1<18446744073709551616/\a.1.2.1+b.1.2.1<18446744073709551616/\a.1.2.2+b.1.2.2<18446744073709551616 then
  some ⟨(a.1.1+b.1.1,a.1.2.1+b.1.2.1,a.1.2.2+b.1.2.2),by
   have h1:=bY a;have h2:=bY b;exact⟨(kV _).2 ⟨by simp only;omega,h.1⟩,(kV _).2 ⟨by simp only;omega,h.2.1⟩,(kV _).2 ⟨by simp only;omega,h.2.2⟩⟩⟩
 else none
theorem bE{a b c:ai}(h:bJ a b=some c):c.1.1=a.1.1+b.1.1/\c.1.2.1=a.1.2.1+b.1.2.1/\c.1.2.2=a.1.2.2+b.1.2.2:=by
 unfold bJ at h;split at h
 ·cases h;exact⟨rfl,rfl,rfl⟩
 ·cases h
theorem jN{a b:ai}(h:a.1.1+b.1.1<18446744073709551616/\a.1.2.1+b.1.2.1<18446744073709551616/\a.1.2.2+b.1.2.2<18446744073709551616):∃c,bJ a b=some c:=by
 unfold bJ;rw[dif_pos h];exact⟨_,rfl⟩
def PX:Px ai where
 aX a b:=a.1.1<=b.1.1/\a.1.2.1<=b.1.2.1/\a.1.2.2<=b.1.2.2
 mh a b:=a.1.1<b.1.1\/(a.1.1=b.1.1/\(a.1.2.1<b.1.2.1\/(a.1.2.1=b.1.2.1/\a.1.2.2<b.1.2.2)))
 thn:=bJ
 z:=⟨(0,0,0),by decide⟩
theorem bL:PX.Ok where
 refl a:=⟨Int.le_refl _,Int.le_refl _,Int.le_refl _⟩
 trans {a b c} h k:=by
  obtain⟨h1,h2,h3⟩:=h;obtain⟨k1,k2,k3⟩:=k;exact⟨Int.le_trans h1 k1,Int.le_trans h2 k2,Int.le_trans h3 k3⟩
 told {a b} h:=by
  obtain⟨h1,h2,h3⟩:=h;by_cases e:a=b
  ·exact Or.inl e
  ·refine Or.inr ?_;have:¬(a.1.1=b.1.1/\a.1.2.1=b.1.2.1/\a.1.2.2=b.1.2.2):=fun k=>e (dw k.1 k.2.1 k.2.2);show _\/_;omega
 tt {a b c} h k:=by
  show _\/_;have h':a.1.1<b.1.1\/(a.1.1=b.1.1/\(a.1.2.1<b.1.2.1\/(a.1.2.1=b.1.2.1/\a.1.2.2<b.1.2.2))):=h;have k':b.1.1<c.1.1\/(b.1.1=c.1.1/\(b.1.2.1<c.1.2.1\/(b.1.2.1=c.1.2.1/\b.1.2.2<c.1.2.2))):=k;omega
 qy a h:=by
  have h':a.1.1<a.1.1\/(a.1.1=a.1.1/\(a.1.2.1<a.1.2.1\/(a.1.2.1=a.1.2.1/\a.1.2.2<a.1.2.2))):=h;omega
 tot a b:=by
  by_cases e:a=b
  ·exact Or.inr (Or.inl e)
  ·have:¬(a.1.1=b.1.1/\a.1.2.1=b.1.2.1/\a.1.2.2=b.1.2.2):=fun k=>e (dw k.1 k.2.1 k.2.2);show(_\/_)\/_\/(_\/_);omega
 mono {a b c d} h k:=by
  obtain⟨h1,h2,h3⟩:=h;obtain⟨k1,k2,k3⟩:=bE k;have hd:=bY d;obtain⟨e,he⟩:=jN (a:=a) (b:=c) ⟨by omega,by omega,by omega⟩;obtain⟨e1,e2,e3⟩:=bE he;exact⟨e,he,by show _<=_/\_<=_/\_<=_;omega⟩
 up {a b c} k:=by
  obtain⟨k1,k2,k3⟩:=bE k;have hb:=bY b;show _<=_/\_<=_/\_<=_;omega
end Pt
section
section
variable {α:Type} (aC fst:α->α->Bool)
def bH(l:List α)(v:α):Bool:=l.any (fun x=>aC x v)
def dJ(l:List α)(v:α):List α:=l.filter (fun x=> !aC v x)
def yc(l:List α)(v:α):List α:=l.take (l.findIdx (fun y=>fst v y))++v::l.drop (l.findIdx (fun y=>fst v y))
def gG(l:List α)(v:α):List α:=if bH aC l v then l else yc fst (dJ aC l v) v
def bC(l vs:List α):List α:=vs.foldl (gG aC fst) l
def kR(l:List α):List α->Nat
 | [] => 0
 | v::vs => (if bH aC l v then 0 else 1)+kR (gG aC fst l v) vs
variable {aC fst}
theorem yn(l:List α)(v:α)(vs:List α):bC aC fst l (v::vs)=bC aC fst (gG aC fst l v) vs:=rfl
theorem jk(l vs us:List α):bC aC fst l (vs++us)=bC aC fst (bC aC fst l vs) us:=by
 simp[bC]
theorem uU{l vs:List α}{v:α}(h:vs[k]? =some v):bC aC fst l (vs.take (k+1))=gG aC fst (bC aC fst l (vs.take k)) v:=by
 rw[tO,h,jk];rfl
theorem gN(l:List α)(v:α):(dJ aC l v).length<=l.length:=List.length_filter_le _ _
theorem uD(l:List α)(v:α):(yc fst l v).length=l.length+1:=by
 simp[yc];omega
theorem Fj(l:List α)(v:α):(gG aC fst l v).length<=l.length+1:=by
 unfold gG;split
 ·omega
 ·rw[uD];have:=gN (aC:=aC) l v;omega
theorem gZ(l vs:List α):(bC aC fst l vs).length<=l.length+vs.length:=by
 induction vs generalizing l with
 | nil => simp[bC]
 | cons v vs ih=>
  have h1:=ih (gG aC fst l v);have h2:=Fj (aC:=aC) (fst:=fst) l v;rw[yn];simp only[lC];omega
theorem ry{l:List α}{v x:α}:x∈yc fst l v↔x=v\/x∈l:=by
 unfold yc;constructor
 ·intro h;rcases kr.1 h with h|h
  ·exact Or.inr (List.mem_of_mem_take h)
  ·rcases gq.1 h with h|h
   ·exact Or.inl h
   ·exact Or.inr (List.mem_of_mem_drop h)
 ·intro h;rcases h with h|h
  ·subst h;simp
  ·rw[<-List.take_append_drop (l.findIdx fun y=>fst v y) l]at h;rcases kr.1 h with h|h
   ·exact kr.2 (Or.inl h)
   ·exact kr.2 (Or.inr (mO _ h))
theorem nI{l:List α}{v x:α}:x∈dJ aC l v↔x∈l/\aC v x=false:=by
 simp[dJ,List.mem_filter]
theorem cZ{l:List α}{v:α}:bH aC l v=true↔∃x∈l,aC x v=true:=by
 simp[bH]
theorem II{l:List α}{v:α}:bH aC l v=false↔∀x∈l,aC x v=false:=by
 simp[bH]
structure rX(aC fst:α->α->Bool):Prop where
 refl:∀a,aC a a=true
 trans:∀a b c,aC a b=true->aC b c=true->aC a c=true
 Yq:∀a b,aC a b=true->aC b a=true->a=b
 qy:∀a,fst a a=false
 tr:∀a b c,fst a b=true->fst b c=true->fst a c=true
 tot:∀a b,a≠b->fst a b=false->fst b a=true
def Good(aC fst:α->α->Bool)(l:List α):Prop:=l.Pairwise fun a b=>fst a b=true/\aC a b=false/\aC b a=false
theorem gF{l:List α}{p:α->Bool}{x:α}(h:x∈l.take (l.findIdx p)):p x=false:=by
 obtain⟨i,hi,rfl⟩:=List.mem_iff_getElem.1 h;rw[List.getElem_take];have hi':i<l.findIdx p:=by simp at hi;omega
 have:=List.not_of_lt_findIdx (p:=p) (xs:=l) hi';simpa using this
theorem rM(O:rX aC fst){l:List α}(hl:l.Pairwise fun a b=>fst a b=true){v x:α}(h:x∈l.drop (l.findIdx fun y=>fst v y)):fst v x=true:=by
 induction l with
 | nil => simp at h
 | cons y l ih=>
  rw[qD]at hl;rw[List.findIdx_cons]at h;cases hy:fst v y with
  | true=>
   rw[hy]at h;simp at h;rcases h with rfl|h
   ·exact hy
   ·exact O.tr _ _ _ hy (hl.1 _ h)
  | false=>
   rw[hy]at h;simp at h;exact ih hl.2 h
theorem Ex{l:List α}(h:Good aC fst l)(v:α):Good aC fst (dJ aC l v):=List.Pairwise.filter _ h
theorem PG(O:rX aC fst){l:List α}(h:Good aC fst l)(v:α):Good aC fst (gG aC fst l v):=by
 unfold gG;split
 ·exact h
 ·rename_i hc;have hc:bH aC l v=false:=by simpa using hc
  rw[II]at hc;have hg:=Ex h v;have hm:∀x∈dJ aC l v,aC x v=false/\aC v x=false:=fun x hx=>⟨hc x (nI.1 hx).1,(nI.1 hx).2⟩;generalize dJ aC l v=m at hg hm;have hs:m.Pairwise fun a b=>fst a b=true:=hg.imp (fun h=>h.1);unfold Good yc;have hsplit:(m.take (m.findIdx fun y=>fst v y)++m.drop (m.findIdx fun y=>fst v y)).Pairwise fun a b=>fst a b=true/\aC a b=false/\aC b a=false:=by rw[List.take_append_drop];exact hg
  rw[List.pairwise_append]at hsplit;refine List.pairwise_append.2 ⟨hsplit.1,qD.2 ⟨?_,hsplit.2.1⟩, ?_⟩
  ·intro x hx;have hxm:=List.mem_of_mem_drop hx;exact⟨rM O hs hx,(hm x hxm).2,(hm x hxm).1⟩
  ·intro a ha b hb;rcases gq.1 hb with rfl|hb
   ·have ham:=List.mem_of_mem_take ha;have hf:=gF ha;refine⟨O.tot _ _ ?_ hf,hm a ham⟩;rintro rfl;have:=(hm _ ham).1;rw[O.refl]at this;cases this
   ·exact hsplit.2.2 a ha b hb
theorem oQ(O:rX aC fst){l:List α}(h:Good aC fst l)(vs:List α):Good aC fst (bC aC fst l vs):=by
 induction vs generalizing l with
 | nil => exact h
 | cons v vs ih => exact ih (PG O h v)
theorem xQ:Good aC fst ([]:List α):=List.Pairwise.nil
theorem Ue(O:rX aC fst)(l:List α)(v:α):bH aC (gG aC fst l v) v=true:=by
 unfold gG;split
 ·assumption
 ·exact cZ.2 ⟨v,ry.2 (Or.inl rfl),O.refl v⟩
theorem Cu(O:rX aC fst){l:List α}{x:α}(v:α)(h:bH aC l x=true):bH aC (gG aC fst l v) x=true:=by
 unfold gG;split
 ·exact h
 ·obtain⟨y,hy,hyx⟩:=cZ.1 h;cases hv:aC v y with
  | true => exact cZ.2 ⟨v,ry.2 (Or.inl rfl),O.trans _ _ _ hv hyx⟩
  | false => exact cZ.2 ⟨y,ry.2 (Or.inr (nI.2 ⟨hy,hv⟩)),hyx⟩
theorem SK{l:List α}{x v:α}(h:x∈gG aC fst l v):x=v\/x∈l:=by
 unfold gG at h;split at h
 ·exact Or.inr h
 ·rcases ry.1 h with h|h
  ·exact Or.inl h
  ·exact Or.inr (nI.1 h).1
theorem ko(O:rX aC fst){l:List α}{x:α}(vs:List α)(h:bH aC l x=true):bH aC (bC aC fst l vs) x=true:=by
 induction vs generalizing l with
 | nil => exact h
 | cons v vs ih => exact ih (Cu O v h)
theorem nX(O:rX aC fst)(l:List α){vs:List α}{x:α}(h:x∈vs):bH aC (bC aC fst l vs) x=true:=by
 induction vs generalizing l with
 | nil => simp at h
 | cons v vs ih=>
  rcases gq.1 h with rfl|h
  ·exact ko O vs (Ue O l x)
  ·exact ih _ h
theorem ru{l vs:List α}{x:α}(h:x∈bC aC fst l vs):x∈vs\/x∈l:=by
 induction vs generalizing l with
 | nil => exact Or.inr h
 | cons v vs ih=>
  rcases ih h with h|h
  ·exact Or.inl (mO _ h)
  ·rcases SK h with rfl|h
   ·exact Or.inl (by simp)
   ·exact Or.inr h
theorem Ew{l:List α}(h:Good aC fst l){i j:Nat}{a b:α}(ha:l[i]? =some a)(hb:l[j]? =some b)(hne:i≠j):aC a b=false:=by
 obtain⟨hi,rfl⟩:=lG.1 ha;obtain⟨hj,rfl⟩:=lG.1 hb;rcases Nat.lt_or_gt_of_ne hne with h1|h1
 ·exact(List.pairwise_iff_getElem.1 h i j hi hj h1).2.1
 ·exact(List.pairwise_iff_getElem.1 h j i hj hi h1).2.2
theorem KM(O:rX aC fst){vs:List α}{x:α}:x∈bC aC fst [] vs↔x∈vs/\∀y∈vs,aC y x=true->y=x:=by
 have hg:=oQ O (xQ (aC:=aC) (fst:=fst)) vs;constructor
 ·intro h;have hx:x∈vs:=by
   rcases ru h with h|h
   ·exact h
   ·simp at h
  refine⟨hx,fun y hy hyx=> ?_⟩;obtain⟨z,hz,U1⟩:=cZ.1 (nX O [] hy);have hzx:=O.trans _ _ _ U1 hyx;have:z=x:=by
   obtain⟨i,hi⟩:=iG.1 hz;obtain⟨j,hj⟩:=iG.1 h;by_cases hij:i=j
   ·subst hij;rw[hi]at hj;exact oJ hj
   ·have:=Ew hg hi hj hij;rw[hzx]at this;cases this
  subst this;exact O.Yq _ _ hyx U1
 ·rintro⟨hx,hm⟩;obtain⟨z,hz,hzx⟩:=cZ.1 (nX O [] hx);have hzv:z∈vs:=by
   rcases ru hz with h|h
   ·exact h
   ·simp at h
  rw[hm z hzv hzx]at hz;exact hz
theorem uo(O:rX aC fst){l m:List α}(hl:l.Pairwise fun a b=>fst a b=true)(hm:m.Pairwise fun a b=>fst a b=true)(h:∀x,x∈l↔x∈m):l=m:=by
 induction l generalizing m with
 | nil=>
  cases m with
  | nil => rfl
  | cons b m => exact absurd ((h b).2 (by simp)) (by simp)
 | cons a l ih=>
  cases m with
  | nil => exact absurd ((h a).1 (by simp)) (by simp)
  | cons b m=>
   rw[qD]at hl hm;have hab:a=b:=by
    by_cases e:a=b
    ·exact e
    ·have h1:=(h a).1 (by simp);have h2:=(h b).2 (by simp);rcases gq.1 h1 with h1|h1
     ·exact h1
     rcases gq.1 h2 with h2|h2
     ·exact h2.symm
     have:=O.tr _ _ _ (hl.1 b h2) (hm.1 a h1);rw[O.qy]at this;cases this
   subst hab;rw[ih hl.2 hm.2 (fun x=> ?_)];constructor
   ·intro hx;rcases gq.1 ((h x).1 (mO _ hx))with rfl|h1
    ·have:=hl.1 _ hx;rw[O.qy]at this;cases this
    ·exact h1
   ·intro hx;rcases gq.1 ((h x).2 (mO _ hx))with rfl|h1
    ·have:=hm.1 _ hx;rw[O.qy]at this;cases this
    ·exact h1
end
end
namespace Pt
section
variable {α:Type} {X:Px α} {St:Nat->Nat->α->Prop} {p:Nat}
theorem rU{aC:α->α->Bool}(hb:∀a b,aC a b=true↔X.aX a b)(l:List α)(w:α):bH aC l w=true↔pY X l w:=by
 unfold bH pY;rw[List.any_eq_true];exact⟨fun⟨x,h1,h2⟩=>⟨x,h1,(hb _ _).1 h2⟩,fun⟨x,h1,h2⟩=>⟨x,h1,(hb _ _).2 h2⟩⟩
theorem Uj{aC fst:α->α->Bool}(hb:∀a b,aC a b=true↔X.aX a b)(hf:∀a b,fst a b=true↔X.mh a b)(hX:X.Ok){rows:Nat->List α}{opn:List (Nat×α)}{q0:Nat}{w:α}(h:Iv X St p rows opn)(hm:(q0,w)∈opn):
    gG aC fst (rows q0) w=if bH aC (rows q0) w then rows q0 else rows q0++[w]:=by
 unfold gG;split
 ·rfl
 ·rename_i hc;have h1:dJ aC (rows q0) w=rows q0:=by
   unfold dJ;refine List.filter_eq_self.2 (fun x hx=> ?_);cases e:aC w x with
   | false => rfl
   | true=>
    have:=h.ls q0 x hx w (h.ow q0 w hm) ((hb _ _).1 e);subst this;exact absurd ((rU hb _ _).2 ⟨w,hx,hX.refl w⟩) hc
  have h2:(rows q0).findIdx (fun y=>fst w y)=(rows q0).length:=by
   refine List.findIdx_eq_length_of_false (fun x hx=> ?_);cases e:fst w x with
   | false => rfl
   | true => exact absurd ((hf _ _).1 e) (h.lo q0 x hx q0 w hm)
  rw[h1];unfold yc;rw[h2,tK,List.drop_length]
def tot(n:Nat)(rows:Nat->List α):Nat:=((List.range n).map (fun q=>(rows q).length)).sum
theorem wo(n:Nat)(rows:Nat->List α):tot (n+1) rows=tot n rows+(rows n).length:=by simp[tot,List.range_succ]
theorem wu{q0:Nat}{w:α}(rows:Nat->List α):tot n (dO rows q0 w)=tot n rows+if q0<n then 1 else 0:=by
 induction n with
 | zero => simp[tot]
 | succ n ih=>
  rw[wo,wo,ih];unfold dO;by_cases e:n=q0
  ·subst e;simp;omega
  ·rw[if_neg e];by_cases k:q0<n
   ·rw[if_pos k,if_pos (by omega)];omega
   ·rw[if_neg k,if_neg (by omega)];omega
theorem AR{m:Nat}{rows:Nat->List α}(h:∀q,q<n->(rows q).length<=m):tot n rows<=m*n:=by
 induction n with
 | zero => simp[tot]
 | succ n ih=>
  rw[wo,Nat.mul_succ];have h1:=ih (fun q hq=>h q (by omega));have h2:=h n (by omega);omega
def Ju(n d:Nat)(rows:Nat->List α)(k:Nat):Nat:=(64*n-tot n rows)*(d+1)+k
theorem Oh:Ju n d (fun _=>([]:List α)) 1=64*n*(d+1)+1:=by
 have:tot n (fun _=>([]:List α))=0:=by
  have:=AR (n:=n) (m:=0) (rows:=fun _=>([]:List α)) (fun _ _=>by simp);omega
 unfold Ju;rw[this,Nat.sub_zero]
theorem Og{q0 k':Nat}{w:α}{rows:Nat->List α}(hq:q0<n)(hl:∀q,q<n->(dO rows q0 w q).length<=64)(hk:0<k)(hk':k'<=k-1+d):Ju n d (dO rows q0 w) k'<Ju n d rows k:=by
 have h1:=AR hl;have h2:=wu (n:=n) (q0:=q0) (w:=w) rows;rw[if_pos hq]at h2;unfold Ju;have h3:64*n-tot n rows=(64*n-tot n (dO rows q0 w))+1:=by omega
 rw[h3,Nat.add_mul,Nat.one_mul];omega
theorem WC{rows:Nat->List α}:k<=Ju n d rows k:=Nat.le_add_left _ _
end
section
variable {α:Type} {X:Px α} {St:Nat->Nat->α->Prop} {p:Nat}
theorem Gd(hX:X.Ok)(l:List α)(h:l≠[]):∃m∈l,∀b∈l,¬X.mh b m:=by
 induction l with
 | nil => exact absurd rfl h
 | cons a l ih=>
  by_cases e:l=[]
  ·subst e;exact⟨a,by simp,fun b hb=>by simp at hb;subst hb;exact hX.qy _⟩
  ·obtain⟨m,hm,hl⟩:=ih e;rcases hX.tot a m with k|k|k
   ·refine⟨a,by simp,fun b hb=> ?_⟩;rcases gq.1 hb with rfl|hb
    ·exact hX.qy _
    ·exact fun t=>hl b hb (hX.tt t k)
   ·refine⟨m,by simp[hm],fun b hb=> ?_⟩;rcases gq.1 hb with rfl|hb
    ·rw[k];exact hX.qy _
    ·exact hl b hb
   ·refine⟨m,by simp[hm],fun b hb=> ?_⟩;rcases gq.1 hb with rfl|hb
    ·exact fun t=>hX.qy _ (hX.tt t k)
    ·exact hl b hb
structure FY(X:Px α)(all f:List α):Prop where
 so:f.Pairwise X.mh
 mem:∀a,a∈f↔a∈all/\∀b∈all,X.aX b a->b=a
theorem FY.same(hX:X.Ok){all f g:List α}(h:FY X all f)(k:FY X all g):f=g:=AX hX h.so k.so (fun a=>by rw[h.mem,k.mem])
theorem D8(hX:X.Ok){all:List α}{x:α}(hx:x∈all):∃m∈all,X.aX m x/\∀b∈all,X.aX b m->b=m:=by
 classical
 obtain⟨m,hm,hf⟩:=Gd hX (all.filter (fun y=>decide (X.aX y x))) (fun e=>by
  have:x∈all.filter (fun y=>decide (X.aX y x)):=mF.2 ⟨hx,by simpa using hX.refl x⟩;rw[e]at this;simp at this)
 obtain⟨h1,h2⟩:=mF.1 hm;have h2:X.aX m x:=by simpa using h2
 refine⟨m,h1,h2,fun b hb hbm=> ?_⟩;rcases hX.told hbm with e|e
 ·exact e
 ·exact absurd e (hf b (mF.2 ⟨hb,by simpa using hX.trans hbm h2⟩))
theorem FY.open(hX:X.Ok){all f:List α}(h:FY X all f)(t:α):pY X f t↔pY X all t:=by
 constructor
 ·rintro⟨x,hx,hxt⟩;exact⟨x,((h.mem x).1 hx).1,hxt⟩
 ·rintro⟨x,hx,hxt⟩;obtain⟨m,hm,hmx,hl⟩:=D8 hX hx;exact⟨m,(h.mem m).2 ⟨hm,hl⟩,hX.trans hmx hxt⟩
end
theorem rW(a b:ai)(h:PX.aX a b)(k:PX.aX b a):a=b:=dw (Int.le_antisymm h.1 k.1) (Int.le_antisymm h.2.1 k.2.1) (Int.le_antisymm h.2.2 k.2.2)
theorem zu(a b:ai):bJ a b=bJ b a:=by
 unfold bJ;simp only[Int.add_comm b.1.1,Int.add_comm b.1.2.1,Int.add_comm b.1.2.2]
theorem AZ(a:ai):bJ PX.z a=some a:=by
 have h:=bY a;have e0:PX.z.1.1=0:=rfl;have e1:PX.z.1.2.1=0:=rfl;have e2:PX.z.1.2.2=0:=rfl;obtain⟨c,hc⟩:=jN (a:=PX.z) (b:=a) ⟨by omega,by omega,by omega⟩;obtain⟨h1,h2,h3⟩:=bE hc;rw[hc];exact congrArg some (dw (by omega) (by omega) (by omega))
def ZB(St:Nat->Nat->ai->Prop)(p:Nat)(t:ai)(q:Nat)(u:ai):Prop:=∃a c,Wy PX St p q a/\bJ a t=some c/\PX.aX c u
theorem ZB.least{St:Nat->Nat->ai->Prop}{p:Nat}{rows:Nat->List ai}(h:r9 PX St p (some rows))(hc:∀q a,Wy PX St p q a->pY PX (rows q) a){t u:ai}:ZB St p t q u↔∃a∈rows q,∃c,bJ a t=some c/\PX.aX c u:=by
 constructor
 ·rintro⟨a,c,ha,hat,QS⟩;obtain⟨x,hx,hxa⟩:=hc q a ha;obtain⟨e,he,Va⟩:=bL.mono hxa hat;exact⟨x,hx,e,he,bL.trans Va QS⟩
 ·rintro⟨a,ha,c,hat,QS⟩;exact⟨a,c,((h q).2.1 a).1 ha|>.1,hat,QS⟩
def Vr(St:Nat->Nat->ai->Prop)(p:Nat)(t:ai)(q:Nat)(u:ai):Prop:=∃a,Wy PX St p q a/\bJ a t=some u
theorem Vr.self(St:Nat->Nat->ai->Prop)(p:Nat)(t:ai):Vr St p t p t:=⟨PX.z, .nil,AZ t⟩
theorem I8{a b c:ai}(h:bJ a b=some c):a.1.1+b.1.1<18446744073709551616/\a.1.2.1+b.1.2.1<18446744073709551616/\a.1.2.2+b.1.2.2<18446744073709551616:=by
 unfold bJ at h;split at h
 ·assumption
 ·cases h
theorem Vr.step{St:Nat->Nat->ai->Prop}{p q q':Nat}{t u v b:ai}(h:Vr St p t q u)(hs:St q q' b)(hv:bJ b u=some v):Vr St p t q' v:=by
 obtain⟨a,ha,hu⟩:=h;have e1:=bE hu;have e2:=bE hv;have d2:=I8 hv;have ta:=bY a;have tt:=bY t;have tb:=bY b;obtain⟨c,hc⟩:=jN (a:=a) (b:=b) (by omega);have e3:=bE hc;obtain⟨d,hd⟩:=jN (a:=c) (b:=t) (by omega);have e4:=bE hd;refine⟨c, .step ha hs hc, ?_⟩;rw[hd];exact congrArg some (dw (by omega) (by omega) (by omega))
theorem Kj{b u u' v:ai}(h:PX.aX u' u)(hv:bJ b u=some v):∃v',bJ b u'=some v'/\PX.aX v' v:=by
 rw[zu]at hv;obtain⟨v',h1,h2⟩:=bL.mono h hv;exact⟨v',by rw[zu];exact h1,h2⟩
section
variable {St:Nat->Nat->ai->Prop} {p:Nat} {t:ai} {at_:Nat->List ai} {todo done:List (Nat×ai)} {q0:Nat} {u0:ai}
end
section
variable {St:Nat->Nat->ai->Prop} {p:Nat} {t:ai} {at_:Nat->List ai}
end
end Pt
section
open Go.RowKit
section
variable {α:Type} (aC fst:α->α->Bool)
def lL(s:List α×List α)(d:α×Int):List α×List α:=
 if d.2<=0 then(dJ aC s.1 d.1,if (dJ aC s.1 d.1).length<s.1.length then s.2++[d.1]else s.2)else s
def fH(s:List α×List α)(us:List (α×Int)):List α×List α:=us.foldl (lL aC) s
def og(f:α->Int)(l F G:List α)(k:Nat):List α:=if 0<G.length/\F.length<k then bC aC fst F (l.filter fun t=> !(decide (f t<=0)|| !bH aC G t))else F
def E5(f:α->Int)(l fr:List α)(us:List (α×Int))(k:Nat):List α:=
 bC aC fst (og aC fst f l (fH aC (fr,[]) us).1 (fH aC (fr,[]) us).2 k) ((us.filter fun d=>decide (0<d.2)).map Prod.fst)
end
section
variable {α:Type} {aC fst:α->α->Bool}
theorem tQ(s:List α×List α)(d:α×Int)(us:List (α×Int)):fH aC s (d::us)=fH aC (lL aC s d) us:=rfl
theorem xY{s:List α×List α}{us:List (α×Int)}{d:α×Int}(h:us[k]? =some d):fH aC s (us.take (k+1))=lL aC (fH aC s (us.take k)) d:=by
 unfold fH;rw[tO,h,List.foldl_append];rfl
theorem Lp{s:List α×List α}(h:Good aC fst s.1)(d:α×Int):Good aC fst (lL aC s d).1:=by
 unfold lL;split
 ·exact Ex h d.1
 ·exact h
theorem Lt(us:List (α×Int)):∀(s:List α×List α),Good aC fst s.1->Good aC fst (fH aC s us).1:=by
 induction us with
 | nil => exact fun s h=>h
 | cons d us ih => exact fun s h=>ih _ (Lp h d)
theorem xC{s:List α×List α}{d:α×Int}{x:α}:x∈(lL aC s d).1↔x∈s.1/\(d.2<=0->aC d.1 x=false):=by
 unfold lL;split
 ·rename_i h;rw[nI];exact⟨fun⟨h1,h2⟩=>⟨h1,fun _=>h2⟩,fun⟨h1,h2⟩=>⟨h1,h2 h⟩⟩
 ·rename_i h;exact⟨fun h1=>⟨h1,fun e=>absurd e h⟩,fun h1=>h1.1⟩
theorem Oj(us:List (α×Int)):∀(s:List α×List α) (x:α),x∈(fH aC s us).1↔x∈s.1/\∀d∈us,d.2<=0->aC d.1 x=false:=by
 induction us with
 | nil => exact fun s x=>⟨fun h=>⟨h,fun d hd=>by cases hd⟩,fun h=>h.1⟩
 | cons d us ih=>
  intro s x;rw[tQ,ih,xC];constructor
  ·rintro⟨⟨h1,h2⟩,h3⟩;refine⟨h1,fun d' hd'=> ?_⟩;rcases gq.1 hd' with rfl|hd'
   ·exact h2
   ·exact h3 d' hd'
  ·rintro⟨h1,h2⟩;exact⟨⟨h1,h2 d (mX ..)⟩,fun d' hd'=>h2 d' (mO _ hd')⟩
theorem Ll{s:List α×List α}(d:α×Int){x:α}(h:x∈s.2):x∈(lL aC s d).2:=by
 unfold lL;split
 ·show x∈(if _ then _ else _);split
  ·exact List.mem_append_left _ h
  ·exact h
 ·exact h
theorem Lr(us:List (α×Int)):∀(s:List α×List α) {x:α},x∈s.2->x∈(fH aC s us).2:=by
 induction us with
 | nil => exact fun s x h=>h
 | cons d us ih => exact fun s x h=>ih _ (Ll d h)
theorem P9{l:List α}{v x:α}(hx:x∈l)(hb:aC v x=true):(dJ aC l v).length<l.length:=by
 unfold dJ;refine Nat.lt_of_le_of_ne (List.length_filter_le _ _) (fun e=> ?_);have:=List.length_filter_eq_length_iff.1 e x hx;rw[hb]at this;cases this
theorem Qb(us:List (α×Int)):∀(s:List α×List α) (z:α),z∈s.1->z∉(fH aC s us).1->∃g∈(fH aC s us).2,aC g z=true:=by
 induction us with
 | nil => exact fun s z h hn=>absurd h hn
 | cons d us ih=>
  intro s z hz hn;rw[tQ]at hn⊢;by_cases h:z∈(lL aC s d).1
  ·exact ih _ z h hn
  ·have h1:d.2<=0/\aC d.1 z=true:=by
     by_cases h2:d.2<=0
     ·refine⟨h2, ?_⟩;cases e:aC d.1 z with
      | true => rfl
      | false => exact absurd (xC.2 ⟨hz,fun _=>e⟩) h
     ·exact absurd (xC.2 ⟨hz,fun e=>absurd e h2⟩) h
   refine⟨d.1,Lr us _ ?_,h1.2⟩;unfold lL;rw[if_pos h1.1,if_pos (P9 hz h1.2)];exact List.mem_append_right _ (yM.2 rfl)
theorem EZ(us:List (α×Int)):∀(s:List α×List α),(fH aC s us).1.length<=s.1.length/\(fH aC s us).2.length<=s.2.length+us.length:=by
 induction us with
 | nil => exact fun s=>⟨nR _,nR _⟩
 | cons d us ih=>
  intro s;rw[tQ];obtain⟨h1,h2⟩:=ih (lL aC s d);have h3:(lL aC s d).1.length<=s.1.length:=by
   unfold lL;split
   ·exact gN _ _
   ·exact nR _
  have h4:(lL aC s d).2.length<=s.2.length+1:=by
   unfold lL;split
   ·show(if _ then _ else _:List α).length<=_;split
    ·simp
    ·omega
   ·omega
  rw[lC];omega
theorem Ud(O:rX aC fst){f0 f1:α->Int}{fr ks l:List α}{us:List (α×Int)}(hgood:Good aC fst fr)(hpos:∀x∈fr,0<f0 x)(abT:∀y,0<f0 y->bH aC fr y=true)
    (hch:∀t,f1 t≠f0 t->∃d∈us,d.1=t) (hus:∀d∈us,d.2=f1 d.1) (_:ks.Nodup) (hks:∀t,t∈ks↔f1 t≠0) (hl:∀t,t∈l↔t∈ks)
    (hsub:∀F:List α,F.Nodup->(∀x∈F,x∈ks)->ks.length<=F.length->∀x∈ks,x∈F) :
    Good aC fst (E5 aC fst f1 l fr us ks.length)/\(∀x∈E5 aC fst f1 l fr us ks.length,0<f1 x)/\∀y,0<f1 y->bH aC (E5 aC fst f1 l fr us ks.length) y=true:=by
 have hF:∀x∈(fH aC (fr,[]) us).1,0<f1 x:=fun x hx=>by
  obtain⟨h1,h2⟩:=(Oj us _ x).1 hx;by_cases e:f1 x=f0 x
  ·rw[e];exact hpos x h1
  ·obtain⟨d,hd,rfl⟩:=hch x e;by_cases h0:d.2<=0
   ·have:=h2 d hd h0;rw[O.refl]at this;cases this
   ·rw[<-hus d hd];omega
 have hFg:Good aC fst (fH aC (fr,[]) us).1:=Lt us _ hgood;have hFn:(fH aC (fr,[]) us).1.Nodup:=hFg.imp fun {a b} hab e=>by subst e;rw[O.qy]at hab;cases hab.1
 have hB:Good aC fst (og aC fst f1 l (fH aC (fr,[]) us).1 (fH aC (fr,[]) us).2 ks.length)/\(∀x∈og aC fst f1 l (fH aC (fr,[]) us).1 (fH aC (fr,[]) us).2 ks.length,0<f1 x)/\∀y,0<f1 y->f1 y=f0 y->bH aC (og aC fst f1 l (fH aC (fr,[]) us).1 (fH aC (fr,[]) us).2 ks.length) y=true:=by
  have hout:∀y,0<f1 y->f1 y=f0 y->bH aC (fH aC (fr,[]) us).1 y=true\/bH aC (fH aC (fr,[]) us).2 y=true:=fun y hy e=>by
   obtain⟨z,hz,U1⟩:=cZ.1 (abT y (by omega));by_cases hm:z∈(fH aC (fr,[]) us).1
   ·exact Or.inl (cZ.2 ⟨z,hm,U1⟩)
   ·obtain⟨g,hg,hgz⟩:=Qb us (fr,[]) z hz hm;exact Or.inr (cZ.2 ⟨g,hg,O.trans _ _ _ hgz U1⟩)
  generalize (fH aC (fr,[]) us).1=F at *;generalize (fH aC (fr,[]) us).2=G at *;unfold og;split
  ·refine⟨oQ O hFg _,fun x hx=> ?_,fun y hy e=> ?_⟩
   ·rcases ru hx with h1|h1
    ·have:=(mF.1 h1).2;simp at this;omega
    ·exact hF x h1
   ·rcases hout y hy e with h1|h1
    ·exact ko O _ h1
    ·refine nX O F (mF.2 ⟨(hl y).2 ((hks y).2 (by omega)), ?_⟩);rw[h1,decide_eq_false (by omega)];rfl
  ·rename_i hno;refine⟨hFg,hF,fun y hy e=> ?_⟩;rcases hout y hy e with h1|h1
   ·exact h1
   ·have hG:0<G.length:=by
      obtain⟨g,hg,_⟩:=cZ.1 h1;exact List.length_pos_of_mem hg
    have hlen:ks.length<=F.length:=by
     by_cases h2:F.length<ks.length
     ·exact absurd ⟨hG,h2⟩ hno
     ·omega
    exact cZ.2 ⟨y,hsub F hFn (fun x hx=>(hks x).2 (by have:=hF x hx;omega)) hlen y ((hks y).2 (by omega)),O.refl y⟩
 obtain⟨b1,b2,b3⟩:=hB;unfold E5;refine⟨oQ O b1 _,fun x hx=> ?_,fun y hy=> ?_⟩
 ·rcases ru hx with h1|h1
  ·obtain⟨d,hd,rfl⟩:=mM.1 h1;obtain⟨hd1,hd2⟩:=mF.1 hd;rw[<-hus d hd1];simpa using hd2
  ·exact b2 x h1
 ·by_cases he:f1 y=f0 y
  ·exact ko O _ (b3 y hy he)
  ·obtain⟨d,hd,rfl⟩:=hch y he;exact nX O _ (mM.2 ⟨d,mF.2 ⟨hd,by rw[hus d hd];simpa using hy⟩,rfl⟩)
end
end
end Go.Proofs.YtiiefcalkjeieaaGreat
