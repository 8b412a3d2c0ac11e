import Derived.Test.YtiiefcalkjeieaaGreatJ1
variable{p q n N d k:Nat}{α β:Type}
namespace Go.Proofs.YtiiefcalkjeieaaGreat
namespace Pt
structure Px(α:Type) where
 aU:α->α->Prop
 lY:α->α->Prop
 thn:α->α->Option α
 z:α
structure Px.Ok{α:Type}(X:Px α):Prop where
 refl:∀a,X.aU a a
 trans:∀{a b c},X.aU a b->X.aU b c->X.aU a c
 told:∀{a b},X.aU a b->a=b\/X.lY a b
 tt:∀{a b c},X.lY a b->X.lY b c->X.lY a c
 qj:∀a,¬X.lY a a
 tot:∀a b,X.lY a b\/a=b\/X.lY b a
 mono:∀{a b c d},X.aU a b->X.thn b c=some d->∃e,X.thn a c=some e/\X.aU e d
 up:∀{a b c},X.thn a b=some c->X.aU a c
section
variable {α:Type} {X:Px α} {St:Nat->Nat->α->Prop} {p:Nat}
inductive Wy (X:Px α) (St:Nat->Nat->α->Prop) (p:Nat):Nat->α->Prop
 | nil:Wy X St p p X.z
 | step {q q':Nat} {a b c:α}:Wy X St p q a->St q q' b->X.thn a b=some c->Wy X St p q' c
def Lea(X:Px α)(St:Nat->Nat->α->Prop)(p q:Nat)(a:α):Prop:=Wy X St p q a/\∀b,Wy X St p q b->X.aU b a->b=a
def pV(X:Px α)(l:List α)(a:α):Prop:=∃x∈l,X.aU x a
structure Iv(X:Px α)(St:Nat->Nat->α->Prop)(p:Nat)(rows:Nat->List α)(opn:List (Nat×α)):Prop where
 rw:∀q a,a∈rows q->Wy X St p q a
 ow:∀q a,(q,a)∈opn->Wy X St p q a
 st:pV X (rows p) X.z\/(p,X.z)∈opn
 sp:∀q a,a∈rows q->∀q' b c,St q q' b->X.thn a b=some c->pV X (rows q') c\/(q',c)∈opn
 ls:∀q a,a∈rows q->∀b,Wy X St p q b->X.aU b a->b=a
 so:∀q,(rows q).Pairwise X.lY
 lo:∀q a,a∈rows q->∀q' b,(q',b)∈opn->¬X.lY b a
theorem pV.trans(hX:X.Ok){l:List α}{a b:α}(h:pV X l a)(hab:X.aU a b):pV X l b:=by
 obtain⟨x,hx,hxa⟩:=h;exact⟨x,hx,hX.trans hxa hab⟩
theorem pV.sub{l m:List α}{a:α}(h:pV X l a)(hs:∀x∈l,x∈m):pV X m a:=by
 obtain⟨x,hx,hxa⟩:=h;exact⟨x,hs x hx,hxa⟩
theorem Iv.init:Iv X St p (fun _=>[]) [(p,X.z)]:=
 ⟨fun _ _ h=>by simp at h,fun q a h=>by simp at h;obtain⟨rfl,rfl⟩:=h;exact .nil,Or.inr (by simp),fun _ _ h=>by simp at h,fun _ _ h=>by simp at h,fun _=>List.Pairwise.nil,fun _ _ h=>by simp at h⟩
theorem Iv.done(hX:X.Ok){rows:Nat->List α}{opn:List (Nat×α)}(h:Iv X St p rows opn){w:α}(hw:∀q b,(q,b)∈opn->¬X.lY b w){u:α}(hu:Wy X St p q u):X.lY u w->pV X (rows q) u:=by
 induction hu with
 | nil=>
  intro ht;rcases h.st with h1|h1
  ·exact h1
  ·exact absurd ht (hw _ _ h1)
 | @step q q' a b c ha hs hc ih=>
  intro ht;have h1:X.lY a w:=(hX.told (hX.up hc)).elim (fun e=>e ▸ ht) (fun e=>hX.tt e ht);obtain⟨x,hx,hxa⟩:=ih h1;obtain⟨e,he,U2⟩:=hX.mono hxa hc;rcases h.sp q x hx q' b e hs he with h2|h2
  ·exact h2.trans hX U2
  ·exact absurd ((hX.told U2).elim (fun k=>k ▸ ht) (fun k=>hX.tt k ht)) (hw _ _ h2)
theorem Iv.all(hX:X.Ok){rows:Nat->List α}(h:Iv X St p rows []){u:α}(hu:Wy X St p q u):pV X (rows q) u:=by
 induction hu with
 | nil=>
  rcases h.st with h1|h1
  ·exact h1
  ·simp at h1
 | @step q q' a b c ha hs hc ih=>
  obtain⟨x,hx,hxa⟩:=ih;obtain⟨e,he,U2⟩:=hX.mono hxa hc;rcases h.sp q x hx q' b e hs he with h2|h2
  ·exact h2.trans hX U2
  ·simp at h2
theorem Iv.skip{rows:Nat->List α}{opn rest:List (Nat×α)}{q0:Nat}{w:α}(h:Iv X St p rows opn)(h1:∀x∈opn,x=(q0,w)\/x∈rest)(h2:∀x∈rest,x∈opn)(hc:pV X (rows q0) w):Iv X St p rows rest:=by
 refine⟨h.rw,fun q a ha=>h.ow q a (h2 _ ha), ?_,fun q a ha q' b c hs hb=> ?_,h.ls,h.so,fun q a ha q' b hb=>h.lo q a ha q' b (h2 _ hb)⟩
 ·rcases h.st with k|k
  ·exact Or.inl k
  ·rcases h1 _ k with e|e
   ·simp only[Prod.mk.injEq]at e;exact Or.inl (by rw[e.1,e.2];exact hc)
   ·exact Or.inr e
 ·rcases h.sp q a ha q' b c hs hb with k|k
  ·exact Or.inl k
  ·rcases h1 _ k with e|e
   ·simp only[Prod.mk.injEq]at e;exact Or.inl (by rw[e.1,e.2];exact hc)
   ·exact Or.inr e
def dM(rows:Nat->List α)(q0:Nat)(w:α):Nat->List α:=fun q=>if q=q0 then rows q++[w]else rows q
theorem kI{rows:Nat->List α}{q0:Nat}{w a:α}:a∈dM rows q0 w q↔a∈rows q\/q=q0/\a=w:=by
 unfold dM;split
 ·rename_i e;simp[e]
 ·rename_i e;simp[e]
theorem Iv.take(hX:X.Ok){rows:Nat->List α}{opn rest Si:List (Nat×α)}{q0:Nat}{w:α}(h:Iv X St p rows opn)(hm:(q0,w)∈opn)(hf:∀q b,(q,b)∈opn->¬X.lY b w)(h1:∀x∈opn,x=(q0,w)\/x∈rest)(h2:∀x∈rest,x∈opn)(hc:¬pV X (rows q0) w)
    (h3:∀x∈rest,x∈Si) (h4:∀q c,(q,c)∈Si->(q,c)∈rest\/∃b,St q0 q b/\X.thn w b=some c) (h5:∀q b c,St q0 q b->X.thn w b=some c->pV X (dM rows q0 w q) c\/(q,c)∈Si):Iv X St p (dM rows q0 w) Si:=by
 have hsub:∀q,∀x∈rows q,x∈dM rows q0 w q:=fun q x hx=>kI.2 (Or.inl hx);have hself:pV X (dM rows q0 w q0) w:=⟨w,kI.2 (Or.inr ⟨rfl,rfl⟩),hX.refl w⟩;have hww:=h.ow q0 w hm;have hlow:∀q a,a∈rows q->∀q' c b,St q0 q' b->X.thn w b=some c->¬X.lY c a:=fun q a ha q' c b hs hb ht=>by
  rcases hX.told (hX.up hb)with e|e
  ·exact h.lo q a ha q0 w hm (e ▸ ht)
  ·exact h.lo q a ha q0 w hm (hX.tt e ht)
 refine⟨fun q a ha=> ?_,fun q c hqc=> ?_, ?_,fun q a ha q' b c hs hb=> ?_,fun q a ha b hb Ht=> ?_,fun q=> ?_,fun q a ha q' c hqc=> ?_⟩
 ·rcases kI.1 ha with k|⟨rfl,rfl⟩
  ·exact h.rw q a k
  ·exact hww
 ·rcases h4 q c hqc with k|⟨b,hs,hb⟩
  ·exact h.ow q c (h2 _ k)
  ·exact .step hww hs hb
 ·rcases h.st with k|k
  ·exact Or.inl (k.sub (hsub p))
  ·rcases h1 _ k with e|e
   ·simp only[Prod.mk.injEq]at e;exact Or.inl (by rw[e.1,e.2];exact hself)
   ·exact Or.inr (h3 _ e)
 ·rcases kI.1 ha with k|⟨rfl,rfl⟩
  ·rcases h.sp q a k q' b c hs hb with k2|k2
   ·exact Or.inl (k2.sub (hsub q'))
   ·rcases h1 _ k2 with e|e
    ·simp only[Prod.mk.injEq]at e;exact Or.inl (by rw[e.1,e.2];exact hself)
    ·exact Or.inr (h3 _ e)
  ·exact h5 q' b c hs hb
 ·rcases kI.1 ha with k|⟨rfl,rfl⟩
  ·exact h.ls q a k b hb Ht
  ·rcases hX.told Ht with e|e
   ·exact e
   ·exact absurd ((h.done hX hf hb e).trans hX Ht) hc
 ·unfold dM;split
  ·rename_i e;subst e;refine List.pairwise_append.2 ⟨h.so q,List.pairwise_singleton _ _,fun a ha b hb=> ?_⟩;simp only[yF]at hb;subst hb;rcases hX.tot a b with k|k|k
   ·exact k
   ·exact absurd ⟨a,ha,k ▸ hX.refl a⟩ hc
   ·exact absurd k (h.lo q a ha q b hm)
  ·exact h.so q
 ·rcases kI.1 ha with k|⟨rfl,rfl⟩
  ·rcases h4 q' c hqc with k2|⟨b,hs,hb⟩
   ·exact h.lo q a k q' c (h2 _ k2)
   ·exact hlow q a k q' c b hs hb
  ·rcases h4 q' c hqc with k2|⟨b,hs,hb⟩
   ·exact hf q' c (h2 _ k2)
   ·intro ht;rcases hX.told (hX.up hb)with e|e
    ·exact hX.qj a (by rw[e]at ht⊢;exact ht)
    ·exact hX.qj a (hX.tt e ht)
theorem iX{l m:List α}(hl:l.Nodup)(h:∀a∈l,a∈m):l.length<=m.length:=by
 induction l generalizing m with
 | nil => simp
 | cons a l ih=>
  obtain⟨s,t,rfl⟩:=List.append_of_mem (h a (by simp));have hn:=List.nodup_cons.1 hl;have:=ih (m:=s++t) hn.2 (fun b hb=>by
   have h1:=h b (by simp[hb]);simp only[j4,fU]at h1⊢;rcases h1 with h1|rfl|h1
   ·exact Or.inl h1
   ·exact absurd hb hn.1
   ·exact Or.inr h1)
  simp at this⊢;omega
theorem AJ(hX:X.Ok){l m:List α}(hl:l.Pairwise X.lY)(hm:m.Pairwise X.lY)(h:∀a,a∈l↔a∈m):l=m:=by
 induction l generalizing m with
 | nil=>
  cases m with
  | nil => rfl
  | cons b m => exact absurd ((h b).2 (by simp)) (by simp)
 | cons a l ih=>
  cases m with
  | nil => exact absurd ((h a).1 (by simp)) (by simp)
  | cons b m=>
   have ha:=qA.1 hl;have hb:=qA.1 hm;have e:a=b:=by
    rcases fU.1 ((h a).1 (by simp))with e|e
    ·exact e
    ·rcases fU.1 ((h b).2 (by simp))with k|k
     ·exact k.symm
     ·exact absurd (hX.tt (hb.1 a e) (ha.1 b k)) (hX.qj b)
   subst e;rw[ih ha.2 hb.2 (fun x=>⟨fun hx=> ?_,fun hx=> ?_⟩)]
   ·rcases fU.1 ((h x).1 (mO _ hx))with k|k
    ·subst k;exact absurd (ha.1 _ hx) (hX.qj _)
    ·exact k
   ·rcases fU.1 ((h x).2 (mO _ hx))with k|k
    ·subst k;exact absurd (hb.1 _ hx) (hX.qj _)
    ·exact k
def rW(X:Px α)(St:Nat->Nat->α->Prop)(p:Nat):Option (Nat->List α)->Prop
 | none => ∃(q:Nat) (l:List α),l.Nodup/\64<l.length/\∀a∈l,Lea X St p q a
 | some rows => ∀q,(rows q).Pairwise X.lY/\(∀a,a∈rows q↔Lea X St p q a)/\(rows q).length<=64
theorem Iv.lea{rows:Nat->List α}{opn:List (Nat×α)}(h:Iv X St p rows opn){a:α}(ha:a∈rows q):Lea X St p q a:=⟨h.rw q a ha,h.ls q a ha⟩
theorem Iv.nodup(hX:X.Ok){rows:Nat->List α}{opn:List (Nat×α)}(h:Iv X St p rows opn)(q:Nat):(rows q).Nodup:=
 List.Pairwise.imp (S:=fun a b=>a≠b) (fun {a b} k (e:a=b)=>hX.qj b (by rw[e]at k;exact k)) (h.so q)
theorem Iv.wide(hX:X.Ok){rows:Nat->List α}{opn:List (Nat×α)}(h:Iv X St p rows opn)(hq:64<(rows q).length):rW X St p none:=⟨q,rows q,h.nodup hX q,hq,fun _ ha=>h.lea ha⟩
theorem Iv.fin(hX:X.Ok){rows:Nat->List α}(h:Iv X St p rows [])(hl:∀q,(rows q).length<=64):rW X St p (some rows):=fun q=>by
 refine⟨h.so q,fun a=>⟨fun ha=>h.lea ha,fun ha=> ?_⟩,hl q⟩;obtain⟨x,hx,hxa⟩:=h.all hX ha.1;have:=ha.2 x (h.rw q x hx) hxa;exact this ▸ hx
theorem rW.same(hX:X.Ok){r s:Option (Nat->List α)}(hr:rW X St p r)(hs:rW X St p s):r=s:=by
 have key:∀rows,rW X St p none->rW X St p (some rows)->False:=fun rows h1 h2=>by
  obtain⟨q,l,hn,hl,ha⟩:=h1;have h3:=iX hn (fun a k=>((h2 q).2.1 a).2 (ha a k));have h4:=(h2 q).2.2;omega
 cases r with
 | none=>
  cases s with
  | none => rfl
  | some rows => exact(key rows hr hs).elim
 | some rows=>
  cases s with
  | none => exact(key rows hs hr).elim
  | some rows'=>
   refine congrArg some (funext fun q=>AJ hX (hr q).1 (hs q).1 (fun a=> ?_));rw[(hr q).2.1,(hs q).2.1]
end
abbrev ai:={ p:Int×Int×Int // (Lit.int .u64 p.1).wf=true/\(Lit.int .u64 p.2.1).wf=true/\(Lit.int .u64 p.2.2).wf=true }
theorem kS(x:Int):(Lit.int .u64 x).wf=true↔0<=x/\x<18446744073709551616:=by
 have e1:IntKind.u64.min=0:=rfl;have e2:IntKind.u64.max=18446744073709551615:=rfl;simp only[Lit.wf,e1,e2,bA,dE];omega
theorem cZ{s t:ai}(h1:s.1.1=t.1.1)(h2:s.1.2.1=t.1.2.1)(h3:s.1.2.2=t.1.2.2):s=t:=Subtype.ext (Prod.ext h1 (Prod.ext h2 h3))
theorem bW(s:ai):(0<=s.1.1/\s.1.1<18446744073709551616)/\(0<=s.1.2.1/\s.1.2.1<18446744073709551616)/\(0<=s.1.2.2/\s.1.2.2<18446744073709551616):=
 ⟨(kS _).1 s.2.1,(kS _).1 s.2.2.1,(kS _).1 s.2.2.2⟩
def bH(a b:ai):Option ai:=
 if h:a.1.1+b.1.1<18446744073709551616/\a.1.2.1+b.1.2.1<18446744073709551616/\a.1.2.2+b.1.2.2<18446744073709551616 then
  some ⟨(a.1.1+b.1.1,a.1.2.1+b.1.2.1,a.1.2.2+b.1.2.2),by
   have h1:=bW a;have h2:=bW b;exact⟨(kS _).2 ⟨by simp only;omega,h.1⟩,(kS _).2 ⟨by simp only;omega,h.2.1⟩,(kS _).2 ⟨by simp only;omega,h.2.2⟩⟩⟩
 else none
theorem bz{a b c:ai}(h:bH a b=some c):c.1.1=a.1.1+b.1.1/\c.1.2.1=a.1.2.1+b.1.2.1/\c.1.2.2=a.1.2.2+b.1.2.2:=by
 unfold bH at h;split at h
 ·cases h;exact⟨rfl,rfl,rfl⟩
 ·cases h
theorem jJ{a b:ai}(h:a.1.1+b.1.1<18446744073709551616/\a.1.2.1+b.1.2.1<18446744073709551616/\a.1.2.2+b.1.2.2<18446744073709551616):∃c,bH a b=some c:=by
 unfold bH;rw[dif_pos h];exact⟨_,rfl⟩
def PX:Px ai where
 aU a b:=a.1.1<=b.1.1/\a.1.2.1<=b.1.2.1/\a.1.2.2<=b.1.2.2
 lY a b:=a.1.1<b.1.1\/(a.1.1=b.1.1/\(a.1.2.1<b.1.2.1\/(a.1.2.1=b.1.2.1/\a.1.2.2<b.1.2.2)))
 thn:=bH
 z:=⟨(0,0,0),by decide⟩
theorem bJ:PX.Ok where
 refl a:=⟨Int.le_refl _,Int.le_refl _,Int.le_refl _⟩
 trans {a b c} h k:=by
  obtain⟨h1,h2,h3⟩:=h;obtain⟨k1,k2,k3⟩:=k;exact⟨Int.le_trans h1 k1,Int.le_trans h2 k2,Int.le_trans h3 k3⟩
 told {a b} h:=by
  obtain⟨h1,h2,h3⟩:=h;by_cases e:a=b
  ·exact Or.inl e
  ·refine Or.inr ?_;have:¬(a.1.1=b.1.1/\a.1.2.1=b.1.2.1/\a.1.2.2=b.1.2.2):=fun k=>e (cZ k.1 k.2.1 k.2.2);show _\/_;omega
 tt {a b c} h k:=by
  show _\/_;have h':a.1.1<b.1.1\/(a.1.1=b.1.1/\(a.1.2.1<b.1.2.1\/(a.1.2.1=b.1.2.1/\a.1.2.2<b.1.2.2))):=h;have k':b.1.1<c.1.1\/(b.1.1=c.1.1/\(b.1.2.1<c.1.2.1\/(b.1.2.1=c.1.2.1/\b.1.2.2<c.1.2.2))):=k;omega
 qj a h:=by
  have h':a.1.1<a.1.1\/(a.1.1=a.1.1/\(a.1.2.1<a.1.2.1\/(a.1.2.1=a.1.2.1/\a.1.2.2<a.1.2.2))):=h;omega
 tot a b:=by
  by_cases e:a=b
  ·exact Or.inr (Or.inl e)
  ·have:¬(a.1.1=b.1.1/\a.1.2.1=b.1.2.1/\a.1.2.2=b.1.2.2):=fun k=>e (cZ k.1 k.2.1 k.2.2);show(_\/_)\/_\/(_\/_);omega
 mono {a b c d} h k:=by
  obtain⟨h1,h2,h3⟩:=h;obtain⟨k1,k2,k3⟩:=bz k;have hd:=bW d;obtain⟨e,he⟩:=jJ (a:=a) (b:=c) ⟨by omega,by omega,by omega⟩;obtain⟨e1,e2,e3⟩:=bz he;exact⟨e,he,by show _<=_/\_<=_/\_<=_;omega⟩
 up {a b c} k:=by
  obtain⟨k1,k2,k3⟩:=bz k;have hb:=bW b;show _<=_/\_<=_/\_<=_;omega
section
variable {α:Type} {X:Px α} {St:Nat->Nat->α->Prop} {p:Nat}
theorem rP{ay:α->α->Bool}(hb:∀a b,ay a b=true↔X.aU a b)(l:List α)(w:α):bE ay l w=true↔pV X l w:=by
 unfold bE pV;rw[List.any_eq_true];exact⟨fun⟨x,h1,h2⟩=>⟨x,h1,(hb _ _).1 h2⟩,fun⟨x,h1,h2⟩=>⟨x,h1,(hb _ _).2 h2⟩⟩
theorem Ub{ay fst:α->α->Bool}(hb:∀a b,ay a b=true↔X.aU a b)(hf:∀a b,fst a b=true↔X.lY a b)(hX:X.Ok){rows:Nat->List α}{opn:List (Nat×α)}{q0:Nat}{w:α}(h:Iv X St p rows opn)(hm:(q0,w)∈opn):
    gB ay fst (rows q0) w=if bE ay (rows q0) w then rows q0 else rows q0++[w]:=by
 unfold gB;split
 ·rfl
 ·rename_i hc;have h1:dG ay (rows q0) w=rows q0:=by
   unfold dG;refine List.filter_eq_self.2 (fun x hx=> ?_);cases e:ay w x with
   | false => rfl
   | true=>
    have:=h.ls q0 x hx w (h.ow q0 w hm) ((hb _ _).1 e);subst this;exact absurd ((rP hb _ _).2 ⟨w,hx,hX.refl w⟩) hc
  have h2:(rows q0).findIdx (fun y=>fst w y)=(rows q0).length:=by
   refine List.findIdx_eq_length_of_false (fun x hx=> ?_);cases e:fst w x with
   | false => rfl
   | true => exact absurd ((hf _ _).1 e) (h.lo q0 x hx q0 w hm)
  rw[h1];unfold xS;rw[h2,tK,List.drop_length]
def tot(n:Nat)(rows:Nat->List α):Nat:=((List.range n).map (fun q=>(rows q).length)).sum
theorem vV(n:Nat)(rows:Nat->List α):tot (n+1) rows=tot n rows+(rows n).length:=by simp[tot,List.range_succ]
theorem vW{q0:Nat}{w:α}(rows:Nat->List α):tot n (dM rows q0 w)=tot n rows+if q0<n then 1 else 0:=by
 induction n with
 | zero => simp[tot]
 | succ n ih=>
  rw[vV,vV,ih];unfold dM;by_cases e:n=q0
  ·subst e;simp;omega
  ·rw[if_neg e];by_cases k:q0<n
   ·rw[if_pos k,if_pos (by omega)];omega
   ·rw[if_neg k,if_neg (by omega)];omega
theorem Ay{m:Nat}{rows:Nat->List α}(h:∀q,q<n->(rows q).length<=m):tot n rows<=m*n:=by
 induction n with
 | zero => simp[tot]
 | succ n ih=>
  rw[vV,Nat.mul_succ];have h1:=ih (fun q hq=>h q (by omega));have h2:=h n (by omega);omega
def Jo(n d:Nat)(rows:Nat->List α)(k:Nat):Nat:=(64*n-tot n rows)*(d+1)+k
theorem NZ:Jo n d (fun _=>([]:List α)) 1=64*n*(d+1)+1:=by
 have:tot n (fun _=>([]:List α))=0:=by
  have:=Ay (n:=n) (m:=0) (rows:=fun _=>([]:List α)) (fun _ _=>by simp);omega
 unfold Jo;rw[this,Nat.sub_zero]
theorem NW{q0 k':Nat}{w:α}{rows:Nat->List α}(hq:q0<n)(hl:∀q,q<n->(dM rows q0 w q).length<=64)(hk:0<k)(hk':k'<=k-1+d):Jo n d (dM rows q0 w) k'<Jo n d rows k:=by
 have h1:=Ay hl;have h2:=vW (n:=n) (q0:=q0) (w:=w) rows;rw[if_pos hq]at h2;unfold Jo;have h3:64*n-tot n rows=(64*n-tot n (dM rows q0 w))+1:=by omega
 rw[h3,Nat.add_mul,Nat.one_mul];omega
theorem Ws{rows:Nat->List α}:k<=Jo n d rows k:=Nat.le_add_left _ _
end
section
variable {α:Type} {X:Px α} {St:Nat->Nat->α->Prop} {p:Nat}
theorem F5(hX:X.Ok)(l:List α)(h:l≠[]):∃m∈l,∀b∈l,¬X.lY b m:=by
 induction l with
 | nil => exact absurd rfl h
 | cons a l ih=>
  by_cases e:l=[]
  ·subst e;exact⟨a,by simp,fun b hb=>by simp at hb;subst hb;exact hX.qj _⟩
  ·obtain⟨m,hm,hl⟩:=ih e;rcases hX.tot a m with k|k|k
   ·refine⟨a,by simp,fun b hb=> ?_⟩;rcases fU.1 hb with rfl|hb
    ·exact hX.qj _
    ·exact fun t=>hl b hb (hX.tt t k)
   ·refine⟨m,by simp[hm],fun b hb=> ?_⟩;rcases fU.1 hb with rfl|hb
    ·rw[k];exact hX.qj _
    ·exact hl b hb
   ·refine⟨m,by simp[hm],fun b hb=> ?_⟩;rcases fU.1 hb with rfl|hb
    ·exact fun t=>hX.qj _ (hX.tt t k)
    ·exact hl b hb
structure FO(X:Px α)(all f:List α):Prop where
 so:f.Pairwise X.lY
 mem:∀a,a∈f↔a∈all/\∀b∈all,X.aU b a->b=a
theorem FO.same(hX:X.Ok){all f g:List α}(h:FO X all f)(k:FO X all g):f=g:=AJ hX h.so k.so (fun a=>by rw[h.mem,k.mem])
theorem DU(hX:X.Ok){all:List α}{x:α}(hx:x∈all):∃m∈all,X.aU m x/\∀b∈all,X.aU b m->b=m:=by
 classical
 obtain⟨m,hm,hf⟩:=F5 hX (all.filter (fun y=>decide (X.aU y x))) (fun e=>by
  have:x∈all.filter (fun y=>decide (X.aU y x)):=mF.2 ⟨hx,by simpa using hX.refl x⟩;rw[e]at this;simp at this)
 obtain⟨h1,h2⟩:=mF.1 hm;have h2:X.aU m x:=by simpa using h2
 refine⟨m,h1,h2,fun b hb hbm=> ?_⟩;rcases hX.told hbm with e|e
 ·exact e
 ·exact absurd e (hf b (mF.2 ⟨hb,by simpa using hX.trans hbm h2⟩))
theorem FO.open(hX:X.Ok){all f:List α}(h:FO X all f)(t:α):pV X f t↔pV X all t:=by
 constructor
 ·rintro⟨x,hx,hxt⟩;exact⟨x,((h.mem x).1 hx).1,hxt⟩
 ·rintro⟨x,hx,hxt⟩;obtain⟨m,hm,hmx,hl⟩:=DU hX hx;exact⟨m,(h.mem m).2 ⟨hm,hl⟩,hX.trans hmx hxt⟩
end
theorem rR(a b:ai)(h:PX.aU a b)(k:PX.aU b a):a=b:=cZ (Int.le_antisymm h.1 k.1) (Int.le_antisymm h.2.1 k.2.1) (Int.le_antisymm h.2.2 k.2.2)
theorem ze(a b:ai):bH a b=bH b a:=by
 unfold bH;simp only[Int.add_comm b.1.1,Int.add_comm b.1.2.1,Int.add_comm b.1.2.2]
theorem AP(a:ai):bH PX.z a=some a:=by
 have h:=bW a;have e0:PX.z.1.1=0:=rfl;have e1:PX.z.1.2.1=0:=rfl;have e2:PX.z.1.2.2=0:=rfl;obtain⟨c,hc⟩:=jJ (a:=PX.z) (b:=a) ⟨by omega,by omega,by omega⟩;obtain⟨h1,h2,h3⟩:=bz hc;rw[hc];exact congrArg some (cZ (by omega) (by omega) (by omega))
def Zt(St:Nat->Nat->ai->Prop)(p:Nat)(t:ai)(q:Nat)(u:ai):Prop:=∃a c,Wy PX St p q a/\bH a t=some c/\PX.aU c u
theorem Zt.least{St:Nat->Nat->ai->Prop}{rows:Nat->List ai}(h:rW PX St p (some rows))(hc:∀q a,Wy PX St p q a->pV PX (rows q) a){t u:ai}:Zt St p t q u↔∃a∈rows q,∃c,bH a t=some c/\PX.aU c u:=by
 constructor
 ·rintro⟨a,c,ha,hat,QJ⟩;obtain⟨x,hx,hxa⟩:=hc q a ha;obtain⟨e,he,U2⟩:=bJ.mono hxa hat;exact⟨x,hx,e,he,bJ.trans U2 QJ⟩
 ·rintro⟨a,ha,c,hat,QJ⟩;exact⟨a,c,((h q).2.1 a).1 ha|>.1,hat,QJ⟩
structure rQ(N:Nat)(L:Nat->List (Nat×ai))(ps:Nat×ai->Nat):Prop where
 inj:∀p q t u,p<N->q<N->ps (p,t)=ps (q,u)->p=q/\t=u
 up:∀p t u,p<N->PX.aU t u->t≠u->ps (p,t)<ps (p,u)
 step:∀p q t u b,p<N->(q,b)∈L p->bH b t=some u->q<N/\ps (p,t)<ps (q,u)
structure CV(f:ai->Int)(l:List ai):Prop where
 so:l.Pairwise PX.lY
 mem:∀t,t∈l↔0<f t/\∀u,0<f u->PX.aU u t->u=t
theorem CV.nodup{f:ai->Int}{l:List ai}(h:CV f l):l.Nodup:=h.so.imp fun {a b} k (e:a=b)=>bJ.qj b (by rw[e]at k;exact k)
theorem CV.same{f:ai->Int}{l m:List ai}(h:CV f l)(k:CV f m):l=m:=AJ bJ h.so k.so fun a=>by rw[h.mem,k.mem]
def Fv(l:List (Nat×ai))(u:ai):List (Nat×ai):=l.filterMap fun s=>(bH s.2 u).map fun v=>(s.1,v)
def ar1(l:List (Nat×ai))(us:List ai):List (Nat×ai):=us.flatMap (Fv l)
def arr(N:Nat)(L:Nat->List (Nat×ai))(F:Nat->List ai):List (Nat×ai):=(List.range N).flatMap fun q=>ar1 (L q) (F q)
theorem Bv{l:List (Nat×ai)}{u v:ai}:(p,v)∈Fv l u↔∃b,(p,b)∈l/\bH b u=some v:=by
 unfold Fv;rw[List.mem_filterMap];constructor
 ·rintro⟨⟨q,b⟩,hs,hv⟩;simp only[Option.map_eq_some_iff,Prod.mk.injEq]at hv;obtain⟨a,ha,rfl,rfl⟩:=hv;exact⟨b,hs,ha⟩
 ·rintro⟨b,hs,hv⟩;exact⟨(p,b),hs,by simp[hv]⟩
theorem Js{L:Nat->List (Nat×ai)}{F:Nat->List ai}{t:ai}:(p,t)∈arr N L F↔∃q u b,q<N/\u∈F q/\(p,b)∈L q/\bH b u=some t:=by
 unfold arr ar1;simp only[List.mem_flatMap,mR,Bv];constructor
 ·rintro⟨q,hq,u,hu,b,hb,ht⟩;exact⟨q,u,b,hq,hu,hb,ht⟩
 ·rintro⟨q,u,b,hq,hu,hb,ht⟩;exact⟨q,hq,u,hu,b,hb,ht⟩
def sm{α:Type}(c:α->Int)(l:List α):Int:=(l.map c).sum
section
variable {α β:Type}
theorem VM(c:α->Int):sm c []=0:=rfl
theorem aP(c:α->Int)(a:α)(l:List α):sm c (a::l)=c a+sm c l:=by simp[sm]
theorem sj(c:α->Int)(l m:List α):sm c (l++m)=sm c l+sm c m:=by
 induction l with
 | nil => simp[sm]
 | cons a l ih => rw[List.cons_append,aP,aP,ih];omega
theorem Ja{c:α->Int}{l m:List α}(h:l.Perm m):sm c l=sm c m:=by
 induction h with
 | nil => rfl
 | cons a _ ih => rw[aP,aP,ih]
 | swap a b l => rw[aP,aP,aP,aP];omega
 | trans _ _ h1 h2 => rw[h1,h2]
theorem zo(c:α->Int)(q:α->Bool)(l:List α)(h:∀a∈l,q a=false->c a=0):sm c (l.filter q)=sm c l:=by
 induction l with
 | nil => rfl
 | cons a l ih=>
  rw[List.filter_cons];have ih:=ih fun b hb=>h b (mO _ hb);cases hq:q a with
  | true => rw[if_pos rfl,aP,aP,ih]
  | false => rw[if_neg (by simp),aP,h a mX hq,ih];omega
theorem jM{c:α->Int}{l:List α}(h:∀a∈l,c a=0):sm c l=0:=by
 induction l with
 | nil => rfl
 | cons a l ih => rw[aP,h a mX,ih fun b hb=>h b (mO _ hb)];rfl
theorem A9[DecidableEq α]{c:α->Int}{l m:List α}(hl:l.Nodup)(hm:m.Nodup)(h:∀a,c a≠0->(a∈l↔a∈m)):sm c l=sm c m:=by
 rw[<-zo c (fun a=>decide (c a≠0)) l (fun a _ ha=>by simpa using ha),<-zo c (fun a=>decide (c a≠0)) m (fun a _ ha=>by simpa using ha)];refine Ja ((List.perm_ext_iff_of_nodup (hl.filter _) (hm.filter _)).2 fun a=> ?_);rw[mF,mF];constructor
 ·rintro⟨h1,h2⟩;exact⟨(h a (by simpa using h2)).1 h1,h2⟩
 ·rintro⟨h1,h2⟩;exact⟨(h a (by simpa using h2)).2 h1,h2⟩
theorem qd(c:β->Int)(f:α->List β)(l:List α):sm c (l.flatMap f)=sm (fun a=>sm c (f a)) l:=by
 induction l with
 | nil => rfl
 | cons a l ih => rw[Q4,sj,aP,ih]
theorem eX{c d:α->Int}{l:List α}(h:∀a∈l,c a=d a):sm c l=sm d l:=by
 induction l with
 | nil => rfl
 | cons a l ih => rw[aP,aP,h a mX,ih fun b hb=>h b (mO _ hb)]
theorem oF{c:α->Int}{l:List α}(h:∀a∈l,0<=c a):0<=sm c l:=by
 induction l with
 | nil => exact Int.le_refl _
 | cons a l ih=>
  have h1:=h a mX;have h2:=ih fun b hb=>h b (mO _ hb);rw[aP];omega
theorem VL{c:α->Int}{l:List α}(h:∀a∈l,0<=c a){a:α}(ha:a∈l)(hp:0<c a):0<sm c l:=by
 induction l with
 | nil => cases ha
 | cons b l ih=>
  have h2:=oF fun x hx=>h x (mO b hx);have h1:=h b mX;rw[aP];rcases fU.1 ha with rfl|ha
  ·omega
  ·have:=ih (fun x hx=>h x (mO _ hx)) ha;omega
theorem wE{c:α->Int}{l:List α}(h:∀a∈l,0<=c a):0<sm c l↔∃a∈l,0<c a:=by
 refine⟨fun hp=>Classical.byContradiction fun hn=> ?_,fun⟨a,ha,hp⟩=>VL h ha hp⟩;have:sm c l=0:=jM fun a ha=>by
  have h1:=h a ha;have h2:¬0<c a:=fun k=>hn ⟨a,ha,k⟩;omega
 omega
theorem VN(c:α->Int)(l:List α):sm (fun a=> - c a) l= - sm c l:=by
 induction l with
 | nil => rfl
 | cons a l ih => rw[aP,aP,ih];omega
end
def one(y x:Nat×ai):Int:=if x=y then 1 else 0
theorem one_nonneg(y x:Nat×ai):0<=one y x:=by unfold one;split<;>omega
def ct(l:List (Nat×ai))(y:Nat×ai)(u:ai):Int:=sm (one y) (Fv l u)
theorem Ag(l:List (Nat×ai))(y:Nat×ai)(u:ai):0<=ct l y u:=oF fun _ _=>one_nonneg _ _
theorem XX{l:List (Nat×ai)}{t u:ai}:0<ct l (p,t) u↔∃b,(p,b)∈l/\bH b u=some t:=by
 unfold ct;rw[wE fun _ _=>one_nonneg _ _,<-Bv];constructor
 ·rintro⟨a,ha,hp⟩;unfold one at hp;split at hp
  ·rename_i e;rw[<-e];exact ha
  ·omega
 ·intro h;exact⟨_,h,by unfold one;rw[if_pos rfl];omega⟩
def QP(N:Nat)(L:Nat->List (Nat×ai))(F:Nat->List ai)(y:Nat×ai):Int:=sm (fun q=>sm (ct (L q) y) (F q)) (List.range N)
theorem X5(N:Nat)(L:Nat->List (Nat×ai))(F:Nat->List ai)(y:Nat×ai):QP N L F y=sm (one y) (arr N L F):=by
 unfold QP arr;rw[qd];refine eX fun q _=> ?_;unfold ar1;rw[qd];rfl
theorem xZ(N:Nat)(L:Nat->List (Nat×ai))(F:Nat->List ai)(y:Nat×ai):0<=QP N L F y:=oF fun _ _=>oF fun _ _=>Ag _ _ _
theorem Ua{L:Nat->List (Nat×ai)}{F:Nat->List ai}{t:ai}:0<QP N L F (p,t)↔∃q u b,q<N/\u∈F q/\(p,b)∈L q/\bH b u=some t:=by
 rw[<-Js,X5,wE fun _ _=>one_nonneg _ _];constructor
 ·rintro⟨a,ha,hp⟩;unfold one at hp;split at hp
  ·rename_i e;rw[<-e];exact ha
  ·omega
 ·intro h;exact⟨_,h,by unfold one;rw[if_pos rfl];omega⟩
def rhs(N:Nat)(L:Nat->List (Nat×ai))(O F:Nat->List ai)(p:Nat)(t:ai):Int:=(if t∈O p then 1 else 0)+QP N L F (p,t)
theorem wN(N:Nat)(L:Nat->List (Nat×ai))(O F:Nat->List ai)(p:Nat)(t:ai):0<=rhs N L O F p t:=by
 unfold rhs;have:=xZ N L F (p,t);split<;>omega
theorem qP{L:Nat->List (Nat×ai)}{O F:Nat->List ai}{t:ai}:0<rhs N L O F p t↔t∈O p\/∃q u b,q<N/\u∈F q/\(p,b)∈L q/\bH b u=some t:=by
 rw[<-Ua];unfold rhs;have:=xZ N L F (p,t);by_cases h:t∈O p
 ·rw[if_pos h];exact⟨fun _=> .inl h,fun _=>by omega⟩
 ·rw[if_neg h];exact⟨fun k=> .inr (by omega),fun k=>k.elim (fun k=>absurd k h) (fun k=>by omega)⟩
structure Fb(N:Nat)(L:Nat->List (Nat×ai))(O:Nat->List ai)(C:Nat->ai->Int)(F:Nat->List ai):Prop where
 eq:∀p t,p<N->C p t=rhs N L O F p t
 fr:∀p,p<N->CV (C p) (F p)
def pY(W:List (Nat×ai×Int))(y:Nat×ai):Int:=sm (fun e=>if (e.1,e.2.1)=y then e.2.2 else 0) W
structure QF(N:Nat)(L:Nat->List (Nat×ai))(O:Nat->List ai)(C:Nat->ai->Int)(F:Nat->List ai)(W:List (Nat×ai×Int)):Prop where
 eq:∀p t,p<N->C p t+pY W (p,t)=rhs N L O F p t
 fr:∀p,p<N->CV (C p) (F p)
section
variable {N:Nat} {L:Nat->List (Nat×ai)} {ps:Nat×ai->Nat} {O F Fn:Nat->List ai} {C Cn:Nat->ai->Int} {W:List (Nat×ai×Int)}
theorem XG(hO:rQ N L ps){t:ai}(hp:p<N)(h:CV (C p) (F p))(k:CV (Cn p) (Fn p))(e:∀v,ps (p,v)<=ps (p,t)->C p v=Cn p v):t∈F p↔t∈Fn p:=by
 have hv:∀v,PX.aU v t->C p v=Cn p v:=fun v hv=>e v (by
  by_cases q:v=t
  ·rw[q];exact nR _
  ·exact nE (hO.up p v t hp hv q))
 rw[h.mem,k.mem,e t (nR _)];constructor
 ·rintro⟨h1,h2⟩;exact⟨h1,fun u hu ha=>h2 u (by rw[hv u ha];exact hu) ha⟩
 ·rintro⟨h1,h2⟩;exact⟨h1,fun u hu ha=>h2 u (by rw[<-hv u ha];exact hu) ha⟩
theorem Nu(hO:rQ N L ps)(h:∀p,p<N->CV (C p) (F p))(k:∀p,p<N->CV (Cn p) (Fn p)){t:ai}(e:∀q v,q<N->ps (q,v)<ps (p,t)->C q v=Cn q v):rhs N L O F p t=rhs N L O Fn p t:=by
 unfold rhs QP;rw[eX (d:=fun q=>sm (ct (L q) (p,t)) (Fn q)) fun q hq=> ?_];have hq:=mR.1 hq;refine A9 (h q hq).nodup (k q hq).nodup fun u hu=> ?_;have hp:0<ct (L q) (p,t) u:=by have:=Ag (L q) (p,t) u;omega
 obtain⟨b,hb,hv⟩:=XX.1 hp;have hs:=(hO.step q p u t b hq hb hv).2;exact XG hO hq (h q hq) (k q hq) fun v hv=>e q v hq (by omega)
theorem QF.settled(hO:rQ N L ps)(h:QF N L O C F W)(s:Fb N L O Cn Fn){x:Nat}(hW:∀e∈W,x<=ps (e.1,e.2.1)):∀(k p:Nat) (t:ai),ps (p,t)=k->p<N->k<x->C p t=Cn p t:=by
 intro k
 induction k using Nat.strongRecOn with
 | _ k ih=>
  intro p t hk hp hx;have e0:pY W (p,t)=0:=jM fun e he=>by
   rw[if_neg];intro e1;have:=hW e he;rw[e1,hk]at this;omega
  have e1:=h.eq p t hp;rw[e0,Nu hO h.fr s.fr (Cn:=Cn) (fun q v hq hv=>ih (ps (q,v)) (by omega) q v rfl hq (by omega)),<-s.eq p t hp]at e1;omega
theorem QF.first(hO:rQ N L ps)(h:QF N L O C F W)(s:Fb N L O Cn Fn){t:ai}(hp:p<N)(hW:∀e∈W,ps (p,t)<=ps (e.1,e.2.1)):C p t+pY W (p,t)=Cn p t:=by
 rw[h.eq p t hp,Nu hO h.fr s.fr (fun q v hq hv=>h.settled hO s hW (ps (q,v)) q v rfl hq hv),<-s.eq p t hp]
theorem QF.fin(hO:rQ N L ps)(h:QF N L O C F [])(s:Fb N L O Cn Fn)(hp:p<N):(∀t,C p t=Cn p t)/\F p=Fn p:=by
 have h1:∀t,C p t=Cn p t:=fun t=>h.settled hO s (x:=ps (p,t)+1) (fun e he=>by cases he) (ps (p,t)) p t rfl hp (by omega);refine⟨h1,(h.fr p hp).same ?_⟩;rw[show C p=Cn p from funext h1];exact s.fr p hp
end
structure Aq(a b:List ai)(ds:List (ai×Int)):Prop where
 nd:(ds.map Prod.fst).Nodup
 mem:∀t n,(t,n)∈ds↔(t∈a/\t∉b/\n= -1)\/(t∈b/\t∉a/\n=1)
def jN(l:List (Nat×ai))(ds:List (ai×Int)):List (Nat×ai×Int):=ds.flatMap fun d=>(Fv l d.1).map fun x=>(x.1,x.2,d.2)
theorem VO(c:Int)(f:α->Int)(l:List α):sm (fun a=>f a*c) l=sm f l*c:=by
 induction l with
 | nil => simp[sm]
 | cons a l ih => rw[aP,aP,ih,Int.add_mul]
theorem pX(W V:List (Nat×ai×Int))(y:Nat×ai):pY (W++V) y=pY W y+pY V y:=sj _ _ _
theorem qF{W V:List (Nat×ai×Int)}(h:W.Perm V)(y:Nat×ai):pY W y=pY V y:=Ja h
theorem Gi(c:β->Int)(f:α->β)(l:List α):sm c (l.map f)=sm (fun a=>c (f a)) l:=by
 induction l with
 | nil => rfl
 | cons a l ih => rw[List.map_cons,aP,aP,ih]
theorem Q9(l:List (Nat×ai))(ds:List (ai×Int))(y:Nat×ai):pY (jN l ds) y=sm (fun d=>ct l y d.1*d.2) ds:=by
 unfold pY jN;rw[qd];refine eX fun d _=> ?_;rw[Gi];unfold ct;rw[<-VO];refine eX fun x _=> ?_;unfold one;by_cases e:x=y
 ·rw[if_pos e,if_pos e,Int.one_mul]
 ·rw[if_neg e,if_neg e,Int.zero_mul]
theorem M5(f g:α->Int)(l:List α):sm (fun a=>f a+g a) l=sm f l+sm g l:=by
 induction l with
 | nil => rfl
 | cons a l ih => rw[aP,aP,aP,ih];omega
theorem Aq.sum{a b:List ai}{ds:List (ai×Int)}(h:Aq a b ds)(ha:a.Nodup)(hb:b.Nodup)(c:ai->Int):sm (fun d=>c d.1*d.2) ds=sm c b-sm c a:=by
 have hin:∀t n,(t,n)∈ds->n=(if t∈b then 1 else 0)-(if t∈a then 1 else 0):=fun t n ht=>by
  rcases(h.mem t n).1 ht with⟨h1,h2,rfl⟩|⟨h1,h2,rfl⟩
  ·rw[if_neg h2,if_pos h1];rfl
  ·rw[if_pos h1,if_neg h2];rfl
 have e1:sm (fun d=>c d.1*d.2) ds=sm (fun t=>c t*((if t∈b then 1 else 0)-(if t∈a then 1 else 0))) (ds.map Prod.fst):=by
  rw[Gi];exact eX fun d hd=>by rw[hin d.1 d.2 hd]
 rw[e1];have hu:∀(m:List ai),m.Nodup->(∀t∈a,t∈m)->(∀t∈b,t∈m)->(∀t∈ds.map Prod.fst,t∈m)->sm (fun t=>c t*((if t∈b then 1 else 0)-(if t∈a then 1 else 0))) (ds.map Prod.fst)=sm c b-sm c a:=fun m hm k1 k2 k3=>by
  have e2:sm (fun t=>c t*((if t∈b then 1 else 0)-(if t∈a then 1 else 0))) (ds.map Prod.fst)=sm (fun t=>c t*((if t∈b then 1 else 0)-(if t∈a then 1 else 0))) m:=by
   refine A9 h.nd hm fun t ht=>⟨k3 t,fun _=> ?_⟩;by_cases h1:t∈a
   ·by_cases h2:t∈b
    ·simp[h1,h2]at ht
    ·exact mM.2 ⟨(t,-1),(h.mem t _).2 (.inl ⟨h1,h2,rfl⟩),rfl⟩
   ·by_cases h2:t∈b
    ·exact mM.2 ⟨(t,1),(h.mem t _).2 (.inr ⟨h2,h1,rfl⟩),rfl⟩
    ·simp[h1,h2]at ht
  have e3:∀l:List ai,l.Nodup->(∀t∈l,t∈m)->sm c l=sm (fun t=>c t*(if t∈l then 1 else 0)) m:=fun l hl hs=>by
   rw[<-eX (c:=fun t=>c t*(if t∈l then 1 else 0)) (d:=c) (l:=l) fun t ht=>by rw[if_pos ht,Int.mul_one]];refine A9 hl hm fun t ht=>⟨hs t,fun _=>Classical.byContradiction fun e=>ht (by simp[e])⟩
  rw[e2,e3 a ha k1,e3 b hb k2];have e4:=M5 (fun t=>c t*(if t∈b then 1 else 0)) (fun t=> - (c t*(if t∈a then 1 else 0))) m;rw[VN]at e4;rw[Int.sub_eq_add_neg,<-e4];refine eX fun t _=> ?_;rw[Int.mul_sub];omega
 exact hu (a++b.filter fun t=>decide (t∉a)) (List.nodup_append.2 ⟨ha,hb.filter _,fun x hx y hy=>by
  rintro rfl;simp only[mF,dE]at hy;exact hy.2 hx⟩) (fun t ht=>List.mem_append_left _ ht) (fun t ht=>by
   by_cases e:t∈a
   ·exact List.mem_append_left _ e
   ·exact List.mem_append_right _ (mF.2 ⟨ht,by simpa using e⟩)) (fun t ht=>by
   obtain⟨d,hd,rfl⟩:=mM.1 ht;rcases(h.mem d.1 d.2).1 hd with k|k
   ·exact List.mem_append_left _ k.1
   ·exact List.mem_append_right _ (mF.2 ⟨k.1,by simpa using k.2.1⟩))
def bG{β:Type}(f:Nat->β)(p:Nat)(x:β):Nat->β:=fun q=>if q=p then x else f q
theorem bK(f:Nat->β)(p:Nat)(x:β):bG f p x p=x:=if_pos rfl
theorem bI(f:Nat->β)(x:β)(h:q≠p):bG f p x q=f q:=if_neg h
theorem T9{L:Nat->List (Nat×ai)}{F:Nat->List ai}(hp:p<N)(l:List ai)(y:Nat×ai):QP N L (bG F p l) y=QP N L F y+(sm (ct (L p) y) l-sm (ct (L p) y) (F p)):=by
 unfold QP;have key:∀m:List Nat,m.Nodup->p∈m->sm (fun q=>sm (ct (L q) y) (bG F p l q)) m=sm (fun q=>sm (ct (L q) y) (F q)) m+(sm (ct (L p) y) l-sm (ct (L p) y) (F p)):=fun m=>by
  induction m with
  | nil => intro _ h;cases h
  | cons a m ih=>
   intro hn hm;have hn':=List.nodup_cons.1 hn;rw[aP,aP];by_cases e:a=p
   ·subst e;rw[bK,eX (d:=fun q=>sm (ct (L q) y) (F q)) (l:=m) fun q hq=>by rw[bI F l (show q≠a from fun e=>hn'.1 (e ▸ hq))]];omega
   ·rw[bI F l e,ih hn'.2 ((fU.1 hm).resolve_left fun h=>e h.symm)];omega
 exact key _ List.nodup_range (mR.2 hp)
section
variable {N:Nat} {L:Nat->List (Nat×ai)} {ps:Nat×ai->Nat} {O F Fn:Nat->List ai} {C Cn:Nat->ai->Int} {W:List (Nat×ai×Int)}
theorem QF.pop(h:QF N L O C F W)(hp:p<N){t:ai}{f':ai->Int}{l':List ai}{ds:List (ai×Int)}{W1:List (Nat×ai×Int)}(hf:∀u,f' u=if u=t then C p t+pY W (p,t)else C p u)(hl:CV f' l')(hd:Aq (F p) l' ds)(hW1:∀y,pY W1 y=if y=(p,t)then 0 else pY W y):
    QF N L O (bG C p f') (bG F p l') (W1++jN (L p) ds):=by
 refine⟨fun q u hq=> ?_,fun q hq=> ?_⟩
 ·rw[pX,Q9,hd.sum (h.fr p hp).nodup hl.nodup];have e:=h.eq q u hq;unfold rhs at e⊢;rw[T9 hp,hW1];by_cases e1:q=p
  ·subst e1;rw[bK,hf];by_cases e2:u=t
   ·subst e2;rw[if_pos rfl,if_pos rfl];omega
   ·rw[if_neg e2,if_neg fun k=>e2 (Prod.mk.inj k).2];omega
  ·rw[bI C f' e1,if_neg fun k=>e1 (Prod.mk.inj k).1];omega
 ·by_cases e:q=p
  ·subst e;rw[bK,bK];exact hl
  ·rw[bI C f' e,bI F l' e];exact h.fr q hq
theorem Io{f f':ai->Int}{l l':List ai}{t u:ai}(h:CV f l)(k:CV f' l')(he:∀v,v≠t->f' v=f v)(hu:¬(u∈l↔u∈l')):PX.aU t u:=by
 refine Classical.byContradiction fun hn=>hu ?_;have hne:∀v,PX.aU v u->v≠t:=fun v hv e=>hn (e ▸ hv);rw[h.mem,k.mem,he u (hne u (bJ.refl u))];constructor
 ·rintro⟨h1,h2⟩;exact⟨h1,fun v hv ha=>h2 v (by rw[<-he v (hne v ha)];exact hv) ha⟩
 ·rintro⟨h1,h2⟩;exact⟨h1,fun v hv ha=>h2 v (by rw[he v (hne v ha)];exact hv) ha⟩
theorem Aq.turned{a b:List ai}{ds:List (ai×Int)}(h:Aq a b ds){u:ai}(hu:u∈ds.map Prod.fst):¬(u∈a↔u∈b):=by
 obtain⟨d,hd,rfl⟩:=mM.1 hu;rcases(h.mem d.1 d.2).1 hd with⟨h1,h2,_⟩|⟨h1,h2,_⟩
 ·exact fun e=>h2 (e.1 h1)
 ·exact fun e=>h2 (e.2 h1)
theorem Kq(hO:rQ N L ps)(hp:p<N){t:ai}{ds:List (ai×Int)}(hd:∀u∈ds.map Prod.fst,PX.aU t u):∀e∈jN (L p) ds,e.1<N/\ps (p,t)<ps (e.1,e.2.1):=by
 intro e he;unfold jN at he;obtain⟨d,hd1,he⟩:=List.mem_flatMap.1 he;obtain⟨x,hx,rfl⟩:=mM.1 he;obtain⟨b,hb,hv⟩:=Bv.1 (show(x.1,x.2)∈Fv (L p) d.1 from hx);obtain⟨h1,h2⟩:=hO.step p x.1 d.1 x.2 b hp hb hv;refine⟨h1,Nat.lt_of_le_of_lt ?_ h2⟩;have h3:=hd d.1 (mM.2 ⟨d,hd1,rfl⟩);by_cases e:t=d.1
 ·rw[e];exact nR _
 ·exact nE (hO.up p t d.1 hp h3 e)
end
def Vh(St:Nat->Nat->ai->Prop)(p:Nat)(t:ai)(q:Nat)(u:ai):Prop:=∃a,Wy PX St p q a/\bH a t=some u
theorem Vh.self(St:Nat->Nat->ai->Prop)(p:Nat)(t:ai):Vh St p t p t:=⟨PX.z, .nil,AP t⟩
theorem IZ{a b c:ai}(h:bH a b=some c):a.1.1+b.1.1<18446744073709551616/\a.1.2.1+b.1.2.1<18446744073709551616/\a.1.2.2+b.1.2.2<18446744073709551616:=by
 unfold bH at h;split at h
 ·assumption
 ·cases h
theorem Vh.step{St:Nat->Nat->ai->Prop}{p q q':Nat}{t u v b:ai}(h:Vh St p t q u)(hs:St q q' b)(hv:bH b u=some v):Vh St p t q' v:=by
 obtain⟨a,ha,hu⟩:=h;have e1:=bz hu;have e2:=bz hv;have d2:=IZ hv;have ta:=bW a;have tt:=bW t;have tb:=bW b;obtain⟨c,hc⟩:=jJ (a:=a) (b:=b) (by omega);have e3:=bz hc;obtain⟨d,hd⟩:=jJ (a:=c) (b:=t) (by omega);have e4:=bz hd;refine⟨c, .step ha hs hc, ?_⟩;rw[hd];exact congrArg some (cZ (by omega) (by omega) (by omega))
theorem Kb{b u u' v:ai}(h:PX.aU u' u)(hv:bH b u=some v):∃v',bH b u'=some v'/\PX.aU v' v:=by
 rw[ze]at hv;obtain⟨v',h1,h2⟩:=bJ.mono h hv;exact⟨v',by rw[ze];exact h1,h2⟩
section
variable {St:Nat->Nat->ai->Prop} {p:Nat} {t:ai} {at_:Nat->List ai} {todo done:List (Nat×ai)} {q0:Nat} {u0:ai}
end
section
variable {St:Nat->Nat->ai->Prop} {p:Nat} {t:ai} {at_:Nat->List ai}
end
end Pt
end Go.Proofs.YtiiefcalkjeieaaGreat
