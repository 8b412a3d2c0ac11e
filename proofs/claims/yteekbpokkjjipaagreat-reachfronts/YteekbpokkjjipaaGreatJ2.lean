import Derived.Test.YteekbpokkjjipaaGreatJ1
variable{q q0 n k d:Nat}
namespace Go.Proofs.YteekbpokkjjipaaGreat
namespace Pt
structure Px(α:Type) where
 aT:α->α->Prop
 lq:α->α->Prop
 thn:α->α->Option α
 z:α
structure Px.Ok{α:Type}(X:Px α):Prop where
 refl:∀a,X.aT a a
 trans:∀{a b c},X.aT a b->X.aT b c->X.aT a c
 told:∀{a b},X.aT a b->a=b\/X.lq a b
 tt:∀{a b c},X.lq a b->X.lq b c->X.lq a c
 oN:∀a,¬X.lq a a
 tot:∀a b,X.lq a b\/a=b\/X.lq b a
 mono:∀{a b c d},X.aT a b->X.thn b c=some d->∃e,X.thn a c=some e/\X.aT e d
 up:∀{a b c},X.thn a b=some c->X.aT a c
section
variable {α:Type} {X:Px α} {St:Nat->Nat->α->Prop} {p:Nat}
inductive Wy (X:Px α) (St:Nat->Nat->α->Prop) (p:Nat):Nat->α->Prop
 | nil:Wy X St p p X.z
 | step {q q':Nat} {a b c:α}:Wy X St p q a->St q q' b->X.thn a b=some c->Wy X St p q' c
def Lea(X:Px α)(St:Nat->Nat->α->Prop)(p q:Nat)(a:α):Prop:=Wy X St p q a/\∀b,Wy X St p q b->X.aT b a->b=a
def nN(X:Px α)(l:List α)(a:α):Prop:=∃x∈l,X.aT x a
structure Iv(X:Px α)(St:Nat->Nat->α->Prop)(p:Nat)(rows:Nat->List α)(opn:List (Nat×α)):Prop where
 rw:∀q a,a∈rows q->Wy X St p q a
 ow:∀q a,(q,a)∈opn->Wy X St p q a
 st:nN X (rows p) X.z\/(p,X.z)∈opn
 sp:∀q a,a∈rows q->∀q' b c,St q q' b->X.thn a b=some c->nN X (rows q') c\/(q',c)∈opn
 ls:∀q a,a∈rows q->∀b,Wy X St p q b->X.aT b a->b=a
 so:∀q,(rows q).Pairwise X.lq
 lo:∀q a,a∈rows q->∀q' b,(q',b)∈opn->¬X.lq b a
theorem nN.trans(hX:X.Ok){l:List α}{a b:α}(h:nN X l a)(hab:X.aT a b):nN X l b:=by
 obtain⟨x,hx,hxa⟩:=h;exact⟨x,hx,hX.trans hxa hab⟩
theorem nN.sub{l m:List α}{a:α}(h:nN X l a)(hs:∀x∈l,x∈m):nN X m a:=by
 obtain⟨x,hx,hxa⟩:=h;exact⟨x,hs x hx,hxa⟩
theorem Iv.init:Iv X St p (fun _=>[]) [(p,X.z)]:=
 ⟨fun _ _ h=>by simp at h,fun q a h=>by simp at h;obtain⟨rfl,rfl⟩:=h;exact .nil,Or.inr (by simp),fun _ _ h=>by simp at h,fun _ _ h=>by simp at h,fun _=>List.Pairwise.nil,fun _ _ h=>by simp at h⟩
theorem Iv.done(hX:X.Ok){rows:Nat->List α}{opn:List (Nat×α)}(h:Iv X St p rows opn){w:α}(hw:∀q b,(q,b)∈opn->¬X.lq b w){u:α}(hu:Wy X St p q u):X.lq u w->nN X (rows q) u:=by
 induction hu with
 | nil=>
  intro ht;rcases h.st with h1|h1
  ·exact h1
  ·exact absurd ht (hw _ _ h1)
 | @step q q' a b c ha hs hc ih=>
  intro ht;have h1:X.lq a w:=(hX.told (hX.up hc)).elim (fun e=>e ▸ ht) (fun e=>hX.tt e ht);obtain⟨x,hx,hxa⟩:=ih h1;obtain⟨e,he,SC⟩:=hX.mono hxa hc;rcases h.sp q x hx q' b e hs he with h2|h2
  ·exact h2.trans hX SC
  ·exact absurd ((hX.told SC).elim (fun k=>k ▸ ht) (fun k=>hX.tt k ht)) (hw _ _ h2)
theorem Iv.all(hX:X.Ok){rows:Nat->List α}(h:Iv X St p rows []){u:α}(hu:Wy X St p q u):nN X (rows q) u:=by
 induction hu with
 | nil=>
  rcases h.st with h1|h1
  ·exact h1
  ·simp at h1
 | @step q q' a b c ha hs hc ih=>
  obtain⟨x,hx,hxa⟩:=ih;obtain⟨e,he,SC⟩:=hX.mono hxa hc;rcases h.sp q x hx q' b e hs he with h2|h2
  ·exact h2.trans hX SC
  ·simp at h2
theorem Iv.skip{rows:Nat->List α}{opn rest:List (Nat×α)}{w:α}(h:Iv X St p rows opn)(h1:∀x∈opn,x=(q0,w)\/x∈rest)(h2:∀x∈rest,x∈opn)(hc:nN X (rows q0) w):Iv X St p rows rest:=by
 refine⟨h.rw,fun q a ha=>h.ow q a (h2 _ ha), ?_,fun q a ha q' b c hs hb=> ?_,h.ls,h.so,fun q a ha q' b hb=>h.lo q a ha q' b (h2 _ hb)⟩
 ·rcases h.st with k|k
  ·exact Or.inl k
  ·rcases h1 _ k with e|e
   ·simp only[Prod.mk.injEq]at e;exact Or.inl (by rw[e.1,e.2];exact hc)
   ·exact Or.inr e
 ·rcases h.sp q a ha q' b c hs hb with k|k
  ·exact Or.inl k
  ·rcases h1 _ k with e|e
   ·simp only[Prod.mk.injEq]at e;exact Or.inl (by rw[e.1,e.2];exact hc)
   ·exact Or.inr e
def dG(rows:Nat->List α)(q0:Nat)(w:α):Nat->List α:=fun q=>if q=q0 then rows q++[w]else rows q
theorem j3{rows:Nat->List α}{w a:α}:a∈dG rows q0 w q↔a∈rows q\/q=q0/\a=w:=by
 unfold dG;split
 ·rename_i e;simp[e]
 ·rename_i e;simp[e]
theorem Iv.take(hX:X.Ok){rows:Nat->List α}{opn rest PV:List (Nat×α)}{w:α}(h:Iv X St p rows opn)(hm:(q0,w)∈opn)(hf:∀q b,(q,b)∈opn->¬X.lq b w)(h1:∀x∈opn,x=(q0,w)\/x∈rest)(h2:∀x∈rest,x∈opn)(hc:¬nN X (rows q0) w)
    (h3:∀x∈rest,x∈PV) (h4:∀q c,(q,c)∈PV->(q,c)∈rest\/∃b,St q0 q b/\X.thn w b=some c) (h5:∀q b c,St q0 q b->X.thn w b=some c->nN X (dG rows q0 w q) c\/(q,c)∈PV):Iv X St p (dG rows q0 w) PV:=by
 have hsub:∀q,∀x∈rows q,x∈dG rows q0 w q:=fun q x hx=>j3.2 (Or.inl hx);have hself:nN X (dG rows q0 w q0) w:=⟨w,j3.2 (Or.inr ⟨rfl,rfl⟩),hX.refl w⟩;have hww:=h.ow q0 w hm;have hlow:∀q a,a∈rows q->∀q' c b,St q0 q' b->X.thn w b=some c->¬X.lq c a:=fun q a ha q' c b hs hb ht=>by
  rcases hX.told (hX.up hb)with e|e
  ·exact h.lo q a ha q0 w hm (e ▸ ht)
  ·exact h.lo q a ha q0 w hm (hX.tt e ht)
 refine⟨fun q a ha=> ?_,fun q c hqc=> ?_, ?_,fun q a ha q' b c hs hb=> ?_,fun q a ha b hb FC=> ?_,fun q=> ?_,fun q a ha q' c hqc=> ?_⟩
 ·rcases j3.1 ha with k|⟨rfl,rfl⟩
  ·exact h.rw q a k
  ·exact hww
 ·rcases h4 q c hqc with k|⟨b,hs,hb⟩
  ·exact h.ow q c (h2 _ k)
  ·exact .step hww hs hb
 ·rcases h.st with k|k
  ·exact Or.inl (k.sub (hsub p))
  ·rcases h1 _ k with e|e
   ·simp only[Prod.mk.injEq]at e;exact Or.inl (by rw[e.1,e.2];exact hself)
   ·exact Or.inr (h3 _ e)
 ·rcases j3.1 ha with k|⟨rfl,rfl⟩
  ·rcases h.sp q a k q' b c hs hb with k2|k2
   ·exact Or.inl (k2.sub (hsub q'))
   ·rcases h1 _ k2 with e|e
    ·simp only[Prod.mk.injEq]at e;exact Or.inl (by rw[e.1,e.2];exact hself)
    ·exact Or.inr (h3 _ e)
  ·exact h5 q' b c hs hb
 ·rcases j3.1 ha with k|⟨rfl,rfl⟩
  ·exact h.ls q a k b hb FC
  ·rcases hX.told FC with e|e
   ·exact e
   ·exact absurd ((h.done hX hf hb e).trans hX FC) hc
 ·unfold dG;split
  ·rename_i e;subst e;refine List.pairwise_append.2 ⟨h.so q,List.pairwise_singleton _ _,fun a ha b hb=> ?_⟩;simp only[wY]at hb;subst hb;rcases hX.tot a b with k|k|k
   ·exact k
   ·exact absurd ⟨a,ha,k ▸ hX.refl a⟩ hc
   ·exact absurd k (h.lo q a ha q b hm)
  ·exact h.so q
 ·rcases j3.1 ha with k|⟨rfl,rfl⟩
  ·rcases h4 q' c hqc with k2|⟨b,hs,hb⟩
   ·exact h.lo q a k q' c (h2 _ k2)
   ·exact hlow q a k q' c b hs hb
  ·rcases h4 q' c hqc with k2|⟨b,hs,hb⟩
   ·exact hf q' c (h2 _ k2)
   ·intro ht;rcases hX.told (hX.up hb)with e|e
    ·exact hX.oN a (by rw[e]at ht⊢;exact ht)
    ·exact hX.oN a (hX.tt e ht)
theorem iL{l m:List α}(hl:l.Nodup)(h:∀a∈l,a∈m):l.length<=m.length:=by
 induction l generalizing m with
 | nil => simp
 | cons a l ih=>
  obtain⟨s,t,rfl⟩:=List.append_of_mem (h a (by simp));have hn:=List.nodup_cons.1 hl;have:=ih (m:=s++t) hn.2 (fun b hb=>by
   have h1:=h b (by simp[hb]);simp only[jQ,fF]at h1⊢;rcases h1 with h1|rfl|h1
   ·exact Or.inl h1
   ·exact absurd hb hn.1
   ·exact Or.inr h1)
  simp at this⊢;omega
theorem za(hX:X.Ok){l m:List α}(hl:l.Pairwise X.lq)(hm:m.Pairwise X.lq)(h:∀a,a∈l↔a∈m):l=m:=by
 induction l generalizing m with
 | nil=>
  cases m with
  | nil => rfl
  | cons b m => exact absurd ((h b).2 (by simp)) (by simp)
 | cons a l ih=>
  cases m with
  | nil => exact absurd ((h a).1 (by simp)) (by simp)
  | cons b m=>
   have ha:=List.pairwise_cons.1 hl;have hb:=List.pairwise_cons.1 hm;have e:a=b:=by
    rcases fF.1 ((h a).1 (by simp))with e|e
    ·exact e
    ·rcases fF.1 ((h b).2 (by simp))with k|k
     ·exact k.symm
     ·exact absurd (hX.tt (hb.1 a e) (ha.1 b k)) (hX.oN b)
   subst e;rw[ih ha.2 hb.2 (fun x=>⟨fun hx=> ?_,fun hx=> ?_⟩)]
   ·rcases fF.1 ((h x).1 (List.mem_cons_of_mem _ hx))with k|k
    ·subst k;exact absurd (ha.1 _ hx) (hX.oN _)
    ·exact k
   ·rcases fF.1 ((h x).2 (List.mem_cons_of_mem _ hx))with k|k
    ·subst k;exact absurd (hb.1 _ hx) (hX.oN _)
    ·exact k
def rA(X:Px α)(St:Nat->Nat->α->Prop)(p:Nat):Option (Nat->List α)->Prop
 | none => ∃(q:Nat) (l:List α),l.Nodup/\64<l.length/\∀a∈l,Lea X St p q a
 | some rows => ∀q,(rows q).Pairwise X.lq/\(∀a,a∈rows q↔Lea X St p q a)/\(rows q).length<=64
theorem Iv.lea{rows:Nat->List α}{opn:List (Nat×α)}(h:Iv X St p rows opn){a:α}(ha:a∈rows q):Lea X St p q a:=⟨h.rw q a ha,h.ls q a ha⟩
theorem Iv.nodup(hX:X.Ok){rows:Nat->List α}{opn:List (Nat×α)}(h:Iv X St p rows opn)(q:Nat):(rows q).Nodup:=
 List.Pairwise.imp (S:=fun a b=>a≠b) (fun {a b} k (e:a=b)=>hX.oN b (by rw[e]at k;exact k)) (h.so q)
theorem Iv.wide(hX:X.Ok){rows:Nat->List α}{opn:List (Nat×α)}(h:Iv X St p rows opn)(hq:64<(rows q).length):rA X St p none:=⟨q,rows q,h.nodup hX q,hq,fun _ ha=>h.lea ha⟩
theorem Iv.fin(hX:X.Ok){rows:Nat->List α}(h:Iv X St p rows [])(hl:∀q,(rows q).length<=64):rA X St p (some rows):=fun q=>by
 refine⟨h.so q,fun a=>⟨fun ha=>h.lea ha,fun ha=> ?_⟩,hl q⟩;obtain⟨x,hx,hxa⟩:=h.all hX ha.1;have:=ha.2 x (h.rw q x hx) hxa;exact this ▸ hx
theorem rA.same(hX:X.Ok){r s:Option (Nat->List α)}(hr:rA X St p r)(hs:rA X St p s):r=s:=by
 have key:∀rows,rA X St p none->rA X St p (some rows)->False:=fun rows h1 h2=>by
  obtain⟨q,l,hn,hl,ha⟩:=h1;have h3:=iL hn (fun a k=>((h2 q).2.1 a).2 (ha a k));have h4:=(h2 q).2.2;omega
 cases r with
 | none=>
  cases s with
  | none => rfl
  | some rows => exact(key rows hr hs).elim
 | some rows=>
  cases s with
  | none => exact(key rows hs hr).elim
  | some rows'=>
   refine congrArg some (funext fun q=>za hX (hr q).1 (hs q).1 (fun a=> ?_));rw[(hr q).2.1,(hs q).2.1]
end
abbrev ah:={ p:Int×Int×Int // (Lit.int .u64 p.1).wf=true/\(Lit.int .u64 p.2.1).wf=true/\(Lit.int .u64 p.2.2).wf=true }
theorem kE(x:Int):(Lit.int .u64 x).wf=true↔0<=x/\x<18446744073709551616:=by
 have e1:IntKind.u64.min=0:=rfl;have e2:IntKind.u64.max=18446744073709551615:=rfl;simp only[Lit.wf,e1,e2,Bool.and_eq_true,decide_eq_true_eq];omega
theorem bU{s t:ah}(h1:s.1.1=t.1.1)(h2:s.1.2.1=t.1.2.1)(h3:s.1.2.2=t.1.2.2):s=t:=Subtype.ext (Prod.ext h1 (Prod.ext h2 h3))
theorem bV(s:ah):(0<=s.1.1/\s.1.1<18446744073709551616)/\(0<=s.1.2.1/\s.1.2.1<18446744073709551616)/\(0<=s.1.2.2/\s.1.2.2<18446744073709551616):=
 ⟨(kE _).1 s.2.1,(kE _).1 s.2.2.1,(kE _).1 s.2.2.2⟩
def bz(a b:ah):Option ah:=
 if h:a.1.1+b.1.1<18446744073709551616/\a.1.2.1+b.1.2.1<18446744073709551616/\a.1.2.2+b.1.2.2<18446744073709551616 then
  some ⟨(a.1.1+b.1.1,a.1.2.1+b.1.2.1,a.1.2.2+b.1.2.2),by
   have h1:=bV a;have h2:=bV b;exact⟨(kE _).2 ⟨by simp only;omega,h.1⟩,(kE _).2 ⟨by simp only;omega,h.2.1⟩,(kE _).2 ⟨by simp only;omega,h.2.2⟩⟩⟩
 else none
theorem bu{a b c:ah}(h:bz a b=some c):c.1.1=a.1.1+b.1.1/\c.1.2.1=a.1.2.1+b.1.2.1/\c.1.2.2=a.1.2.2+b.1.2.2:=by
 unfold bz at h;split at h
 ·cases h;exact⟨rfl,rfl,rfl⟩
 ·cases h
theorem jr{a b:ah}(h:a.1.1+b.1.1<18446744073709551616/\a.1.2.1+b.1.2.1<18446744073709551616/\a.1.2.2+b.1.2.2<18446744073709551616):∃c,bz a b=some c:=by
 unfold bz;rw[dif_pos h];exact⟨_,rfl⟩
def PX:Px ah where
 aT a b:=a.1.1<=b.1.1/\a.1.2.1<=b.1.2.1/\a.1.2.2<=b.1.2.2
 lq a b:=a.1.1<b.1.1\/(a.1.1=b.1.1/\(a.1.2.1<b.1.2.1\/(a.1.2.1=b.1.2.1/\a.1.2.2<b.1.2.2)))
 thn:=bz
 z:=⟨(0,0,0),by decide⟩
theorem bD:PX.Ok where
 refl a:=⟨Int.le_refl _,Int.le_refl _,Int.le_refl _⟩
 trans {a b c} h k:=by
  obtain⟨h1,h2,h3⟩:=h;obtain⟨k1,k2,k3⟩:=k;exact⟨Int.le_trans h1 k1,Int.le_trans h2 k2,Int.le_trans h3 k3⟩
 told {a b} h:=by
  obtain⟨h1,h2,h3⟩:=h;by_cases e:a=b
  ·exact Or.inl e
  ·refine Or.inr ?_;have:¬(a.1.1=b.1.1/\a.1.2.1=b.1.2.1/\a.1.2.2=b.1.2.2):=fun k=>e (bU k.1 k.2.1 k.2.2);show _\/_;omega
 tt {a b c} h k:=by
  show _\/_;have h':a.1.1<b.1.1\/(a.1.1=b.1.1/\(a.1.2.1<b.1.2.1\/(a.1.2.1=b.1.2.1/\a.1.2.2<b.1.2.2))):=h;have k':b.1.1<c.1.1\/(b.1.1=c.1.1/\(b.1.2.1<c.1.2.1\/(b.1.2.1=c.1.2.1/\b.1.2.2<c.1.2.2))):=k;omega
 oN a h:=by
  have h':a.1.1<a.1.1\/(a.1.1=a.1.1/\(a.1.2.1<a.1.2.1\/(a.1.2.1=a.1.2.1/\a.1.2.2<a.1.2.2))):=h;omega
 tot a b:=by
  by_cases e:a=b
  ·exact Or.inr (Or.inl e)
  ·have:¬(a.1.1=b.1.1/\a.1.2.1=b.1.2.1/\a.1.2.2=b.1.2.2):=fun k=>e (bU k.1 k.2.1 k.2.2);show(_\/_)\/_\/(_\/_);omega
 mono {a b c d} h k:=by
  obtain⟨h1,h2,h3⟩:=h;obtain⟨k1,k2,k3⟩:=bu k;have hd:=bV d;obtain⟨e,he⟩:=jr (a:=a) (b:=c) ⟨by omega,by omega,by omega⟩;obtain⟨e1,e2,e3⟩:=bu he;exact⟨e,he,by show _<=_/\_<=_/\_<=_;omega⟩
 up {a b c} k:=by
  obtain⟨k1,k2,k3⟩:=bu k;have hb:=bV b;show _<=_/\_<=_/\_<=_;omega
end Pt
section
section
variable {α:Type} (ax fst:α->α->Bool)
def bC(l:List α)(v:α):Bool:=l.any (fun x=>ax x v)
def dC(l:List α)(v:α):List α:=l.filter (fun x=> !ax v x)
def wm(l:List α)(v:α):List α:=l.take (l.findIdx (fun y=>fst v y))++v::l.drop (l.findIdx (fun y=>fst v y))
def fQ(l:List α)(v:α):List α:=if bC ax l v then l else wm fst (dC ax l v) v
def aZ(l vs:List α):List α:=vs.foldl (fQ ax fst) l
def kr(l:List α):List α->Nat
 | [] => 0
 | v::vs => (if bC ax l v then 0 else 1)+kr (fQ ax fst l v) vs
variable {ax fst}
theorem wG(l:List α)(v:α)(vs:List α):aZ ax fst l (v::vs)=aZ ax fst (fQ ax fst l v) vs:=rfl
theorem iR(l vs us:List α):aZ ax fst l (vs++us)=aZ ax fst (aZ ax fst l vs) us:=by
 simp[aZ]
theorem sO{l vs:List α}{v:α}(h:vs[k]? =some v):aZ ax fst l (vs.take (k+1))=fQ ax fst (aZ ax fst l (vs.take k)) v:=by
 rw[List.take_add_one,h,iR];rfl
theorem gy(l:List α)(v:α):(dC ax l v).length<=l.length:=List.length_filter_le _ _
theorem rW(l:List α)(v:α):(wm fst l v).length=l.length+1:=by
 simp[wm];omega
theorem Dj(l:List α)(v:α):(fQ ax fst l v).length<=l.length+1:=by
 unfold fQ;split
 ·omega
 ·rw[rW];have:=gy (ax:=ax) l v;omega
theorem gF(l vs:List α):(aZ ax fst l vs).length<=l.length+vs.length:=by
 induction vs generalizing l with
 | nil => simp[aZ]
 | cons v vs ih=>
  have h1:=ih (fQ ax fst l v);have h2:=Dj (ax:=ax) (fst:=fst) l v;rw[wG];simp only[lC];omega
theorem qa{l:List α}{v x:α}:x∈wm fst l v↔x=v\/x∈l:=by
 unfold wm;constructor
 ·intro h;rcases jQ.1 h with h|h
  ·exact Or.inr (List.mem_of_mem_take h)
  ·rcases fF.1 h with h|h
   ·exact Or.inl h
   ·exact Or.inr (List.mem_of_mem_drop h)
 ·intro h;rcases h with h|h
  ·subst h;simp
  ·rw[<-List.take_append_drop (l.findIdx fun y=>fst v y) l]at h;rcases jQ.1 h with h|h
   ·exact jQ.2 (Or.inl h)
   ·exact jQ.2 (Or.inr (List.mem_cons_of_mem _ h))
theorem mG{l:List α}{v x:α}:x∈dC ax l v↔x∈l/\ax v x=false:=by
 simp[dC,List.mem_filter]
theorem bZ{l:List α}{v:α}:bC ax l v=true↔∃x∈l,ax x v=true:=by
 simp[bC]
theorem F7{l:List α}{v:α}:bC ax l v=false↔∀x∈l,ax x v=false:=by
 simp[bC]
structure qD(ax fst:α->α->Bool):Prop where
 refl:∀a,ax a a=true
 trans:∀a b c,ax a b=true->ax b c=true->ax a c=true
 Wi:∀a b,ax a b=true->ax b a=true->a=b
 oN:∀a,fst a a=false
 tr:∀a b c,fst a b=true->fst b c=true->fst a c=true
 tot:∀a b,a≠b->fst a b=false->fst b a=true
def Good(ax fst:α->α->Bool)(l:List α):Prop:=l.Pairwise fun a b=>fst a b=true/\ax a b=false/\ax b a=false
theorem fP{l:List α}{p:α->Bool}{x:α}(h:x∈l.take (l.findIdx p)):p x=false:=by
 obtain⟨i,hi,rfl⟩:=List.mem_iff_getElem.1 h;rw[List.getElem_take];have hi':i<l.findIdx p:=by simp at hi;omega
 have:=List.not_of_lt_findIdx (p:=p) (xs:=l) hi';simpa using this
theorem qm(O:qD ax fst){l:List α}(hl:l.Pairwise fun a b=>fst a b=true){v x:α}(h:x∈l.drop (l.findIdx fun y=>fst v y)):fst v x=true:=by
 induction l with
 | nil => simp at h
 | cons y l ih=>
  rw[List.pairwise_cons]at hl;rw[List.findIdx_cons]at h;cases hy:fst v y with
  | true=>
   rw[hy]at h;simp at h;rcases h with rfl|h
   ·exact hy
   ·exact O.tr _ _ _ hy (hl.1 _ h)
  | false=>
   rw[hy]at h;simp at h;exact ih hl.2 h
theorem CK{l:List α}(h:Good ax fst l)(v:α):Good ax fst (dC ax l v):=List.Pairwise.filter _ h
theorem Nk(O:qD ax fst){l:List α}(h:Good ax fst l)(v:α):Good ax fst (fQ ax fst l v):=by
 unfold fQ;split
 ·exact h
 ·rename_i hc;have hc:bC ax l v=false:=by simpa using hc
  rw[F7]at hc;have hg:=CK h v;have hm:∀x∈dC ax l v,ax x v=false/\ax v x=false:=fun x hx=>⟨hc x (mG.1 hx).1,(mG.1 hx).2⟩;generalize dC ax l v=m at hg hm;have hs:m.Pairwise fun a b=>fst a b=true:=hg.imp (fun h=>h.1);unfold Good wm;have hsplit:(m.take (m.findIdx fun y=>fst v y)++m.drop (m.findIdx fun y=>fst v y)).Pairwise fun a b=>fst a b=true/\ax a b=false/\ax b a=false:=by rw[List.take_append_drop];exact hg
  rw[List.pairwise_append]at hsplit;refine List.pairwise_append.2 ⟨hsplit.1,List.pairwise_cons.2 ⟨?_,hsplit.2.1⟩, ?_⟩
  ·intro x hx;have hxm:=List.mem_of_mem_drop hx;exact⟨qm O hs hx,(hm x hxm).2,(hm x hxm).1⟩
  ·intro a ha b hb;rcases fF.1 hb with rfl|hb
   ·have ham:=List.mem_of_mem_take ha;have hf:=fP ha;refine⟨O.tot _ _ ?_ hf,hm a ham⟩;rintro rfl;have:=(hm _ ham).1;rw[O.refl]at this;cases this
   ·exact hsplit.2.2 a ha b hb
theorem nE(O:qD ax fst){l:List α}(h:Good ax fst l)(vs:List α):Good ax fst (aZ ax fst l vs):=by
 induction vs generalizing l with
 | nil => exact h
 | cons v vs ih => exact ih (Nk O h v)
theorem vR:Good ax fst ([]:List α):=List.Pairwise.nil
theorem Q8(O:qD ax fst)(l:List α)(v:α):bC ax (fQ ax fst l v) v=true:=by
 unfold fQ;split
 ·assumption
 ·exact bZ.2 ⟨v,qa.2 (Or.inl rfl),O.refl v⟩
theorem Aq(O:qD ax fst){l:List α}{x:α}(v:α)(h:bC ax l x=true):bC ax (fQ ax fst l v) x=true:=by
 unfold fQ;split
 ·exact h
 ·obtain⟨y,hy,hyx⟩:=bZ.1 h;cases hv:ax v y with
  | true => exact bZ.2 ⟨v,qa.2 (Or.inl rfl),O.trans _ _ _ hv hyx⟩
  | false => exact bZ.2 ⟨y,qa.2 (Or.inr (mG.2 ⟨hy,hv⟩)),hyx⟩
theorem Qg{l:List α}{x v:α}(h:x∈fQ ax fst l v):x=v\/x∈l:=by
 unfold fQ at h;split at h
 ·exact Or.inr h
 ·rcases qa.1 h with h|h
  ·exact Or.inl h
  ·exact Or.inr (mG.1 h).1
theorem jP(O:qD ax fst){l:List α}{x:α}(vs:List α)(h:bC ax l x=true):bC ax (aZ ax fst l vs) x=true:=by
 induction vs generalizing l with
 | nil => exact h
 | cons v vs ih => exact ih (Aq O v h)
theorem mQ(O:qD ax fst)(l:List α){vs:List α}{x:α}(h:x∈vs):bC ax (aZ ax fst l vs) x=true:=by
 induction vs generalizing l with
 | nil => simp at h
 | cons v vs ih=>
  rcases fF.1 h with rfl|h
  ·exact jP O vs (Q8 O l x)
  ·exact ih _ h
theorem p9{l vs:List α}{x:α}(h:x∈aZ ax fst l vs):x∈vs\/x∈l:=by
 induction vs generalizing l with
 | nil => exact Or.inr h
 | cons v vs ih=>
  rcases ih h with h|h
  ·exact Or.inl (List.mem_cons_of_mem _ h)
  ·rcases Qg h with rfl|h
   ·exact Or.inl (by simp)
   ·exact Or.inr h
theorem CJ{l:List α}(h:Good ax fst l){i j:Nat}{a b:α}(ha:l[i]? =some a)(hb:l[j]? =some b)(hne:i≠j):ax a b=false:=by
 obtain⟨hi,rfl⟩:=lG.1 ha;obtain⟨hj,rfl⟩:=lG.1 hb;rcases Nat.lt_or_gt_of_ne hne with h1|h1
 ·exact(List.pairwise_iff_getElem.1 h i j hi hj h1).2.1
 ·exact(List.pairwise_iff_getElem.1 h j i hj hi h1).2.2
theorem Jp(O:qD ax fst){vs:List α}{x:α}:x∈aZ ax fst [] vs↔x∈vs/\∀y∈vs,ax y x=true->y=x:=by
 have hg:=nE O (vR (ax:=ax) (fst:=fst)) vs;constructor
 ·intro h;have hx:x∈vs:=by
   rcases p9 h with h|h
   ·exact h
   ·simp at h
  refine⟨hx,fun y hy hyx=> ?_⟩;obtain⟨z,hz,Sj⟩:=bZ.1 (mQ O [] hy);have hzx:=O.trans _ _ _ Sj hyx;have:z=x:=by
   obtain⟨i,hi⟩:=List.mem_iff_getElem?.1 hz;obtain⟨j,hj⟩:=List.mem_iff_getElem?.1 h;by_cases hij:i=j
   ·subst hij;rw[hi]at hj;exact Option.some.inj hj
   ·have:=CJ hg hi hj hij;rw[hzx]at this;cases this
  subst this;exact O.Wi _ _ hyx Sj
 ·rintro⟨hx,hm⟩;obtain⟨z,hz,hzx⟩:=bZ.1 (mQ O [] hx);have hzv:z∈vs:=by
   rcases p9 hz with h|h
   ·exact h
   ·simp at h
  rw[hm z hzv hzx]at hz;exact hz
theorem rM(O:qD ax fst){l m:List α}(hl:l.Pairwise fun a b=>fst a b=true)(hm:m.Pairwise fun a b=>fst a b=true)(h:∀x,x∈l↔x∈m):l=m:=by
 induction l generalizing m with
 | nil=>
  cases m with
  | nil => rfl
  | cons b m => exact absurd ((h b).2 (by simp)) (by simp)
 | cons a l ih=>
  cases m with
  | nil => exact absurd ((h a).1 (by simp)) (by simp)
  | cons b m=>
   rw[List.pairwise_cons]at hl hm;have hab:a=b:=by
    by_cases e:a=b
    ·exact e
    ·have h1:=(h a).1 (by simp);have h2:=(h b).2 (by simp);rcases fF.1 h1 with h1|h1
     ·exact h1
     rcases fF.1 h2 with h2|h2
     ·exact h2.symm
     have:=O.tr _ _ _ (hl.1 b h2) (hm.1 a h1);rw[O.oN]at this;cases this
   subst hab;rw[ih hl.2 hm.2 (fun x=> ?_)];constructor
   ·intro hx;rcases fF.1 ((h x).1 (List.mem_cons_of_mem _ hx))with rfl|h1
    ·have:=hl.1 _ hx;rw[O.oN]at this;cases this
    ·exact h1
   ·intro hx;rcases fF.1 ((h x).2 (List.mem_cons_of_mem _ hx))with rfl|h1
    ·have:=hm.1 _ hx;rw[O.oN]at this;cases this
    ·exact h1
end
end
namespace Pt
section
variable {α:Type} {X:Px α} {St:Nat->Nat->α->Prop} {p:Nat}
theorem mU{ax:α->α->Bool}(hb:∀a b,ax a b=true↔X.aT a b)(l:List α)(w:α):bC ax l w=true↔nN X l w:=by
 unfold bC nN;rw[List.any_eq_true];exact⟨fun⟨x,h1,h2⟩=>⟨x,h1,(hb _ _).1 h2⟩,fun⟨x,h1,h2⟩=>⟨x,h1,(hb _ _).2 h2⟩⟩
theorem Rh{ax fst:α->α->Bool}(hb:∀a b,ax a b=true↔X.aT a b)(hf:∀a b,fst a b=true↔X.lq a b)(hX:X.Ok){rows:Nat->List α}{opn:List (Nat×α)}{w:α}(h:Iv X St p rows opn)(hm:(q0,w)∈opn):
    fQ ax fst (rows q0) w=if bC ax (rows q0) w then rows q0 else rows q0++[w]:=by
 unfold fQ;split
 ·rfl
 ·rename_i hc;have h1:dC ax (rows q0) w=rows q0:=by
   unfold dC;refine List.filter_eq_self.2 (fun x hx=> ?_);cases e:ax w x with
   | false => rfl
   | true=>
    have:=h.ls q0 x hx w (h.ow q0 w hm) ((hb _ _).1 e);subst this;exact absurd ((mU hb _ _).2 ⟨w,hx,hX.refl w⟩) hc
  have h2:(rows q0).findIdx (fun y=>fst w y)=(rows q0).length:=by
   refine List.findIdx_eq_length_of_false (fun x hx=> ?_);cases e:fst w x with
   | false => rfl
   | true => exact absurd ((hf _ _).1 e) (h.lo q0 x hx q0 w hm)
  rw[h1];unfold wm;rw[h2,List.take_length,List.drop_length]
def tot(n:Nat)(rows:Nat->List α):Nat:=((List.range n).map (fun q=>(rows q).length)).sum
theorem uz(n:Nat)(rows:Nat->List α):tot (n+1) rows=tot n rows+(rows n).length:=by simp[tot,List.range_succ]
theorem uA{w:α}(rows:Nat->List α):tot n (dG rows q0 w)=tot n rows+if q0<n then 1 else 0:=by
 induction n with
 | zero => simp[tot]
 | succ n ih=>
  rw[uz,uz,ih];unfold dG;by_cases e:n=q0
  ·subst e;simp;omega
  ·rw[if_neg e];by_cases k:q0<n
   ·rw[if_pos k,if_pos (by omega)];omega
   ·rw[if_neg k,if_neg (by omega)];omega
theorem yZ{m:Nat}{rows:Nat->List α}(h:∀q,q<n->(rows q).length<=m):tot n rows<=m*n:=by
 induction n with
 | zero => simp[tot]
 | succ n ih=>
  rw[uz,Nat.mul_succ];have h1:=ih (fun q hq=>h q (by omega));have h2:=h n (by omega);omega
def Hu(n d:Nat)(rows:Nat->List α)(k:Nat):Nat:=(64*n-tot n rows)*(d+1)+k
theorem Mi:Hu n d (fun _=>([]:List α)) 1=64*n*(d+1)+1:=by
 have:tot n (fun _=>([]:List α))=0:=by
  have:=yZ (n:=n) (m:=0) (rows:=fun _=>([]:List α)) (fun _ _=>by simp);omega
 unfold Hu;rw[this,Nat.sub_zero]
theorem Mh{k':Nat}{w:α}{rows:Nat->List α}(hq:q0<n)(hl:∀q,q<n->(dG rows q0 w q).length<=64)(hk:0<k)(hk':k'<=k-1+d):Hu n d (dG rows q0 w) k'<Hu n d rows k:=by
 have h1:=yZ hl;have h2:=uA (n:=n) (q0:=q0) (w:=w) rows;rw[if_pos hq]at h2;unfold Hu;have h3:64*n-tot n rows=(64*n-tot n (dG rows q0 w))+1:=by omega
 rw[h3,Nat.add_mul,Nat.one_mul];omega
theorem UB{rows:Nat->List α}:k<=Hu n d rows k:=Nat.le_add_left _ _
end
section
variable {α:Type} {X:Px α} {St:Nat->Nat->α->Prop} {p:Nat}
theorem Eg(hX:X.Ok)(l:List α)(h:l≠[]):∃m∈l,∀b∈l,¬X.lq b m:=by
 induction l with
 | nil => exact absurd rfl h
 | cons a l ih=>
  by_cases e:l=[]
  ·subst e;exact⟨a,by simp,fun b hb=>by simp at hb;subst hb;exact hX.oN _⟩
  ·obtain⟨m,hm,hl⟩:=ih e;rcases hX.tot a m with k|k|k
   ·refine⟨a,by simp,fun b hb=> ?_⟩;rcases fF.1 hb with rfl|hb
    ·exact hX.oN _
    ·exact fun t=>hl b hb (hX.tt t k)
   ·refine⟨m,by simp[hm],fun b hb=> ?_⟩;rcases fF.1 hb with rfl|hb
    ·rw[k];exact hX.oN _
    ·exact hl b hb
   ·refine⟨m,by simp[hm],fun b hb=> ?_⟩;rcases fF.1 hb with rfl|hb
    ·exact fun t=>hX.oN _ (hX.tt t k)
    ·exact hl b hb
structure AZ(X:Px α)(all f:List α):Prop where
 so:f.Pairwise X.lq
 mem:∀a,a∈f↔a∈all/\∀b∈all,X.aT b a->b=a
theorem AZ.same(hX:X.Ok){all f g:List α}(h:AZ X all f)(k:AZ X all g):f=g:=za hX h.so k.so (fun a=>by rw[h.mem,k.mem])
theorem Cb(hX:X.Ok){all:List α}{x:α}(hx:x∈all):∃m∈all,X.aT m x/\∀b∈all,X.aT b m->b=m:=by
 classical
 obtain⟨m,hm,hf⟩:=Eg hX (all.filter (fun y=>decide (X.aT y x))) (fun e=>by
  have:x∈all.filter (fun y=>decide (X.aT y x)):=mF.2 ⟨hx,by simpa using hX.refl x⟩;rw[e]at this;simp at this)
 obtain⟨h1,h2⟩:=mF.1 hm;have h2:X.aT m x:=by simpa using h2
 refine⟨m,h1,h2,fun b hb hbm=> ?_⟩;rcases hX.told hbm with e|e
 ·exact e
 ·exact absurd e (hf b (mF.2 ⟨hb,by simpa using hX.trans hbm h2⟩))
theorem AZ.open(hX:X.Ok){all f:List α}(h:AZ X all f)(t:α):nN X f t↔nN X all t:=by
 constructor
 ·rintro⟨x,hx,hxt⟩;exact⟨x,((h.mem x).1 hx).1,hxt⟩
 ·rintro⟨x,hx,hxt⟩;obtain⟨m,hm,hmx,hl⟩:=Cb hX hx;exact⟨m,(h.mem m).2 ⟨hm,hl⟩,hX.trans hmx hxt⟩
end
theorem qC(a b:ah)(h:PX.aT a b)(k:PX.aT b a):a=b:=bU (Int.le_antisymm h.1 k.1) (Int.le_antisymm h.2.1 k.2.1) (Int.le_antisymm h.2.2 k.2.2)
theorem xL(a b:ah):bz a b=bz b a:=by
 unfold bz;simp only[Int.add_comm b.1.1,Int.add_comm b.1.2.1,Int.add_comm b.1.2.2]
theorem ze(a:ah):bz PX.z a=some a:=by
 have h:=bV a;have e0:PX.z.1.1=0:=rfl;have e1:PX.z.1.2.1=0:=rfl;have e2:PX.z.1.2.2=0:=rfl;obtain⟨c,hc⟩:=jr (a:=PX.z) (b:=a) ⟨by omega,by omega,by omega⟩;obtain⟨h1,h2,h3⟩:=bu hc;rw[hc];exact congrArg some (bU (by omega) (by omega) (by omega))
def XA(St:Nat->Nat->ah->Prop)(p:Nat)(t:ah)(q:Nat)(u:ah):Prop:=∃a c,Wy PX St p q a/\bz a t=some c/\PX.aT c u
theorem XA.least{St:Nat->Nat->ah->Prop}{p:Nat}{rows:Nat->List ah}(h:rA PX St p (some rows))(hc:∀q a,Wy PX St p q a->nN PX (rows q) a){t u:ah}:XA St p t q u↔∃a∈rows q,∃c,bz a t=some c/\PX.aT c u:=by
 constructor
 ·rintro⟨a,c,ha,hat,OL⟩;obtain⟨x,hx,hxa⟩:=hc q a ha;obtain⟨e,he,SC⟩:=bD.mono hxa hat;exact⟨x,hx,e,he,bD.trans SC OL⟩
 ·rintro⟨a,ha,c,hat,OL⟩;exact⟨a,c,((h q).2.1 a).1 ha|>.1,hat,OL⟩
def SY(St:Nat->Nat->ah->Prop)(p:Nat)(t:ah)(q:Nat)(u:ah):Prop:=∃a,Wy PX St p q a/\bz a t=some u
theorem SY.self(St:Nat->Nat->ah->Prop)(p:Nat)(t:ah):SY St p t p t:=⟨PX.z, .nil,ze t⟩
theorem GH{a b c:ah}(h:bz a b=some c):a.1.1+b.1.1<18446744073709551616/\a.1.2.1+b.1.2.1<18446744073709551616/\a.1.2.2+b.1.2.2<18446744073709551616:=by
 unfold bz at h;split at h
 ·assumption
 ·cases h
theorem SY.step{St:Nat->Nat->ah->Prop}{p q q':Nat}{t u v b:ah}(h:SY St p t q u)(hs:St q q' b)(hv:bz b u=some v):SY St p t q' v:=by
 obtain⟨a,ha,hu⟩:=h;have e1:=bu hu;have e2:=bu hv;have d2:=GH hv;have ta:=bV a;have tt:=bV t;have tb:=bV b;obtain⟨c,hc⟩:=jr (a:=a) (b:=b) (by omega);have e3:=bu hc;obtain⟨d,hd⟩:=jr (a:=c) (b:=t) (by omega);have e4:=bu hd;refine⟨c, .step ha hs hc, ?_⟩;rw[hd];exact congrArg some (bU (by omega) (by omega) (by omega))
theorem xK{b u u' v:ah}(h:PX.aT u' u)(hv:bz b u=some v):∃v',bz b u'=some v'/\PX.aT v' v:=by
 rw[xL]at hv;obtain⟨v',h1,h2⟩:=bD.mono h hv;exact⟨v',by rw[xL];exact h1,h2⟩
section
variable {St:Nat->Nat->ah->Prop} {p:Nat} {t:ah} {at_:Nat->List ah} {todo done:List (Nat×ah)} {q0:Nat} {u0:ah}
end
section
variable {St:Nat->Nat->ah->Prop} {p:Nat} {t:ah} {at_:Nat->List ah}
end
end Pt
section
open Go.RowKit
section
variable {α:Type} (ax fst:α->α->Bool)
def kW(s:List α×List α)(d:α×Int):List α×List α:=
 if d.2<=0 then(dC ax s.1 d.1,if (dC ax s.1 d.1).length<s.1.length then s.2++[d.1]else s.2)else s
def eQ(s:List α×List α)(us:List (α×Int)):List α×List α:=us.foldl (kW ax) s
def mV(f:α->Int)(l F G:List α)(k:Nat):List α:=if 0<G.length/\F.length<k then aZ ax fst F (l.filter fun t=> !(decide (f t<=0)|| !bC ax G t))else F
def C9(f:α->Int)(l fr:List α)(us:List (α×Int))(k:Nat):List α:=
 aZ ax fst (mV ax fst f l (eQ ax (fr,[]) us).1 (eQ ax (fr,[]) us).2 k) ((us.filter fun d=>decide (0<d.2)).map Prod.fst)
end
section
variable {α:Type} {ax fst:α->α->Bool}
theorem ry(s:List α×List α)(d:α×Int)(us:List (α×Int)):eQ ax s (d::us)=eQ ax (kW ax s d) us:=rfl
theorem vZ{s:List α×List α}{us:List (α×Int)}{d:α×Int}(h:us[k]? =some d):eQ ax s (us.take (k+1))=kW ax (eQ ax s (us.take k)) d:=by
 unfold eQ;rw[List.take_add_one,h,List.foldl_append];rfl
theorem JN{s:List α×List α}(h:Good ax fst s.1)(d:α×Int):Good ax fst (kW ax s d).1:=by
 unfold kW;split
 ·exact CK h d.1
 ·exact h
theorem JP(us:List (α×Int)):∀(s:List α×List α),Good ax fst s.1->Good ax fst (eQ ax s us).1:=by
 induction us with
 | nil => exact fun s h=>h
 | cons d us ih => exact fun s h=>ih _ (JN h d)
theorem vz{s:List α×List α}{d:α×Int}{x:α}:x∈(kW ax s d).1↔x∈s.1/\(d.2<=0->ax d.1 x=false):=by
 unfold kW;split
 ·rename_i h;rw[mG];exact⟨fun⟨h1,h2⟩=>⟨h1,fun _=>h2⟩,fun⟨h1,h2⟩=>⟨h1,h2 h⟩⟩
 ·rename_i h;exact⟨fun h1=>⟨h1,fun e=>absurd e h⟩,fun h1=>h1.1⟩
theorem Mj(us:List (α×Int)):∀(s:List α×List α) (x:α),x∈(eQ ax s us).1↔x∈s.1/\∀d∈us,d.2<=0->ax d.1 x=false:=by
 induction us with
 | nil => exact fun s x=>⟨fun h=>⟨h,fun d hd=>by cases hd⟩,fun h=>h.1⟩
 | cons d us ih=>
  intro s x;rw[ry,ih,vz];constructor
  ·rintro⟨⟨h1,h2⟩,h3⟩;refine⟨h1,fun d' hd'=> ?_⟩;rcases fF.1 hd' with rfl|hd'
   ·exact h2
   ·exact h3 d' hd'
  ·rintro⟨h1,h2⟩;exact⟨⟨h1,h2 d (List.mem_cons_self ..)⟩,fun d' hd'=>h2 d' (List.mem_cons_of_mem _ hd')⟩
theorem JM{s:List α×List α}(d:α×Int){x:α}(h:x∈s.2):x∈(kW ax s d).2:=by
 unfold kW;split
 ·show x∈(if _ then _ else _);split
  ·exact List.mem_append_left _ h
  ·exact h
 ·exact h
theorem JO(us:List (α×Int)):∀(s:List α×List α) {x:α},x∈s.2->x∈(eQ ax s us).2:=by
 induction us with
 | nil => exact fun s x h=>h
 | cons d us ih => exact fun s x h=>ih _ (JM d h)
theorem NP{l:List α}{v x:α}(hx:x∈l)(hb:ax v x=true):(dC ax l v).length<l.length:=by
 unfold dC;refine Nat.lt_of_le_of_ne (List.length_filter_le _ _) (fun e=> ?_);have:=List.length_filter_eq_length_iff.1 e x hx;rw[hb]at this;cases this
theorem NQ(us:List (α×Int)):∀(s:List α×List α) (z:α),z∈s.1->z∉(eQ ax s us).1->∃g∈(eQ ax s us).2,ax g z=true:=by
 induction us with
 | nil => exact fun s z h hn=>absurd h hn
 | cons d us ih=>
  intro s z hz hn;rw[ry]at hn⊢;by_cases h:z∈(kW ax s d).1
  ·exact ih _ z h hn
  ·have h1:d.2<=0/\ax d.1 z=true:=by
     by_cases h2:d.2<=0
     ·refine⟨h2, ?_⟩;cases e:ax d.1 z with
      | true => rfl
      | false => exact absurd (vz.2 ⟨hz,fun _=>e⟩) h
     ·exact absurd (vz.2 ⟨hz,fun e=>absurd e h2⟩) h
   refine⟨d.1,JO us _ ?_,h1.2⟩;unfold kW;rw[if_pos h1.1,if_pos (NP hz h1.2)];exact List.mem_append_right _ (wY.2 rfl)
theorem C8(us:List (α×Int)):∀(s:List α×List α),(eQ ax s us).1.length<=s.1.length/\(eQ ax s us).2.length<=s.2.length+us.length:=by
 induction us with
 | nil => exact fun s=>⟨nR _,nR _⟩
 | cons d us ih=>
  intro s;rw[ry];obtain⟨h1,h2⟩:=ih (kW ax s d);have h3:(kW ax s d).1.length<=s.1.length:=by
   unfold kW;split
   ·exact gy _ _
   ·exact nR _
  have h4:(kW ax s d).2.length<=s.2.length+1:=by
   unfold kW;split
   ·show(if _ then _ else _:List α).length<=_;split
    ·simp
    ·omega
   ·omega
  rw[lC];omega
theorem Q4(O:qD ax fst){f0 f1:α->Int}{fr ks l:List α}{us:List (α×Int)}(hgood:Good ax fst fr)(hpos:∀x∈fr,0<f0 x)(aaM:∀y,0<f0 y->bC ax fr y=true)
    (hch:∀t,f1 t≠f0 t->∃d∈us,d.1=t) (Yh:∀d∈us,d.2=f1 d.1) (_:ks.Nodup) (hks:∀t,t∈ks↔f1 t≠0) (hl:∀t,t∈l↔t∈ks)
    (hsub:∀F:List α,F.Nodup->(∀x∈F,x∈ks)->ks.length<=F.length->∀x∈ks,x∈F) :
    Good ax fst (C9 ax fst f1 l fr us ks.length)/\(∀x∈C9 ax fst f1 l fr us ks.length,0<f1 x)/\∀y,0<f1 y->bC ax (C9 ax fst f1 l fr us ks.length) y=true:=by
 have hF:∀x∈(eQ ax (fr,[]) us).1,0<f1 x:=fun x hx=>by
  obtain⟨h1,h2⟩:=(Mj us _ x).1 hx;by_cases e:f1 x=f0 x
  ·rw[e];exact hpos x h1
  ·obtain⟨d,hd,rfl⟩:=hch x e;by_cases h0:d.2<=0
   ·have:=h2 d hd h0;rw[O.refl]at this;cases this
   ·rw[<-Yh d hd];omega
 have hFg:Good ax fst (eQ ax (fr,[]) us).1:=JP us _ hgood;have hFn:(eQ ax (fr,[]) us).1.Nodup:=hFg.imp fun {a b} hab e=>by subst e;rw[O.oN]at hab;cases hab.1
 have hB:Good ax fst (mV ax fst f1 l (eQ ax (fr,[]) us).1 (eQ ax (fr,[]) us).2 ks.length)/\(∀x∈mV ax fst f1 l (eQ ax (fr,[]) us).1 (eQ ax (fr,[]) us).2 ks.length,0<f1 x)/\∀y,0<f1 y->f1 y=f0 y->bC ax (mV ax fst f1 l (eQ ax (fr,[]) us).1 (eQ ax (fr,[]) us).2 ks.length) y=true:=by
  have hout:∀y,0<f1 y->f1 y=f0 y->bC ax (eQ ax (fr,[]) us).1 y=true\/bC ax (eQ ax (fr,[]) us).2 y=true:=fun y hy e=>by
   obtain⟨z,hz,Sj⟩:=bZ.1 (aaM y (by omega));by_cases hm:z∈(eQ ax (fr,[]) us).1
   ·exact Or.inl (bZ.2 ⟨z,hm,Sj⟩)
   ·obtain⟨g,hg,hgz⟩:=NQ us (fr,[]) z hz hm;exact Or.inr (bZ.2 ⟨g,hg,O.trans _ _ _ hgz Sj⟩)
  generalize (eQ ax (fr,[]) us).1=F at *;generalize (eQ ax (fr,[]) us).2=G at *;unfold mV;split
  ·refine⟨nE O hFg _,fun x hx=> ?_,fun y hy e=> ?_⟩
   ·rcases p9 hx with h1|h1
    ·have:=(mF.1 h1).2;simp at this;omega
    ·exact hF x h1
   ·rcases hout y hy e with h1|h1
    ·exact jP O _ h1
    ·refine mQ O F (mF.2 ⟨(hl y).2 ((hks y).2 (by omega)), ?_⟩);rw[h1,decide_eq_false (by omega)];rfl
  ·rename_i hno;refine⟨hFg,hF,fun y hy e=> ?_⟩;rcases hout y hy e with h1|h1
   ·exact h1
   ·have hG:0<G.length:=by
      obtain⟨g,hg,_⟩:=bZ.1 h1;exact List.length_pos_of_mem hg
    have hlen:ks.length<=F.length:=by
     by_cases h2:F.length<ks.length
     ·exact absurd ⟨hG,h2⟩ hno
     ·omega
    exact bZ.2 ⟨y,hsub F hFn (fun x hx=>(hks x).2 (by have:=hF x hx;omega)) hlen y ((hks y).2 (by omega)),O.refl y⟩
 obtain⟨b1,b2,b3⟩:=hB;unfold C9;refine⟨nE O b1 _,fun x hx=> ?_,fun y hy=> ?_⟩
 ·rcases p9 hx with h1|h1
  ·obtain⟨d,hd,rfl⟩:=mM.1 h1;obtain⟨hd1,hd2⟩:=mF.1 hd;rw[<-Yh d hd1];simpa using hd2
  ·exact b2 x h1
 ·by_cases he:f1 y=f0 y
  ·exact jP O _ (b3 y hy he)
  ·obtain⟨d,hd,rfl⟩:=hch y he;exact mQ O _ (mM.2 ⟨d,mF.2 ⟨hd,by rw[Yh d hd];simpa using hy⟩,rfl⟩)
end
section
variable {α:Type} [DecidableEq α] (fst:α->α->Bool)
def fU:List α->List α->List (α×Int)
 | [], [] => []
 | [], b::bs => (b,1)::fU [] bs
 | a::az, [] => (a,-1)::fU az []
 | a::az, b::bs => if a=b then fU az bs else if fst a b=true then(a,-1)::fU az (b::bs)else(b,1)::fU (a::az) bs
termination_by l m=>l.length+m.length
end
section
variable {α:Type} [DecidableEq α] {ax fst:α->α->Bool}
theorem jI(O:qD ax fst)(l m:List α)(hl:l.Pairwise fun a b=>fst a b=true)(hm:m.Pairwise fun a b=>fst a b=true)(p:α×Int):
    p∈fU fst l m↔(p.1∈l/\p.1∉m/\p.2= -1)\/(p.1∈m/\p.1∉l/\p.2=1):=by
 induction l,m using fU.induct fst with
 | case1 => simp[fU]
 | case2 b bs ih=>
  obtain⟨_,hm2⟩:=List.pairwise_cons.1 hm;rw[fU,fF,ih hl hm2];obtain⟨x,n⟩:=p;simp only[Prod.mk.injEq,List.not_mem_nil,fF,false_and,false_or,not_false_eq_true,true_and];constructor
  ·rintro(⟨rfl,rfl⟩|⟨h1,h2⟩)
   ·exact⟨Or.inl rfl,rfl⟩
   ·exact⟨Or.inr h1,h2⟩
  ·rintro⟨rfl|h1,h2⟩
   ·exact Or.inl ⟨rfl,h2⟩
   ·exact Or.inr ⟨h1,h2⟩
 | case3 a az ih=>
  obtain⟨_,hl2⟩:=List.pairwise_cons.1 hl;rw[fU,fF,ih hl2 hm];obtain⟨x,n⟩:=p;simp only[Prod.mk.injEq,List.not_mem_nil,fF,false_and,or_false,not_false_eq_true,true_and];constructor
  ·rintro(⟨rfl,rfl⟩|⟨h1,h2⟩)
   ·exact⟨Or.inl rfl,rfl⟩
   ·exact⟨Or.inr h1,h2⟩
  ·rintro⟨rfl|h1,h2⟩
   ·exact Or.inl ⟨rfl,h2⟩
   ·exact Or.inr ⟨h1,h2⟩
 | case4 az a bs ih=>
  obtain⟨hl1,hl2⟩:=List.pairwise_cons.1 hl;obtain⟨hm1,hm2⟩:=List.pairwise_cons.1 hm;rw[fU,if_pos rfl,ih hl2 hm2];have n1:∀x∈az,x≠a:=fun x hx e=>by subst e;have:=hl1 x hx;rw[O.oN]at this;cases this
  have n2:∀x∈bs,x≠a:=fun x hx e=>by subst e;have:=hm1 x hx;rw[O.oN]at this;cases this
  simp only[fF,not_or];constructor
  ·rintro(⟨h1,h2,h3⟩|⟨h1,h2,h3⟩)
   ·exact Or.inl ⟨Or.inr h1,⟨n1 _ h1,h2⟩,h3⟩
   ·exact Or.inr ⟨Or.inr h1,⟨n2 _ h1,h2⟩,h3⟩
  ·rintro(⟨h1,⟨h2,h3⟩,h4⟩|⟨h1,⟨h2,h3⟩,h4⟩)
   ·exact Or.inl ⟨h1.resolve_left h2,h3,h4⟩
   ·exact Or.inr ⟨h1.resolve_left h2,h3,h4⟩
 | case5 a az b bs hab hf ih=>
  obtain⟨hl1,hl2⟩:=List.pairwise_cons.1 hl;obtain⟨hm1,_⟩:=List.pairwise_cons.1 hm;rw[fU,if_neg hab,if_pos hf,fF,ih hl2 hm];have na:a∉b::bs:=fun h=>by
   have:fst a a=true:=by
    rcases fF.1 h with h|h
    ·exact absurd h hab
    ·exact O.tr _ _ _ hf (hm1 a h)
   rw[O.oN]at this;cases this
  have n1:a∉az:=fun h=>by have:=hl1 a h;rw[O.oN]at this;cases this
  obtain⟨x,n⟩:=p;simp only[Prod.mk.injEq];constructor
  ·rintro(⟨rfl,rfl⟩|⟨h1,h2,h3⟩|⟨h1,h2,h3⟩)
   ·exact Or.inl ⟨List.mem_cons_self ..,na,rfl⟩
   ·exact Or.inl ⟨List.mem_cons_of_mem _ h1,h2,h3⟩
   ·exact Or.inr ⟨h1,fun e=>by
      rcases fF.1 e with rfl|e
      ·exact na h1
      ·exact h2 e,h3⟩
  ·rintro(⟨h1,h2,h3⟩|⟨h1,h2,h3⟩)
   ·rcases fF.1 h1 with rfl|h1
    ·exact Or.inl ⟨rfl,h3⟩
    ·exact Or.inr (Or.inl ⟨h1,h2,h3⟩)
   ·exact Or.inr (Or.inr ⟨h1,fun e=>h2 (List.mem_cons_of_mem _ e),h3⟩)
 | case6 a az b bs hab hf ih=>
  obtain⟨hl1,_⟩:=List.pairwise_cons.1 hl;obtain⟨hm1,hm2⟩:=List.pairwise_cons.1 hm;rw[fU,if_neg hab,if_neg hf,fF,ih hl hm2];have FC:fst b a=true:=O.tot _ _ hab (by cases e:fst a b with|true=>exact absurd e hf|false=>rfl);have nb:b∉a::az:=fun h=>by
   have:fst b b=true:=by
    rcases fF.1 h with h|h
    ·exact absurd h.symm hab
    ·exact O.tr _ _ _ FC (hl1 b h)
   rw[O.oN]at this;cases this
  obtain⟨x,n⟩:=p;simp only[Prod.mk.injEq];constructor
  ·rintro(⟨rfl,rfl⟩|⟨h1,h2,h3⟩|⟨h1,h2,h3⟩)
   ·exact Or.inr ⟨List.mem_cons_self ..,nb,rfl⟩
   ·exact Or.inl ⟨h1,fun e=>by
      rcases fF.1 e with rfl|e
      ·exact nb h1
      ·exact h2 e,h3⟩
   ·exact Or.inr ⟨List.mem_cons_of_mem _ h1,h2,h3⟩
  ·rintro(⟨h1,h2,h3⟩|⟨h1,h2,h3⟩)
   ·exact Or.inr (Or.inl ⟨h1,fun e=>h2 (List.mem_cons_of_mem _ e),h3⟩)
   ·rcases fF.1 h1 with rfl|h1
    ·exact Or.inl ⟨rfl,h3⟩
    ·exact Or.inr (Or.inr ⟨h1,h2,h3⟩)
theorem Gc(O:qD ax fst)(l m:List α)(hl:l.Pairwise fun a b=>fst a b=true)(hm:m.Pairwise fun a b=>fst a b=true):(fU fst l m).Pairwise fun p q=>fst p.1 q.1=true:=by
 induction l,m using fU.induct fst with
 | case1 => rw[fU];exact List.Pairwise.nil
 | case2 b bs ih=>
  obtain⟨hm1,hm2⟩:=List.pairwise_cons.1 hm;rw[fU];refine List.pairwise_cons.2 ⟨fun q hq=> ?_,ih hl hm2⟩;rcases(jI O _ _ hl hm2 q).1 hq with⟨h1,_⟩|⟨h1,_⟩
  ·cases h1
  ·exact hm1 _ h1
 | case3 a az ih=>
  obtain⟨hl1,hl2⟩:=List.pairwise_cons.1 hl;rw[fU];refine List.pairwise_cons.2 ⟨fun q hq=> ?_,ih hl2 hm⟩;rcases(jI O _ _ hl2 hm q).1 hq with⟨h1,_⟩|⟨h1,_⟩
  ·exact hl1 _ h1
  ·cases h1
 | case4 az a bs ih=>
  rw[fU,if_pos rfl];exact ih (List.pairwise_cons.1 hl).2 (List.pairwise_cons.1 hm).2
 | case5 a az b bs hab hf ih=>
  obtain⟨hl1,hl2⟩:=List.pairwise_cons.1 hl;obtain⟨hm1,_⟩:=List.pairwise_cons.1 hm;rw[fU,if_neg hab,if_pos hf];refine List.pairwise_cons.2 ⟨fun q hq=> ?_,ih hl2 hm⟩;rcases(jI O _ _ hl2 hm q).1 hq with⟨h1,_⟩|⟨h1,_⟩
  ·exact hl1 _ h1
  ·rcases fF.1 h1 with h1|h1
   ·rw[h1];exact hf
   ·exact O.tr _ _ _ hf (hm1 _ h1)
 | case6 a az b bs hab hf ih=>
  obtain⟨hl1,_⟩:=List.pairwise_cons.1 hl;obtain⟨hm1,hm2⟩:=List.pairwise_cons.1 hm;have FC:fst b a=true:=O.tot _ _ hab (by cases e:fst a b with|true=>exact absurd e hf|false=>rfl);rw[fU,if_neg hab,if_neg hf];refine List.pairwise_cons.2 ⟨fun q hq=> ?_,ih hl hm2⟩;rcases(jI O _ _ hl hm2 q).1 hq with⟨h1,_⟩|⟨h1,_⟩
  ·rcases fF.1 h1 with h1|h1
   ·rw[h1];exact FC
   ·exact O.tr _ _ _ FC (hl1 _ h1)
  ·exact hm1 _ h1
theorem Oe(O:qD ax fst){l m:List α}(hl:l.Pairwise fun a b=>fst a b=true)(hm:m.Pairwise fun a b=>fst a b=true):((fU fst l m).map Prod.fst).Pairwise (fun a b=>fst a b=true)/\(∀x,x∈(fU fst l m).map Prod.fst↔(x∈l/\x∉m)\/(x∈m/\x∉l))/\fU fst l m=((fU fst l m).map Prod.fst).map fun t=>(t,if t∈m then 1 else -1):=by
 refine⟨List.pairwise_map.2 (Gc O l m hl hm),fun x=> ?_, ?_⟩
 ·rw[mM];constructor
  ·rintro⟨p,hp,rfl⟩;rcases(jI O l m hl hm p).1 hp with⟨h1,h2,_⟩|⟨h1,h2,_⟩
   ·exact Or.inl ⟨h1,h2⟩
   ·exact Or.inr ⟨h1,h2⟩
  ·rintro(⟨h1,h2⟩|⟨h1,h2⟩)
   ·exact⟨(x,-1),(jI O l m hl hm _).2 (Or.inl ⟨h1,h2,rfl⟩),rfl⟩
   ·exact⟨(x,1),(jI O l m hl hm _).2 (Or.inr ⟨h1,h2,rfl⟩),rfl⟩
 ·rw[List.map_map];have:∀p∈fU fst l m,((fun t=>(t,if t∈m then(1:Int)else -1)) ∘ Prod.fst) p=p:=fun p hp=>by
   rcases(jI O l m hl hm p).1 hp with⟨_,h2,h3⟩|⟨h1,_,h3⟩
   ·show(p.1,if p.1∈m then(1:Int)else -1)=p
    rw[if_neg h2,<-h3]
   ·show(p.1,if p.1∈m then(1:Int)else -1)=p
    rw[if_pos h1,<-h3]
  exact(List.map_congr_left this).trans (List.map_id' _)|>.symm
theorem Rp(l m:List α):(fU fst l m).length<=l.length+m.length:=by
 induction l,m using fU.induct fst with
 | case1 => rw[fU];exact Nat.zero_le _
 | case2 b bs ih => rw[fU];simp at ih⊢;omega
 | case3 a az ih => rw[fU];simp at ih⊢;omega
 | case4 az a bs ih => rw[fU,if_pos rfl];simp at ih⊢;omega
 | case5 a az b bs hab hf ih => rw[fU,if_neg hab,if_pos hf];simp at ih⊢;omega
 | case6 a az b bs hab hf ih => rw[fU,if_neg hab,if_neg hf];simp at ih⊢;omega
end
end
end Go.Proofs.YteekbpokkjjipaaGreat
