import Derived.Below
import Derived.Deep.RegionHeld
import Derived.WalkKit
import Derived.WalkSpells
import Derived.Sort.Grow
import Derived.Deep.Draws
import Derived.Maps.OwnOps
import Derived.Maps.OwnSet
import Derived.Maps.RangeWalk
import Derived.Maps.Ext
import Derived.WideKeyEntry
variable{w v:Go.World}{α:Type}{k:Nat}
namespace Go.Proofs.YteekbpokkjjipaaGreat
section
open Go.RowKit Go.Sort
abbrev dK:=@List.length_append
abbrev lC:=@List.length_cons
abbrev nZ:=@Nat.zero_add
abbrev gL:=@List.getElem?_append_left
abbrev U5:=@List.getElem?_append_right
abbrev tL:=@List.take_of_length_le
abbrev nL:=@Nat.lt_of_lt_of_le
abbrev yJ:=@World.cell?_of_block
abbrev aG:=@Array.getElem?_eq_some_iff
abbrev lK:=@List.length_take
abbrev nR:=@Nat.le_refl
abbrev nT:=@Nat.le_trans
abbrev zL:=@Nat.zero_le
abbrev EN:=@List.append_nil
abbrev bA:=@Bool.and_eq_true
abbrev vF:=@List.mem_singleton
abbrev eO:=@List.mem_cons
abbrev oN:=@World.ownsRow_nil
abbrev vS:=@Value.slice.injEq
abbrev tN:=@Int.toNat_natCast
abbrev lQ:=@List.getElem?_eq_none
abbrev bR:=@bodyPost_ret
abbrev dE:=@decide_eq_true_eq
abbrev tO:=@List.take_add_one
abbrev j3:=@List.mem_append
abbrev lM:=@List.mem_of_getElem?
abbrev lG:=@List.getElem?_eq_some_iff
abbrev mR:=@List.mem_range
abbrev oI:=@Option.some.injEq
abbrev nW:=@Nat.not_lt_zero
abbrev qz:=@List.set_cons_zero
abbrev jD:=@List.set_cons_succ
abbrev aI:=@Addr.mk.injEq
abbrev fQ:=@List.length_map
abbrev Y6:=@List.range_succ
abbrev aA:=@List.append_assoc
abbrev oJ:=@Option.some.inj
abbrev gM:=@List.getElem?_map
abbrev iG:=@List.mem_iff_getElem?
abbrev nO:=@Nat.add_zero
abbrev qw:=@List.getElem?_eq_getElem
abbrev gX:=@List.getElem?_set_ne
abbrev lZ:=@List.length_set
abbrev qp:=@List.pairwise_cons
abbrev mO:=@List.mem_cons_of_mem
abbrev nU:=@Nat.lt_trans
abbrev nM:=@Nat.mul_le_mul_right
abbrev zV:=@List.map_append
abbrev mM:=@List.mem_map
abbrev mX:=@List.mem_cons_self
abbrev mF:=@List.mem_filter
abbrev tZ:=@List.take_zero
abbrev tK:=@List.take_length
abbrev lS:=@List.length_singleton
abbrev K4:=@List.flatMap_cons
abbrev qi:=@List.setIfInBounds_toArray
theorem _root_.Go.RowKit.Hid.o{p:Prop}(h:Go.RowKit.Hid p):p:=h
theorem _root_.Go.Shut.o{p:Prop}(h:Go.Shut p):p:=h
theorem aD(a:α):∃x,x=a:=⟨_,rfl⟩
def Gr(w v:World):Prop:=∃q os,v=grow (w.drewN q) os
theorem Gr.refl(w:World):Gr w w:=⟨0,#[],by rw[grow_empty];rfl⟩
theorem Gr.alloc(h:Gr w v)(o:Obj):Gr w (v.alloc o):=by
 obtain⟨q,os,rfl⟩:=h;exact⟨q,os++#[o],by rw[alloc_eq_grow,grow_grow]⟩
theorem Gr.drew(h:Gr w v):Gr w v.drew:=by
 obtain⟨q,os,rfl⟩:=h;exact⟨q+1,os,rfl⟩
theorem Gr.drewN(h:Gr w v)(n:Nat):Gr w (v.drewN n):=by
 obtain⟨q,os,rfl⟩:=h;exact⟨q+n,os,by simp only[World.drewN,grow,Nat.add_assoc]⟩
theorem Gr.grown(h:Gr w v)(os:Array Obj):Gr w (grow v os):=by
 obtain⟨q,os',rfl⟩:=h;exact⟨q,os'++os,by rw[grow_grow]⟩
theorem Gr.trans{u:World}(h:Gr u v)(k:Gr v w):Gr u w:=by
 obtain⟨q,os,rfl⟩:=k;exact(h.drewN q).grown os
theorem Gr.below(h:Gr w v):Below w.heap.size w v:=by
 obtain⟨q,os,rfl⟩:=h;exact⟨rfl,rfl,rfl,by simp[World.drewN],fun k hk=>heap_grow_old (w.drewN q) os hk⟩
theorem Gr.size(h:Gr w v):w.heap.size<=v.heap.size:=h.below.size
theorem Gr.cell{w v:World}(h:Gr w v){b o:Nat}(hb:b<w.heap.size):v.cell? ⟨b,o,none⟩=w.cell? ⟨b,o,none⟩:=h.below.cell (p:=⟨b,o,none⟩) hb
theorem Gr.frozen(h:Gr w v){b o:Nat}(hb:b<w.heap.size):v.frozen? ⟨b,o,none⟩=w.frozen? ⟨b,o,none⟩:=h.below.frozen (p:=⟨b,o,none⟩) hb
theorem Gr.cells(h:Gr w v):(∀b o,b<w.heap.size->v.cell? ⟨b,o,none⟩=w.cell? ⟨b,o,none⟩)/\(∀b o,b<w.heap.size->v.frozen? ⟨b,o,none⟩=w.frozen? ⟨b,o,none⟩):=
 ⟨fun _ _ hb=>h.cell hb,fun _ _ hb=>h.frozen hb⟩
theorem Er{W w1:World}(hb:Below W.heap.size W w1):(∀b o,b<W.heap.size->w1.cell? ⟨b,o,none⟩=W.cell? ⟨b,o,none⟩)/\(∀b o,b<W.heap.size->w1.frozen? ⟨b,o,none⟩=W.frozen? ⟨b,o,none⟩):=
 ⟨fun b o h=>hb.cell (p:=⟨b,o,none⟩) h,fun b o h=>hb.frozen (p:=⟨b,o,none⟩) h⟩
end
section
open Go.RowKit Go.Sort Go.Maps
structure KK(P:Program)(k:TypeId)(K:Type) where
 enc:K->Value
 lit:K->Lit
 law:Keyed P k
 key:∀s,keyOf P k (enc s)=some (lit s)
 inv:∀v l,keyOf P k v=some l->∃s,v=enc s/\l=lit s
 inj:∀s t,lit s=lit t->s=t
abbrev nd(n:Int):DataW Unit:= .lit (.int .i64 n)
section
variable {P:Program} {k e:TypeId} {K:Type} [DecidableEq K]
omit [DecidableEq K]in
theorem KK.isKey(Z:KK P k K)(s:K):WideAt.IsKeyLit (Z.lit s):=Z.law.key (Z.key s)
theorem KK.same(Z:KK P k K)(s t:K):(Z.lit s).sameKey (Z.lit t)=decide (s=t):=by
 have h:=WideAt.sameKey_iff (a:=Z.lit s) (Z.isKey t);by_cases e:s=t
 ·subst e;rw[decide_eq_true rfl];exact h.2 rfl
 ·rw[decide_eq_false e];cases hq:(Z.lit s).sameKey (Z.lit t)with
  | false => rfl
  | true => exact absurd (Z.inj _ _ (h.1 hq)) e
def upd(f:K->Int)(s:K)(v:Int):K->Int:=fun t=>if t=s then v else f t
omit [DecidableEq K]in
theorem upd_same[DecidableEq K](f:K->Int)(s:K)(v:Int):upd f s v s=v:=by simp[upd]
omit [DecidableEq K]in
theorem bZ[DecidableEq K](f:K->Int){s t:K}(v:Int)(h:t≠s):upd f s v t=f t:=by simp[upd,h]
def Ta(Z:KK P k K)(e:TypeId)(w:World)(b n:Nat)(f:K->Int):Prop:=
 ∃D:DataW Unit,w.ownsMap P k (plainElem P e) b n D/\(∀s,D.atKey (Z.lit s) (nd 0)=nd (f s))/\∀s,Maps.has D (Z.lit s)=decide (f s≠0)
def qj(f:K->Int)(ks:List K):Prop:=ks.Nodup/\∀s,s∈ks↔f s≠0
variable {Z:KK P k K} {w w':World} {b n:Nat} {f:K->Int} {D:DataW Unit}
omit [DecidableEq K]in
theorem Ta.lt(h:Ta Z e w b n f):b<w.heap.size:=by obtain⟨D,h,_⟩:=h;exact h.lt
omit [DecidableEq K]in
theorem Ta.mono(h:Ta Z e w b n f){m:Nat}(hm:n<=m):Ta Z e w b m f:=by obtain⟨D,h1,h2⟩:=h;exact⟨D,h1.mono hm,h2⟩
omit [DecidableEq K]in
theorem Ta.kept(h:Ta Z e w b n f)(hb:w'.heap[b]? =w.heap[b]?):Ta Z e w' b n f:=by
 obtain⟨D,⟨es,clock,h1,h2⟩,h3⟩:=h;exact⟨D,⟨es,clock,hb.trans h1,h2⟩,h3⟩
omit [DecidableEq K]in
theorem Ta.made(w:World):Ta Z e (w.alloc (.map #[] 0)) w.heap.size 0 fun _=>0:=
 ⟨.map [],World.ownsMap_made _ _ _ _,fun _=>rfl,fun _=>rfl⟩
theorem C9(hD:IsMap D)(h1:∀s,D.atKey (Z.lit s) (nd 0)=nd (f s))(h2:∀s,Maps.has D (Z.lit s)=decide (f s≠0))(s:K)(v:Int)(hv:v≠0):
    (∀t,(D.put (Z.lit s) (nd v)).atKey (Z.lit t) (nd 0)=nd (upd f s v t))/\∀t,Maps.has (D.put (Z.lit s) (nd v)) (Z.lit t)=decide (upd f s v t≠0):=by
 refine⟨fun t=> ?_,fun t=> ?_⟩
 ·by_cases ht:t=s
  ·subst ht;rw[upd_same];exact atKey_put_same hD (Z.isKey t) _ _
  ·rw[bZ _ _ ht,atKey_put_other (fun e=>ht (Z.inj _ _ e))];exact h1 t
 ·by_cases ht:t=s
  ·subst ht;rw[upd_same,has_put_same hD (Z.isKey t)];simp[hv]
  ·rw[bZ _ _ ht,has_put_other (fun e=>ht (Z.inj _ _ e))];exact h2 t
theorem Ed(h1:∀s,D.atKey (Z.lit s) (nd 0)=nd (f s))(h2:∀s,Maps.has D (Z.lit s)=decide (f s≠0))(s:K):
    (∀t,(D.del (Z.lit s)).atKey (Z.lit t) (nd 0)=nd (upd f s 0 t))/\∀t,Maps.has (D.del (Z.lit s)) (Z.lit t)=decide (upd f s 0 t≠0):=by
 refine⟨fun t=> ?_,fun t=> ?_⟩
 ·by_cases ht:t=s
  ·subst ht;rw[upd_same];exact atKey_del_same _
  ·rw[bZ _ _ ht,atKey_del_other (fun e=>ht (Z.inj _ _ e))];exact h1 t
 ·by_cases ht:t=s
  ·subst ht;rw[upd_same,has_del_same];simp
  ·rw[bZ _ _ ht,has_del_other (fun e=>ht (Z.inj _ _ e))];exact h2 t
def nP(Z:KK P k K)(D:DataW Unit)(left:Lit->Bool)(ss:List K):Prop:=ss.Nodup/\∀x,x∈ss↔(Maps.has D (Z.lit x)=true/\left (Z.lit x)=false)
omit [DecidableEq K]in
theorem nP.start(D:DataW Unit):nP Z D (Maps.has D) []:=⟨List.nodup_nil,fun x=>by cases Maps.has D (Z.lit x)<;>simp⟩
theorem nP.step{left:Lit->Bool}{ss:List K}(h:nP Z D left ss){x:K}{y:DataW Unit}(hlk:left (Z.lit x)=true)(hat:∀zd,D.atKey (Z.lit x) zd=y):nP Z D (fun z=>left z && !z.sameKey (Z.lit x)) (ss++[x]):=by
 have hhas:Maps.has D (Z.lit x)=true:=has_true_of_atKey hat;have hnew:x∉ss:=fun hx=>by have:=((h.2 x).1 hx).2;rw[hlk]at this;cases this
 refine⟨List.nodup_append.2 ⟨h.1,by simp,fun a ha b hb=>by simp at hb;subst hb;exact fun e=>hnew (e ▸ ha)⟩,fun y=> ?_⟩;by_cases hy:y=x
 ·subst hy;simp[hhas,Z.same]
 ·simp[h.2 y,hy,Z.same]
omit [DecidableEq K]in
theorem nP.sup{left:Lit->Bool}{ss:List K}(h:nP Z D left ss)(h2:∀s,Maps.has D (Z.lit s)=decide (f s≠0))(hl:∀kl,left kl=false):qj f ss:=
 ⟨h.1,fun s=>by rw[h.2 s,hl,h2];simp⟩
theorem dO[DecidableEq α]:∀{l m:List α},l.Nodup->(∀x∈l,x∈m)->l.length<=m.length
 | [], _, _, _ => zL _
 | a::l, m, hn, hs => by
  have hn':=List.nodup_cons.1 hn;have h:=dO (l:=l) (m:=m.erase a) hn'.2 (fun x hx=>(List.mem_erase_of_ne (fun(e:x=a)=>hn'.1 (e ▸ hx))).2 (hs x (mO _ hx)));have h2:=List.length_erase_of_mem (hs a mX);have h3:=List.length_pos_of_mem (hs a mX);simp only[lC];omega
theorem qj.le{ks ms:List K}(h:qj f ks)(hs:∀s,f s≠0->s∈ms):ks.length<=ms.length:=dO h.1 fun x hx=>hs x ((h.2 x).1 hx)
omit [DecidableEq K]in
theorem qj.perm{ks ms:List K}(h:qj f ks)(h2:qj f ms):ks.Perm ms:=(List.perm_ext_iff_of_nodup h.1 h2.1).2 fun x=>(h.2 x).trans (h2.2 x).symm
omit [DecidableEq K]in
theorem mK(h:w.ownsMap P k (plainElem P e) b n D)(h2:∀s,Maps.has D (Z.lit s)=decide (f s≠0)):∃ks,qj f ks/\ks.length=Maps.size D:=by
 obtain⟨es,hD,hpw,hik⟩:=h.entries Z.law;obtain⟨es',clock,hb,F,_,hD'⟩:=h;have hke:∀p∈es,∃s,p.1=Z.lit s:=fun p hp=>by
  have e1:es=(es'.toList.map (WideElems.rg P k (plainElem P e))).foldr DataW.insert []:=by rw[hD]at hD';simpa using hD'
  rw[e1]at hp;obtain⟨v,hv⟩:=fit_keys F p (mem_sorted.1 hp);obtain⟨s,_,hs⟩:=Z.inv v p.1 hv;exact⟨s,hs⟩
 subst hD;clear hD';have key:∀l:List (Lit×DataW Unit),(∀p∈l,∃s,p.1=Z.lit s)->∃ks:List K,l.map (·.1)=ks.map Z.lit:=by
  intro l
  induction l with
  | nil => exact fun _=>⟨[],rfl⟩
  | cons p l ih=>
   intro hl;obtain⟨s,hs⟩:=hl p mX;obtain⟨ks,hks⟩:=ih fun q hq=>hl q (mO _ hq);exact⟨s::ks,by simp[hs,hks]⟩
 obtain⟨ks,hks⟩:=key es hke;refine⟨ks,⟨?_,fun s=> ?_⟩, ?_⟩
 ·have h1:(es.map (·.1)).Pairwise (·≠·):=List.pairwise_map.2 hpw;rw[hks,List.pairwise_map]at h1;exact h1.imp fun {a b} hne e=>hne (by rw[e])
 ·have h3:=h2 s;rw[has_eq]at h3;constructor
  ·intro hs;have hm:Z.lit s∈es.map (·.1):=(by rw[hks];exact List.mem_map_of_mem hs);obtain⟨p,hp,hpe⟩:=mM.1 hm;have:es.any (fun p=>p.1.sameKey (Z.lit s))=true:=List.any_eq_true.2 ⟨p,hp,by rw[hpe];exact WideAt.sameKey_self (Z.isKey s)⟩;rw[this]at h3;simpa using h3.symm
  ·intro hf;rw[decide_eq_true hf]at h3;obtain⟨p,hp,hq⟩:=List.any_eq_true.1 h3;have hpe:=(WideAt.sameKey_iff (Z.isKey s)).1 hq;have hm:p.1∈es.map (·.1):=List.mem_map_of_mem hp;rw[hks,hpe]at hm;obtain⟨t,ht,hte⟩:=mM.1 hm;exact Z.inj _ _ hte ▸ ht
 ·have:=congrArg List.length hks;simpa[Maps.size]using this.symm
end
end
section
section
variable {α:Type} (au fst:α->α->Bool)
def bG(l:List α)(v:α):Bool:=l.any (fun x=>au x v)
def dF(l:List α)(v:α):List α:=l.filter (fun x=> !au v x)
def xH(l:List α)(v:α):List α:=l.take (l.findIdx (fun y=>fst v y))++v::l.drop (l.findIdx (fun y=>fst v y))
def gq(l:List α)(v:α):List α:=if bG au l v then l else xH fst (dF au l v) v
def bu(l vs:List α):List α:=vs.foldl (gq au fst) l
def kI(l:List α):List α->Nat
 | [] => 0
 | v::vs => (if bG au l v then 0 else 1)+kI (gq au fst l v) vs
variable {au fst}
theorem xO(l:List α)(v:α)(vs:List α):bu au fst l (v::vs)=bu au fst (gq au fst l v) vs:=rfl
theorem ja(l vs us:List α):bu au fst l (vs++us)=bu au fst (bu au fst l vs) us:=by
 simp[bu]
theorem uJ{l vs:List α}{v:α}(h:vs[k]? =some v):bu au fst l (vs.take (k+1))=gq au fst (bu au fst l (vs.take k)) v:=by
 rw[tO,h,ja];rfl
theorem gF(l:List α)(v:α):(dF au l v).length<=l.length:=List.length_filter_le _ _
theorem uj(l:List α)(v:α):(xH fst l v).length=l.length+1:=by
 simp[xH];omega
theorem Ep(l:List α)(v:α):(gq au fst l v).length<=l.length+1:=by
 unfold gq;split
 ·omega
 ·rw[uj];have:=gF (au:=au) l v;omega
theorem gN(l vs:List α):(bu au fst l vs).length<=l.length+vs.length:=by
 induction vs generalizing l with
 | nil => simp[bu]
 | cons v vs ih=>
  have h1:=ih (gq au fst l v);have h2:=Ep (au:=au) (fst:=fst) l v;rw[xO];simp only[lC];omega
theorem qX{l:List α}{v x:α}:x∈xH fst l v↔x=v\/x∈l:=by
 unfold xH;constructor
 ·intro h;rcases j3.1 h with h|h
  ·exact Or.inr (List.mem_of_mem_take h)
  ·rcases eO.1 h with h|h
   ·exact Or.inl h
   ·exact Or.inr (List.mem_of_mem_drop h)
 ·intro h;rcases h with h|h
  ·subst h;simp
  ·rw[<-List.take_append_drop (l.findIdx fun y=>fst v y) l]at h;rcases j3.1 h with h|h
   ·exact j3.2 (Or.inl h)
   ·exact j3.2 (Or.inr (mO _ h))
theorem mY{l:List α}{v x:α}:x∈dF au l v↔x∈l/\au v x=false:=by
 simp[dF,List.mem_filter]
theorem cO{l:List α}{v:α}:bG au l v=true↔∃x∈l,au x v=true:=by
 simp[bG]
theorem Hy{l:List α}{v:α}:bG au l v=false↔∀x∈l,au x v=false:=by
 simp[bG]
structure rO(au fst:α->α->Bool):Prop where
 refl:∀a,au a a=true
 trans:∀a b c,au a b=true->au b c=true->au a c=true
 XY:∀a b,au a b=true->au b a=true->a=b
 p9:∀a,fst a a=false
 tr:∀a b c,fst a b=true->fst b c=true->fst a c=true
 tot:∀a b,a≠b->fst a b=false->fst b a=true
def Good(au fst:α->α->Bool)(l:List α):Prop:=l.Pairwise fun a b=>fst a b=true/\au a b=false/\au b a=false
theorem fZ{l:List α}{p:α->Bool}{x:α}(h:x∈l.take (l.findIdx p)):p x=false:=by
 obtain⟨i,hi,rfl⟩:=List.mem_iff_getElem.1 h;rw[List.getElem_take];have hi':i<l.findIdx p:=by simp at hi;omega
 have:=List.not_of_lt_findIdx (p:=p) (xs:=l) hi';simpa using this
theorem rC(O:rO au fst){l:List α}(hl:l.Pairwise fun a b=>fst a b=true){v x:α}(h:x∈l.drop (l.findIdx fun y=>fst v y)):fst v x=true:=by
 induction l with
 | nil => simp at h
 | cons y l ih=>
  rw[qp]at hl;rw[List.findIdx_cons]at h;cases hy:fst v y with
  | true=>
   rw[hy]at h;simp at h;rcases h with rfl|h
   ·exact hy
   ·exact O.tr _ _ _ hy (hl.1 _ h)
  | false=>
   rw[hy]at h;simp at h;exact ih hl.2 h
theorem DV{l:List α}(h:Good au fst l)(v:α):Good au fst (dF au l v):=List.Pairwise.filter _ h
theorem OQ(O:rO au fst){l:List α}(h:Good au fst l)(v:α):Good au fst (gq au fst l v):=by
 unfold gq;split
 ·exact h
 ·rename_i hc;have hc:bG au l v=false:=by simpa using hc
  rw[Hy]at hc;have hg:=DV h v;have hm:∀x∈dF au l v,au x v=false/\au v x=false:=fun x hx=>⟨hc x (mY.1 hx).1,(mY.1 hx).2⟩;generalize dF au l v=m at hg hm;have hs:m.Pairwise fun a b=>fst a b=true:=hg.imp (fun h=>h.1);unfold Good xH;have hsplit:(m.take (m.findIdx fun y=>fst v y)++m.drop (m.findIdx fun y=>fst v y)).Pairwise fun a b=>fst a b=true/\au a b=false/\au b a=false:=by rw[List.take_append_drop];exact hg
  rw[List.pairwise_append]at hsplit;refine List.pairwise_append.2 ⟨hsplit.1,qp.2 ⟨?_,hsplit.2.1⟩, ?_⟩
  ·intro x hx;have hxm:=List.mem_of_mem_drop hx;exact⟨rC O hs hx,(hm x hxm).2,(hm x hxm).1⟩
  ·intro a ha b hb;rcases eO.1 hb with rfl|hb
   ·have ham:=List.mem_of_mem_take ha;have hf:=fZ ha;refine⟨O.tot _ _ ?_ hf,hm a ham⟩;rintro rfl;have:=(hm _ ham).1;rw[O.refl]at this;cases this
   ·exact hsplit.2.2 a ha b hb
theorem oF(O:rO au fst){l:List α}(h:Good au fst l)(vs:List α):Good au fst (bu au fst l vs):=by
 induction vs generalizing l with
 | nil => exact h
 | cons v vs ih => exact ih (OQ O h v)
theorem xw:Good au fst ([]:List α):=List.Pairwise.nil
theorem SY(O:rO au fst)(l:List α)(v:α):bG au (gq au fst l v) v=true:=by
 unfold gq;split
 ·assumption
 ·exact cO.2 ⟨v,qX.2 (Or.inl rfl),O.refl v⟩
theorem BC(O:rO au fst){l:List α}{x:α}(v:α)(h:bG au l x=true):bG au (gq au fst l v) x=true:=by
 unfold gq;split
 ·exact h
 ·obtain⟨y,hy,hyx⟩:=cO.1 h;cases hv:au v y with
  | true => exact cO.2 ⟨v,qX.2 (Or.inl rfl),O.trans _ _ _ hv hyx⟩
  | false => exact cO.2 ⟨y,qX.2 (Or.inr (mY.2 ⟨hy,hv⟩)),hyx⟩
theorem RF{l:List α}{x v:α}(h:x∈gq au fst l v):x=v\/x∈l:=by
 unfold gq at h;split at h
 ·exact Or.inr h
 ·rcases qX.1 h with h|h
  ·exact Or.inl h
  ·exact Or.inr (mY.1 h).1
theorem jZ(O:rO au fst){l:List α}{x:α}(vs:List α)(h:bG au l x=true):bG au (bu au fst l vs) x=true:=by
 induction vs generalizing l with
 | nil => exact h
 | cons v vs ih => exact ih (BC O v h)
theorem nE(O:rO au fst)(l:List α){vs:List α}{x:α}(h:x∈vs):bG au (bu au fst l vs) x=true:=by
 induction vs generalizing l with
 | nil => simp at h
 | cons v vs ih=>
  rcases eO.1 h with rfl|h
  ·exact jZ O vs (SY O l x)
  ·exact ih _ h
theorem qW{l vs:List α}{x:α}(h:x∈bu au fst l vs):x∈vs\/x∈l:=by
 induction vs generalizing l with
 | nil => exact Or.inr h
 | cons v vs ih=>
  rcases ih h with h|h
  ·exact Or.inl (mO _ h)
  ·rcases RF h with rfl|h
   ·exact Or.inl (by simp)
   ·exact Or.inr h
theorem DU{l:List α}(h:Good au fst l){i j:Nat}{a b:α}(ha:l[i]? =some a)(hb:l[j]? =some b)(hne:i≠j):au a b=false:=by
 obtain⟨hi,rfl⟩:=lG.1 ha;obtain⟨hj,rfl⟩:=lG.1 hb;rcases Nat.lt_or_gt_of_ne hne with h1|h1
 ·exact(List.pairwise_iff_getElem.1 h i j hi hj h1).2.1
 ·exact(List.pairwise_iff_getElem.1 h j i hj hi h1).2.2
theorem Ke(O:rO au fst){vs:List α}{x:α}:x∈bu au fst [] vs↔x∈vs/\∀y∈vs,au y x=true->y=x:=by
 have hg:=oF O (xw (au:=au) (fst:=fst)) vs;constructor
 ·intro h;have hx:x∈vs:=by
   rcases qW h with h|h
   ·exact h
   ·simp at h
  refine⟨hx,fun y hy hyx=> ?_⟩;obtain⟨z,hz,Ui⟩:=cO.1 (nE O [] hy);have hzx:=O.trans _ _ _ Ui hyx;have:z=x:=by
   obtain⟨i,hi⟩:=iG.1 hz;obtain⟨j,hj⟩:=iG.1 h;by_cases hij:i=j
   ·subst hij;rw[hi]at hj;exact oJ hj
   ·have:=DU hg hi hj hij;rw[hzx]at this;cases this
  subst this;exact O.XY _ _ hyx Ui
 ·rintro⟨hx,hm⟩;obtain⟨z,hz,hzx⟩:=cO.1 (nE O [] hx);have hzv:z∈vs:=by
   rcases qW hz with h|h
   ·exact h
   ·simp at h
  rw[hm z hzv hzx]at hz;exact hz
theorem tT(O:rO au fst){l m:List α}(hl:l.Pairwise fun a b=>fst a b=true)(hm:m.Pairwise fun a b=>fst a b=true)(h:∀x,x∈l↔x∈m):l=m:=by
 induction l generalizing m with
 | nil=>
  cases m with
  | nil => rfl
  | cons b m => exact absurd ((h b).2 (by simp)) (by simp)
 | cons a l ih=>
  cases m with
  | nil => exact absurd ((h a).1 (by simp)) (by simp)
  | cons b m=>
   rw[qp]at hl hm;have hab:a=b:=by
    by_cases e:a=b
    ·exact e
    ·have h1:=(h a).1 (by simp);have h2:=(h b).2 (by simp);rcases eO.1 h1 with h1|h1
     ·exact h1
     rcases eO.1 h2 with h2|h2
     ·exact h2.symm
     have:=O.tr _ _ _ (hl.1 b h2) (hm.1 a h1);rw[O.p9]at this;cases this
   subst hab;rw[ih hl.2 hm.2 (fun x=> ?_)];constructor
   ·intro hx;rcases eO.1 ((h x).1 (mO _ hx))with rfl|h1
    ·have:=hl.1 _ hx;rw[O.p9]at this;cases this
    ·exact h1
   ·intro hx;rcases eO.1 ((h x).2 (mO _ hx))with rfl|h1
    ·have:=hm.1 _ hx;rw[O.p9]at this;cases this
    ·exact h1
end
open Go.RowKit Go.Sort Go.Maps Go.WideMaps Go.WideElems
open Go.ChangeMaps (setBlock heap_setBlock_same modify_eq_set)
section
variable {P:Program} {k e t:TypeId} {K:Type}
def Mq(Z:KK P k K)(e:TypeId)(w:World)(b n:Nat)(f:K->Int)(ks:List K):Prop:=
 ∃D:DataW Unit,w.ownsMap P k (plainElem P e) b n D/\(∀s,D.atKey (Z.lit s) (nd 0)=nd (f s))/\∀s,Maps.has D (Z.lit s)=true↔s∈ks
variable {Z:KK P k K} {w w':World} {b n:Nat} {f:K->Int} {ks:List K} {D:DataW Unit}
theorem Mq.lt(h:Mq Z e w b n f ks):b<w.heap.size:=by obtain⟨D,h,_⟩:=h;exact h.lt
theorem Mq.kept(h:Mq Z e w b n f ks)(hb:w'.heap[b]? =w.heap[b]?):Mq Z e w' b n f ks:=by
 obtain⟨D,⟨es,clock,h1,h2⟩,h3⟩:=h;exact⟨D,⟨es,clock,hb.trans h1,h2⟩,h3⟩
theorem Mq.made(w:World):Mq Z e (w.alloc (.map #[] 0)) w.heap.size 0 (fun _=>0) []:=
 ⟨.map [],World.ownsMap_made _ _ _ _,fun _=>rfl,fun s=>by rw[show Maps.has (DataW.map (H:=Unit) []) (Z.lit s)=false from rfl];simp⟩
variable [DecidableEq K]
theorem yV(hD:IsMap D)(h1:∀s,D.atKey (Z.lit s) (nd 0)=nd (f s))(h2:∀s,Maps.has D (Z.lit s)=true↔s∈ks)(s:K)(v:Int):
    (∀t,(D.put (Z.lit s) (nd v)).atKey (Z.lit t) (nd 0)=nd (upd f s v t))/\∀t,Maps.has (D.put (Z.lit s) (nd v)) (Z.lit t)=true↔t∈ks++[s]:=by
 refine⟨fun t=> ?_,fun t=> ?_⟩
 ·by_cases ht:t=s
  ·subst ht;rw[upd_same];exact atKey_put_same hD (Z.isKey t) _ _
  ·rw[bZ _ _ ht,atKey_put_other (fun e=>ht (Z.inj _ _ e))];exact h1 t
 ·by_cases ht:t=s
  ·subst ht;rw[has_put_same hD (Z.isKey t)];simp
  ·rw[has_put_other (fun e=>ht (Z.inj _ _ e)),h2 t];simp[ht]
theorem G8{R:Value->Option (DataW Unit×List MemPlace)}{es:Array MapEntry}{clock:Nat}(L:KeyLaw P k)(ht:P.underlying t=some (.map k e)){z:Value}(hz:∀u:World,(zeroValue e).run P u= .ok z u)(hb:w.heap[b]? =some (.map es clock))(F:Fit P k R es clock)
    {key:Value} {kl:Lit} (hkey:keyOf P k key=some kl) :
    ∃(v0:Value) (st:Nat) (w1:World),(Instr.mapEntry t (.map (some b)) key).run P w= .ok (.tuple #[v0,goInt st]) w1/\
     (w1=w\/((Instr.mapUpdate t (.map (some b)) key z).run P w= .ok () w1/\(Instr.lookup t (.map (some b)) key false).run P w= .ok z w))/\
     ∀val:Value,∃w2,(Instr.entryStore t (.map (some b)) (goInt st) val).run P w1= .ok () w2/\(Instr.mapUpdate t (.map (some b)) key val).run P w= .ok () w2:=by
 obtain⟨v0,st,es1,clock1,hE,_,hS⟩:=entry_then_store L ht hz hb F hkey;refine⟨v0,st,_,hE, ?_,fun val=> ?_⟩
 ·rcases L.find w hkey es.toList F.keys with⟨h1,h2⟩|⟨j,e0,h1,h2,h3⟩
  ·right
   have hx:(Instr.mapEntry t (.map (some b)) key).run P w= .ok (.tuple #[z,goInt clock]) (setBlock w b (.map (es.push ⟨key,z,clock⟩) (clock+1))):=by
    simp[Instr.mapEntry,run_underlying ht,MapKept.run_getObj_map hb,L.check w false hkey,h1,hz,MapKept.run_setObj_map _ hb,Result.andThen,setBlock]
   rw[hx]at hE;injection hE with _ hw;rw[<-hw];refine⟨?_, ?_⟩
   ·simp[Instr.mapUpdate,run_underlying ht,MapKept.run_getObj_map hb,L.check w false hkey,h1,MapKept.run_setObj_map _ hb,Result.andThen,setBlock]
   ·simp[Instr.lookup,run_underlying ht,MapKept.run_getObj_map hb,L.check w es.isEmpty hkey,h1,hz,Result.andThen]
  ·left
   have hj:es[j]? =some e0:=(by simpa using h2);have hsame:es.modify j (fun e=>{ e with key:=key })=es:=by
    apply Array.ext';rw[Array.toList_modify,modify_eq_set _ _ _ _ h2];have:({ e0 with key:=key }:MapEntry)=e0:=(by rw[<-h3]);rw[this];exact set_self _ _ _ h2
   have hx:(Instr.mapEntry t (.map (some b)) key).run P w= .ok (.tuple #[e0.val,goInt e0.born]) (setBlock w b (.map es clock)):=by
    simp[Instr.mapEntry,run_underlying ht,MapKept.run_getObj_map hb,L.check w false hkey,h1,hj,h3,L.stays w hkey,hsame,MapKept.run_setObj_map _ hb,Result.andThen,setBlock]
   rw[hx]at hE;injection hE with _ hw;rw[<-hw];obtain⟨hlt,hval⟩:=aG.1 hb;have:w.heap.setIfInBounds b (.map es clock)=w.heap:=by
    rw[<-hval];apply Array.ext';rw[Array.toList_setIfInBounds,set_self];simp
   unfold setBlock;rw[this]
 ·obtain⟨es',clock',h1,h2⟩:=hS (setBlock w b (.map es1 clock1)) val (heap_setBlock_same hb _);refine⟨_,h1, ?_⟩;rw[h2];simp[setBlock]
theorem Mq.bump(h:Mq Z e w b n f ks)(L:KeyLaw P k)(ht:P.underlying t=some (.map k e))(he:P.underlying e=some (.int .i64))(hz:∀u:World,(zeroValue e).run P u= .ok (.int .i64 0) u)(hn:n<maxLen)(x:K)(v:Int)(hv:(Lit.int .i64 v).wf=true):
    ∃(v0:Value) (st:Nat) (w1 w2:World),(Instr.lookup t (.map (some b)) (Z.enc x) false).run P w= .ok (.int .i64 (f x)) w/\(Instr.mapEntry t (.map (some b)) (Z.enc x)).run P w= .ok (.tuple #[v0,goInt st]) w1/\
     (Instr.lookup t (.map (some b)) (Z.enc x) false).run P w1= .ok (.int .i64 (f x)) w1/\(Instr.entryStore t (.map (some b)) (goInt st) (.int .i64 v)).run P w1= .ok () w2/\
     Mq Z e w2 b (n+1) (upd f x v) (ks++[x])/\w.grownBy w1 (some b)/\w.grownBy w2 (some b):=by
 obtain⟨D,hown,h1,h2⟩:=h;have hx:=h1 x;obtain⟨c,hlk,hat,_⟩:=hown.lookup_int Z.law ht he (hz w) (Z.key x);have e0:c=f x:=by
  rw[hx]at hat;simpa using hat.symm
 subst e0;obtain⟨es,clock,hb,F,hs,hD⟩:=id hown;obtain⟨v0,st,w1,hE,hw1,hS⟩:=G8 L ht hz hb F (Z.key x);obtain⟨w2,hst,hup⟩:=hS (.int .i64 v);obtain⟨w2',ZN,hown2,Ws⟩:=hown.store Z.law ht hn (Z.key x) (plainElem_int he hv);rw[hup]at ZN;injection ZN with _ hw;subst hw;have ht2:=yV hown.isMap h1 h2 x v;refine⟨v0,st,w1,w2,hlk,hE, ?_,hst,⟨_,hown2,ht2.1,ht2.2⟩, ?_,Ws.grown⟩
 ·rcases hw1 with rfl|⟨hw1,hlz⟩
  ·exact hlk
  ·obtain⟨w1',Oj,hown1,hturn1⟩:=hown.store Z.law ht hn (Z.key x) (plainElem_int (a:=0) he (by decide));rw[hw1]at Oj;obtain⟨-,rfl⟩:=Result.ok.inj Oj;obtain⟨c,abo,aao,_⟩:=hown1.lookup_int Z.law ht he (hz w1) (Z.key x);have hp:=(yV hown.isMap h1 h2 x 0).1 x;rw[upd_same]at hp;rw[hp]at aao;have hc0:c=0:=(by simpa using aao.symm);rw[hlk]at hlz;have hv0:=(Result.ok.inj hlz).1;rw[hv0];subst hc0;exact abo
 ·rcases hw1 with rfl|⟨hw1,_⟩
  ·exact⟨rfl,rfl,rfl,nR _,fun _ _ _=>rfl⟩
  ·obtain⟨w1',Oj,hown1,hturn1⟩:=hown.store Z.law ht hn (Z.key x) (plainElem_int (a:=0) he (by decide));rw[hw1]at Oj;obtain⟨-,rfl⟩:=Result.ok.inj Oj;exact hturn1.grown
end
end
section
open Go.RowKit
section
variable {α:Type} (au fst:α->α->Bool)
def lD(s:List α×List α)(d:α×Int):List α×List α:=
 if d.2<=0 then(dF au s.1 d.1,if (dF au s.1 d.1).length<s.1.length then s.2++[d.1]else s.2)else s
def fB(s:List α×List α)(us:List (α×Int)):List α×List α:=us.foldl (lD au) s
def nH(f:α->Int)(l F G:List α)(k:Nat):List α:=if 0<G.length/\F.length<k then bu au fst F (l.filter fun t=> !(decide (f t<=0)|| !bG au G t))else F
def Ef(f:α->Int)(l fr:List α)(us:List (α×Int))(k:Nat):List α:=
 bu au fst (nH au fst f l (fB au (fr,[]) us).1 (fB au (fr,[]) us).2 k) ((us.filter fun d=>decide (0<d.2)).map Prod.fst)
end
section
variable {α:Type} {au fst:α->α->Bool}
theorem sO(s:List α×List α)(d:α×Int)(us:List (α×Int)):fB au s (d::us)=fB au (lD au s d) us:=rfl
theorem xG{s:List α×List α}{us:List (α×Int)}{d:α×Int}(h:us[k]? =some d):fB au s (us.take (k+1))=lD au (fB au s (us.take k)) d:=by
 unfold fB;rw[tO,h,List.foldl_append];rfl
theorem KE{s:List α×List α}(h:Good au fst s.1)(d:α×Int):Good au fst (lD au s d).1:=by
 unfold lD;split
 ·exact DV h d.1
 ·exact h
theorem KG(us:List (α×Int)):∀(s:List α×List α),Good au fst s.1->Good au fst (fB au s us).1:=by
 induction us with
 | nil => exact fun s h=>h
 | cons d us ih => exact fun s h=>ih _ (KE h d)
theorem wR{s:List α×List α}{d:α×Int}{x:α}:x∈(lD au s d).1↔x∈s.1/\(d.2<=0->au d.1 x=false):=by
 unfold lD;split
 ·rename_i h;rw[mY];exact⟨fun⟨h1,h2⟩=>⟨h1,fun _=>h2⟩,fun⟨h1,h2⟩=>⟨h1,h2 h⟩⟩
 ·rename_i h;exact⟨fun h1=>⟨h1,fun e=>absurd e h⟩,fun h1=>h1.1⟩
theorem Ns(us:List (α×Int)):∀(s:List α×List α) (x:α),x∈(fB au s us).1↔x∈s.1/\∀d∈us,d.2<=0->au d.1 x=false:=by
 induction us with
 | nil => exact fun s x=>⟨fun h=>⟨h,fun d hd=>by cases hd⟩,fun h=>h.1⟩
 | cons d us ih=>
  intro s x;rw[sO,ih,wR];constructor
  ·rintro⟨⟨h1,h2⟩,h3⟩;refine⟨h1,fun d' hd'=> ?_⟩;rcases eO.1 hd' with rfl|hd'
   ·exact h2
   ·exact h3 d' hd'
  ·rintro⟨h1,h2⟩;exact⟨⟨h1,h2 d (mX ..)⟩,fun d' hd'=>h2 d' (mO _ hd')⟩
theorem KD{s:List α×List α}(d:α×Int){x:α}(h:x∈s.2):x∈(lD au s d).2:=by
 unfold lD;split
 ·show x∈(if _ then _ else _);split
  ·exact List.mem_append_left _ h
  ·exact h
 ·exact h
theorem KF(us:List (α×Int)):∀(s:List α×List α) {x:α},x∈s.2->x∈(fB au s us).2:=by
 induction us with
 | nil => exact fun s x h=>h
 | cons d us ih => exact fun s x h=>ih _ (KD d h)
theorem Pj{l:List α}{v x:α}(hx:x∈l)(hb:au v x=true):(dF au l v).length<l.length:=by
 unfold dF;refine Nat.lt_of_le_of_ne (List.length_filter_le _ _) (fun e=> ?_);have:=List.length_filter_eq_length_iff.1 e x hx;rw[hb]at this;cases this
theorem Pk(us:List (α×Int)):∀(s:List α×List α) (z:α),z∈s.1->z∉(fB au s us).1->∃g∈(fB au s us).2,au g z=true:=by
 induction us with
 | nil => exact fun s z h hn=>absurd h hn
 | cons d us ih=>
  intro s z hz hn;rw[sO]at hn⊢;by_cases h:z∈(lD au s d).1
  ·exact ih _ z h hn
  ·have h1:d.2<=0/\au d.1 z=true:=by
     by_cases h2:d.2<=0
     ·refine⟨h2, ?_⟩;cases e:au d.1 z with
      | true => rfl
      | false => exact absurd (wR.2 ⟨hz,fun _=>e⟩) h
     ·exact absurd (wR.2 ⟨hz,fun e=>absurd e h2⟩) h
   refine⟨d.1,KF us _ ?_,h1.2⟩;unfold lD;rw[if_pos h1.1,if_pos (Pj hz h1.2)];exact List.mem_append_right _ (vF.2 rfl)
theorem Ee(us:List (α×Int)):∀(s:List α×List α),(fB au s us).1.length<=s.1.length/\(fB au s us).2.length<=s.2.length+us.length:=by
 induction us with
 | nil => exact fun s=>⟨nR _,nR _⟩
 | cons d us ih=>
  intro s;rw[sO];obtain⟨h1,h2⟩:=ih (lD au s d);have h3:(lD au s d).1.length<=s.1.length:=by
   unfold lD;split
   ·exact gF _ _
   ·exact nR _
  have h4:(lD au s d).2.length<=s.2.length+1:=by
   unfold lD;split
   ·show(if _ then _ else _:List α).length<=_;split
    ·simp
    ·omega
   ·omega
  rw[lC];omega
theorem SX(O:rO au fst){f0 f1:α->Int}{fr ks l:List α}{us:List (α×Int)}(hgood:Good au fst fr)(hpos:∀x∈fr,0<f0 x)(abx:∀y,0<f0 y->bG au fr y=true)
    (hch:∀t,f1 t≠f0 t->∃d∈us,d.1=t) (ZL:∀d∈us,d.2=f1 d.1) (_:ks.Nodup) (hks:∀t,t∈ks↔f1 t≠0) (hl:∀t,t∈l↔t∈ks)
    (hsub:∀F:List α,F.Nodup->(∀x∈F,x∈ks)->ks.length<=F.length->∀x∈ks,x∈F) :
    Good au fst (Ef au fst f1 l fr us ks.length)/\(∀x∈Ef au fst f1 l fr us ks.length,0<f1 x)/\∀y,0<f1 y->bG au (Ef au fst f1 l fr us ks.length) y=true:=by
 have hF:∀x∈(fB au (fr,[]) us).1,0<f1 x:=fun x hx=>by
  obtain⟨h1,h2⟩:=(Ns us _ x).1 hx;by_cases e:f1 x=f0 x
  ·rw[e];exact hpos x h1
  ·obtain⟨d,hd,rfl⟩:=hch x e;by_cases h0:d.2<=0
   ·have:=h2 d hd h0;rw[O.refl]at this;cases this
   ·rw[<-ZL d hd];omega
 have hFg:Good au fst (fB au (fr,[]) us).1:=KG us _ hgood;have hFn:(fB au (fr,[]) us).1.Nodup:=hFg.imp fun {a b} hab e=>by subst e;rw[O.p9]at hab;cases hab.1
 have hB:Good au fst (nH au fst f1 l (fB au (fr,[]) us).1 (fB au (fr,[]) us).2 ks.length)/\(∀x∈nH au fst f1 l (fB au (fr,[]) us).1 (fB au (fr,[]) us).2 ks.length,0<f1 x)/\∀y,0<f1 y->f1 y=f0 y->bG au (nH au fst f1 l (fB au (fr,[]) us).1 (fB au (fr,[]) us).2 ks.length) y=true:=by
  have hout:∀y,0<f1 y->f1 y=f0 y->bG au (fB au (fr,[]) us).1 y=true\/bG au (fB au (fr,[]) us).2 y=true:=fun y hy e=>by
   obtain⟨z,hz,Ui⟩:=cO.1 (abx y (by omega));by_cases hm:z∈(fB au (fr,[]) us).1
   ·exact Or.inl (cO.2 ⟨z,hm,Ui⟩)
   ·obtain⟨g,hg,hgz⟩:=Pk us (fr,[]) z hz hm;exact Or.inr (cO.2 ⟨g,hg,O.trans _ _ _ hgz Ui⟩)
  generalize (fB au (fr,[]) us).1=F at *;generalize (fB au (fr,[]) us).2=G at *;unfold nH;split
  ·refine⟨oF O hFg _,fun x hx=> ?_,fun y hy e=> ?_⟩
   ·rcases qW hx with h1|h1
    ·have:=(mF.1 h1).2;simp at this;omega
    ·exact hF x h1
   ·rcases hout y hy e with h1|h1
    ·exact jZ O _ h1
    ·refine nE O F (mF.2 ⟨(hl y).2 ((hks y).2 (by omega)), ?_⟩);rw[h1,decide_eq_false (by omega)];rfl
  ·rename_i hno;refine⟨hFg,hF,fun y hy e=> ?_⟩;rcases hout y hy e with h1|h1
   ·exact h1
   ·have hG:0<G.length:=by
      obtain⟨g,hg,_⟩:=cO.1 h1;exact List.length_pos_of_mem hg
    have hlen:ks.length<=F.length:=by
     by_cases h2:F.length<ks.length
     ·exact absurd ⟨hG,h2⟩ hno
     ·omega
    exact cO.2 ⟨y,hsub F hFn (fun x hx=>(hks x).2 (by have:=hF x hx;omega)) hlen y ((hks y).2 (by omega)),O.refl y⟩
 obtain⟨b1,b2,b3⟩:=hB;unfold Ef;refine⟨oF O b1 _,fun x hx=> ?_,fun y hy=> ?_⟩
 ·rcases qW hx with h1|h1
  ·obtain⟨d,hd,rfl⟩:=mM.1 h1;obtain⟨hd1,hd2⟩:=mF.1 hd;rw[<-ZL d hd1];simpa using hd2
  ·exact b2 x h1
 ·by_cases he:f1 y=f0 y
  ·exact jZ O _ (b3 y hy he)
  ·obtain⟨d,hd,rfl⟩:=hch y he;exact nE O _ (mM.2 ⟨d,mF.2 ⟨hd,by rw[ZL d hd];simpa using hy⟩,rfl⟩)
end
end
end Go.Proofs.YteekbpokkjjipaaGreat
