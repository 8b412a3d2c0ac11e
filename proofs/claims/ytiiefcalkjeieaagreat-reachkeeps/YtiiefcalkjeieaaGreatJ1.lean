import Derived.Below
import Derived.Deep.RegionHeld
import Derived.WalkKit
import Derived.WalkSpells
import Derived.Sort.Grow
import Derived.Deep.Draws
import Derived.Deep.RegionHeld3
import Derived.Maps.OwnOps
import Derived.Maps.OwnSet
import Derived.Maps.RangeWalk
import Derived.Maps.Ext
import Derived.WideKeyEntry
variable{w v:Go.World}{a a':Go.Act}{i n j k:Nat}{α:Type}{d:Option Nat}{ty:Go.TypeId}{oi:Go.Oper}
namespace Go.Proofs.YtiiefcalkjeieaaGreat
section
open Go.RowKit Go.Sort
abbrev dO:=@List.length_append
abbrev lC:=@List.length_cons
abbrev nZ:=@Nat.zero_add
abbrev gL:=@List.getElem?_append_left
abbrev Vv:=@List.getElem?_append_right
abbrev tL:=@List.take_of_length_le
abbrev nL:=@Nat.lt_of_lt_of_le
abbrev yY:=@World.cell?_of_block
abbrev aG:=@Array.getElem?_eq_some_iff
abbrev lK:=@List.length_take
abbrev nR:=@Nat.le_refl
abbrev nT:=@Nat.le_trans
abbrev zL:=@Nat.zero_le
abbrev FP:=@List.append_nil
abbrev YO:=@List.range_succ
abbrev nW:=@Nat.not_lt_zero
abbrev aA:=@List.append_assoc
abbrev lZ:=@List.length_set
abbrev CW:=@List.map_append
abbrev mR:=@List.mem_range
abbrev nM:=@Nat.mul_le_mul_right
abbrev vS:=@Value.slice.injEq
abbrev oI:=@Option.some.injEq
abbrev aI:=@Addr.mk.injEq
abbrev lG:=@List.getElem?_eq_some_iff
abbrev bA:=@Bool.and_eq_true
abbrev yF:=@List.mem_singleton
abbrev fU:=@List.mem_cons
abbrev oN:=@World.ownsRow_nil
abbrev tN:=@Int.toNat_natCast
abbrev lQ:=@List.getElem?_eq_none
abbrev bR:=@bodyPost_ret
abbrev dE:=@decide_eq_true_eq
abbrev tO:=@List.take_add_one
abbrev j4:=@List.mem_append
abbrev lM:=@List.mem_of_getElem?
abbrev gK:=@List.length_map
abbrev oJ:=@Option.some.inj
abbrev gM:=@List.getElem?_map
abbrev iG:=@List.mem_iff_getElem?
abbrev nO:=@Nat.add_zero
abbrev pW:=@List.getElem?_eq_getElem
abbrev gX:=@List.getElem?_set_ne
abbrev qA:=@List.pairwise_cons
abbrev mO:=@List.mem_cons_of_mem
abbrev nU:=@Nat.lt_trans
abbrev nE:=@Nat.le_of_lt
abbrev mM:=@List.mem_map
abbrev mX:=@List.mem_cons_self
abbrev mF:=@List.mem_filter
abbrev tK:=@List.take_length
abbrev vL:=@List.length_singleton
abbrev Q4:=@List.flatMap_cons
theorem _root_.Go.RowKit.Hid.o{p:Prop}(h:Go.RowKit.Hid p):p:=h
theorem _root_.Go.Shut.o{p:Prop}(h:Go.Shut p):p:=h
theorem aC(a:α):∃x,x=a:=⟨_,rfl⟩
def Gr(w v:World):Prop:=∃q os,v=grow (w.drewN q) os
theorem Gr.refl(w:World):Gr w w:=⟨0,#[],by rw[grow_empty];rfl⟩
theorem Gr.alloc(h:Gr w v)(o:Obj):Gr w (v.alloc o):=by
 obtain⟨q,os,rfl⟩:=h;exact⟨q,os++#[o],by rw[alloc_eq_grow,grow_grow]⟩
theorem Gr.drew(h:Gr w v):Gr w v.drew:=by
 obtain⟨q,os,rfl⟩:=h;exact⟨q+1,os,rfl⟩
theorem Gr.drewN(h:Gr w v)(n:Nat):Gr w (v.drewN n):=by
 obtain⟨q,os,rfl⟩:=h;exact⟨q+n,os,by simp only[World.drewN,grow,Nat.add_assoc]⟩
theorem Gr.grown(h:Gr w v)(os:Array Obj):Gr w (grow v os):=by
 obtain⟨q,os',rfl⟩:=h;exact⟨q,os'++os,by rw[grow_grow]⟩
theorem Gr.trans{u:World}(h:Gr u v)(k:Gr v w):Gr u w:=by
 obtain⟨q,os,rfl⟩:=k;exact(h.drewN q).grown os
theorem Gr.below(h:Gr w v):Below w.heap.size w v:=by
 obtain⟨q,os,rfl⟩:=h;exact⟨rfl,rfl,rfl,by simp[World.drewN],fun k hk=>heap_grow_old (w.drewN q) os hk⟩
theorem Gr.size(h:Gr w v):w.heap.size<=v.heap.size:=h.below.size
theorem Gr.cell{w v:World}(h:Gr w v){b o:Nat}(hb:b<w.heap.size):v.cell? ⟨b,o,none⟩=w.cell? ⟨b,o,none⟩:=h.below.cell (p:=⟨b,o,none⟩) hb
theorem Gr.frozen(h:Gr w v){b o:Nat}(hb:b<w.heap.size):v.frozen? ⟨b,o,none⟩=w.frozen? ⟨b,o,none⟩:=h.below.frozen (p:=⟨b,o,none⟩) hb
theorem Gr.cells(h:Gr w v):(∀b o,b<w.heap.size->v.cell? ⟨b,o,none⟩=w.cell? ⟨b,o,none⟩)/\(∀b o,b<w.heap.size->v.frozen? ⟨b,o,none⟩=w.frozen? ⟨b,o,none⟩):=
 ⟨fun _ _ hb=>h.cell hb,fun _ _ hb=>h.frozen hb⟩
theorem E5{W w1:World}(hb:Below W.heap.size W w1):(∀b o,b<W.heap.size->w1.cell? ⟨b,o,none⟩=W.cell? ⟨b,o,none⟩)/\(∀b o,b<W.heap.size->w1.frozen? ⟨b,o,none⟩=W.frozen? ⟨b,o,none⟩):=
 ⟨fun b o h=>hb.cell (p:=⟨b,o,none⟩) h,fun b o h=>hb.frozen (p:=⟨b,o,none⟩) h⟩
end
section
open Go.RowKit
section
variable {P:Program} {ops:Array Oper} {Q:Exit->Act->World->Prop} {md:Region.Mode} {S:World->Prop} {D:List Nat}
def dJ(P:Program)(md:Region.Mode)(ops:Array Oper)(Q:Exit->Act->World->Prop)(S:World->Prop)(D:List Nat):Nat->Array Bool->Act->World->Prop
 | 0, ls, a, w => Region.ready md ops ls=[]/\Q .normal a w
 | n + 1, ls, a, w => (Region.ready md ops ls=[]->Q .normal a w)/\∀j∈Region.ready md ops ls,wpOp P ops Q j (fun b u=>(j∉D->S u)/\dJ P md ops Q S D n (ls.setIfInBounds j true) b u) a w
theorem J7(n:Nat):∀(ls:Array Bool) (a:Act) (w:World),dJ P md ops Q S D n ls a w->wpAny P md ops Q n ls a w:=by
 induction n with
 | zero => intro _ _ _ h;exact h
 | succ n ih=>
  intro ls a w h;exact⟨h.1,fun j hj=>wpOp_mono (fun b u x=>ih _ b u x.2) (h.2 j hj)⟩
def Behind(md:Region.Mode)(ops:Array Oper)(i:Nat)(D:List Nat):Bool:=D.all fun j=>match ops[j]? with
 | some o => o.after.toList.any fun e=>Region.binds md e&&(e.on==i||D.contains e.on)
 | none => true
theorem IE{ls:Array Bool}(hD:Behind md ops i D=true)(hi:ls.getD i false=false)(hl:∀k∈D,ls.getD k false=false)(hj:j∈Region.ready md ops ls):j∉D:=fun hjD=>by
 obtain⟨_,o,ho,hall⟩:=mem_ready.1 hj;have h1:=List.all_eq_true.1 hD j hjD;rw[ho]at h1;obtain⟨x,hx,h2⟩:=List.any_eq_true.1 h1;rw[bA,Bool.or_eq_true]at h2;have h3:=hall x (Array.mem_toList_iff.1 hx) h2.1;rcases h2.2 with h4|h4
 ·rw[beq_iff_eq]at h4;rw[h4,hi]at h3;cases h3
 ·rw[hl _ (by simpa using h4)]at h3;cases h3
theorem Av{v:Value}(hi:ops[i]? =some oi)(hs:Region.noSelect ops=true)(hQ:∀c a w,Q (.panic c) (a.put oi.dst v) w->Q (.panic c) a w)(hD:Behind md ops i D=true)(hiD:D.contains i=false)(n:Nat):
    ∀(ls:Array Bool) (a:Act) (w:World),(∀j oj,ops[j]? =some oj->j≠i->ls.getD j true=false->(∀e∈oj.after,Region.binds md e=true->e.on≠i)->oi.apart ops oj=true)->(∀k∈D,ls.getD k false=false)->i∈Region.ready md ops ls->YieldsIf P ops S oi v a->S w->
     dJ P md ops Q S D n (ls.setIfInBounds i true) (a.put oi.dst v) w->dJ P md ops Q S D (n+1) ls a w:=by
 have hsel:=Region.noSelect_spec hs;have hin:i∉D:=by simpa using hiD
 induction n with
 | zero=>
  intro ls a w _ _ hr hy hS H;refine⟨fun h0=>(by rw[h0]at hr;cases hr),fun j hj=> ?_⟩;by_cases e:j=i
  ·rw[e];exact hy.wpOp hi hS ⟨fun _=>hS,H⟩
  ·have h1:=ready_mono hj e;rw[H.1]at h1;cases h1
 | succ n ih=>
  intro ls a w hfree hun hr hy hS H;refine⟨fun h0=>(by rw[h0]at hr;cases hr),fun j hj=> ?_⟩;by_cases e:j=i
  ·rw[e];exact hy.wpOp hi hS ⟨fun _=>hS,H⟩
  ·obtain⟨hju,oj,hoj,hall⟩:=mem_ready.1 hj;have hi0:ls.getD i false=false:=by
    have:=(mem_ready.1 hr).1;rcases Nat.lt_or_ge i ls.size with h|h
    ·simp[h]at this⊢;exact this
    ·simp[Array.getElem?_eq_none h]
   have hjD:=IE hD hi0 hun hj;have hno:∀x∈oj.after,Region.binds md x=true->x.on≠i:=fun x hx hb e2=>by
    have:=hall x hx hb;rw[e2,hi0]at this;cases this
   have h2:=wpOp_putIf hoj (hfree j oj hoj e hju hno) (fun cs b=>hsel i oi cs b hi) (fun cs b=>hsel j oj cs b hoj) hQ hy (H.2 j (ready_mono hj e));refine wpOp_mono (fun b u h3=>⟨fun _=>h3.2.1 hjD,ih _ b u ?_ ?_ (ready_mono hr (Ne.symm e)) h3.1 (h3.2.1 hjD) ?_⟩) h2
   ·intro k ok hk hki hku hkn;refine hfree k ok hk hki ?_ hkn;by_cases e3:j=k
    ·exact e3 ▸ hju
    ·rw[getD_set_ne true e3]at hku;exact hku
   ·intro k hk;have hne:j≠k:=fun e3=>hjD (by rw[e3];exact hk);rw[getD_set_ne false hne];exact hun k hk
   ·rw[Array.setIfInBounds_comm _ _ e];exact h3.2.2
theorem tV{v:Value}{ls:Array Bool}(hi:ops[i]? =some oi)(hs:Region.noSelect ops=true)(hf:Region.free md ops ls i=true)(hr:(Region.ready md ops ls).contains i=true)
    (hQ:∀c a w,Q (.panic c) (a.put oi.dst v) w->Q (.panic c) a w) (hD:(Behind md ops i D && !D.contains i&&D.all fun k=> !ls.getD k false)=true) (hy:YieldsIf P ops S oi v a) (hS:S w)
    (h:dJ P md ops Q S D n (ls.setIfInBounds i true) (a.put oi.dst v) w):dJ P md ops Q S D (n+1) ls a w:=by
 rw[bA,bA]at hD;exact Av hi hs hQ hD.1.1 (by simpa using hD.1.2) n ls a w (Region.free_spec hi hf) (fun k hk=>by simpa using List.all_eq_true.1 hD.2 k hk) (by simpa using hr) hy hS h
theorem FT{o:Oper}{ls:Array Bool}(hr:Region.ready md ops ls=[i])(ho:ops[i]? =some o)
    (h:∀K':Act->World->Prop,Shut (∀b u,(i∉D->S u)->dJ P md ops Q S D n (ls.setIfInBounds i true) b u->K' b u)->if Region.wanted o (yielded ops a.tmps)=true then Oper.wp P o a w K' Q else K' (a.put o.dst undef) w):dJ P md ops Q S D (n+1) ls a w:=by
 refine⟨fun h0=>(by rw[h0]at hr;cases hr),fun j hj=> ?_⟩;rw[hr,yF]at hj;subst hj;exact wpOp_step ho (fun K' hK=>h K' (fun b u h1 h2=>hK b u ⟨h1,h2⟩))
theorem au{ls:Array Bool}(hr:Region.ready md ops ls=[])(h:Q .normal a w)(n:Nat):dJ P md ops Q S D n ls a w:=by
 cases n with
 | zero => exact⟨hr,h⟩
 | succ n => exact⟨fun _=>h,fun j hj=>by rw[hr]at hj;cases hj⟩
theorem ax{id:Nat}(hm:P.follows .mixedOrders=true)(h:dJ P .any ops Q S D ops.size (Array.replicate ops.size false) a w.drew):(Code.region id ops true).wp P Q a w:=
 wp_region_any hm (J7 _ _ _ _ h)
end
theorem Tj{p:Prop}(h:p):Hid p:=h
theorem qI{l:List α}{a:α}:l.toArray.setIfInBounds i a=(l.set i a).toArray:=by simp
theorem q0{a b:α}{l:List α}:(a::l).set 0 b=b::l:=rfl
theorem qS{a b:α}{l:List α}:(a::l).set (n+1) b=a::l.set n b:=rfl
section
variable {P:Program} {ops:Array Oper} {Q:Exit->Act->World->Prop} {md:Region.Mode} {S:World->Prop} {D:List Nat}
theorem drop_at{l:List α}{x:α}{r:List α}(h:l.drop i=x::r):l[i]? =some x:=by
 have:=List.getElem?_drop (xs:=l) (i:=i) (j:=0);rw[h]at this;simpa using this.symm
theorem bu(i:Nat){o:Op}{pos:String}{af:Array Edge}{gd:Option (Nat×Bool)}{r:List Oper}{v:Value}{ls ls':Array Bool}(hS:S w)
    (hy:∀w,S w->(execOp a.eval ⟨d,o,ty,"",#[],gd⟩).run P w= .ok (.value v) w)
    (h:dJ P md ops Q S D n ls' a' w) (hi:ops.toList.drop i=⟨d,o,ty,pos,af,gd⟩::r:=by exact rfl) (hl:ls.setIfInBounds i true=ls':=by(try simp only[qI,q0,qS]);exact rfl) (ha:a.put d v=a':=by(try simp only[Act.put,qI,q0,qS]);exact rfl) (hs:Region.noSelect ops=true:=by kernel_rfl) (hf:Region.free md ops ls i=true:=by kernel_rfl) (hr:(Region.ready md ops ls).contains i=true:=by kernel_rfl)
    (hQ:∀c a w,Q (.panic c) (a.put d v) w->Q (.panic c) a w:=by exact fun _ _ _ h=>h) (hD:(Behind md ops i D && !D.contains i&&D.all fun k=> !ls.getD k false)=true:=by kernel_rfl) (hw:Region.wanted ⟨d,o,ty,"",#[],gd⟩ (yielded ops a.tmps)=true:=by rfl):dJ P md ops Q S D (n+1) ls a w:=
 tV (oi:=⟨d,o,ty,pos,af,gd⟩) (by simpa using drop_at hi) hs hf hr hQ hD (Or.inl ⟨hw,hy⟩) hS (by subst hl ha;exact h)
theorem aj(i:Nat){o:Op}{pos:String}{af:Array Edge}{gd:Option (Nat×Bool)}{r:List Oper}{v:Value}{ls ls':Array Bool}(hS:S w)
    (h:dJ P md ops Q S D n ls' a' w) (hi:ops.toList.drop i=⟨d,o,ty,pos,af,gd⟩::r:=by exact rfl)
    (hy:∀w,S w->(execOp a.eval ⟨d,o,ty,"",#[],gd⟩).run P w= .ok (.value v) w:=by intro W hSw;(try dsimp only at hSw);(try have hk:=HP.o W hSw);go_simp;try(with_reducible rfl)) (hl:ls.setIfInBounds i true=ls':=by(try simp only[qI,q0,qS]);exact rfl) (ha:a.put d v=a':=by(try simp only[Act.put,qI,q0,qS]);exact rfl) (hs:Region.noSelect ops=true:=by kernel_rfl) (hf:Region.free md ops ls i=true:=by kernel_rfl) (hr:(Region.ready md ops ls).contains i=true:=by kernel_rfl)
    (hQ:∀c a w,Q (.panic c) (a.put d v) w->Q (.panic c) a w:=by exact fun _ _ _ h=>h) (hD:(Behind md ops i D && !D.contains i&&D.all fun k=> !ls.getD k false)=true:=by kernel_rfl) (hw:Region.wanted ⟨d,o,ty,"",#[],gd⟩ (yielded ops a.tmps)=true:=by rfl):dJ P md ops Q S D (n+1) ls a w:=
 bu i hS hy h hi hl ha hs hf hr hQ hD hw
theorem eP(i:Nat){o:Op}{pos:String}{af:Array Edge}{gd:Option (Nat×Bool)}{r:List Oper}{ls ls':Array Bool}(hS:S w)
    (h:dJ P md ops Q S D n ls' a' w) (hi:ops.toList.drop i=⟨d,o,ty,pos,af,gd⟩::r:=by exact rfl) (hl:ls.setIfInBounds i true=ls':=by(try simp only[qI,q0,qS]);exact rfl) (ha:a.put d undef=a':=by(try simp only[Act.put,qI,q0,qS]);exact rfl) (hs:Region.noSelect ops=true:=by kernel_rfl) (hf:Region.free md ops ls i=true:=by kernel_rfl) (hr:(Region.ready md ops ls).contains i=true:=by kernel_rfl)
    (hQ:∀c a w,Q (.panic c) (a.put d undef) w->Q (.panic c) a w:=by exact fun _ _ _ h=>h) (hD:(Behind md ops i D && !D.contains i&&D.all fun k=> !ls.getD k false)=true:=by kernel_rfl) (hw:Region.wanted ⟨d,o,ty,"",#[],gd⟩ (yielded ops a.tmps)=false:=by rfl):dJ P md ops Q S D (n+1) ls a w:=
 tV (oi:=⟨d,o,ty,pos,af,gd⟩) (by simpa using drop_at hi) hs hf hr hQ hD (Or.inr ⟨hw,rfl⟩) hS (by subst hl ha;exact h)
theorem bF(i:Nat){o:Op}{pos:String}{af:Array Edge}{gd:Option (Nat×Bool)}{r:List Oper}{ls:Array Bool}
    (h:∀K':Act->World->Prop,Shut (∀b u,(i∉D->S u)->dJ P md ops Q S D n (ls.setIfInBounds i true) b u->K' b u)->if Region.wanted ⟨d,o,ty,pos,af,gd⟩ (yielded ops a.tmps)=true then Oper.wp P ⟨d,o,ty,pos,af,gd⟩ a w K' Q else K' (a.put d undef) w)
    (ho:ops.toList.drop i=⟨d,o,ty,pos,af,gd⟩::r:=by exact rfl) (hr:Region.ready md ops ls=[i]:=by kernel_rfl):dJ P md ops Q S D (n+1) ls a w:=
 FT hr (by simpa using drop_at ho) h
end
end
section
open Go.RowKit Go.Sort Go.Maps
structure KK(P:Program)(k:TypeId)(K:Type) where
 enc:K->Value
 lit:K->Lit
 law:Keyed P k
 key:∀s,keyOf P k (enc s)=some (lit s)
 inv:∀v l,keyOf P k v=some l->∃s,v=enc s/\l=lit s
 inj:∀s t,lit s=lit t->s=t
abbrev nd(n:Int):DataW Unit:= .lit (.int .i64 n)
section
variable {P:Program} {k e:TypeId} {K:Type} [DecidableEq K]
omit [DecidableEq K]in
theorem KK.isKey(Z:KK P k K)(s:K):WideAt.IsKeyLit (Z.lit s):=Z.law.key (Z.key s)
theorem KK.same(Z:KK P k K)(s t:K):(Z.lit s).sameKey (Z.lit t)=decide (s=t):=by
 have h:=WideAt.sameKey_iff (a:=Z.lit s) (Z.isKey t);by_cases e:s=t
 ·subst e;rw[decide_eq_true rfl];exact h.2 rfl
 ·rw[decide_eq_false e];cases hq:(Z.lit s).sameKey (Z.lit t)with
  | false => rfl
  | true => exact absurd (Z.inj _ _ (h.1 hq)) e
def upd(f:K->Int)(s:K)(v:Int):K->Int:=fun t=>if t=s then v else f t
omit [DecidableEq K]in
theorem upd_same[DecidableEq K](f:K->Int)(s:K)(v:Int):upd f s v s=v:=by simp[upd]
omit [DecidableEq K]in
theorem bY[DecidableEq K](f:K->Int){s t:K}(v:Int)(h:t≠s):upd f s v t=f t:=by simp[upd,h]
def Ta(Z:KK P k K)(e:TypeId)(w:World)(b n:Nat)(f:K->Int):Prop:=
 ∃D:DataW Unit,w.ownsMap P k (plainElem P e) b n D/\(∀s,D.atKey (Z.lit s) (nd 0)=nd (f s))/\∀s,Maps.has D (Z.lit s)=decide (f s≠0)
def qz(f:K->Int)(ks:List K):Prop:=ks.Nodup/\∀s,s∈ks↔f s≠0
variable {Z:KK P k K} {w w':World} {b n:Nat} {f:K->Int} {D:DataW Unit}
omit [DecidableEq K]in
theorem Ta.lt(h:Ta Z e w b n f):b<w.heap.size:=by obtain⟨D,h,_⟩:=h;exact h.lt
omit [DecidableEq K]in
theorem Ta.mono(h:Ta Z e w b n f){m:Nat}(hm:n<=m):Ta Z e w b m f:=by obtain⟨D,h1,h2⟩:=h;exact⟨D,h1.mono hm,h2⟩
omit [DecidableEq K]in
theorem Ta.kept(h:Ta Z e w b n f)(hb:w'.heap[b]? =w.heap[b]?):Ta Z e w' b n f:=by
 obtain⟨D,⟨es,clock,h1,h2⟩,h3⟩:=h;exact⟨D,⟨es,clock,hb.trans h1,h2⟩,h3⟩
omit [DecidableEq K]in
theorem Ta.made(w:World):Ta Z e (w.alloc (.map #[] 0)) w.heap.size 0 fun _=>0:=
 ⟨.map [],World.ownsMap_made _ _ _ _,fun _=>rfl,fun _=>rfl⟩
theorem Dw(hD:IsMap D)(h1:∀s,D.atKey (Z.lit s) (nd 0)=nd (f s))(h2:∀s,Maps.has D (Z.lit s)=decide (f s≠0))(s:K)(v:Int)(hv:v≠0):
    (∀t,(D.put (Z.lit s) (nd v)).atKey (Z.lit t) (nd 0)=nd (upd f s v t))/\∀t,Maps.has (D.put (Z.lit s) (nd v)) (Z.lit t)=decide (upd f s v t≠0):=by
 refine⟨fun t=> ?_,fun t=> ?_⟩
 ·by_cases ht:t=s
  ·subst ht;rw[upd_same];exact atKey_put_same hD (Z.isKey t) _ _
  ·rw[bY _ _ ht,atKey_put_other (fun e=>ht (Z.inj _ _ e))];exact h1 t
 ·by_cases ht:t=s
  ·subst ht;rw[upd_same,has_put_same hD (Z.isKey t)];simp[hv]
  ·rw[bY _ _ ht,has_put_other (fun e=>ht (Z.inj _ _ e))];exact h2 t
theorem EE(h1:∀s,D.atKey (Z.lit s) (nd 0)=nd (f s))(h2:∀s,Maps.has D (Z.lit s)=decide (f s≠0))(s:K):
    (∀t,(D.del (Z.lit s)).atKey (Z.lit t) (nd 0)=nd (upd f s 0 t))/\∀t,Maps.has (D.del (Z.lit s)) (Z.lit t)=decide (upd f s 0 t≠0):=by
 refine⟨fun t=> ?_,fun t=> ?_⟩
 ·by_cases ht:t=s
  ·subst ht;rw[upd_same];exact atKey_del_same _
  ·rw[bY _ _ ht,atKey_del_other (fun e=>ht (Z.inj _ _ e))];exact h1 t
 ·by_cases ht:t=s
  ·subst ht;rw[upd_same,has_del_same];simp
  ·rw[bY _ _ ht,has_del_other (fun e=>ht (Z.inj _ _ e))];exact h2 t
def ou(Z:KK P k K)(D:DataW Unit)(left:Lit->Bool)(ss:List K):Prop:=ss.Nodup/\∀x,x∈ss↔(Maps.has D (Z.lit x)=true/\left (Z.lit x)=false)
omit [DecidableEq K]in
theorem ou.start(D:DataW Unit):ou Z D (Maps.has D) []:=⟨List.nodup_nil,fun x=>by cases Maps.has D (Z.lit x)<;>simp⟩
theorem ou.step{left:Lit->Bool}{ss:List K}(h:ou Z D left ss){x:K}{y:DataW Unit}(hlk:left (Z.lit x)=true)(hat:∀zd,D.atKey (Z.lit x) zd=y):ou Z D (fun z=>left z && !z.sameKey (Z.lit x)) (ss++[x]):=by
 have hhas:Maps.has D (Z.lit x)=true:=has_true_of_atKey hat;have hnew:x∉ss:=fun hx=>by have:=((h.2 x).1 hx).2;rw[hlk]at this;cases this
 refine⟨List.nodup_append.2 ⟨h.1,by simp,fun a ha b hb=>by simp at hb;subst hb;exact fun e=>hnew (e ▸ ha)⟩,fun y=> ?_⟩;by_cases hy:y=x
 ·subst hy;simp[hhas,Z.same]
 ·simp[h.2 y,hy,Z.same]
omit [DecidableEq K]in
theorem ou.sup{left:Lit->Bool}{ss:List K}(h:ou Z D left ss)(h2:∀s,Maps.has D (Z.lit s)=decide (f s≠0))(hl:∀kl,left kl=false):qz f ss:=
 ⟨h.1,fun s=>by rw[h.2 s,hl,h2];simp⟩
theorem dR[DecidableEq α]:∀{l m:List α},l.Nodup->(∀x∈l,x∈m)->l.length<=m.length
 | [], _, _, _ => zL _
 | a::l, m, hn, hs => by
  have hn':=List.nodup_cons.1 hn;have h:=dR (l:=l) (m:=m.erase a) hn'.2 (fun x hx=>(List.mem_erase_of_ne (fun(e:x=a)=>hn'.1 (e ▸ hx))).2 (hs x (mO _ hx)));have h2:=List.length_erase_of_mem (hs a mX);have h3:=List.length_pos_of_mem (hs a mX);simp only[lC];omega
theorem qz.le{ks ms:List K}(h:qz f ks)(hs:∀s,f s≠0->s∈ms):ks.length<=ms.length:=dR h.1 fun x hx=>hs x ((h.2 x).1 hx)
omit [DecidableEq K]in
theorem qz.perm{ks ms:List K}(h:qz f ks)(h2:qz f ms):ks.Perm ms:=(List.perm_ext_iff_of_nodup h.1 h2.1).2 fun x=>(h.2 x).trans (h2.2 x).symm
omit [DecidableEq K]in
theorem mZ(h:w.ownsMap P k (plainElem P e) b n D)(h2:∀s,Maps.has D (Z.lit s)=decide (f s≠0)):∃ks,qz f ks/\ks.length=Maps.size D:=by
 obtain⟨es,hD,hpw,hik⟩:=h.entries Z.law;obtain⟨es',clock,hb,F,_,hD'⟩:=h;have hke:∀p∈es,∃s,p.1=Z.lit s:=fun p hp=>by
  have e1:es=(es'.toList.map (WideElems.rg P k (plainElem P e))).foldr DataW.insert []:=by rw[hD]at hD';simpa using hD'
  rw[e1]at hp;obtain⟨v,hv⟩:=fit_keys F p (mem_sorted.1 hp);obtain⟨s,_,hs⟩:=Z.inv v p.1 hv;exact⟨s,hs⟩
 subst hD;clear hD';have key:∀l:List (Lit×DataW Unit),(∀p∈l,∃s,p.1=Z.lit s)->∃ks:List K,l.map (·.1)=ks.map Z.lit:=by
  intro l
  induction l with
  | nil => exact fun _=>⟨[],rfl⟩
  | cons p l ih=>
   intro hl;obtain⟨s,hs⟩:=hl p mX;obtain⟨ks,hks⟩:=ih fun q hq=>hl q (mO _ hq);exact⟨s::ks,by simp[hs,hks]⟩
 obtain⟨ks,hks⟩:=key es hke;refine⟨ks,⟨?_,fun s=> ?_⟩, ?_⟩
 ·have h1:(es.map (·.1)).Pairwise (·≠·):=List.pairwise_map.2 hpw;rw[hks,List.pairwise_map]at h1;exact h1.imp fun {a b} hne e=>hne (by rw[e])
 ·have h3:=h2 s;rw[has_eq]at h3;constructor
  ·intro hs;have hm:Z.lit s∈es.map (·.1):=(by rw[hks];exact List.mem_map_of_mem hs);obtain⟨p,hp,hpe⟩:=mM.1 hm;have:es.any (fun p=>p.1.sameKey (Z.lit s))=true:=List.any_eq_true.2 ⟨p,hp,by rw[hpe];exact WideAt.sameKey_self (Z.isKey s)⟩;rw[this]at h3;simpa using h3.symm
  ·intro hf;rw[decide_eq_true hf]at h3;obtain⟨p,hp,hq⟩:=List.any_eq_true.1 h3;have hpe:=(WideAt.sameKey_iff (Z.isKey s)).1 hq;have hm:p.1∈es.map (·.1):=List.mem_map_of_mem hp;rw[hks,hpe]at hm;obtain⟨t,ht,hte⟩:=mM.1 hm;exact Z.inj _ _ hte ▸ ht
 ·have:=congrArg List.length hks;simpa[Maps.size]using this.symm
end
end
section
section
variable {α:Type} (ay fst:α->α->Bool)
def bE(l:List α)(v:α):Bool:=l.any (fun x=>ay x v)
def dG(l:List α)(v:α):List α:=l.filter (fun x=> !ay v x)
def xS(l:List α)(v:α):List α:=l.take (l.findIdx (fun y=>fst v y))++v::l.drop (l.findIdx (fun y=>fst v y))
def gB(l:List α)(v:α):List α:=if bE ay l v then l else xS fst (dG ay l v) v
def bg(l vs:List α):List α:=vs.foldl (gB ay fst) l
def kN(l:List α):List α->Nat
 | [] => 0
 | v::vs => (if bE ay l v then 0 else 1)+kN (gB ay fst l v) vs
variable {ay fst}
theorem yc(l:List α)(v:α)(vs:List α):bg ay fst l (v::vs)=bg ay fst (gB ay fst l v) vs:=rfl
theorem jf(l vs us:List α):bg ay fst l (vs++us)=bg ay fst (bg ay fst l vs) us:=by
 simp[bg]
theorem uP{l vs:List α}{v:α}(h:vs[k]? =some v):bg ay fst l (vs.take (k+1))=gB ay fst (bg ay fst l (vs.take k)) v:=by
 rw[tO,h,jf];rfl
theorem gH(l:List α)(v:α):(dG ay l v).length<=l.length:=List.length_filter_le _ _
theorem uy(l:List α)(v:α):(xS fst l v).length=l.length+1:=by
 simp[xS];omega
theorem EZ(l:List α)(v:α):(gB ay fst l v).length<=l.length+1:=by
 unfold gB;split
 ·omega
 ·rw[uy];have:=gH (ay:=ay) l v;omega
theorem gV(l vs:List α):(bg ay fst l vs).length<=l.length+vs.length:=by
 induction vs generalizing l with
 | nil => simp[bg]
 | cons v vs ih=>
  have h1:=ih (gB ay fst l v);have h2:=EZ (ay:=ay) (fst:=fst) l v;rw[yc];simp only[lC];omega
theorem qZ{l:List α}{v x:α}:x∈xS fst l v↔x=v\/x∈l:=by
 unfold xS;constructor
 ·intro h;rcases j4.1 h with h|h
  ·exact Or.inr (List.mem_of_mem_take h)
  ·rcases fU.1 h with h|h
   ·exact Or.inl h
   ·exact Or.inr (List.mem_of_mem_drop h)
 ·intro h;rcases h with h|h
  ·subst h;simp
  ·rw[<-List.take_append_drop (l.findIdx fun y=>fst v y) l]at h;rcases j4.1 h with h|h
   ·exact j4.2 (Or.inl h)
   ·exact j4.2 (Or.inr (mO _ h))
theorem nD{l:List α}{v x:α}:x∈dG ay l v↔x∈l/\ay v x=false:=by
 simp[dG,List.mem_filter]
theorem cK{l:List α}{v:α}:bE ay l v=true↔∃x∈l,ay x v=true:=by
 simp[bE]
theorem Iz{l:List α}{v:α}:bE ay l v=false↔∀x∈l,ay x v=false:=by
 simp[bE]
structure rT(ay fst:α->α->Bool):Prop where
 refl:∀a,ay a a=true
 trans:∀a b c,ay a b=true->ay b c=true->ay a c=true
 Yi:∀a b,ay a b=true->ay b a=true->a=b
 qj:∀a,fst a a=false
 tr:∀a b c,fst a b=true->fst b c=true->fst a c=true
 tot:∀a b,a≠b->fst a b=false->fst b a=true
def Good(ay fst:α->α->Bool)(l:List α):Prop:=l.Pairwise fun a b=>fst a b=true/\ay a b=false/\ay b a=false
theorem gz{l:List α}{p:α->Bool}{x:α}(h:x∈l.take (l.findIdx p)):p x=false:=by
 obtain⟨i,hi,rfl⟩:=List.mem_iff_getElem.1 h;rw[List.getElem_take];have hi':i<l.findIdx p:=by simp at hi;omega
 have:=List.not_of_lt_findIdx (p:=p) (xs:=l) hi';simpa using this
theorem rF(O:rT ay fst){l:List α}(hl:l.Pairwise fun a b=>fst a b=true){v x:α}(h:x∈l.drop (l.findIdx fun y=>fst v y)):fst v x=true:=by
 induction l with
 | nil => simp at h
 | cons y l ih=>
  rw[qA]at hl;rw[List.findIdx_cons]at h;cases hy:fst v y with
  | true=>
   rw[hy]at h;simp at h;rcases h with rfl|h
   ·exact hy
   ·exact O.tr _ _ _ hy (hl.1 _ h)
  | false=>
   rw[hy]at h;simp at h;exact ih hl.2 h
theorem Em{l:List α}(h:Good ay fst l)(v:α):Good ay fst (dG ay l v):=List.Pairwise.filter _ h
theorem Pq(O:rT ay fst){l:List α}(h:Good ay fst l)(v:α):Good ay fst (gB ay fst l v):=by
 unfold gB;split
 ·exact h
 ·rename_i hc;have hc:bE ay l v=false:=by simpa using hc
  rw[Iz]at hc;have hg:=Em h v;have hm:∀x∈dG ay l v,ay x v=false/\ay v x=false:=fun x hx=>⟨hc x (nD.1 hx).1,(nD.1 hx).2⟩;generalize dG ay l v=m at hg hm;have hs:m.Pairwise fun a b=>fst a b=true:=hg.imp (fun h=>h.1);unfold Good xS;have hsplit:(m.take (m.findIdx fun y=>fst v y)++m.drop (m.findIdx fun y=>fst v y)).Pairwise fun a b=>fst a b=true/\ay a b=false/\ay b a=false:=by rw[List.take_append_drop];exact hg
  rw[List.pairwise_append]at hsplit;refine List.pairwise_append.2 ⟨hsplit.1,qA.2 ⟨?_,hsplit.2.1⟩, ?_⟩
  ·intro x hx;have hxm:=List.mem_of_mem_drop hx;exact⟨rF O hs hx,(hm x hxm).2,(hm x hxm).1⟩
  ·intro a ha b hb;rcases fU.1 hb with rfl|hb
   ·have ham:=List.mem_of_mem_take ha;have hf:=gz ha;refine⟨O.tot _ _ ?_ hf,hm a ham⟩;rintro rfl;have:=(hm _ ham).1;rw[O.refl]at this;cases this
   ·exact hsplit.2.2 a ha b hb
theorem oM(O:rT ay fst){l:List α}(h:Good ay fst l)(vs:List α):Good ay fst (bg ay fst l vs):=by
 induction vs generalizing l with
 | nil => exact h
 | cons v vs ih => exact ih (Pq O h v)
theorem xJ:Good ay fst ([]:List α):=List.Pairwise.nil
theorem TW(O:rT ay fst)(l:List α)(v:α):bE ay (gB ay fst l v) v=true:=by
 unfold gB;split
 ·assumption
 ·exact cK.2 ⟨v,qZ.2 (Or.inl rfl),O.refl v⟩
theorem Cc(O:rT ay fst){l:List α}{x:α}(v:α)(h:bE ay l x=true):bE ay (gB ay fst l v) x=true:=by
 unfold gB;split
 ·exact h
 ·obtain⟨y,hy,hyx⟩:=cK.1 h;cases hv:ay v y with
  | true => exact cK.2 ⟨v,qZ.2 (Or.inl rfl),O.trans _ _ _ hv hyx⟩
  | false => exact cK.2 ⟨y,qZ.2 (Or.inr (nD.2 ⟨hy,hv⟩)),hyx⟩
theorem SA{l:List α}{x v:α}(h:x∈gB ay fst l v):x=v\/x∈l:=by
 unfold gB at h;split at h
 ·exact Or.inr h
 ·rcases qZ.1 h with h|h
  ·exact Or.inl h
  ·exact Or.inr (nD.1 h).1
theorem j3(O:rT ay fst){l:List α}{x:α}(vs:List α)(h:bE ay l x=true):bE ay (bg ay fst l vs) x=true:=by
 induction vs generalizing l with
 | nil => exact h
 | cons v vs ih => exact ih (Cc O v h)
theorem nQ(O:rT ay fst)(l:List α){vs:List α}{x:α}(h:x∈vs):bE ay (bg ay fst l vs) x=true:=by
 induction vs generalizing l with
 | nil => simp at h
 | cons v vs ih=>
  rcases fU.1 h with rfl|h
  ·exact j3 O vs (TW O l x)
  ·exact ih _ h
theorem qY{l vs:List α}{x:α}(h:x∈bg ay fst l vs):x∈vs\/x∈l:=by
 induction vs generalizing l with
 | nil => exact Or.inr h
 | cons v vs ih=>
  rcases ih h with h|h
  ·exact Or.inl (mO _ h)
  ·rcases SA h with rfl|h
   ·exact Or.inl (by simp)
   ·exact Or.inr h
theorem Ej{l:List α}(h:Good ay fst l){a b:α}(ha:l[i]? =some a)(hb:l[j]? =some b)(hne:i≠j):ay a b=false:=by
 obtain⟨hi,rfl⟩:=lG.1 ha;obtain⟨hj,rfl⟩:=lG.1 hb;rcases Nat.lt_or_gt_of_ne hne with h1|h1
 ·exact(List.pairwise_iff_getElem.1 h i j hi hj h1).2.1
 ·exact(List.pairwise_iff_getElem.1 h j i hj hi h1).2.2
theorem KF(O:rT ay fst){vs:List α}{x:α}:x∈bg ay fst [] vs↔x∈vs/\∀y∈vs,ay y x=true->y=x:=by
 have hg:=oM O (xJ (ay:=ay) (fst:=fst)) vs;constructor
 ·intro h;have hx:x∈vs:=by
   rcases qY h with h|h
   ·exact h
   ·simp at h
  refine⟨hx,fun y hy hyx=> ?_⟩;obtain⟨z,hz,UR⟩:=cK.1 (nQ O [] hy);have hzx:=O.trans _ _ _ UR hyx;have:z=x:=by
   obtain⟨i,hi⟩:=iG.1 hz;obtain⟨j,hj⟩:=iG.1 h;by_cases hij:i=j
   ·subst hij;rw[hi]at hj;exact oJ hj
   ·have:=Ej hg hi hj hij;rw[hzx]at this;cases this
  subst this;exact O.Yi _ _ hyx UR
 ·rintro⟨hx,hm⟩;obtain⟨z,hz,hzx⟩:=cK.1 (nQ O [] hx);have hzv:z∈vs:=by
   rcases qY hz with h|h
   ·exact h
   ·simp at h
  rw[hm z hzv hzx]at hz;exact hz
theorem ug(O:rT ay fst){l m:List α}(hl:l.Pairwise fun a b=>fst a b=true)(hm:m.Pairwise fun a b=>fst a b=true)(h:∀x,x∈l↔x∈m):l=m:=by
 induction l generalizing m with
 | nil=>
  cases m with
  | nil => rfl
  | cons b m => exact absurd ((h b).2 (by simp)) (by simp)
 | cons a l ih=>
  cases m with
  | nil => exact absurd ((h a).1 (by simp)) (by simp)
  | cons b m=>
   rw[qA]at hl hm;have hab:a=b:=by
    by_cases e:a=b
    ·exact e
    ·have h1:=(h a).1 (by simp);have h2:=(h b).2 (by simp);rcases fU.1 h1 with h1|h1
     ·exact h1
     rcases fU.1 h2 with h2|h2
     ·exact h2.symm
     have:=O.tr _ _ _ (hl.1 b h2) (hm.1 a h1);rw[O.qj]at this;cases this
   subst hab;rw[ih hl.2 hm.2 (fun x=> ?_)];constructor
   ·intro hx;rcases fU.1 ((h x).1 (mO _ hx))with rfl|h1
    ·have:=hl.1 _ hx;rw[O.qj]at this;cases this
    ·exact h1
   ·intro hx;rcases fU.1 ((h x).2 (mO _ hx))with rfl|h1
    ·have:=hm.1 _ hx;rw[O.qj]at this;cases this
    ·exact h1
end
open Go.RowKit Go.Sort Go.Maps Go.WideMaps Go.WideElems
open Go.ChangeMaps (setBlock heap_setBlock_same modify_eq_set)
section
variable {P:Program} {k e t:TypeId} {K:Type}
def Mq(Z:KK P k K)(e:TypeId)(w:World)(b n:Nat)(f:K->Int)(ks:List K):Prop:=
 ∃D:DataW Unit,w.ownsMap P k (plainElem P e) b n D/\(∀s,D.atKey (Z.lit s) (nd 0)=nd (f s))/\∀s,Maps.has D (Z.lit s)=true↔s∈ks
variable {Z:KK P k K} {w w':World} {b n:Nat} {f:K->Int} {ks:List K} {D:DataW Unit}
theorem Mq.lt(h:Mq Z e w b n f ks):b<w.heap.size:=by obtain⟨D,h,_⟩:=h;exact h.lt
theorem Mq.kept(h:Mq Z e w b n f ks)(hb:w'.heap[b]? =w.heap[b]?):Mq Z e w' b n f ks:=by
 obtain⟨D,⟨es,clock,h1,h2⟩,h3⟩:=h;exact⟨D,⟨es,clock,hb.trans h1,h2⟩,h3⟩
theorem Mq.made(w:World):Mq Z e (w.alloc (.map #[] 0)) w.heap.size 0 (fun _=>0) []:=
 ⟨.map [],World.ownsMap_made _ _ _ _,fun _=>rfl,fun s=>by rw[show Maps.has (DataW.map (H:=Unit) []) (Z.lit s)=false from rfl];simp⟩
variable [DecidableEq K]
theorem zx(hD:IsMap D)(h1:∀s,D.atKey (Z.lit s) (nd 0)=nd (f s))(h2:∀s,Maps.has D (Z.lit s)=true↔s∈ks)(s:K)(v:Int):
    (∀t,(D.put (Z.lit s) (nd v)).atKey (Z.lit t) (nd 0)=nd (upd f s v t))/\∀t,Maps.has (D.put (Z.lit s) (nd v)) (Z.lit t)=true↔t∈ks++[s]:=by
 refine⟨fun t=> ?_,fun t=> ?_⟩
 ·by_cases ht:t=s
  ·subst ht;rw[upd_same];exact atKey_put_same hD (Z.isKey t) _ _
  ·rw[bY _ _ ht,atKey_put_other (fun e=>ht (Z.inj _ _ e))];exact h1 t
 ·by_cases ht:t=s
  ·subst ht;rw[has_put_same hD (Z.isKey t)];simp
  ·rw[has_put_other (fun e=>ht (Z.inj _ _ e)),h2 t];simp[ht]
theorem Il{R:Value->Option (DataW Unit×List MemPlace)}{es:Array MapEntry}{clock:Nat}(L:KeyLaw P k)(ht:P.underlying t=some (.map k e)){z:Value}(hz:∀u:World,(zeroValue e).run P u= .ok z u)(hb:w.heap[b]? =some (.map es clock))(F:Fit P k R es clock)
    {key:Value} {kl:Lit} (hkey:keyOf P k key=some kl) :
    ∃(v0:Value) (st:Nat) (w1:World),(Instr.mapEntry t (.map (some b)) key).run P w= .ok (.tuple #[v0,goInt st]) w1/\
     (w1=w\/((Instr.mapUpdate t (.map (some b)) key z).run P w= .ok () w1/\(Instr.lookup t (.map (some b)) key false).run P w= .ok z w))/\
     ∀val:Value,∃w2,(Instr.entryStore t (.map (some b)) (goInt st) val).run P w1= .ok () w2/\(Instr.mapUpdate t (.map (some b)) key val).run P w= .ok () w2:=by
 obtain⟨v0,st,es1,clock1,hE,_,hS⟩:=entry_then_store L ht hz hb F hkey;refine⟨v0,st,_,hE, ?_,fun val=> ?_⟩
 ·rcases L.find w hkey es.toList F.keys with⟨h1,h2⟩|⟨j,e0,h1,h2,h3⟩
  ·right
   have hx:(Instr.mapEntry t (.map (some b)) key).run P w= .ok (.tuple #[z,goInt clock]) (setBlock w b (.map (es.push ⟨key,z,clock⟩) (clock+1))):=by
    simp[Instr.mapEntry,run_underlying ht,MapKept.run_getObj_map hb,L.check w false hkey,h1,hz,MapKept.run_setObj_map _ hb,Result.andThen,setBlock]
   rw[hx]at hE;injection hE with _ hw;rw[<-hw];refine⟨?_, ?_⟩
   ·simp[Instr.mapUpdate,run_underlying ht,MapKept.run_getObj_map hb,L.check w false hkey,h1,MapKept.run_setObj_map _ hb,Result.andThen,setBlock]
   ·simp[Instr.lookup,run_underlying ht,MapKept.run_getObj_map hb,L.check w es.isEmpty hkey,h1,hz,Result.andThen]
  ·left
   have hj:es[j]? =some e0:=(by simpa using h2);have hsame:es.modify j (fun e=>{ e with key:=key })=es:=by
    apply Array.ext';rw[Array.toList_modify,modify_eq_set _ _ _ _ h2];have:({ e0 with key:=key }:MapEntry)=e0:=(by rw[<-h3]);rw[this];exact set_self _ _ _ h2
   have hx:(Instr.mapEntry t (.map (some b)) key).run P w= .ok (.tuple #[e0.val,goInt e0.born]) (setBlock w b (.map es clock)):=by
    simp[Instr.mapEntry,run_underlying ht,MapKept.run_getObj_map hb,L.check w false hkey,h1,hj,h3,L.stays w hkey,hsame,MapKept.run_setObj_map _ hb,Result.andThen,setBlock]
   rw[hx]at hE;injection hE with _ hw;rw[<-hw];obtain⟨hlt,hval⟩:=aG.1 hb;have:w.heap.setIfInBounds b (.map es clock)=w.heap:=by
    rw[<-hval];apply Array.ext';rw[Array.toList_setIfInBounds,set_self];simp
   unfold setBlock;rw[this]
 ·obtain⟨es',clock',h1,h2⟩:=hS (setBlock w b (.map es1 clock1)) val (heap_setBlock_same hb _);refine⟨_,h1, ?_⟩;rw[h2];simp[setBlock]
theorem Mq.bump(h:Mq Z e w b n f ks)(L:KeyLaw P k)(ht:P.underlying t=some (.map k e))(he:P.underlying e=some (.int .i64))(hz:∀u:World,(zeroValue e).run P u= .ok (.int .i64 0) u)(hn:n<maxLen)(x:K)(v:Int)(hv:(Lit.int .i64 v).wf=true):
    ∃(v0:Value) (st:Nat) (w1 w2:World),(Instr.lookup t (.map (some b)) (Z.enc x) false).run P w= .ok (.int .i64 (f x)) w/\(Instr.mapEntry t (.map (some b)) (Z.enc x)).run P w= .ok (.tuple #[v0,goInt st]) w1/\
     (Instr.lookup t (.map (some b)) (Z.enc x) false).run P w1= .ok (.int .i64 (f x)) w1/\(Instr.entryStore t (.map (some b)) (goInt st) (.int .i64 v)).run P w1= .ok () w2/\
     Mq Z e w2 b (n+1) (upd f x v) (ks++[x])/\w.grownBy w1 (some b)/\w.grownBy w2 (some b):=by
 obtain⟨D,hown,h1,h2⟩:=h;have hx:=h1 x;obtain⟨c,hlk,hat,_⟩:=hown.lookup_int Z.law ht he (hz w) (Z.key x);have e0:c=f x:=by
  rw[hx]at hat;simpa using hat.symm
 subst e0;obtain⟨es,clock,hb,F,hs,hD⟩:=id hown;obtain⟨v0,st,w1,hE,hw1,hS⟩:=Il L ht hz hb F (Z.key x);obtain⟨w2,hst,hup⟩:=hS (.int .i64 v);obtain⟨w2',aab,hown2,WK⟩:=hown.store Z.law ht hn (Z.key x) (plainElem_int he hv);rw[hup]at aab;injection aab with _ hw;subst hw;have ht2:=zx hown.isMap h1 h2 x v;refine⟨v0,st,w1,w2,hlk,hE, ?_,hst,⟨_,hown2,ht2.1,ht2.2⟩, ?_,WK.grown⟩
 ·rcases hw1 with rfl|⟨hw1,hlz⟩
  ·exact hlk
  ·obtain⟨w1',OV,hown1,hturn1⟩:=hown.store Z.law ht hn (Z.key x) (plainElem_int (a:=0) he (by decide));rw[hw1]at OV;obtain⟨-,rfl⟩:=Result.ok.inj OV;obtain⟨c,abH,aaD,_⟩:=hown1.lookup_int Z.law ht he (hz w1) (Z.key x);have hp:=(zx hown.isMap h1 h2 x 0).1 x;rw[upd_same]at hp;rw[hp]at aaD;have hc0:c=0:=(by simpa using aaD.symm);rw[hlk]at hlz;have hv0:=(Result.ok.inj hlz).1;rw[hv0];subst hc0;exact abH
 ·rcases hw1 with rfl|⟨hw1,_⟩
  ·exact⟨rfl,rfl,rfl,nR _,fun _ _ _=>rfl⟩
  ·obtain⟨w1',OV,hown1,hturn1⟩:=hown.store Z.law ht hn (Z.key x) (plainElem_int (a:=0) he (by decide));rw[hw1]at OV;obtain⟨-,rfl⟩:=Result.ok.inj OV;exact hturn1.grown
end
end
section
open Go.RowKit
section
variable {α:Type} (ay fst:α->α->Bool)
def lH(s:List α×List α)(d:α×Int):List α×List α:=
 if d.2<=0 then(dG ay s.1 d.1,if (dG ay s.1 d.1).length<s.1.length then s.2++[d.1]else s.2)else s
def fF(s:List α×List α)(us:List (α×Int)):List α×List α:=us.foldl (lH ay) s
def nV(f:α->Int)(l F G:List α)(k:Nat):List α:=if 0<G.length/\F.length<k then bg ay fst F (l.filter fun t=> !(decide (f t<=0)|| !bE ay G t))else F
def EJ(f:α->Int)(l fr:List α)(us:List (α×Int))(k:Nat):List α:=
 bg ay fst (nV ay fst f l (fF ay (fr,[]) us).1 (fF ay (fr,[]) us).2 k) ((us.filter fun d=>decide (0<d.2)).map Prod.fst)
end
section
variable {α:Type} {ay fst:α->α->Bool}
theorem sV(s:List α×List α)(d:α×Int)(us:List (α×Int)):fF ay s (d::us)=fF ay (lH ay s d) us:=rfl
theorem xQ{s:List α×List α}{us:List (α×Int)}{d:α×Int}(h:us[k]? =some d):fF ay s (us.take (k+1))=lH ay (fF ay s (us.take k)) d:=by
 unfold fF;rw[tO,h,List.foldl_append];rfl
theorem Lc{s:List α×List α}(h:Good ay fst s.1)(d:α×Int):Good ay fst (lH ay s d).1:=by
 unfold lH;split
 ·exact Em h d.1
 ·exact h
theorem Le(us:List (α×Int)):∀(s:List α×List α),Good ay fst s.1->Good ay fst (fF ay s us).1:=by
 induction us with
 | nil => exact fun s h=>h
 | cons d us ih => exact fun s h=>ih _ (Lc h d)
theorem xn{s:List α×List α}{d:α×Int}{x:α}:x∈(lH ay s d).1↔x∈s.1/\(d.2<=0->ay d.1 x=false):=by
 unfold lH;split
 ·rename_i h;rw[nD];exact⟨fun⟨h1,h2⟩=>⟨h1,fun _=>h2⟩,fun⟨h1,h2⟩=>⟨h1,h2 h⟩⟩
 ·rename_i h;exact⟨fun h1=>⟨h1,fun e=>absurd e h⟩,fun h1=>h1.1⟩
theorem N9(us:List (α×Int)):∀(s:List α×List α) (x:α),x∈(fF ay s us).1↔x∈s.1/\∀d∈us,d.2<=0->ay d.1 x=false:=by
 induction us with
 | nil => exact fun s x=>⟨fun h=>⟨h,fun d hd=>by cases hd⟩,fun h=>h.1⟩
 | cons d us ih=>
  intro s x;rw[sV,ih,xn];constructor
  ·rintro⟨⟨h1,h2⟩,h3⟩;refine⟨h1,fun d' hd'=> ?_⟩;rcases fU.1 hd' with rfl|hd'
   ·exact h2
   ·exact h3 d' hd'
  ·rintro⟨h1,h2⟩;exact⟨⟨h1,h2 d (mX ..)⟩,fun d' hd'=>h2 d' (mO _ hd')⟩
theorem Lb{s:List α×List α}(d:α×Int){x:α}(h:x∈s.2):x∈(lH ay s d).2:=by
 unfold lH;split
 ·show x∈(if _ then _ else _);split
  ·exact List.mem_append_left _ h
  ·exact h
 ·exact h
theorem Ld(us:List (α×Int)):∀(s:List α×List α) {x:α},x∈s.2->x∈(fF ay s us).2:=by
 induction us with
 | nil => exact fun s x h=>h
 | cons d us ih => exact fun s x h=>ih _ (Lb d h)
theorem PT{l:List α}{v x:α}(hx:x∈l)(hb:ay v x=true):(dG ay l v).length<l.length:=by
 unfold dG;refine Nat.lt_of_le_of_ne (List.length_filter_le _ _) (fun e=> ?_);have:=List.length_filter_eq_length_iff.1 e x hx;rw[hb]at this;cases this
theorem PU(us:List (α×Int)):∀(s:List α×List α) (z:α),z∈s.1->z∉(fF ay s us).1->∃g∈(fF ay s us).2,ay g z=true:=by
 induction us with
 | nil => exact fun s z h hn=>absurd h hn
 | cons d us ih=>
  intro s z hz hn;rw[sV]at hn⊢;by_cases h:z∈(lH ay s d).1
  ·exact ih _ z h hn
  ·have h1:d.2<=0/\ay d.1 z=true:=by
     by_cases h2:d.2<=0
     ·refine⟨h2, ?_⟩;cases e:ay d.1 z with
      | true => rfl
      | false => exact absurd (xn.2 ⟨hz,fun _=>e⟩) h
     ·exact absurd (xn.2 ⟨hz,fun e=>absurd e h2⟩) h
   refine⟨d.1,Ld us _ ?_,h1.2⟩;unfold lH;rw[if_pos h1.1,if_pos (PT hz h1.2)];exact List.mem_append_right _ (yF.2 rfl)
theorem EH(us:List (α×Int)):∀(s:List α×List α),(fF ay s us).1.length<=s.1.length/\(fF ay s us).2.length<=s.2.length+us.length:=by
 induction us with
 | nil => exact fun s=>⟨nR _,nR _⟩
 | cons d us ih=>
  intro s;rw[sV];obtain⟨h1,h2⟩:=ih (lH ay s d);have h3:(lH ay s d).1.length<=s.1.length:=by
   unfold lH;split
   ·exact gH _ _
   ·exact nR _
  have h4:(lH ay s d).2.length<=s.2.length+1:=by
   unfold lH;split
   ·show(if _ then _ else _:List α).length<=_;split
    ·simp
    ·omega
   ·omega
  rw[lC];omega
theorem TV(O:rT ay fst){f0 f1:α->Int}{fr ks l:List α}{us:List (α×Int)}(hgood:Good ay fst fr)(hpos:∀x∈fr,0<f0 x)(abP:∀y,0<f0 y->bE ay fr y=true)
    (hch:∀t,f1 t≠f0 t->∃d∈us,d.1=t) (hus:∀d∈us,d.2=f1 d.1) (_:ks.Nodup) (hks:∀t,t∈ks↔f1 t≠0) (hl:∀t,t∈l↔t∈ks)
    (hsub:∀F:List α,F.Nodup->(∀x∈F,x∈ks)->ks.length<=F.length->∀x∈ks,x∈F) :
    Good ay fst (EJ ay fst f1 l fr us ks.length)/\(∀x∈EJ ay fst f1 l fr us ks.length,0<f1 x)/\∀y,0<f1 y->bE ay (EJ ay fst f1 l fr us ks.length) y=true:=by
 have hF:∀x∈(fF ay (fr,[]) us).1,0<f1 x:=fun x hx=>by
  obtain⟨h1,h2⟩:=(N9 us _ x).1 hx;by_cases e:f1 x=f0 x
  ·rw[e];exact hpos x h1
  ·obtain⟨d,hd,rfl⟩:=hch x e;by_cases h0:d.2<=0
   ·have:=h2 d hd h0;rw[O.refl]at this;cases this
   ·rw[<-hus d hd];omega
 have hFg:Good ay fst (fF ay (fr,[]) us).1:=Le us _ hgood;have hFn:(fF ay (fr,[]) us).1.Nodup:=hFg.imp fun {a b} hab e=>by subst e;rw[O.qj]at hab;cases hab.1
 have hB:Good ay fst (nV ay fst f1 l (fF ay (fr,[]) us).1 (fF ay (fr,[]) us).2 ks.length)/\(∀x∈nV ay fst f1 l (fF ay (fr,[]) us).1 (fF ay (fr,[]) us).2 ks.length,0<f1 x)/\∀y,0<f1 y->f1 y=f0 y->bE ay (nV ay fst f1 l (fF ay (fr,[]) us).1 (fF ay (fr,[]) us).2 ks.length) y=true:=by
  have hout:∀y,0<f1 y->f1 y=f0 y->bE ay (fF ay (fr,[]) us).1 y=true\/bE ay (fF ay (fr,[]) us).2 y=true:=fun y hy e=>by
   obtain⟨z,hz,UR⟩:=cK.1 (abP y (by omega));by_cases hm:z∈(fF ay (fr,[]) us).1
   ·exact Or.inl (cK.2 ⟨z,hm,UR⟩)
   ·obtain⟨g,hg,hgz⟩:=PU us (fr,[]) z hz hm;exact Or.inr (cK.2 ⟨g,hg,O.trans _ _ _ hgz UR⟩)
  generalize (fF ay (fr,[]) us).1=F at *;generalize (fF ay (fr,[]) us).2=G at *;unfold nV;split
  ·refine⟨oM O hFg _,fun x hx=> ?_,fun y hy e=> ?_⟩
   ·rcases qY hx with h1|h1
    ·have:=(mF.1 h1).2;simp at this;omega
    ·exact hF x h1
   ·rcases hout y hy e with h1|h1
    ·exact j3 O _ h1
    ·refine nQ O F (mF.2 ⟨(hl y).2 ((hks y).2 (by omega)), ?_⟩);rw[h1,decide_eq_false (by omega)];rfl
  ·rename_i hno;refine⟨hFg,hF,fun y hy e=> ?_⟩;rcases hout y hy e with h1|h1
   ·exact h1
   ·have hG:0<G.length:=by
      obtain⟨g,hg,_⟩:=cK.1 h1;exact List.length_pos_of_mem hg
    have hlen:ks.length<=F.length:=by
     by_cases h2:F.length<ks.length
     ·exact absurd ⟨hG,h2⟩ hno
     ·omega
    exact cK.2 ⟨y,hsub F hFn (fun x hx=>(hks x).2 (by have:=hF x hx;omega)) hlen y ((hks y).2 (by omega)),O.refl y⟩
 obtain⟨b1,b2,b3⟩:=hB;unfold EJ;refine⟨oM O b1 _,fun x hx=> ?_,fun y hy=> ?_⟩
 ·rcases qY hx with h1|h1
  ·obtain⟨d,hd,rfl⟩:=mM.1 h1;obtain⟨hd1,hd2⟩:=mF.1 hd;rw[<-hus d hd1];simpa using hd2
  ·exact b2 x h1
 ·by_cases he:f1 y=f0 y
  ·exact j3 O _ (b3 y hy he)
  ·obtain⟨d,hd,rfl⟩:=hch y he;exact nQ O _ (mM.2 ⟨d,mF.2 ⟨hd,by rw[hus d hd];simpa using hy⟩,rfl⟩)
end
section
variable {α:Type} [DecidableEq α] (fst:α->α->Bool)
def gD:List α->List α->List (α×Int)
 | [], [] => []
 | [], b::bs => (b,1)::gD [] bs
 | a::az, [] => (a,-1)::gD az []
 | a::az, b::bs => if a=b then gD az bs else if fst a b=true then(a,-1)::gD az (b::bs)else(b,1)::gD (a::az) bs
termination_by l m=>l.length+m.length
end
section
variable {α:Type} [DecidableEq α] {ay fst:α->α->Bool}
theorem jU(O:rT ay fst)(l m:List α)(hl:l.Pairwise fun a b=>fst a b=true)(hm:m.Pairwise fun a b=>fst a b=true)(p:α×Int):
    p∈gD fst l m↔(p.1∈l/\p.1∉m/\p.2= -1)\/(p.1∈m/\p.1∉l/\p.2=1):=by
 induction l,m using gD.induct fst with
 | case1 => simp[gD]
 | case2 b bs ih=>
  obtain⟨_,hm2⟩:=qA.1 hm;rw[gD,fU,ih hl hm2];obtain⟨x,n⟩:=p;simp only[Prod.mk.injEq,List.not_mem_nil,fU,false_and,false_or,not_false_eq_true,true_and];constructor
  ·rintro(⟨rfl,rfl⟩|⟨h1,h2⟩)
   ·exact⟨Or.inl rfl,rfl⟩
   ·exact⟨Or.inr h1,h2⟩
  ·rintro⟨rfl|h1,h2⟩
   ·exact Or.inl ⟨rfl,h2⟩
   ·exact Or.inr ⟨h1,h2⟩
 | case3 a az ih=>
  obtain⟨_,hl2⟩:=qA.1 hl;rw[gD,fU,ih hl2 hm];obtain⟨x,n⟩:=p;simp only[Prod.mk.injEq,List.not_mem_nil,fU,false_and,or_false,not_false_eq_true,true_and];constructor
  ·rintro(⟨rfl,rfl⟩|⟨h1,h2⟩)
   ·exact⟨Or.inl rfl,rfl⟩
   ·exact⟨Or.inr h1,h2⟩
  ·rintro⟨rfl|h1,h2⟩
   ·exact Or.inl ⟨rfl,h2⟩
   ·exact Or.inr ⟨h1,h2⟩
 | case4 az a bs ih=>
  obtain⟨hl1,hl2⟩:=qA.1 hl;obtain⟨hm1,hm2⟩:=qA.1 hm;rw[gD,if_pos rfl,ih hl2 hm2];have n1:∀x∈az,x≠a:=fun x hx e=>by subst e;have:=hl1 x hx;rw[O.qj]at this;cases this
  have n2:∀x∈bs,x≠a:=fun x hx e=>by subst e;have:=hm1 x hx;rw[O.qj]at this;cases this
  simp only[fU,not_or];constructor
  ·rintro(⟨h1,h2,h3⟩|⟨h1,h2,h3⟩)
   ·exact Or.inl ⟨Or.inr h1,⟨n1 _ h1,h2⟩,h3⟩
   ·exact Or.inr ⟨Or.inr h1,⟨n2 _ h1,h2⟩,h3⟩
  ·rintro(⟨h1,⟨h2,h3⟩,h4⟩|⟨h1,⟨h2,h3⟩,h4⟩)
   ·exact Or.inl ⟨h1.resolve_left h2,h3,h4⟩
   ·exact Or.inr ⟨h1.resolve_left h2,h3,h4⟩
 | case5 a az b bs hab hf ih=>
  obtain⟨hl1,hl2⟩:=qA.1 hl;obtain⟨hm1,_⟩:=qA.1 hm;rw[gD,if_neg hab,if_pos hf,fU,ih hl2 hm];have na:a∉b::bs:=fun h=>by
   have:fst a a=true:=by
    rcases fU.1 h with h|h
    ·exact absurd h hab
    ·exact O.tr _ _ _ hf (hm1 a h)
   rw[O.qj]at this;cases this
  have n1:a∉az:=fun h=>by have:=hl1 a h;rw[O.qj]at this;cases this
  obtain⟨x,n⟩:=p;simp only[Prod.mk.injEq];constructor
  ·rintro(⟨rfl,rfl⟩|⟨h1,h2,h3⟩|⟨h1,h2,h3⟩)
   ·exact Or.inl ⟨mX ..,na,rfl⟩
   ·exact Or.inl ⟨mO _ h1,h2,h3⟩
   ·exact Or.inr ⟨h1,fun e=>by
      rcases fU.1 e with rfl|e
      ·exact na h1
      ·exact h2 e,h3⟩
  ·rintro(⟨h1,h2,h3⟩|⟨h1,h2,h3⟩)
   ·rcases fU.1 h1 with rfl|h1
    ·exact Or.inl ⟨rfl,h3⟩
    ·exact Or.inr (Or.inl ⟨h1,h2,h3⟩)
   ·exact Or.inr (Or.inr ⟨h1,fun e=>h2 (mO _ e),h3⟩)
 | case6 a az b bs hab hf ih=>
  obtain⟨hl1,_⟩:=qA.1 hl;obtain⟨hm1,hm2⟩:=qA.1 hm;rw[gD,if_neg hab,if_neg hf,fU,ih hl hm2];have Ht:fst b a=true:=O.tot _ _ hab (by cases e:fst a b with|true=>exact absurd e hf|false=>rfl);have nb:b∉a::az:=fun h=>by
   have:fst b b=true:=by
    rcases fU.1 h with h|h
    ·exact absurd h.symm hab
    ·exact O.tr _ _ _ Ht (hl1 b h)
   rw[O.qj]at this;cases this
  obtain⟨x,n⟩:=p;simp only[Prod.mk.injEq];constructor
  ·rintro(⟨rfl,rfl⟩|⟨h1,h2,h3⟩|⟨h1,h2,h3⟩)
   ·exact Or.inr ⟨mX ..,nb,rfl⟩
   ·exact Or.inl ⟨h1,fun e=>by
      rcases fU.1 e with rfl|e
      ·exact nb h1
      ·exact h2 e,h3⟩
   ·exact Or.inr ⟨mO _ h1,h2,h3⟩
  ·rintro(⟨h1,h2,h3⟩|⟨h1,h2,h3⟩)
   ·exact Or.inr (Or.inl ⟨h1,fun e=>h2 (mO _ e),h3⟩)
   ·rcases fU.1 h1 with rfl|h1
    ·exact Or.inl ⟨rfl,h3⟩
    ·exact Or.inr (Or.inr ⟨h1,h2,h3⟩)
theorem IC(O:rT ay fst)(l m:List α)(hl:l.Pairwise fun a b=>fst a b=true)(hm:m.Pairwise fun a b=>fst a b=true):(gD fst l m).Pairwise fun p q=>fst p.1 q.1=true:=by
 induction l,m using gD.induct fst with
 | case1 => rw[gD];exact List.Pairwise.nil
 | case2 b bs ih=>
  obtain⟨hm1,hm2⟩:=qA.1 hm;rw[gD];refine qA.2 ⟨fun q hq=> ?_,ih hl hm2⟩;rcases(jU O _ _ hl hm2 q).1 hq with⟨h1,_⟩|⟨h1,_⟩
  ·cases h1
  ·exact hm1 _ h1
 | case3 a az ih=>
  obtain⟨hl1,hl2⟩:=qA.1 hl;rw[gD];refine qA.2 ⟨fun q hq=> ?_,ih hl2 hm⟩;rcases(jU O _ _ hl2 hm q).1 hq with⟨h1,_⟩|⟨h1,_⟩
  ·exact hl1 _ h1
  ·cases h1
 | case4 az a bs ih=>
  rw[gD,if_pos rfl];exact ih (qA.1 hl).2 (qA.1 hm).2
 | case5 a az b bs hab hf ih=>
  obtain⟨hl1,hl2⟩:=qA.1 hl;obtain⟨hm1,_⟩:=qA.1 hm;rw[gD,if_neg hab,if_pos hf];refine qA.2 ⟨fun q hq=> ?_,ih hl2 hm⟩;rcases(jU O _ _ hl2 hm q).1 hq with⟨h1,_⟩|⟨h1,_⟩
  ·exact hl1 _ h1
  ·rcases fU.1 h1 with h1|h1
   ·rw[h1];exact hf
   ·exact O.tr _ _ _ hf (hm1 _ h1)
 | case6 a az b bs hab hf ih=>
  obtain⟨hl1,_⟩:=qA.1 hl;obtain⟨hm1,hm2⟩:=qA.1 hm;have Ht:fst b a=true:=O.tot _ _ hab (by cases e:fst a b with|true=>exact absurd e hf|false=>rfl);rw[gD,if_neg hab,if_neg hf];refine qA.2 ⟨fun q hq=> ?_,ih hl hm2⟩;rcases(jU O _ _ hl hm2 q).1 hq with⟨h1,_⟩|⟨h1,_⟩
  ·rcases fU.1 h1 with h1|h1
   ·rw[h1];exact Ht
   ·exact O.tr _ _ _ Ht (hl1 _ h1)
  ·exact hm1 _ h1
theorem Qg(O:rT ay fst){l m:List α}(hl:l.Pairwise fun a b=>fst a b=true)(hm:m.Pairwise fun a b=>fst a b=true):((gD fst l m).map Prod.fst).Pairwise (fun a b=>fst a b=true)/\(∀x,x∈(gD fst l m).map Prod.fst↔(x∈l/\x∉m)\/(x∈m/\x∉l))/\gD fst l m=((gD fst l m).map Prod.fst).map fun t=>(t,if t∈m then 1 else -1):=by
 refine⟨List.pairwise_map.2 (IC O l m hl hm),fun x=> ?_, ?_⟩
 ·rw[mM];constructor
  ·rintro⟨p,hp,rfl⟩;rcases(jU O l m hl hm p).1 hp with⟨h1,h2,_⟩|⟨h1,h2,_⟩
   ·exact Or.inl ⟨h1,h2⟩
   ·exact Or.inr ⟨h1,h2⟩
  ·rintro(⟨h1,h2⟩|⟨h1,h2⟩)
   ·exact⟨(x,-1),(jU O l m hl hm _).2 (Or.inl ⟨h1,h2,rfl⟩),rfl⟩
   ·exact⟨(x,1),(jU O l m hl hm _).2 (Or.inr ⟨h1,h2,rfl⟩),rfl⟩
 ·rw[List.map_map];have:∀p∈gD fst l m,((fun t=>(t,if t∈m then(1:Int)else -1)) ∘ Prod.fst) p=p:=fun p hp=>by
   rcases(jU O l m hl hm p).1 hp with⟨_,h2,h3⟩|⟨h1,_,h3⟩
   ·show(p.1,if p.1∈m then(1:Int)else -1)=p
    rw[if_neg h2,<-h3]
   ·show(p.1,if p.1∈m then(1:Int)else -1)=p
    rw[if_pos h1,<-h3]
  exact(List.map_congr_left this).trans (List.map_id' _)|>.symm
theorem Uh(l m:List α):(gD fst l m).length<=l.length+m.length:=by
 induction l,m using gD.induct fst with
 | case1 => rw[gD];exact zL _
 | case2 b bs ih => rw[gD];simp at ih⊢;omega
 | case3 a az ih => rw[gD];simp at ih⊢;omega
 | case4 az a bs ih => rw[gD,if_pos rfl];simp at ih⊢;omega
 | case5 a az b bs hab hf ih => rw[gD,if_neg hab,if_pos hf];simp at ih⊢;omega
 | case6 a az b bs hab hf ih => rw[gD,if_neg hab,if_neg hf];simp at ih⊢;omega
end
end
end Go.Proofs.YtiiefcalkjeieaaGreat
