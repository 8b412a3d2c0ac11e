import Derived.Below
import Derived.Deep.RegionHeld
import Derived.WalkKit
import Derived.WalkSpells
import Derived.Sort.Grow
import Derived.Deep.Draws
import Derived.Deep.RegionHeld3
import Derived.Test.YteekbpokkjjipaaGreatRows
import Derived.Deep.DrawnRows
import Derived.Deep.QuietTactic
import Derived.BigQuiet
import Derived.Deep.RegionLaw
variable{w v:Go.World}{a a':Go.Act}{n i b:Nat}{α:Type}{d:Option Nat}{ty:Go.TypeId}{oi:Go.Oper}
set_option maxHeartbeats 1000000
set_option maxRecDepth 100000
namespace Go.Proofs.YteekbpokkjjipaaGreat
section
open Go.RowKit Go.Sort
abbrev dH:=@List.length_append
abbrev lC:=@List.length_cons
abbrev nZ:=@Nat.zero_add
abbrev gL:=@List.getElem?_append_left
abbrev nL:=@Nat.lt_of_lt_of_le
abbrev aG:=@Array.getElem?_eq_some_iff
abbrev lK:=@List.length_take
abbrev nR:=@Nat.le_refl
abbrev nT:=@Nat.le_trans
abbrev DF:=@List.append_nil
abbrev wY:=@List.mem_singleton
abbrev fF:=@List.mem_cons
abbrev vS:=@Value.slice.injEq
abbrev lQ:=@List.getElem?_eq_none
abbrev jQ:=@List.mem_append
abbrev lM:=@List.mem_of_getElem?
abbrev lG:=@List.getElem?_eq_some_iff
abbrev oI:=@Option.some.injEq
abbrev aI:=@Addr.mk.injEq
abbrev fG:=@List.length_map
abbrev aA:=@List.append_assoc
abbrev gM:=@List.getElem?_map
abbrev nO:=@Nat.add_zero
abbrev nY:=@List.getElem?_eq_getElem
abbrev lZ:=@List.length_set
abbrev DD:=@List.map_append
abbrev mM:=@List.mem_map
abbrev mF:=@List.mem_filter
abbrev lS:=@List.length_singleton
theorem _root_.Go.RowKit.Hid.o{p:Prop}(h:Go.RowKit.Hid p):p:=h
theorem _root_.Go.Shut.o{p:Prop}(h:Go.Shut p):p:=h
theorem aB(a:α):∃x,x=a:=⟨_,rfl⟩
def Gr(w v:World):Prop:=∃q os,v=grow (w.drewN q) os
theorem Gr.refl(w:World):Gr w w:=⟨0,#[],by rw[grow_empty];rfl⟩
theorem Gr.alloc(h:Gr w v)(o:Obj):Gr w (v.alloc o):=by
 obtain⟨q,os,rfl⟩:=h;exact⟨q,os++#[o],by rw[alloc_eq_grow,grow_grow]⟩
theorem Gr.drew(h:Gr w v):Gr w v.drew:=by
 obtain⟨q,os,rfl⟩:=h;exact⟨q+1,os,rfl⟩
theorem Gr.drewN(h:Gr w v)(n:Nat):Gr w (v.drewN n):=by
 obtain⟨q,os,rfl⟩:=h;exact⟨q+n,os,by simp only[World.drewN,grow,Nat.add_assoc]⟩
theorem Gr.grown(h:Gr w v)(os:Array Obj):Gr w (grow v os):=by
 obtain⟨q,os',rfl⟩:=h;exact⟨q,os'++os,by rw[grow_grow]⟩
theorem Gr.trans{u:World}(h:Gr u v)(k:Gr v w):Gr u w:=by
 obtain⟨q,os,rfl⟩:=k;exact(h.drewN q).grown os
theorem Gr.below(h:Gr w v):Below w.heap.size w v:=by
 obtain⟨q,os,rfl⟩:=h;exact⟨rfl,rfl,rfl,by simp[World.drewN],fun k hk=>heap_grow_old (w.drewN q) os hk⟩
theorem Gr.size(h:Gr w v):w.heap.size<=v.heap.size:=h.below.size
theorem Gr.cell(h:Gr w v){o:Nat}(hb:b<w.heap.size):v.cell? ⟨b,o,none⟩=w.cell? ⟨b,o,none⟩:=h.below.cell (p:=⟨b,o,none⟩) hb
theorem Gr.frozen(h:Gr w v){o:Nat}(hb:b<w.heap.size):v.frozen? ⟨b,o,none⟩=w.frozen? ⟨b,o,none⟩:=h.below.frozen (p:=⟨b,o,none⟩) hb
theorem Gr.cells(h:Gr w v):(∀b o,b<w.heap.size->v.cell? ⟨b,o,none⟩=w.cell? ⟨b,o,none⟩)/\(∀b o,b<w.heap.size->v.frozen? ⟨b,o,none⟩=w.frozen? ⟨b,o,none⟩):=
 ⟨fun _ _ hb=>h.cell hb,fun _ _ hb=>h.frozen hb⟩
theorem Dm{W w1:World}(hb:Below W.heap.size W w1):(∀b o,b<W.heap.size->w1.cell? ⟨b,o,none⟩=W.cell? ⟨b,o,none⟩)/\(∀b o,b<W.heap.size->w1.frozen? ⟨b,o,none⟩=W.frozen? ⟨b,o,none⟩):=
 ⟨fun b o h=>hb.cell (p:=⟨b,o,none⟩) h,fun b o h=>hb.frozen (p:=⟨b,o,none⟩) h⟩
end
section
open Go.RowKit
section
variable {P:Program} {ops:Array Oper} {Q:Exit->Act->World->Prop} {md:Region.Mode} {S:World->Prop} {D:List Nat}
def dE(P:Program)(md:Region.Mode)(ops:Array Oper)(Q:Exit->Act->World->Prop)(S:World->Prop)(D:List Nat):Nat->Array Bool->Act->World->Prop
 | 0, ls, a, w => Region.ready md ops ls=[]/\Q .normal a w
 | n + 1, ls, a, w => (Region.ready md ops ls=[]->Q .normal a w)/\∀j∈Region.ready md ops ls,wpOp P ops Q j (fun b u=>(j∉D->S u)/\dE P md ops Q S D n (ls.setIfInBounds j true) b u) a w
theorem IW(n:Nat):∀(ls:Array Bool) (a:Act) (w:World),dE P md ops Q S D n ls a w->wpAny P md ops Q n ls a w:=by
 induction n with
 | zero => intro _ _ _ h;exact h
 | succ n ih=>
  intro ls a w h;exact⟨h.1,fun j hj=>wpOp_mono (fun b u x=>ih _ b u x.2) (h.2 j hj)⟩
def Behind(md:Region.Mode)(ops:Array Oper)(i:Nat)(D:List Nat):Bool:=D.all fun j=>match ops[j]? with
 | some o => o.after.toList.any fun e=>Region.binds md e&&(e.on==i||D.contains e.on)
 | none => true
theorem Gd{j:Nat}{ls:Array Bool}(hD:Behind md ops i D=true)(hi:ls.getD i false=false)(hl:∀k∈D,ls.getD k false=false)(hj:j∈Region.ready md ops ls):j∉D:=fun YF=>by
 obtain⟨_,o,ho,hall⟩:=mem_ready.1 hj;have h1:=List.all_eq_true.1 hD j YF;rw[ho]at h1;obtain⟨x,hx,h2⟩:=List.any_eq_true.1 h1;rw[Bool.and_eq_true,Bool.or_eq_true]at h2;have h3:=hall x (Array.mem_toList_iff.1 hx) h2.1;rcases h2.2 with h4|h4
 ·rw[beq_iff_eq]at h4;rw[h4,hi]at h3;cases h3
 ·rw[hl _ (by simpa using h4)]at h3;cases h3
theorem yX{v:Value}(hi:ops[i]? =some oi)(hs:Region.noSelect ops=true)(hQ:∀c a w,Q (.panic c) (a.put oi.dst v) w->Q (.panic c) a w)(hD:Behind md ops i D=true)(hiD:D.contains i=false)(n:Nat):
    ∀(ls:Array Bool) (a:Act) (w:World),(∀j oj,ops[j]? =some oj->j≠i->ls.getD j true=false->(∀e∈oj.after,Region.binds md e=true->e.on≠i)->oi.apart ops oj=true)->(∀k∈D,ls.getD k false=false)->i∈Region.ready md ops ls->YieldsIf P ops S oi v a->S w->
     dE P md ops Q S D n (ls.setIfInBounds i true) (a.put oi.dst v) w->dE P md ops Q S D (n+1) ls a w:=by
 have hsel:=Region.noSelect_spec hs;have hin:i∉D:=by simpa using hiD
 induction n with
 | zero=>
  intro ls a w _ _ hr hy hS H;refine⟨fun h0=>(by rw[h0]at hr;cases hr),fun j hj=> ?_⟩;by_cases e:j=i
  ·rw[e];exact hy.wpOp hi hS ⟨fun _=>hS,H⟩
  ·have h1:=ready_mono hj e;rw[H.1]at h1;cases h1
 | succ n ih=>
  intro ls a w hfree hun hr hy hS H;refine⟨fun h0=>(by rw[h0]at hr;cases hr),fun j hj=> ?_⟩;by_cases e:j=i
  ·rw[e];exact hy.wpOp hi hS ⟨fun _=>hS,H⟩
  ·obtain⟨hju,oj,hoj,hall⟩:=mem_ready.1 hj;have hi0:ls.getD i false=false:=by
    have:=(mem_ready.1 hr).1;rcases Nat.lt_or_ge i ls.size with h|h
    ·simp[h]at this⊢;exact this
    ·simp[Array.getElem?_eq_none h]
   have YF:=Gd hD hi0 hun hj;have hno:∀x∈oj.after,Region.binds md x=true->x.on≠i:=fun x hx hb e2=>by
    have:=hall x hx hb;rw[e2,hi0]at this;cases this
   have h2:=wpOp_putIf hoj (hfree j oj hoj e hju hno) (fun cs b=>hsel i oi cs b hi) (fun cs b=>hsel j oj cs b hoj) hQ hy (H.2 j (ready_mono hj e));refine wpOp_mono (fun b u h3=>⟨fun _=>h3.2.1 YF,ih _ b u ?_ ?_ (ready_mono hr (Ne.symm e)) h3.1 (h3.2.1 YF) ?_⟩) h2
   ·intro k ok hk hki hku hkn;refine hfree k ok hk hki ?_ hkn;by_cases e3:j=k
    ·exact e3 ▸ hju
    ·rw[getD_set_ne true e3]at hku;exact hku
   ·intro k hk;have hne:j≠k:=fun e3=>YF (by rw[e3];exact hk);rw[getD_set_ne false hne];exact hun k hk
   ·rw[Array.setIfInBounds_comm _ _ e];exact h3.2.2
theorem rF{v:Value}{ls:Array Bool}(hi:ops[i]? =some oi)(hs:Region.noSelect ops=true)(hf:Region.free md ops ls i=true)(hr:(Region.ready md ops ls).contains i=true)
    (hQ:∀c a w,Q (.panic c) (a.put oi.dst v) w->Q (.panic c) a w) (hD:(Behind md ops i D && !D.contains i&&D.all fun k=> !ls.getD k false)=true) (hy:YieldsIf P ops S oi v a) (hS:S w)
    (h:dE P md ops Q S D n (ls.setIfInBounds i true) (a.put oi.dst v) w):dE P md ops Q S D (n+1) ls a w:=by
 rw[Bool.and_eq_true,Bool.and_eq_true]at hD;exact yX hi hs hQ hD.1.1 (by simpa using hD.1.2) n ls a w (Region.free_spec hi hf) (fun k hk=>by simpa using List.all_eq_true.1 hD.2 k hk) (by simpa using hr) hy hS h
theorem D9{o:Oper}{ls:Array Bool}(hr:Region.ready md ops ls=[i])(ho:ops[i]? =some o)
    (h:∀K':Act->World->Prop,Shut (∀b u,(i∉D->S u)->dE P md ops Q S D n (ls.setIfInBounds i true) b u->K' b u)->if Region.wanted o (yielded ops a.tmps)=true then Oper.wp P o a w K' Q else K' (a.put o.dst undef) w):dE P md ops Q S D (n+1) ls a w:=by
 refine⟨fun h0=>(by rw[h0]at hr;cases hr),fun j hj=> ?_⟩;rw[hr,wY]at hj;subst hj;exact wpOp_step ho (fun K' hK=>h K' (fun b u h1 h2=>hK b u ⟨h1,h2⟩))
theorem aj{ls:Array Bool}(hr:Region.ready md ops ls=[])(h:Q .normal a w)(n:Nat):dE P md ops Q S D n ls a w:=by
 cases n with
 | zero => exact⟨hr,h⟩
 | succ n => exact⟨fun _=>h,fun j hj=>by rw[hr]at hj;cases hj⟩
theorem av{id:Nat}(hm:P.follows .mixedOrders=true)(h:dE P .any ops Q S D ops.size (Array.replicate ops.size false) a w.drew):(Code.region id ops true).wp P Q a w:=
 wp_region_any hm (IW _ _ _ _ h)
end
theorem QA{p:Prop}(h:p):Hid p:=h
theorem qI{l:List α}{a:α}:l.toArray.setIfInBounds i a=(l.set i a).toArray:=by simp
theorem q0{a b:α}{l:List α}:(a::l).set 0 b=b::l:=rfl
theorem qS{a b:α}{l:List α}:(a::l).set (n+1) b=a::l.set n b:=rfl
section
variable {P:Program} {ops:Array Oper} {Q:Exit->Act->World->Prop} {md:Region.Mode} {S:World->Prop} {D:List Nat}
theorem drop_at{l:List α}{x:α}{r:List α}(h:l.drop i=x::r):l[i]? =some x:=by
 have:=List.getElem?_drop (xs:=l) (i:=i) (j:=0);rw[h]at this;simpa using this.symm
theorem aR(i:Nat){o:Op}{pos:String}{af:Array Edge}{gd:Option (Nat×Bool)}{r:List Oper}{v:Value}{ls ls':Array Bool}(hS:S w)
    (hy:∀w,S w->(execOp a.eval ⟨d,o,ty,"",#[],gd⟩).run P w= .ok (.value v) w)
    (h:dE P md ops Q S D n ls' a' w) (hi:ops.toList.drop i=⟨d,o,ty,pos,af,gd⟩::r:=by exact rfl) (hl:ls.setIfInBounds i true=ls':=by(try simp only[qI,q0,qS]);exact rfl) (ha:a.put d v=a':=by(try simp only[Act.put,qI,q0,qS]);exact rfl) (hs:Region.noSelect ops=true:=by kernel_rfl) (hf:Region.free md ops ls i=true:=by kernel_rfl) (hr:(Region.ready md ops ls).contains i=true:=by kernel_rfl)
    (hQ:∀c a w,Q (.panic c) (a.put d v) w->Q (.panic c) a w:=by exact fun _ _ _ h=>h) (hD:(Behind md ops i D && !D.contains i&&D.all fun k=> !ls.getD k false)=true:=by kernel_rfl) (hw:Region.wanted ⟨d,o,ty,"",#[],gd⟩ (yielded ops a.tmps)=true:=by rfl):dE P md ops Q S D (n+1) ls a w:=
 rF (oi:=⟨d,o,ty,pos,af,gd⟩) (by simpa using drop_at hi) hs hf hr hQ hD (Or.inl ⟨hw,hy⟩) hS (by subst hl ha;exact h)
theorem au(i:Nat){o:Op}{pos:String}{af:Array Edge}{gd:Option (Nat×Bool)}{r:List Oper}{v:Value}{ls ls':Array Bool}(hS:S w)
    (h:dE P md ops Q S D n ls' a' w) (hi:ops.toList.drop i=⟨d,o,ty,pos,af,gd⟩::r:=by exact rfl)
    (hy:∀w,S w->(execOp a.eval ⟨d,o,ty,"",#[],gd⟩).run P w= .ok (.value v) w:=by intro W hSw;(try dsimp only at hSw);(try have hk:=HP.o W hSw);go_simp;try(with_reducible rfl)) (hl:ls.setIfInBounds i true=ls':=by(try simp only[qI,q0,qS]);exact rfl) (ha:a.put d v=a':=by(try simp only[Act.put,qI,q0,qS]);exact rfl) (hs:Region.noSelect ops=true:=by kernel_rfl) (hf:Region.free md ops ls i=true:=by kernel_rfl) (hr:(Region.ready md ops ls).contains i=true:=by kernel_rfl)
    (hQ:∀c a w,Q (.panic c) (a.put d v) w->Q (.panic c) a w:=by exact fun _ _ _ h=>h) (hD:(Behind md ops i D && !D.contains i&&D.all fun k=> !ls.getD k false)=true:=by kernel_rfl) (hw:Region.wanted ⟨d,o,ty,"",#[],gd⟩ (yielded ops a.tmps)=true:=by rfl):dE P md ops Q S D (n+1) ls a w:=
 aR i hS hy h hi hl ha hs hf hr hQ hD hw
theorem bQ(i:Nat){o:Op}{pos:String}{af:Array Edge}{gd:Option (Nat×Bool)}{r:List Oper}{ls ls':Array Bool}(hS:S w)
    (h:dE P md ops Q S D n ls' a' w) (hi:ops.toList.drop i=⟨d,o,ty,pos,af,gd⟩::r:=by exact rfl) (hl:ls.setIfInBounds i true=ls':=by(try simp only[qI,q0,qS]);exact rfl) (ha:a.put d undef=a':=by(try simp only[Act.put,qI,q0,qS]);exact rfl) (hs:Region.noSelect ops=true:=by kernel_rfl) (hf:Region.free md ops ls i=true:=by kernel_rfl) (hr:(Region.ready md ops ls).contains i=true:=by kernel_rfl)
    (hQ:∀c a w,Q (.panic c) (a.put d undef) w->Q (.panic c) a w:=by exact fun _ _ _ h=>h) (hD:(Behind md ops i D && !D.contains i&&D.all fun k=> !ls.getD k false)=true:=by kernel_rfl) (hw:Region.wanted ⟨d,o,ty,"",#[],gd⟩ (yielded ops a.tmps)=false:=by rfl):dE P md ops Q S D (n+1) ls a w:=
 rF (oi:=⟨d,o,ty,pos,af,gd⟩) (by simpa using drop_at hi) hs hf hr hQ hD (Or.inr ⟨hw,rfl⟩) hS (by subst hl ha;exact h)
theorem bF(i:Nat){o:Op}{pos:String}{af:Array Edge}{gd:Option (Nat×Bool)}{r:List Oper}{ls:Array Bool}
    (h:∀K':Act->World->Prop,Shut (∀b u,(i∉D->S u)->dE P md ops Q S D n (ls.setIfInBounds i true) b u->K' b u)->if Region.wanted ⟨d,o,ty,pos,af,gd⟩ (yielded ops a.tmps)=true then Oper.wp P ⟨d,o,ty,pos,af,gd⟩ a w K' Q else K' (a.put d undef) w)
    (ho:ops.toList.drop i=⟨d,o,ty,pos,af,gd⟩::r:=by exact rfl) (hr:Region.ready md ops ls=[i]:=by kernel_rfl):dE P md ops Q S D (n+1) ls a w:=
 D9 hr (by simpa using drop_at ho) h
end
end
section
open Go.RowKit Go.Sort
def oV(a b c x y z:Int):Bool:=(a==x)&&((b==y)&&(c==z))
theorem sZ(a b c x y z:Int):oV a b c x y z=true↔a=x/\b=y/\c=z:=by simp[oV]
theorem zD(a b c x y z:Int)(w:World):Sem.run Tryz.prog (Op.equalIn 10000 45 (.agg #[.int .u64 a, .int .u64 b, .int .u64 c]) (.agg #[.int .u64 x, .int .u64 y, .int .u64 z])) w= .ok (oV a b c x y z) w:=by
 have u3:=Tryz.underlying43;have a3:=Tryz.isAgg43;have z3:=Tryz.sizeOf43;have hS:Tryz.prog.underlying 45=some (.struct (Tryz.prog.fieldsOf 45)):=by kernel_rfl
 have hp:Tryz.prog.stoodInHeld 45=false:=by kernel_rfl
 rw[show(10000:Nat)=9999+1 from rfl,run_equalIn_agg w 9999 45 _ _ hS hp];simp only[Program.fieldsOf,Tryz.underlying45];go_simp;by_cases h1:a=x<;>by_cases h2:b=y<;>by_cases h3:c=z<;>simp[oV,h1,h2,h3]
theorem Jc(d:Nat)(p q r p' q' r':Bool)(w:World):Sem.run Tryz.prog (Op.equalIn (d+2) 116 (.agg #[.bool p, .bool q, .bool r]) (.agg #[.bool p', .bool q', .bool r'])) w= .ok (p==p'&&(q==q'&&r==r')) w:=by
 have u3:=Tryz.underlying4;have a3:=Tryz.isAgg4;have z3:=Tryz.sizeOf4;have hu:Tryz.prog.underlying 116=some (.array 3 4):=by kernel_rfl
 have hb:∀x y W,Sem.run Tryz.prog (Op.equalIn (d+1) 4 (.bool x) (.bool y)) W= .ok (x==y) W:=fun x y W=>run_equalIn_bool' W d 4 x y u3;rw[Op.equalIn];simp only[Sem.run_bind,run_underlying hu,Result.andThen_ok,Std.Legacy.Range.forIn_eq_forIn_range',Std.Legacy.Range.size];go_simp;simp only[show List.range' 0 3=[0,1,2]from rfl,List.forIn_cons,List.forIn_nil];cases p<;>cases p'<;>cases q<;>cases q'<;>cases r<;>cases r'<;>go_simp
theorem Lr(p q r p' q' r':Bool)(w:World):Sem.run Tryz.prog (Op.equalIn 10000 116 (.agg #[.bool p, .bool q, .bool r]) (.agg #[.bool p', .bool q', .bool r'])) w= .ok (p==p'&&(q==q'&&r==r')) w:=Jc 9998 p q r p' q' r' w
attribute [local go_sem ↓] Go.wp_at_zero Go.wp_at_succ
def Bn(a b c x y z:Int):Bool:=decide (a<=x)&&(decide (b<=y)&&decide (c<=z))
def c64(x y:Int):Int:=if x<y then -1 else if y<x then 1 else 0
def Kc(p q r:Int):Int:=if p=0 then(if q=0 then r else q)else p
def kG(a b c x y z:Int):Int:=Kc (c64 a x) (c64 b y) (c64 c z)
theorem zF{k:IntKind}{a b:Int}(h:a=b):Ending.returned (.int k a)= .returned (.int k b):=by rw[h]
theorem Qm(x y:Int)(w:World):
    Calls Tryz.prog 52 #[.int .u64 x, .int .u64 y] w fun e w'=>e= .returned (.bool (decide (x<=y)))/\w'=w:=by
 go_enter Tryz.func52,Tryz.ntmps52;go_wp2;go_ret;exact⟨rfl,rfl⟩
theorem Ji(a b c x y z:Int)(w:World):
    Calls Tryz.prog 51 #[.agg #[.int .u64 a, .int .u64 b, .int .u64 c], .agg #[.int .u64 x, .int .u64 y, .int .u64 z], .func (.func 52) #[] #[]] w fun e w'=>
     e= .returned (.agg #[.bool (decide (a<=x)), .bool (decide (b<=y)), .bool (decide (c<=z))])/\Gr w w':=by
 go_enter Tryz.func51,Tryz.ntmps51;go_wp2;go_region_held3 (fun w'=>w'.cell? ⟨w.heap.size,0,none⟩=some (.int .u64 a)/\w'.cell? ⟨w.heap.size,1,none⟩=some (.int .u64 b)/\w'.cell? ⟨w.heap.size,2,none⟩=some (.int .u64 c)/\w'.cell? ⟨w.heap.size+1,0,none⟩=some (.int .u64 x)/\w'.cell? ⟨w.heap.size+1,1,none⟩=some (.int .u64 y)/\w'.cell? ⟨w.heap.size+1,2,none⟩=some (.int .u64 z)) (go_keep)
  (first|(go_at_call 52;refine(Qm _ _ _).mono ?_;rintro e w' ⟨rfl,rfl⟩))
 go_wp2;exact bodyPost_ret (v:= .agg #[.bool (decide (a<=x)), .bool (decide (b<=y)), .bool (decide (c<=z))]) (by simp[results,Tryz.results51,go_sem]) rfl ⟨rfl,((((Gr.refl _).alloc _).alloc _).alloc _).drew⟩
theorem kz(a b c x y z:Int)(w:World):
    Calls Tryz.prog 18 #[.agg #[.int .u64 a, .int .u64 b, .int .u64 c], .agg #[.int .u64 x, .int .u64 y, .int .u64 z]] w fun e w'=>
     e= .returned (.bool (Bn a b c x y z))/\Gr w w':=by
 unfold Bn;have H:=fun W=>Ji a b c x y z W;have heq:=fun p q r p' q' r' W=>Lr p q r p' q' r' W;generalize decide (a<=x)=p1 at *;generalize decide (b<=y)=p2 at *;generalize decide (c<=z)=p3 at *;go_enter Tryz.func18,Tryz.ntmps18;go_wp2_with (go_at_call 51;refine(H _).mono ?_;rintro e w1 ⟨rfl,hg⟩);go_ret;exact⟨rfl,(((Gr.refl _).alloc _).alloc _|>.trans hg).alloc _⟩
theorem Jv(x:Int)(w:World):
    Calls Tryz.prog 92 #[.int .u64 x] w fun e w'=>e= .returned (.bool false)/\w'=w:=by
 go_enter Tryz.func92,Tryz.ntmps92;go_wp2;go_ret;exact⟨by simp,rfl⟩
theorem JU(x y:Int)(w:World):
    Calls Tryz.prog 49 #[.int .u64 x, .int .u64 y] w fun e w'=>e= .returned (.int .i64 (c64 x y))/\w'=w:=by
 have H:=fun v W=>Jv v W;go_enter Tryz.func49,Tryz.ntmps49;go_wp2_with (go_at_call 92;refine(H _ _).mono ?_;rintro e w1 ⟨rfl,rfl⟩);all_goals go_ret
 all_goals refine⟨?_,rfl⟩
 all_goals refine zF ?_
 all_goals unfold c64
 all_goals (repeat split)<;>omega
theorem jM(a b c:Int)(w:World):
    Calls Tryz.prog 133 #[.agg #[.int .u64 a, .int .u64 b, .int .u64 c]] w fun e w'=>
     e= .returned (.agg #[.int .u64 a, .int .u64 b, .int .u64 c])/\Gr w w':=by
 go_enter Tryz.func133,Tryz.ntmps133;go_wp2;exact bodyPost_ret (v:= .agg #[.int .u64 a, .int .u64 b, .int .u64 c]) (by simp[results,Tryz.results133,go_sem]) rfl ⟨rfl,(((Gr.refl _).alloc _).alloc _)⟩
theorem oD(a b c:Int)(w:World):
    Calls Tryz.prog 134 #[.agg #[.int .u64 a, .int .u64 b, .int .u64 c]] w fun e w'=>
     e= .returned (.agg #[.int .u64 a, .int .u64 b, .int .u64 c])/\Gr w w':=by
 go_enter Tryz.func134,Tryz.ntmps134;go_wp2;exact bodyPost_ret (v:= .agg #[.int .u64 a, .int .u64 b, .int .u64 c]) (by simp[results,Tryz.results134,go_sem]) rfl ⟨rfl,(((Gr.refl _).alloc _).alloc _)⟩
theorem Ez(a b c:Int)(w1:World):Sem.run Tryz.prog (Builtin.clear_ #[233] 0 #[.slice (some ⟨w1.heap.size,1,none⟩) 2 2]) (w1.alloc (.cells #[.int .u64 a, .int .u64 b, .int .u64 c] 231))= .ok (.tuple #[]) (w1.alloc (.cells #[.int .u64 a, .int .u64 0, .int .u64 0] 231)):=by
 unfold Builtin.clear_;go_simp;rw[show(Builtin.zeroCells #[Value.int IntKind.u64 0] 2).toList=[Value.int IntKind.u64 0,Value.int IntKind.u64 0]from by kernel_rfl];go_simp
theorem Ey(a b c:Int)(w1:World):Sem.run Tryz.prog (Builtin.clear_ #[233] 0 #[.slice (some ⟨w1.heap.size,2,none⟩) 1 1]) (w1.alloc (.cells #[.int .u64 a, .int .u64 b, .int .u64 c] 231))= .ok (.tuple #[]) (w1.alloc (.cells #[.int .u64 a, .int .u64 b, .int .u64 0] 231)):=by
 unfold Builtin.clear_;go_simp;rw[show(Builtin.zeroCells #[Value.int IntKind.u64 0] 1).toList=[Value.int IntKind.u64 0]from by kernel_rfl];go_simp
theorem Ex(p:Option Addr)(n:Nat)(w1:World):Sem.run Tryz.prog (Builtin.clear_ #[233] 0 #[.slice p 0 n]) w1= .ok (.tuple #[]) w1:=by
 unfold Builtin.clear_;cases p<;>go_simp
def bL(_a b c n:Int):Int:=if n<1\/3<n then 10 else if (n<2->b=0)/\(n<3->c=0)then 0 else 10
theorem Dz(a b c n:Int)(w:World):
    Calls Tryz.prog 75 #[.agg #[.int .u64 a, .int .u64 b, .int .u64 c], .int .i64 n] w fun e w'=>
     e= .returned (.int .i64 (bL a b c n))/\Gr w w':=by
 have heq:=fun a b c x y z W=>zD a b c x y z W;by_cases h1:n<1
 ·have hr:bL a b c n=10:=by simp[bL,h1]
  rw[hr];clear hr;go_enter Tryz.func75,Tryz.ntmps75;go_wp2;go_ret;exact⟨rfl,(Gr.refl _).alloc _⟩
 ·by_cases h3:3<n
  ·have hr:bL a b c n=10:=(by simp[bL,h3]);rw[hr];clear hr;go_enter Tryz.func75,Tryz.ntmps75;go_wp2;go_ret;exact⟨rfl,(Gr.refl _).alloc _⟩
  ·have hn:n=1\/n=2\/n=3:=(by omega);clear h1 h3;have hk1:=fun a b c W=>Ez a b c W;have hk2:=fun a b c W=>Ey a b c W;have hk3:=fun p n W=>Ex p n W;rcases hn with rfl|rfl|rfl
   ·have hE:(oV a 0 0 a b c=true/\bL a b c 1=0)\/(oV a 0 0 a b c=false/\bL a b c 1=10):=by
      by_cases hb:b=0<;>by_cases hc:c=0<;>simp[oV,bL,hb,hc]<;>omega
    rcases hE with⟨hE,hT⟩|⟨hE,hT⟩;all_goals rw[hT];clear hT
    all_goals go_enter Tryz.func75,Tryz.ntmps75
    all_goals go_wp2_with (go_at_call 133;refine(jM _ _ _ _).mono ?_;rintro e w1 ⟨rfl,hg⟩;obtain⟨hc,hf⟩:=hg.cells;have hz:w.heap.size<w1.heap.size:=by { have:=hg.size;simp at this;omega };have hz':w.heap.size<w1.heap.size+1:=by omega)
    all_goals go_region_held3 (fun w'=>w'.cell? ⟨w.heap.size,0,none⟩=some (.int .u64 a)/\w'.cell? ⟨w.heap.size,1,none⟩=some (.int .u64 b)/\w'.cell? ⟨w.heap.size,2,none⟩=some (.int .u64 c)/\w'.cell? ⟨w1.heap.size,0,none⟩=some (.int .u64 a)/\w'.cell? ⟨w1.heap.size,1,none⟩=some (.int .u64 0)/\w'.cell? ⟨w1.heap.size,2,none⟩=some (.int .u64 0)) (go_keep)
     (first|(go_at_call 134;refine(oD _ _ _ _).mono ?_;rintro e w2 ⟨rfl,hg2⟩;obtain⟨hc2,hf2⟩:=hg2.cells))
    all_goals go_wp2
    all_goals go_ret
    all_goals exact⟨rfl,((((Gr.refl _).alloc _).trans hg).alloc _).drew.trans hg2⟩
   ·have hE:(oV a b 0 a b c=true/\bL a b c 2=0)\/(oV a b 0 a b c=false/\bL a b c 2=10):=by
      by_cases hc:c=0<;>simp[oV,bL,hc]<;>omega
    rcases hE with⟨hE,hT⟩|⟨hE,hT⟩;all_goals rw[hT];clear hT
    all_goals go_enter Tryz.func75,Tryz.ntmps75
    all_goals go_wp2_with (go_at_call 133;refine(jM _ _ _ _).mono ?_;rintro e w1 ⟨rfl,hg⟩;obtain⟨hc,hf⟩:=hg.cells;have hz:w.heap.size<w1.heap.size:=by { have:=hg.size;simp at this;omega };have hz':w.heap.size<w1.heap.size+1:=by omega)
    all_goals go_region_held3 (fun w'=>w'.cell? ⟨w.heap.size,0,none⟩=some (.int .u64 a)/\w'.cell? ⟨w.heap.size,1,none⟩=some (.int .u64 b)/\w'.cell? ⟨w.heap.size,2,none⟩=some (.int .u64 c)/\w'.cell? ⟨w1.heap.size,0,none⟩=some (.int .u64 a)/\w'.cell? ⟨w1.heap.size,1,none⟩=some (.int .u64 b)/\w'.cell? ⟨w1.heap.size,2,none⟩=some (.int .u64 0)) (go_keep)
     (first|(go_at_call 134;refine(oD _ _ _ _).mono ?_;rintro e w2 ⟨rfl,hg2⟩;obtain⟨hc2,hf2⟩:=hg2.cells))
    all_goals go_wp2
    all_goals go_ret
    all_goals exact⟨rfl,((((Gr.refl _).alloc _).trans hg).alloc _).drew.trans hg2⟩
   ·have hE:(oV a b c a b c=true/\bL a b c 3=0)\/(oV a b c a b c=false/\bL a b c 3=10):=by
      simp[oV,bL]
    rcases hE with⟨hE,hT⟩|⟨hE,hT⟩;all_goals rw[hT];clear hT
    all_goals go_enter Tryz.func75,Tryz.ntmps75
    all_goals go_wp2_with (go_at_call 133;refine(jM _ _ _ _).mono ?_;rintro e w1 ⟨rfl,hg⟩;obtain⟨hc,hf⟩:=hg.cells;have hz:w.heap.size<w1.heap.size:=by { have:=hg.size;simp at this;omega };have hz':w.heap.size<w1.heap.size+1:=by omega)
    all_goals go_region_held3 (fun w'=>w'.cell? ⟨w.heap.size,0,none⟩=some (.int .u64 a)/\w'.cell? ⟨w.heap.size,1,none⟩=some (.int .u64 b)/\w'.cell? ⟨w.heap.size,2,none⟩=some (.int .u64 c)/\w'.cell? ⟨w1.heap.size,0,none⟩=some (.int .u64 a)/\w'.cell? ⟨w1.heap.size,1,none⟩=some (.int .u64 b)/\w'.cell? ⟨w1.heap.size,2,none⟩=some (.int .u64 c)) (go_keep)
     (first|(go_at_call 134;refine(oD _ _ _ _).mono ?_;rintro e w2 ⟨rfl,hg2⟩;obtain⟨hc2,hf2⟩:=hg2.cells))
    all_goals go_wp2
    all_goals go_ret
    all_goals exact⟨rfl,((((Gr.refl _).alloc _).trans hg).alloc _).drew.trans hg2⟩
theorem Jh(a b c x y z:Int)(w:World):
    Calls Tryz.prog 48 #[.agg #[.int .u64 a, .int .u64 b, .int .u64 c], .agg #[.int .u64 x, .int .u64 y, .int .u64 z], .func (.func 49) #[] #[]] w fun e w'=>
     e= .returned (.agg #[.int .i64 (c64 a x), .int .i64 (c64 b y), .int .i64 (c64 c z)])/\Gr w w':=by
 go_enter Tryz.func48,Tryz.ntmps48;go_wp2;go_region_held3 (fun w'=>w'.cell? ⟨w.heap.size,0,none⟩=some (.int .u64 a)/\w'.cell? ⟨w.heap.size,1,none⟩=some (.int .u64 b)/\w'.cell? ⟨w.heap.size,2,none⟩=some (.int .u64 c)/\w'.cell? ⟨w.heap.size+1,0,none⟩=some (.int .u64 x)/\w'.cell? ⟨w.heap.size+1,1,none⟩=some (.int .u64 y)/\w'.cell? ⟨w.heap.size+1,2,none⟩=some (.int .u64 z)) (go_keep)
  (first|(go_at_call 49;refine(JU _ _ _).mono ?_;rintro e w' ⟨rfl,rfl⟩))
 go_wp2;exact bodyPost_ret (v:= .agg #[.int .i64 (c64 a x), .int .i64 (c64 b y), .int .i64 (c64 c z)]) (by simp[results,Tryz.results48,go_sem]) rfl ⟨rfl,((((Gr.refl _).alloc _).alloc _).alloc _).drew⟩
theorem xZ(p q r:Int)(b:Nat)(w:World)(h0:w.cell? ⟨b,0,none⟩=some (.int .i64 p))(h1:w.cell? ⟨b,1,none⟩=some (.int .i64 q))(h2:w.cell? ⟨b,2,none⟩=some (.int .i64 r)):
    Calls Tryz.prog 50 #[.slice (some ⟨b,0,none⟩) 3 3] w fun e w'=>e= .returned (.int .i64 (Kc p q r))/\w'=w:=by
 by_cases e0:p=0
 ·subst e0;by_cases e1:q=0
  ·subst e1;by_cases e2:r=0
   ·subst e2;go_enter Tryz.func50,Tryz.ntmps50;go_wp2;refine wp_loop_rounds 4 ?_;rw[rounds_succ];go_wp2;rw[rounds_succ];go_wp2;rw[rounds_succ];go_wp2;rw[rounds_succ];go_wp2;go_ret;exact⟨rfl,rfl⟩
   ·have b2:(r != 0)=true:=(by rw[bne_iff_ne];exact e2);go_enter Tryz.func50,Tryz.ntmps50;go_wp2;refine wp_loop_rounds 3 ?_;rw[rounds_succ];go_wp2;rw[rounds_succ];go_wp2;rw[rounds_succ];go_wp2;go_ret;exact⟨rfl,rfl⟩
  ·have b1:(q != 0)=true:=(by rw[bne_iff_ne];exact e1);have hr:Kc 0 q r=q:=(by simp[Kc,e1]);rw[hr];clear hr;go_enter Tryz.func50,Tryz.ntmps50;go_wp2;refine wp_loop_rounds 2 ?_;rw[rounds_succ];go_wp2;rw[rounds_succ];go_wp2;go_ret;exact⟨rfl,rfl⟩
 ·have b0:(p != 0)=true:=by rw[bne_iff_ne];exact e0
  have hr:Kc p q r=p:=by simp[Kc,e0]
  rw[hr];clear hr;go_enter Tryz.func50,Tryz.ntmps50;go_wp2;refine wp_loop_rounds 1 ?_;rw[rounds_succ];go_wp2;go_ret;exact⟨rfl,rfl⟩
theorem eX(a b c x y z:Int)(w:World):
    Calls Tryz.prog 17 #[.agg #[.int .u64 a, .int .u64 b, .int .u64 c], .agg #[.int .u64 x, .int .u64 y, .int .u64 z]] w fun e w'=>
     e= .returned (.int .i64 (kG a b c x y z))/\Gr w w':=by
 unfold kG;have H:=fun W=>Jh a b c x y z W;generalize c64 a x=p at *;generalize c64 b y=q at *;generalize c64 c z=r at *;go_enter Tryz.func17,Tryz.ntmps17;go_wp2_with (first|(go_at_call 48;refine(H _).mono ?_;rintro e w1 ⟨rfl,hg⟩)|(go_at_call 50;refine(xZ p q r _ _ (by simp) (by simp) (by simp)).mono ?_;rintro e w2 ⟨rfl,rfl⟩));go_ret;exact⟨rfl,(((Gr.refl _).alloc _).alloc _|>.trans hg).alloc _⟩
end
section
open Go.RowKit Go.Sort
def jW(a b c x y z:Nat):Bool:=decide (a+x<18446744073709551616)&&(decide (b+y<18446744073709551616)&&decide (c+z<18446744073709551616))
def EB(ok:Bool)(s:Nat):Nat:=if ok then s else 0
theorem jS(a x:Nat)(h:a+x<18446744073709551616):IntKind.u64.wrap ((x:Int)+a)=((a+x:Nat):Int):=by
 simp[IntKind.wrap,IntKind.signed,IntKind.bits];omega
theorem qL(a x:Nat)(ha:a<18446744073709551616)(hx:x<18446744073709551616)(h:¬a+x<18446744073709551616):IntKind.u64.wrap ((x:Int)+a)<x:=by
 simp[IntKind.wrap,IntKind.signed,IntKind.bits];omega
theorem Gn(a b c x y z:Nat)(w:World)(ha:a<18446744073709551616)(hb:b<18446744073709551616)(hc:c<18446744073709551616)(hx:x<18446744073709551616)(hy:y<18446744073709551616)(hz:z<18446744073709551616):
    Calls Tryz.prog 15 #[.agg #[.int .u64 a, .int .u64 b, .int .u64 c], .agg #[.int .u64 x, .int .u64 y, .int .u64 z]] w fun e w'=>
     e= .returned (.tuple #[.agg #[.int .u64 (EB (jW a b c x y z) (a+x):Nat), .int .u64 (EB (jW a b c x y z) (b+y):Nat), .int .u64 (EB (jW a b c x y z) (c+z):Nat)], .bool (jW a b c x y z)])/\Below w.heap.size w w':=by
 have hA:=fun p q r W=>kz x y z p q r W;cases hp:jW a b c x y z
 ·have ht:Bn x y z (IntKind.u64.wrap ((x:Int)+a)) (IntKind.u64.wrap ((y:Int)+b)) (IntKind.u64.wrap ((z:Int)+c))=false:=by
    rw[<-Bool.not_eq_true,Bn];simp only[Bool.and_eq_true,decide_eq_true_iff];intro ⟨h1,h2,h3⟩;have e1:a+x<18446744073709551616:=Classical.byContradiction fun h=>(by have:=qL a x ha hx h;omega);have e2:b+y<18446744073709551616:=Classical.byContradiction fun h=>(by have:=qL b y hb hy h;omega);have e3:c+z<18446744073709551616:=Classical.byContradiction fun h=>(by have:=qL c z hc hz h;omega);simp[jW,e1,e2,e3]at hp
  simp only[EB,Bool.false_eq_true,if_false];clear ha hb hc hx hy hz hp;go_enter Tryz.func15,Tryz.ntmps15;go_wp2_with (go_at_call 18;refine(hA _ _ _ _).mono ?_;rintro e w1 ⟨rfl,hg1⟩;rw[ht];obtain⟨hc1,hf1⟩:=hg1.cells;have hz1:w.heap.size+2<w1.heap.size:=by { have:=hg1.size;simp at this;omega });refine bodyPost_ret (v:= .tuple #[.agg #[.int .u64 0, .int .u64 0, .int .u64 0], .bool false]) (by simp[results,Tryz.results15,go_sem, *]) rfl ⟨rfl, ?_⟩;have hB:Below w.heap.size w w1:=((((((Gr.refl _).alloc _).alloc _).alloc _).alloc _).trans hg1).below;have k:w.heap.size<=w.heap.size+1+1:=by omega
  exact((hB.setCell (p:=⟨w.heap.size+1+1,0,none⟩) k _).setCell (p:=⟨w.heap.size+1+1,1,none⟩) k _).setCell (p:=⟨w.heap.size+1+1,2,none⟩) k _
 ·have e1:a+x<18446744073709551616:=by simp[jW]at hp;omega
  have e2:b+y<18446744073709551616:=by simp[jW]at hp;omega
  have e3:c+z<18446744073709551616:=by simp[jW]at hp;omega
  have ht:Bn x y z (IntKind.u64.wrap ((x:Int)+a)) (IntKind.u64.wrap ((y:Int)+b)) (IntKind.u64.wrap ((z:Int)+c))=true:=by
   rw[jS a x e1,jS b y e2,jS c z e3];simp[Bn];omega
  have ht1:Bn x y z ((a+x:Nat):Int) ((b+y:Nat):Int) ((c+z:Nat):Int)=true:=by simp[Bn];omega
  have ht2:Bn x y z ((a:Int)+x) ((b:Int)+y) ((c:Int)+z)=true:=by simp[Bn];omega
  have s1:=jS a x e1;have s2:=jS b y e2;have s3:=jS c z e3;simp only[EB,if_true];clear ha hb hc hx hy hz hp e1 e2 e3;go_enter Tryz.func15,Tryz.ntmps15;go_wp2_with (go_at_call 18;refine(hA _ _ _ _).mono ?_;rintro e w1 ⟨rfl,hg1⟩;first|rw[ht]|rw[ht1]|rw[ht2];obtain⟨hc1,hf1⟩:=hg1.cells;have hz1:w.heap.size+2<w1.heap.size:=by { have:=hg1.size;simp at this;omega });refine bodyPost_ret (v:= .tuple #[.agg #[.int .u64 (a+x:Nat), .int .u64 (b+y:Nat), .int .u64 (c+z:Nat)], .bool true]) (by simp[results,Tryz.results15,go_sem, *]) rfl ⟨rfl, ?_⟩;have hB:Below w.heap.size w w1:=((((((Gr.refl _).alloc _).alloc _).alloc _).alloc _).trans hg1).below;have k:w.heap.size<=w.heap.size+1+1:=by omega
  exact((hB.setCell (p:=⟨w.heap.size+1+1,0,none⟩) k _).setCell (p:=⟨w.heap.size+1+1,1,none⟩) k _).setCell (p:=⟨w.heap.size+1+1,2,none⟩) k _
theorem Ol(a b c x y z:Nat)(w:World)(ha:a<18446744073709551616)(hb:b<18446744073709551616)(hc:c<18446744073709551616)(hx:x<18446744073709551616)(hy:y<18446744073709551616)(hz:z<18446744073709551616):
    Calls Tryz.prog 130 #[.agg #[.int .u64 a, .int .u64 b, .int .u64 c], .agg #[.int .u64 x, .int .u64 y, .int .u64 z]] w fun e w'=>
     e= .returned (.tuple #[.agg #[.int .u64 (EB (jW a b c x y z) (a+x):Nat), .int .u64 (EB (jW a b c x y z) (b+y):Nat), .int .u64 (EB (jW a b c x y z) (c+z):Nat)], .bool (jW a b c x y z)])/\Below w.heap.size w w':=by
 have hO:=fun W=>Gn a b c x y z W ha hb hc hx hy hz;generalize EB (jW a b c x y z) (a+x)=s1 at *;generalize EB (jW a b c x y z) (b+y)=s2 at *;generalize EB (jW a b c x y z) (c+z)=s3 at *;generalize jW a b c x y z=ok at *;clear ha hb hc hx hy hz;go_enter Tryz.func130,Tryz.ntmps130;go_wp2_with (go_at_call 15;refine(hO _).mono ?_;rintro e w1 ⟨rfl,hb1⟩;obtain⟨hc1,hf1⟩:=Dm hb1;have hz1:w.heap.size+2<w1.heap.size:=by { have:=hb1.size;simp at this;omega };have hz2:w.heap.size+1+1<w1.heap.size:=by omega);refine bodyPost_ret (v:= .tuple #[.agg #[.int .u64 s1, .int .u64 s2, .int .u64 s3], .bool ok]) (by simp[results,Tryz.results130,go_sem, *]) rfl ⟨rfl, ?_⟩;have hB:Below w.heap.size w w1:=((((Gr.refl _).alloc _).alloc _).alloc _).below.trans (hb1.mono (by simp;omega));have k:w.heap.size<=w.heap.size+1+1:=by omega
 have hq:=((hB.setCell (p:=⟨w.heap.size+1+1,0,none⟩) k (.int .u64 s1)).setCell (p:=⟨w.heap.size+1+1,1,none⟩) k (.int .u64 s2)).setCell (p:=⟨w.heap.size+1+1,2,none⟩) k (.int .u64 s3);exact hq.alloc hq.size _
theorem uU(a b c x y z:Int)(w:World):
    Calls Tryz.prog 184 #[.agg #[.int .u64 a, .int .u64 b, .int .u64 c], .agg #[.int .u64 x, .int .u64 y, .int .u64 z]] w fun e w'=>e= .returned (.bool (Bn a b c x y z))/\Gr w w':=by
 have hA:=fun W=>kz a b c x y z W;generalize Bn a b c x y z=p at *;go_enter Tryz.func184,Tryz.ntmps184;go_wp2_with (go_at_call 18;refine(hA _).mono ?_;rintro e w1 ⟨rfl,hg1⟩);go_ret;exact⟨rfl,(((Gr.refl _).alloc _).alloc _).trans hg1⟩
theorem zJ(a b c x y z:Int)(w:World):
    Calls Tryz.prog 185 #[.agg #[.int .u64 a, .int .u64 b, .int .u64 c], .agg #[.int .u64 x, .int .u64 y, .int .u64 z]] w fun e w'=>e= .returned (.int .i64 (kG a b c x y z))/\Gr w w':=by
 have hA:=fun W=>eX a b c x y z W;generalize kG a b c x y z=p at *;go_enter Tryz.func185,Tryz.ntmps185;go_wp2_with (go_at_call 17;refine(hA _).mono ?_;rintro e w1 ⟨rfl,hg1⟩);go_ret;exact⟨rfl,(((Gr.refl _).alloc _).alloc _).trans hg1⟩
end
end Go.Proofs.YteekbpokkjjipaaGreat
