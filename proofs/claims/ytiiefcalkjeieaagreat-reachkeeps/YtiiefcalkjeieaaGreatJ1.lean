import Derived.Below
import Derived.Deep.RegionHeld
import Derived.Test.YtiiefcalkjeieaaGreatProg
import Derived.WalkKit
import Derived.WalkSpells
import Derived.Sort.Grow
import Derived.Deep.Draws
import Derived.Laws.CopyOwn
import Derived.Deep.AppendLies
import Derived.Laws.AppendOwnNone
import Derived.Test.YtiiefcalkjeieaaGreatRows
import Derived.Deep.RegionHeld3
import Derived.Maps.OwnOps
import Derived.Maps.OwnSet
import Derived.Maps.RangeWalk
import Derived.Maps.Ext
variable{w w':Go.World}{v z u:Go.Value}{n b base i j off c k s n' bt E M:Nat}{S T:Nat->Prop}{a a':Go.Act}{e ty t sT:Go.TypeId}{α:Type}{xs:List Go.Value}{d:Option Nat}{cs:Array Go.Value}{oi:Go.Oper}
namespace Go.Proofs.YtiiefcalkjeieaaGreat
section
open Go.RowKit Go.Sort
abbrev dQ:=@List.length_append
abbrev lC:=@List.length_cons
abbrev nZ:=@Nat.zero_add
abbrev gL:=@List.getElem?_append_left
abbrev VE:=@List.getElem?_append_right
abbrev tL:=@List.take_of_length_le
abbrev nL:=@Nat.lt_of_lt_of_le
abbrev zh:=@World.cell?_of_block
abbrev aG:=@Array.getElem?_eq_some_iff
abbrev lK:=@List.length_take
abbrev nR:=@Nat.le_refl
abbrev nT:=@Nat.le_trans
abbrev zL:=@Nat.zero_le
abbrev FZ:=@List.append_nil
abbrev YW:=@List.range_succ
abbrev nW:=@Nat.not_lt_zero
abbrev aA:=@List.append_assoc
abbrev lZ:=@List.length_set
abbrev De:=@List.map_append
abbrev mR:=@List.mem_range
abbrev nM:=@Nat.mul_le_mul_right
abbrev vS:=@Value.slice.injEq
abbrev oI:=@Option.some.injEq
abbrev aI:=@Addr.mk.injEq
abbrev lG:=@List.getElem?_eq_some_iff
abbrev bA:=@Bool.and_eq_true
abbrev yM:=@List.mem_singleton
abbrev gq:=@List.mem_cons
abbrev oN:=@World.ownsRow_nil
abbrev tN:=@Int.toNat_natCast
abbrev lQ:=@List.getElem?_eq_none
abbrev bR:=@bodyPost_ret
abbrev dE:=@decide_eq_true_eq
abbrev tO:=@List.take_add_one
abbrev kr:=@List.mem_append
abbrev lM:=@List.mem_of_getElem?
abbrev gQ:=@List.length_map
abbrev oJ:=@Option.some.inj
abbrev gM:=@List.getElem?_map
abbrev iG:=@List.mem_iff_getElem?
abbrev nO:=@Nat.add_zero
abbrev p8:=@List.getElem?_eq_getElem
abbrev gX:=@List.getElem?_set_ne
abbrev qD:=@List.pairwise_cons
abbrev mO:=@List.mem_cons_of_mem
abbrev nU:=@Nat.lt_trans
abbrev nE:=@Nat.le_of_lt
abbrev mM:=@List.mem_map
abbrev mX:=@List.mem_cons_self
abbrev mF:=@List.mem_filter
abbrev tK:=@List.take_length
abbrev vR:=@List.length_singleton
abbrev Ri:=@List.flatMap_cons
theorem _root_.Go.RowKit.Hid.o{p:Prop}(h:Go.RowKit.Hid p):p:=h
theorem _root_.Go.Shut.o{p:Prop}(h:Go.Shut p):p:=h
theorem aF(a:α):∃x,x=a:=⟨_,rfl⟩
abbrev iV(x:Int):Value:= .int .i64 x
abbrev uV(x:Int):Value:= .int .u64 x
abbrev aB(b:Nat):Value:= .pointer (some ⟨b,0,none⟩)
abbrev sO(b n c:Nat):Value:= .slice (some ⟨b,0,none⟩) n c
abbrev CL:=Calls Tryz.prog
abbrev Bw(w v:World):Prop:=Go.RowKit.Below w.heap.size w v
abbrev aj(w:World)(b o:Nat)(v:Value):Prop:=w.cell? ⟨b,o,none⟩=some v
abbrev hCq(w:World)(b:Nat)(c:Array Value)(t:TypeId):Prop:=w.heap[b]? =some (.cells c t (0,0))
def Gr(w v:World):Prop:=∃q os,v=grow (w.drewN q) os
theorem Gr.refl(w:World):Gr w w:=⟨0,#[],by rw[grow_empty];rfl⟩
theorem Gr.alloc{v:World}(h:Gr w v)(o:Obj):Gr w (v.alloc o):=by
 obtain⟨q,os,rfl⟩:=h;exact⟨q,os++#[o],by rw[alloc_eq_grow,grow_grow]⟩
theorem Gr.drew{v:World}(h:Gr w v):Gr w v.drew:=by
 obtain⟨q,os,rfl⟩:=h;exact⟨q+1,os,rfl⟩
theorem Gr.drewN{v:World}(h:Gr w v)(n:Nat):Gr w (v.drewN n):=by
 obtain⟨q,os,rfl⟩:=h;exact⟨q+n,os,by simp only[World.drewN,grow,Nat.add_assoc]⟩
theorem Gr.grown{v:World}(h:Gr w v)(os:Array Obj):Gr w (grow v os):=by
 obtain⟨q,os',rfl⟩:=h;exact⟨q,os'++os,by rw[grow_grow]⟩
theorem Gr.trans{u v:World}(h:Gr u v)(k:Gr v w):Gr u w:=by
 obtain⟨q,os,rfl⟩:=k;exact(h.drewN q).grown os
theorem Gr.below{v:World}(h:Gr w v):Below w.heap.size w v:=by
 obtain⟨q,os,rfl⟩:=h;exact⟨rfl,rfl,rfl,by simp[World.drewN],fun k hk=>heap_grow_old (w.drewN q) os hk⟩
theorem Gr.size{v:World}(h:Gr w v):w.heap.size<=v.heap.size:=h.below.size
theorem Gr.cell{w v:World}(h:Gr w v){b o:Nat}(hb:b<w.heap.size):v.cell? ⟨b,o,none⟩=w.cell? ⟨b,o,none⟩:=h.below.cell (p:=⟨b,o,none⟩) hb
theorem Gr.frozen{v:World}(h:Gr w v){o:Nat}(hb:b<w.heap.size):v.frozen? ⟨b,o,none⟩=w.frozen? ⟨b,o,none⟩:=h.below.frozen (p:=⟨b,o,none⟩) hb
theorem Gr.cells{v:World}(h:Gr w v):(∀b o,b<w.heap.size->v.cell? ⟨b,o,none⟩=w.cell? ⟨b,o,none⟩)/\(∀b o,b<w.heap.size->v.frozen? ⟨b,o,none⟩=w.frozen? ⟨b,o,none⟩):=
 ⟨fun _ _ hb=>h.cell hb,fun _ _ hb=>h.frozen hb⟩
theorem Fp{W w1:World}(hb:Below W.heap.size W w1):(∀b o,b<W.heap.size->w1.cell? ⟨b,o,none⟩=W.cell? ⟨b,o,none⟩)/\(∀b o,b<W.heap.size->w1.frozen? ⟨b,o,none⟩=W.frozen? ⟨b,o,none⟩):=
 ⟨fun b o h=>hb.cell (p:=⟨b,o,none⟩) h,fun b o h=>hb.frozen (p:=⟨b,o,none⟩) h⟩
structure El(α:Type) where
 k:Nat
 enc:α->List Value
 len:∀x,(enc x).length=k
 one:∀x,∀u∈enc x,u.oneCell'=true
section
variable {α:Type} (E:El α)
def fl(l:List α):List Value:=l.flatMap E.enc
theorem XP:fl E []=[]:=rfl
theorem aR(t:α)(ts:List α):fl E (t::ts)=E.enc t++fl E ts:=rfl
theorem aT(a b:List α):fl E (a++b)=fl E a++fl E b:=by simp[fl]
theorem dM(t:α):fl E [t]=E.enc t:=by simp[fl]
theorem fP(ts:List α):(fl E ts).length=ts.length*E.k:=by
 induction ts with
 | nil => simp[fl]
 | cons t ts ih => rw[aR,dQ,ih,E.len,lC,Nat.succ_mul,Nat.add_comm]
theorem jE(ts:List α)(j i:Nat)(t:α)(h:ts[j]? =some t)(hi:i<E.k):(fl E ts)[j*E.k+i]? =(E.enc t)[i]? :=by
 induction ts generalizing j with
 | nil => simp at h
 | cons s ts ih=>
  rw[aR];cases j with
  | zero=>
   simp at h;subst h;rw[Nat.zero_mul,nZ,gL (by rw[E.len];exact hi)]
  | succ j=>
   have e:(j+1)*E.k+i=E.k+(j*E.k+i):=(by rw[Nat.succ_mul];omega);rw[e,VE (by rw[E.len];omega),E.len,Nat.add_sub_cancel_left];exact ih j (by simpa using h)
theorem xU(ts:List α):∀u∈fl E ts,u.oneCell'=true:=by
 intro u hu;simp only[fl,List.mem_flatMap]at hu;obtain⟨t,_,hu⟩:=hu;exact E.one t u hu
theorem Cr(l:List α)(n:Nat):(fl E l).take (n*E.k)=fl E (l.take n):=by
 induction l generalizing n with
 | nil => simp[fl]
 | cons x l ih=>
  cases n with
  | zero => simp[fl]
  | succ n=>
   rw[aR,List.take_succ_cons,aR,Nat.succ_mul,List.take_append,tL (by rw[E.len];omega),E.len,Nat.add_sub_cancel,ih n]
theorem JS(l:List α)(n:Nat):(fl E l).drop (n*E.k)=fl E (l.drop n):=by
 induction l generalizing n with
 | nil => simp[fl]
 | cons x l ih=>
  cases n with
  | zero => simp[fl]
  | succ n=>
   rw[aR,List.drop_succ_cons,Nat.succ_mul,List.drop_append,List.drop_of_length_le (by rw[E.len];omega),E.len,Nat.add_sub_cancel,ih n,List.nil_append]
def ab6(w:World)(b off:Nat)(ts:List α):Prop:=∀j u,(fl E ts)[j]? =some u->w.cell? ⟨b,off+j,none⟩=some u
def Ls(w:World)(v:Value)(ts:List α):Prop:=
 (ts=[]/\v= .slice none 0 0)\/∃b off c,v= .slice (some ⟨b,off,none⟩) ts.length c/\b<w.heap.size/\ab6 E w b off ts
variable {E}
theorem Ls.kept{ts:List α}(h:Ls E w v ts)(hs:w.heap.size<=w'.heap.size)(hb:∀g,v.ownBlock=some g->w'.heap[g]? =w.heap[g]?):Ls E w' v ts:=by
 rcases h with h|⟨b,off,c,hv,hbs,ht⟩
 ·exact Or.inl h
 ·refine Or.inr ⟨b,off,c,hv,nL hbs hs,fun j u hj=> ?_⟩;have:=hb b (by rw[hv];rfl);rw[zh (a:=⟨b,off+j,none⟩) this];exact ht j u hj
theorem Ls.blk{ts:List α}(h:Ls E w v ts):∀g,v.ownBlock=some g->g<w.heap.size:=by
 intro g hg;rcases h with⟨_,rfl⟩|⟨b,off,c,rfl,hbs,_⟩
 ·simp[Value.ownBlock]at hg
 ·simp[Value.ownBlock]at hg;omega
theorem Ls.below{ts:List α}(h:Ls E w v ts)(hb:Bw w w'):Ls E w' v ts:=
 h.kept hb.size fun g hg=>hb.block g (h.blk g hg)
theorem Ls.nil(w:World):Ls E w (.slice none 0 0) []:=Or.inl ⟨rfl,rfl⟩
theorem Ls.form{ts:List α}(h:Ls E w v ts):∃p c,v= .slice p ts.length c:=by
 rcases h with⟨rfl,rfl⟩|⟨b,off,c,hv,_,_⟩
 ·exact⟨_,_,rfl⟩
 ·exact⟨_,_,hv⟩
theorem Ls.get{ts:List α}(h:Ls E w v ts){t:α}(hj:ts[j]? =some t):
    ∃b off c,v= .slice (some ⟨b,off,none⟩) ts.length c/\b<w.heap.size/\∀i u,i<E.k->(E.enc t)[i]? =some u->w.cell? ⟨b,off+j*E.k+i,none⟩=some u:=by
 rcases h with⟨rfl,_⟩|⟨b,off,c,hv,hb,ht⟩
 ·simp at hj
 ·exact⟨b,off,c,hv,hb,fun i u hi hu=>by rw[Nat.add_assoc];exact ht _ _ ((jE E ts j i t hj hi).trans hu)⟩
theorem ze(b off i:Nat):(⟨b,off,none⟩:Addr).add i=⟨b,off+i,none⟩:=by unfold Addr.add;split<;>simp_all
theorem aK{ts:List α}(h:w.ownsRow base e E.k v ts.length (fl E ts)):Ls E w v ts:=by
 rcases h.2 with⟨hv,h0⟩|⟨g,cap,cur,hv,hg,hh,_,_,_,htake⟩
 ·exact Or.inl ⟨List.eq_nil_of_length_eq_zero h0,hv⟩
 ·refine Or.inr ⟨g,0,cap,hv,(aG.1 hh).1,fun j u hj=> ?_⟩;have:=h.cells (g:=g) (by rw[hv];rfl) j u hj;rw[ze]at this;exact this
theorem Ls.cut{l:List α}(h:Ls E w (.slice (some ⟨b,off,none⟩) n c) l)(hk:k<=l.length)(c2:Nat):Ls E w (.slice (some ⟨b,off,none⟩) k c2) (l.take k):=by
 rcases h with⟨_,h⟩|⟨b',off',c',hv,hb,ht⟩
 ·cases h
 ·cases hv;refine Or.inr ⟨b,off,c2,by rw[lK,Nat.min_eq_left hk],hb,fun j u hj=>ht j u ?_⟩;rw[<-Cr,List.getElem?_take]at hj;split at hj
  ·exact hj
  ·cases hj
theorem Ls.tail{l:List α}(h:Ls E w (.slice (some ⟨b,off,none⟩) n c) l)(c2:Nat):Ls E w (.slice (some ⟨b,off+k*E.k,none⟩) (l.length-k) c2) (l.drop k):=by
 rcases h with⟨_,h⟩|⟨b',off',c',hv,hb,ht⟩
 ·cases h
 ·cases hv;refine Or.inr ⟨b,off+k*E.k,c2,by rw[List.length_drop],hb,fun j u hj=> ?_⟩;rw[<-JS,List.getElem?_drop]at hj;rw[Nat.add_assoc];exact ht _ u hj
theorem Ls.void{l:List α}(h:Ls E w (.slice (some ⟨b,off,none⟩) n c) l)(hk:l.length<=k)(c2:Nat):Ls E w (.slice (some ⟨b,off,none⟩) (l.length-k) c2) (l.drop k):=by
 rcases h with⟨_,h⟩|⟨b',off',c',hv,hb,ht⟩
 ·cases h
 ·cases hv;refine Or.inr ⟨b,off,c2,by rw[List.length_drop],hb,fun j u hj=> ?_⟩;rw[List.drop_of_length_le hk]at hj;simp[fl]at hj
end
structure Kp(S:Nat->Prop)(w w':World):Prop where
 os:w'.os=w.os
 tape:w'.tape=w.tape
 output:w'.output=w.output
 size:w.heap.size<=w'.heap.size
 block:∀k,k<w.heap.size->¬S k->w'.heap[k]? =w.heap[k]?
theorem Kp.refl(S:Nat->Prop)(w:World):Kp S w w:=⟨rfl,rfl,rfl,nR _,fun _ _ _=>rfl⟩
theorem Kp.trans{a b c:World}(h:Kp S a b)(k:Kp T b c)(hT:∀j,j<a.heap.size->T j->S j):Kp S a c:=
 ⟨k.os.trans h.os,k.tape.trans h.tape,k.output.trans h.output,nT h.size k.size,fun i hi hS=>(k.block i (nL hi h.size) (fun ht=>hS (hT i hi ht))).trans (h.block i hi hS)⟩
theorem Kp.tr{a b c:World}(h:Kp S a b)(k:Kp S b c):Kp S a c:=h.trans k fun _ _ h=>h
theorem Kp.of_below(h:Bw w w'):Kp S w w':=⟨h.os,h.tape,h.output,h.size,fun k hk _=>h.block k hk⟩
theorem Kp.bg(h:Gr w w'):Kp S w w':=Kp.of_below h.below
theorem Kp.mono(h:Kp S w w')(hT:∀k,S k->T k):Kp T w w':=⟨h.os,h.tape,h.output,h.size,fun k hk ht=>h.block k hk (fun hs=>ht (hT k hs))⟩
theorem Kp.below{B:Nat}(h:Kp S w w')(hB:B<=w.heap.size)(hS:∀k,S k->B<=k):Below B w w':=
 ⟨h.os,h.tape,h.output,h.size,fun k hk=>h.block k (nL hk hB) (fun hs=>absurd (hS k hs) (Nat.not_le.2 hk))⟩
theorem Kp.grownBy{r:Option Nat}(h:w.grownBy w' r)(hS:∀k,r=some k->S k):Kp S w w':=
 ⟨h.os,h.tape,h.output,h.size,fun k hk hs=>h.block k hk (fun e=>hs (hS k e.symm))⟩
theorem Kp.ls{E:El α}{l:List α}(h:Kp S w w')(hv:Ls E w v l)(hS:∀k,v.ownBlock=some k->¬S k):Ls E w' v l:=
 hv.kept h.size fun g hg=>h.block g (hv.blk g hg) (hS g hg)
theorem Kp.cell{S:Nat->Prop}{w w':World}(h:Kp S w w'){b o:Nat}(hb:b<w.heap.size)(hS:¬S b):w'.cell? ⟨b,o,none⟩=w.cell? ⟨b,o,none⟩:=
 zh (a:=⟨b,o,none⟩) (h.block b hb hS)
theorem ax{size:Nat}(h:Kp S w w')(ho:w.ownsRow base e size v n xs)(hS:∀k,v.ownBlock=some k->¬S k):w'.ownsRow base e size v n xs:=by
 obtain⟨h1,h2⟩:=ho;refine⟨h1, ?_⟩;rcases h2 with h2|⟨g,cap,cur,hv,hg,hh,r⟩
 ·exact Or.inl h2
 ·exact Or.inr ⟨g,cap,cur,hv,hg,by rw[h.block g (aG.1 hh).1 (hS g (by rw[hv];rfl))];exact hh,r⟩
theorem ag{size:Nat}(h:w.ownsRow base e size v n xs)(hb:Bw w w'):w'.ownsRow base e size v n xs:=
 ax (S:=fun _=>False) (Kp.of_below hb) h fun _ _ hf=>hf
theorem aN{b':Nat}{size:Nat}(h:w.ownsRow b e size v n xs)(hb:b'<=b):w.ownsRow b' e size v n xs:=by
 obtain⟨h1,h2⟩:=h;refine⟨h1, ?_⟩;rcases h2 with h2|⟨g,cap,cur,hv,hg,r⟩
 ·exact Or.inl h2
 ·exact Or.inr ⟨g,cap,cur,hv,nT hb hg,r⟩
theorem aV{xs':List Value}(h:w.ownsRow base e s v n xs)(hn:n=n')(hx:xs=xs'):w.ownsRow base e s v n' xs':=by
 subst hn;subst hx;exact h
theorem NL{size:Nat}{p:Option Addr}{cap:Nat}(h:w.ownsRow base e size (.slice p n' cap) n xs):n<=cap/\cap<=maxLen:=by
 obtain⟨_,⟨h0,h1⟩|⟨g',cap',cur,hv,_,_,hn,hm,_⟩⟩:=h
 ·cases h0;subst h1;exact⟨nR _,zL _⟩
 ·cases hv;exact⟨hn,hm⟩
theorem info_parts{P:Program}(h:(P.info? t).map (fun i=>(i.zero,i.size,i.bytes))=some (some z,s,b)):∃i,P.info? t=some i/\i.zero=some z/\i.size=s/\i.bytes=b:=by
 cases hq:P.info? t with
 | none => simp[hq]at h
 | some i=>
  simp[hq]at h;exact⟨i,rfl,h.1,h.2.1,h.2.2⟩
theorem ah(w:World)(o:Obj):(w.alloc o).heap[w.heap.size]? =some o:=by
 rw[show(w.alloc o).heap=w.heap.push o from rfl];simp
section
variable {P:Program} {α:Type} (E:El α) {w:World} {ops:Array Oper} {rest:List Oper} {o:Oper} {a:Act} {Q:Exit->Act->World->Prop}
theorem gB(hu:P.underlying sT=some (.slice e))(hI:(P.info? e).map (fun i=>(i.zero,i.size,i.bytes))=some (some z,E.k,bt))(hz:z.cells.size=E.k)(hk:0<E.k)
    (hgd:o.guard=none) (s x:Operand) (ho:o.op= .call { callee:= .builtin .append,args:=#[s,x],argTypes:=#[sT,sT] })
    (base:Nat) (v:Value) (n:Nat) (xs:List Value) (hs:a.eval s=v) (hown:w.ownsRow base e E.k v n xs)
    (t:α) (hx:a.eval x=sO w.heap.size 1 1) (hbig:(n+1)*bt<=140737488355328) (hmx:n+1<=maxLen) (hbase:base<=w.heap.size)
    (cs:Array Value) (hcs:cs.toList=E.enc t) (te:TypeId)
    (h:∀g cap w',w'.ownsRow base e E.k (sO g (n+1) cap) (n+1) (xs++E.enc t)->w.grownBy w' v.ownBlock->(v.ownBlock=some g\/w.heap.size<=g)->wpList P ops Q rest (a.put o.dst (sO g (n+1) cap)) w') :
    wpList P ops Q (o::rest) a (w.alloc (.cells cs te)):=by
 obtain⟨i0,hi,hz0,hz1,hz2⟩:=info_parts hI;refine wpList_append_lies _ hgd s x _ ho base e i0 _ E.k bt hu hi hz0 hz1 hz2 hz hk v n xs hs (hown.alloc _) ⟨w.heap.size,0,none⟩ 1 1 (E.enc t) hx (by rw[E.len,Nat.one_mul]) (by have:=World.news_of_block (ah w (.cells cs te));rw[hcs]at this;exact this) (E.one t) (by decide) hmx hbig (by simp;omega) _ rfl ?_;intro g cap w' h1 h2 h3 _;refine h g cap w' h1 ⟨h2.os,h2.tape,h2.output,nT (by simp) h2.size,fun k hk hne=>(h2.block k (by simp;omega) hne).trans ((World.grownBy_alloc w _ none).block k hk (by simp))⟩ ?_;rcases h3 with h3|h3
 ·exact Or.inl h3
 ·right;rw[h3];simp
theorem jZ(hu:P.underlying sT=some (.slice e))(hI:(P.info? e).map (fun i=>(i.zero,i.size,i.bytes))=some (some z,E.k,bt))(hz:z.cells.size=E.k)(hk:0<E.k)
    (hgd:o.guard=none) (s x:Operand) (ho:o.op= .call { callee:= .builtin .append,args:=#[s,x],argTypes:=#[sT,sT] })
    (base:Nat) (v:Value) (n:Nat) (xs:List Value) (hs:a.eval s=v) (hown:w.ownsRow base e E.k v n xs)
    (v1:Value) (ts:List α) (hx:a.eval x=v1) (hv:Ls E w v1 ts) (hbig:(n+ts.length)*bt<=140737488355328) (hmx:n+ts.length<=maxLen) (hbase:base<=w.heap.size)
    (h:∀v' w',w'.ownsRow base e E.k v' (n+ts.length) (xs++fl E ts)->w.grownBy w' v.ownBlock->wpList P ops Q rest (a.put o.dst v') w'):wpList P ops Q (o::rest) a w:=by
 obtain⟨i0,hi,hz0,hz1,hz2⟩:=info_parts hI;rcases hv with⟨rfl,rfl⟩|⟨b,off,c,rfl,hb,ht⟩
 ·refine wpList_append_own_none hgd s x _ ho base e i0 E.k hu hi v n xs hs hown hx ?_;exact h v w (by rw[XP,FZ];exact hown) ⟨rfl,rfl,rfl,nR _,fun _ _ _=>rfl⟩
 ·refine wpList_append_own _ hgd s x _ ho base e i0 _ E.k bt hu hi hz0 hz1 hz2 hz hk v n xs hs hown ⟨b,off,none⟩ ts.length c (fl E ts) hx (fP E ts) (fun j u hj=>by rw[ze];exact ht j u hj) (xU E ts) hmx hbig hbase ?_;intro v' w' h1 h2 _;exact h v' w' h1 h2
end
theorem yP{P:Program}(w:World)(dT sT ty elem:TypeId)(s g o dLen dCap:Nat)(a:Addr)(sLen sCap:Nat)(cur:Array Value)(t:TypeId)(cs:List Value)
    (hu:P.underlying dT=some (.slice elem)) (hs:(P.info? elem).map (·.size)=some s)
    (hg:w.heap[g]? =some (.cells cur t (0,0))) (hn:cs.length=Nat.min sLen dLen*s)
    (hsrc:∀j v,cs[j]? =some v->w.cell? (a.add j)=some v) (hfit:o+cs.length<=cur.size) (h1:∀v∈cs,v.oneCell'=true) :
    (Builtin.copy_ #[dT,sT] ty #[.slice (some ⟨g,o,none⟩) dLen dCap, .slice (some a) sLen sCap]).run P w =
     .ok (goInt (Nat.min sLen dLen)) (w.setRow g (cur.toList.take o++cs++cur.toList.drop (o+cs.length)).toArray):=by
 have hl:=run_loadCells_list (P:=P) w a cs hsrc;have hst:=run_storeCells_at P g o t cs 0 cur w hg (by simpa using hfit) h1;cases hq:P.info? elem with
 | none => simp[hq]at hs
 | some i=>
  have hi:i.size=s:=by simpa[hq]using hs
  simp[Builtin.copy_,run_underlying hu,Builtin.lenOf,Builtin.firstCells,sizeOf,typeInfo,hq,hi,<-hn,hl,hst]
end
namespace Df
open Go.RowKit Go.Sort
theorem hid{p:Prop}(h:p):Hid p:=h
abbrev ou:=Nat×Nat×Nat
structure Zj where
 kind:Int
 arg:Nat
 deriving DecidableEq
structure dN where
 dx:Int
 o:Int
 via:ou
 deriving DecidableEq
structure dC where
 kind:Int
 ins:Int
 outs:Int
 code:List Zj
 via:ou
 bound:Nat
 bV:List dN
 start:Bool
 deriving DecidableEq
structure dR where
 src:Int
 o:Int
 dst:Int
 dx:Int
 keyed:Bool
 deriving DecidableEq
structure bG where
 arity:Int
 nodes:List dC
 aO:List dR
 deriving DecidableEq
def Mt(n:Int):Prop:= -9223372036854775808<=n/\n<=9223372036854775807
def Fs(n:Nat):Prop:=n<=18446744073709551615
def ib(p:ou):Prop:=Fs p.1/\Fs p.2.1/\Fs p.2.2
def Yw(o:Zj):Prop:=Mt o.kind/\Fs o.arg
def YT(c:dN):Prop:=Mt c.dx/\Mt c.o/\ib c.via
def aa3(n:dC):Prop:=Mt n.kind/\Mt n.ins/\Mt n.outs/\(∀o∈n.code,Yw o)/\ib n.via/\Fs n.bound/\∀c∈n.bV,YT c
def UK(x:dR):Prop:=Mt x.src/\Mt x.o/\Mt x.dst/\Mt x.dx
def UJ(g:bG):Prop:=Mt g.arity/\(∀n∈g.nodes,aa3 n)/\∀x∈g.aO,UK x
theorem ae{o:Obj}(h:w.heap[b]? =some o):b<w.heap.size:=(aG.1 h).1
theorem aP(h:w.heap[b]? =some (.cells cs t (0,0)))(i:Nat)(x:Value):(w.setCell ⟨b,i,none⟩ x).heap[b]? =some (.cells (cs.setIfInBounds i x) t (0,0))/\Kp (fun k=>k=b) w (w.setCell ⟨b,i,none⟩ x):=by
 have e:=setCell_eq_setRow w b i _ _ _ x h;rw[e];exact⟨by rw[setRow_heap w b _ _ _ _ h],rfl,rfl,rfl,by simp[World.setRow],fun k _ hne=>setRow_other w b k _ (by omega)⟩
theorem aa(h:w.heap[b]? =some (.cells cs t (0,0))):(∀i,w.cell? ⟨b,i,none⟩=cs[i]?)/\∀i,w.frozen? ⟨b,i,none⟩=false:=by
 refine⟨fun i=>by simp[World.cell?,h],fun i=>by simp[World.frozen?,h]⟩
theorem WA(w:World)(o1 o2:Obj):(((w.alloc o1).alloc o2).drew).heap[w.heap.size]? =some o1:=by
 have h:=ah w o1;rw[<-h];exact((Gr.refl (w.alloc o1)).alloc o2).drew.below.block w.heap.size (by simp)
theorem Wz(w:World)(o1 o2:Obj):(((w.alloc o1).alloc o2).drew).heap[w.heap.size+1]? =some o2:=by
 have h:=ah (w.alloc o1) o2
 rwa [show(w.alloc o1).heap.size=w.heap.size+1 by simp]at h
theorem aM{T:TypeId}(h:w.ownsRow base T E u n xs):∀k,u.ownBlock=some k->base<=k/\k<w.heap.size:=fun k hk=>h.lt k hk
theorem aD{T:TypeId}(h:w.ownsRow base T E u n xs):∃q m c,u= .slice q m c:=by
 obtain⟨_,⟨h0,_⟩|⟨g',cap',cur,hv,_⟩⟩:=h
 ·exact⟨_,_,_,h0⟩
 ·exact⟨_,_,_,hv⟩
def EO:El Zj where
 k:=2
 enc o:=[iV o.kind,uV (o.arg:Nat)]
 len _:=rfl
 one o u hu:=by
  simp at hu;rcases hu with rfl|rfl<;>rfl
theorem aac:(Tryz.prog.info? 202).map (fun i=>(i.zero,i.size,i.bytes))=some (some (.agg #[iV 0,uV 0]),2,16):=by kernel_rfl
def EC:El dN where
 k:=5
 enc o:=[iV o.dx,iV o.o,uV (o.via.1:Nat),uV (o.via.2.1:Nat),uV (o.via.2.2:Nat)]
 len _:=rfl
 one o u hu:=by
  simp at hu;rcases hu with rfl|rfl|rfl|rfl|rfl<;>rfl
theorem pX:(Tryz.prog.info? 205).map (fun i=>(i.zero,i.size,i.bytes))=some (some (.agg #[iV 0,iV 0,uV 0,uV 0,uV 0]),5,40):=by kernel_rfl
def ED:El dR where
 k:=5
 enc o:=[iV o.src,iV o.o,iV o.dst,iV o.dx, .bool o.keyed]
 len _:=rfl
 one o u hu:=by
  simp at hu;rcases hu with rfl|rfl|rfl|rfl|rfl<;>rfl
theorem aad:(Tryz.prog.info? 151).map (fun i=>(i.zero,i.size,i.bytes))=some (some (.agg #[iV 0,iV 0,iV 0,iV 0, .bool false]),5,40):=by kernel_rfl
structure NV where
 n:dC
 cq:Option Addr
 cm:Nat
 cc:Nat
 dq:Option Addr
 dm:Nat
 dc:Nat
abbrev NV.cv(x:NV):Value:= .slice x.cq x.cm x.cc
abbrev NV.dv(x:NV):Value:= .slice x.dq x.dm x.dc
abbrev aQ(k i o:Int)(c:Value)(p:ou)(b:Nat)(d:Value)(s:Bool):Array Value:=#[.int .i64 k, .int .i64 i, .int .i64 o,c, .int .u64 (p.1:Nat), .int .u64 (p.2.1:Nat), .int .u64 (p.2.2:Nat), .int .u64 (b:Nat),d, .bool s]
abbrev NV.cells(x:NV):Array Value:=aQ x.n.kind x.n.ins x.n.outs x.cv x.n.via x.n.bound x.dv x.n.start
def EV:El NV where
 k:=10
 enc x:=x.cells.toList
 len _:=rfl
 one x u hu:=by
  simp at hu;rcases hu with rfl|rfl|rfl|rfl|rfl|rfl|rfl|rfl|rfl|rfl<;>rfl
theorem aab:(Tryz.prog.info? 149).map (fun i=>(i.zero,i.size,i.bytes))=some (some (.agg #[iV 0,iV 0,iV 0, .slice none 0 0,uV 0,uV 0,uV 0,uV 0, .slice none 0 0, .bool false]),10,112):=by kernel_rfl
abbrev jg(a:Int)(nv ev:Value):Array Value:=#[.int .i64 a,nv,ev]
theorem Wx(w:World)(o1 o2 o3:Obj):(((w.alloc o1).alloc o2).alloc o3).heap[w.heap.size]? =some o1/\(((w.alloc o1).alloc o2).alloc o3).heap[w.heap.size+1]? =some o2/\(((w.alloc o1).alloc o2).alloc o3).heap[w.heap.size+2]? =some o3:=by
 have g3:=((Gr.refl ((w.alloc o1).alloc o2)).alloc o3).below;refine⟨?_, ?_, ?_⟩
 ·rw[g3.block w.heap.size (by simp;omega)];exact WA w o1 o2
 ·rw[g3.block (w.heap.size+1) (by simp)];exact Wz w o1 o2
 ·have h:=ah ((w.alloc o1).alloc o2) o3
  rwa [show((w.alloc o1).alloc o2).heap.size=w.heap.size+2 by simp]at h
theorem EN{z0 z1 z2:Value}(h:w.heap[b]? =some (.cells #[z0,z1,z2] t (0,0)))(x0 x1 x2:Value):(((w.setCell ⟨b,0,none⟩ x0).setCell ⟨b,1,none⟩ x1).setCell ⟨b,2,none⟩ x2).heap[b]? =some (.cells #[x0,x1,x2] t (0,0))/\Kp (fun k=>k=b) w (((w.setCell ⟨b,0,none⟩ x0).setCell ⟨b,1,none⟩ x1).setCell ⟨b,2,none⟩ x2):=by
 have s0:(w.setCell ⟨b,0,none⟩ x0).heap[b]? =some (.cells #[x0,z1,z2] t (0,0))/\Kp (fun k=>k=b) w (w.setCell ⟨b,0,none⟩ x0):=aP h 0 x0;have s1:((w.setCell ⟨b,0,none⟩ x0).setCell ⟨b,1,none⟩ x1).heap[b]? =some (.cells #[x0,x1,z2] t (0,0))/\Kp (fun k=>k=b) (w.setCell ⟨b,0,none⟩ x0) ((w.setCell ⟨b,0,none⟩ x0).setCell ⟨b,1,none⟩ x1):=aP s0.1 1 x1;have s2:=aP s1.1 2 x2;exact⟨s2.1,(s0.2.tr s1.2).tr s2.2⟩
def Lz{α:Type}(E:El α)(M:Nat)(w:World)(v:Value)(l:List α):Prop:=(Ls E w v l/\∀k,v.ownBlock=some k->k<M)\/(l=[]/\∃p c,v= .slice p 0 c)
section
variable {α:Type} {E:El α} {M:Nat} {w w':World} {v:Value} {l:List α}
theorem Lz.form(h:Lz E M w v l):∃p c,v= .slice p l.length c:=by
 rcases h with⟨h,_⟩|⟨rfl,p,c,rfl⟩
 ·exact h.form
 ·exact⟨p,c,rfl⟩
end
section
variable {α:Type} {E:El α} {M:Nat} {w w':World} {v:Value} {l:List α}
theorem Lz.below(h:Lz E M w v l)(hb:Bw w w'):Lz E M w' v l:=by
 rcases h with⟨h,hs⟩|h
 ·exact Or.inl ⟨h.below hb,hs⟩
 ·exact Or.inr h
end
section
variable {α:Type} {E:El α} {M:Nat} {w w':World} {v:Value} {l:List α}
end
section
variable {α:Type} {E:El α} {M:Nat} {w w':World} {v:Value} {l:List α}
theorem Lz.ls(h:Lz E M w v l){x:α}(hi:l[i]? =some x):Ls E w v l:=by
 rcases h with⟨h,_⟩|⟨rfl,_⟩
 ·exact h
 ·simp at hi
end
section
variable {α:Type} {E:El α} {M:Nat} {w w':World} {v:Value} {l:List α}
theorem Lz.nil(E:El α)(M:Nat)(w:World):Lz E M w (.slice none 0 0) []:=Or.inr ⟨rfl,none,0,rfl⟩
end
theorem sS{ts:List dN}(h:Ls EC w v ts){o:dN}(hj:ts[j]? =some o):
    ∃b off c,v= .slice (some ⟨b,off,none⟩) ts.length c/\b<w.heap.size/\aj w b (off+j*5) (iV o.dx)/\aj w b (off+j*5+1) (iV o.o)/\aj w b (off+j*5+2) (uV (o.via.1:Nat))/\aj w b (off+j*5+3) (uV (o.via.2.1:Nat))/\aj w b (off+j*5+4) (uV (o.via.2.2:Nat)):=by
 obtain⟨b,off,c,hv,hb,hc⟩:=h.get hj;exact⟨b,off,c,hv,hb,hc 0 _ (by decide) rfl,hc 1 _ (by decide) rfl,hc 2 _ (by decide) rfl,hc 3 _ (by decide) rfl,hc 4 _ (by decide) rfl⟩
theorem sQ{ts:List dR}(h:Ls ED w v ts){o:dR}(hj:ts[j]? =some o):
    ∃b off c,v= .slice (some ⟨b,off,none⟩) ts.length c/\b<w.heap.size/\aj w b (off+j*5) (iV o.src)/\aj w b (off+j*5+1) (iV o.o)/\aj w b (off+j*5+2) (iV o.dst)/\aj w b (off+j*5+3) (iV o.dx)/\aj w b (off+j*5+4) (.bool o.keyed):=by
 obtain⟨b,off,c,hv,hb,hc⟩:=h.get hj;exact⟨b,off,c,hv,hb,hc 0 _ (by decide) rfl,hc 1 _ (by decide) rfl,hc 2 _ (by decide) rfl,hc 3 _ (by decide) rfl,hc 4 _ (by decide) rfl⟩
structure NR(M:Nat)(w:World)(x:NV):Prop where
 code:Lz EO M w x.cv x.n.code
 bV:Lz EC M w x.dv x.n.bV
theorem j5{ts:List NV}(h:Ls EV w v ts){x:NV}(hj:ts[j]? =some x):
    ∃b off c,v= .slice (some ⟨b,off,none⟩) ts.length c/\b<w.heap.size/\aj w b (off+j*10) (iV x.n.kind)/\aj w b (off+j*10+1) (iV x.n.ins)/\aj w b (off+j*10+2) (iV x.n.outs)/\w.cell? ⟨b,off+j*10+3,none⟩=some x.cv/\aj w b (off+j*10+4) (uV (x.n.via.1:Nat))/\aj w b (off+j*10+5) (uV (x.n.via.2.1:Nat))/\aj w b (off+j*10+6) (uV (x.n.via.2.2:Nat))/\aj w b (off+j*10+7) (uV (x.n.bound:Nat))/\w.cell? ⟨b,off+j*10+8,none⟩=some x.dv/\aj w b (off+j*10+9) (.bool x.n.start):=by
 obtain⟨b,off,c,hv,hb,hc⟩:=h.get hj;exact⟨b,off,c,hv,hb,hc 0 _ (by decide) rfl,hc 1 _ (by decide) rfl,hc 2 _ (by decide) rfl,hc 3 _ (by decide) rfl,hc 4 _ (by decide) rfl,hc 5 _ (by decide) rfl,hc 6 _ (by decide) rfl,hc 7 _ (by decide) rfl,hc 8 _ (by decide) rfl,hc 9 _ (by decide) rfl⟩
structure GR(M:Nat)(w:World)(nv ev:Value)(xs:List NV)(es:List dR):Prop where
 nodes:Lz EV M w nv xs
 aO:Lz ED M w ev es
 each:∀x∈xs,NR M w x
 big:∀x∈xs,x.n.code.length<=140737488355328/\x.n.bV.length<=140737488355328
 wide:xs.length<=140737488355328/\es.length<=140737488355328
abbrev jW(a:Int)(xs:List NV)(es:List dR):bG:=⟨a,xs.map NV.n,es⟩
theorem NR.below{x:NV}(h:NR M w x)(hb:Bw w w'):NR M w' x:=⟨h.code.below hb,h.bV.below hb⟩
theorem GR.below{nv ev:Value}{xs:List NV}{es:List dR}(h:GR M w nv ev xs es)(hb:Bw w w'):GR M w' nv ev xs es:=
 ⟨h.nodes.below hb,h.aO.below hb,fun x hx=>(h.each x hx).below hb,h.big,h.wide⟩
end Df
section
open Go.RowKit
section
variable {P:Program} {ops:Array Oper} {Q:Exit->Act->World->Prop} {md:Region.Mode} {S:World->Prop} {D:List Nat}
def df(P:Program)(md:Region.Mode)(ops:Array Oper)(Q:Exit->Act->World->Prop)(S:World->Prop)(D:List Nat):Nat->Array Bool->Act->World->Prop
 | 0, ls, a, w => Region.ready md ops ls=[]/\Q .normal a w
 | n + 1, ls, a, w => (Region.ready md ops ls=[]->Q .normal a w)/\∀j∈Region.ready md ops ls,wpOp P ops Q j (fun b u=>(j∉D->S u)/\df P md ops Q S D n (ls.setIfInBounds j true) b u) a w
theorem Ke(n:Nat):∀(ls:Array Bool) (a:Act) (w:World),df P md ops Q S D n ls a w->wpAny P md ops Q n ls a w:=by
 induction n with
 | zero => intro _ _ _ h;exact h
 | succ n ih=>
  intro ls a w h;exact⟨h.1,fun j hj=>wpOp_mono (fun b u x=>ih _ b u x.2) (h.2 j hj)⟩
def Behind(md:Region.Mode)(ops:Array Oper)(i:Nat)(D:List Nat):Bool:=D.all fun j=>match ops[j]? with
 | some o => o.after.toList.any fun e=>Region.binds md e&&(e.on==i||D.contains e.on)
 | none => true
theorem IM{ls:Array Bool}(hD:Behind md ops i D=true)(hi:ls.getD i false=false)(hl:∀k∈D,ls.getD k false=false)(hj:j∈Region.ready md ops ls):j∉D:=fun hjD=>by
 obtain⟨_,o,ho,hall⟩:=mem_ready.1 hj;have h1:=List.all_eq_true.1 hD j hjD;rw[ho]at h1;obtain⟨x,hx,h2⟩:=List.any_eq_true.1 h1;rw[bA,Bool.or_eq_true]at h2;have h3:=hall x (Array.mem_toList_iff.1 hx) h2.1;rcases h2.2 with h4|h4
 ·rw[beq_iff_eq]at h4;rw[h4,hi]at h3;cases h3
 ·rw[hl _ (by simpa using h4)]at h3;cases h3
theorem AO(hi:ops[i]? =some oi)(hs:Region.noSelect ops=true)(hQ:∀c a w,Q (.panic c) (a.put oi.dst v) w->Q (.panic c) a w)(hD:Behind md ops i D=true)(hiD:D.contains i=false)(n:Nat):
    ∀(ls:Array Bool) (a:Act) (w:World),(∀j oj,ops[j]? =some oj->j≠i->ls.getD j true=false->(∀e∈oj.after,Region.binds md e=true->e.on≠i)->oi.apart ops oj=true)->(∀k∈D,ls.getD k false=false)->i∈Region.ready md ops ls->YieldsIf P ops S oi v a->S w->
     df P md ops Q S D n (ls.setIfInBounds i true) (a.put oi.dst v) w->df P md ops Q S D (n+1) ls a w:=by
 have hsel:=Region.noSelect_spec hs;have hin:i∉D:=by simpa using hiD
 induction n with
 | zero=>
  intro ls a w _ _ hr hy hS H;refine⟨fun h0=>(by rw[h0]at hr;cases hr),fun j hj=> ?_⟩;by_cases e:j=i
  ·rw[e];exact hy.wpOp hi hS ⟨fun _=>hS,H⟩
  ·have h1:=ready_mono hj e;rw[H.1]at h1;cases h1
 | succ n ih=>
  intro ls a w hfree hun hr hy hS H;refine⟨fun h0=>(by rw[h0]at hr;cases hr),fun j hj=> ?_⟩;by_cases e:j=i
  ·rw[e];exact hy.wpOp hi hS ⟨fun _=>hS,H⟩
  ·obtain⟨hju,oj,hoj,hall⟩:=mem_ready.1 hj;have hi0:ls.getD i false=false:=by
    have:=(mem_ready.1 hr).1;rcases Nat.lt_or_ge i ls.size with h|h
    ·simp[h]at this⊢;exact this
    ·simp[Array.getElem?_eq_none h]
   have hjD:=IM hD hi0 hun hj;have hno:∀x∈oj.after,Region.binds md x=true->x.on≠i:=fun x hx hb e2=>by
    have:=hall x hx hb;rw[e2,hi0]at this;cases this
   have h2:=wpOp_putIf hoj (hfree j oj hoj e hju hno) (fun cs b=>hsel i oi cs b hi) (fun cs b=>hsel j oj cs b hoj) hQ hy (H.2 j (ready_mono hj e));refine wpOp_mono (fun b u h3=>⟨fun _=>h3.2.1 hjD,ih _ b u ?_ ?_ (ready_mono hr (Ne.symm e)) h3.1 (h3.2.1 hjD) ?_⟩) h2
   ·intro k ok hk hki hku hkn;refine hfree k ok hk hki ?_ hkn;by_cases e3:j=k
    ·exact e3 ▸ hju
    ·rw[getD_set_ne true e3]at hku;exact hku
   ·intro k hk;have hne:j≠k:=fun e3=>hjD (by rw[e3];exact hk);rw[getD_set_ne false hne];exact hun k hk
   ·rw[Array.setIfInBounds_comm _ _ e];exact h3.2.2
theorem ug{ls:Array Bool}(hi:ops[i]? =some oi)(hs:Region.noSelect ops=true)(hf:Region.free md ops ls i=true)(hr:(Region.ready md ops ls).contains i=true)
    (hQ:∀c a w,Q (.panic c) (a.put oi.dst v) w->Q (.panic c) a w) (hD:(Behind md ops i D && !D.contains i&&D.all fun k=> !ls.getD k false)=true) (hy:YieldsIf P ops S oi v a) (hS:S w)
    (h:df P md ops Q S D n (ls.setIfInBounds i true) (a.put oi.dst v) w):df P md ops Q S D (n+1) ls a w:=by
 rw[bA,bA]at hD;exact AO hi hs hQ hD.1.1 (by simpa using hD.1.2) n ls a w (Region.free_spec hi hf) (fun k hk=>by simpa using List.all_eq_true.1 hD.2 k hk) (by simpa using hr) hy hS h
theorem vW{o:Oper}{ls:Array Bool}(hr:Region.ready md ops ls=[i])(ho:ops[i]? =some o)
    (h:∀K':Act->World->Prop,Shut (∀b u,(i∉D->S u)->df P md ops Q S D n (ls.setIfInBounds i true) b u->K' b u)->if Region.wanted o (yielded ops a.tmps)=true then Oper.wp P o a w K' Q else K' (a.put o.dst undef) w):df P md ops Q S D (n+1) ls a w:=by
 refine⟨fun h0=>(by rw[h0]at hr;cases hr),fun j hj=> ?_⟩;rw[hr,yM]at hj;subst hj;exact wpOp_step ho (fun K' hK=>h K' (fun b u h1 h2=>hK b u ⟨h1,h2⟩))
theorem av{ls:Array Bool}(hr:Region.ready md ops ls=[])(h:Q .normal a w)(n:Nat):df P md ops Q S D n ls a w:=by
 cases n with
 | zero => exact⟨hr,h⟩
 | succ n => exact⟨fun _=>h,fun j hj=>by rw[hr]at hj;cases hj⟩
theorem ay{id:Nat}(hm:P.follows .mixedOrders=true)(h:df P .any ops Q S D ops.size (Array.replicate ops.size false) a w.drew):(Code.region id ops true).wp P Q a w:=
 wp_region_any hm (Ke _ _ _ _ h)
end
theorem TB{p:Prop}(h:p):Hid p:=h
theorem qI{l:List α}{a:α}:l.toArray.setIfInBounds i a=(l.set i a).toArray:=by simp
theorem q0{a b:α}{l:List α}:(a::l).set 0 b=b::l:=rfl
theorem qS{a b:α}{l:List α}:(a::l).set (n+1) b=a::l.set n b:=rfl
section
variable {P:Program} {ops:Array Oper} {Q:Exit->Act->World->Prop} {md:Region.Mode} {S:World->Prop} {D:List Nat}
theorem drop_at{l:List α}{x:α}{r:List α}(h:l.drop i=x::r):l[i]? =some x:=by
 have:=List.getElem?_drop (xs:=l) (i:=i) (j:=0);rw[h]at this;simpa using this.symm
theorem bD(i:Nat){o:Op}{pos:String}{af:Array Edge}{gd:Option (Nat×Bool)}{r:List Oper}{ls ls':Array Bool}(hS:S w)
    (hy:∀w,S w->(execOp a.eval ⟨d,o,ty,"",#[],gd⟩).run P w= .ok (.value v) w)
    (h:df P md ops Q S D n ls' a' w) (hi:ops.toList.drop i=⟨d,o,ty,pos,af,gd⟩::r:=by exact rfl) (hl:ls.setIfInBounds i true=ls':=by(try simp only[qI,q0,qS]);exact rfl) (ha:a.put d v=a':=by(try simp only[Act.put,qI,q0,qS]);exact rfl) (hs:Region.noSelect ops=true:=by kernel_rfl) (hf:Region.free md ops ls i=true:=by kernel_rfl) (hr:(Region.ready md ops ls).contains i=true:=by kernel_rfl)
    (hQ:∀c a w,Q (.panic c) (a.put d v) w->Q (.panic c) a w:=by exact fun _ _ _ h=>h) (hD:(Behind md ops i D && !D.contains i&&D.all fun k=> !ls.getD k false)=true:=by kernel_rfl) (hw:Region.wanted ⟨d,o,ty,"",#[],gd⟩ (yielded ops a.tmps)=true:=by rfl):df P md ops Q S D (n+1) ls a w:=
 ug (oi:=⟨d,o,ty,pos,af,gd⟩) (by simpa using drop_at hi) hs hf hr hQ hD (Or.inl ⟨hw,hy⟩) hS (by subst hl ha;exact h)
theorem ak(i:Nat){o:Op}{pos:String}{af:Array Edge}{gd:Option (Nat×Bool)}{r:List Oper}{ls ls':Array Bool}(hS:S w)
    (h:df P md ops Q S D n ls' a' w) (hi:ops.toList.drop i=⟨d,o,ty,pos,af,gd⟩::r:=by exact rfl)
    (hy:∀w,S w->(execOp a.eval ⟨d,o,ty,"",#[],gd⟩).run P w= .ok (.value v) w:=by intro W hSw;(try dsimp only at hSw);(try have hk:=HP.o W hSw);go_simp;try(with_reducible rfl)) (hl:ls.setIfInBounds i true=ls':=by(try simp only[qI,q0,qS]);exact rfl) (ha:a.put d v=a':=by(try simp only[Act.put,qI,q0,qS]);exact rfl) (hs:Region.noSelect ops=true:=by kernel_rfl) (hf:Region.free md ops ls i=true:=by kernel_rfl) (hr:(Region.ready md ops ls).contains i=true:=by kernel_rfl)
    (hQ:∀c a w,Q (.panic c) (a.put d v) w->Q (.panic c) a w:=by exact fun _ _ _ h=>h) (hD:(Behind md ops i D && !D.contains i&&D.all fun k=> !ls.getD k false)=true:=by kernel_rfl) (hw:Region.wanted ⟨d,o,ty,"",#[],gd⟩ (yielded ops a.tmps)=true:=by rfl):df P md ops Q S D (n+1) ls a w:=
 bD i hS hy h hi hl ha hs hf hr hQ hD hw
theorem eU(i:Nat){o:Op}{pos:String}{af:Array Edge}{gd:Option (Nat×Bool)}{r:List Oper}{ls ls':Array Bool}(hS:S w)
    (h:df P md ops Q S D n ls' a' w) (hi:ops.toList.drop i=⟨d,o,ty,pos,af,gd⟩::r:=by exact rfl) (hl:ls.setIfInBounds i true=ls':=by(try simp only[qI,q0,qS]);exact rfl) (ha:a.put d undef=a':=by(try simp only[Act.put,qI,q0,qS]);exact rfl) (hs:Region.noSelect ops=true:=by kernel_rfl) (hf:Region.free md ops ls i=true:=by kernel_rfl) (hr:(Region.ready md ops ls).contains i=true:=by kernel_rfl)
    (hQ:∀c a w,Q (.panic c) (a.put d undef) w->Q (.panic c) a w:=by exact fun _ _ _ h=>h) (hD:(Behind md ops i D && !D.contains i&&D.all fun k=> !ls.getD k false)=true:=by kernel_rfl) (hw:Region.wanted ⟨d,o,ty,"",#[],gd⟩ (yielded ops a.tmps)=false:=by rfl):df P md ops Q S D (n+1) ls a w:=
 ug (oi:=⟨d,o,ty,pos,af,gd⟩) (by simpa using drop_at hi) hs hf hr hQ hD (Or.inr ⟨hw,rfl⟩) hS (by subst hl ha;exact h)
theorem fV(i:Nat){o:Op}{pos:String}{af:Array Edge}{gd:Option (Nat×Bool)}{r:List Oper}{ls:Array Bool}
    (h:∀K':Act->World->Prop,Shut (∀b u,(i∉D->S u)->df P md ops Q S D n (ls.setIfInBounds i true) b u->K' b u)->if Region.wanted ⟨d,o,ty,pos,af,gd⟩ (yielded ops a.tmps)=true then Oper.wp P ⟨d,o,ty,pos,af,gd⟩ a w K' Q else K' (a.put d undef) w)
    (ho:ops.toList.drop i=⟨d,o,ty,pos,af,gd⟩::r:=by exact rfl) (hr:Region.ready md ops ls=[i]:=by kernel_rfl):df P md ops Q S D (n+1) ls a w:=
 vW hr (by simpa using drop_at ho) h
theorem wpC(i:Nat){o:Op}{pos:String}{af:Array Edge}{gd:Option (Nat×Bool)}{r:List Oper}{f:FuncId}{args:Array Value}{ls ls':Array Bool}{R:Ending->World->Prop}
    (hc:Calls P f args w R) (h:∀e w',R e w'->∃v,e= .returned v/\S w'/\df P md ops Q S D n ls' (a.put d v) w')
    (ho:ops.toList.drop i=⟨d,o,ty,pos,af,gd⟩::r:=by exact rfl) (hrun:(execOp a.eval ⟨d,o,ty,pos,af,gd⟩).run P w= .ok (.enter f args) w:=by(go_simp;try(with_reducible rfl)))
    (hl:ls.setIfInBounds i true=ls':=by(try simp only[qI,q0,qS]);exact rfl) (hr:Region.ready md ops ls=[i]:=by kernel_rfl) (hw:Region.wanted ⟨d,o,ty,pos,af,gd⟩ (yielded ops a.tmps)=true:=by rfl):df P md ops Q S D (n+1) ls a w:=by
 refine vW hr (by simpa using drop_at ho) fun K hK=> ?_;rw[if_pos hw];unfold Oper.wp;rw[hrun,Oper.upon_enter];refine hc.mono fun e w' he=> ?_;obtain⟨v,rfl,h1,h2⟩:=h e w' he;exact hK.o _ _ (fun _=>h1) (by rw[hl];exact h2)
end
end
section
open Go.RowKit Go.Sort Go.Maps
structure KK(P:Program)(k:TypeId)(K:Type) where
 enc:K->Value
 lit:K->Lit
 law:Keyed P k
 key:∀s,keyOf P k (enc s)=some (lit s)
 inv:∀v l,keyOf P k v=some l->∃s,v=enc s/\l=lit s
 inj:∀s t,lit s=lit t->s=t
abbrev nd(n:Int):DataW Unit:= .lit (.int .i64 n)
section
variable {P:Program} {k e:TypeId} {K:Type} [DecidableEq K]
omit [DecidableEq K]in
theorem KK.isKey(Z:KK P k K)(s:K):WideAt.IsKeyLit (Z.lit s):=Z.law.key (Z.key s)
theorem KK.same(Z:KK P k K)(s t:K):(Z.lit s).sameKey (Z.lit t)=decide (s=t):=by
 have h:=WideAt.sameKey_iff (a:=Z.lit s) (Z.isKey t);by_cases e:s=t
 ·subst e;rw[decide_eq_true rfl];exact h.2 rfl
 ·rw[decide_eq_false e];cases hq:(Z.lit s).sameKey (Z.lit t)with
  | false => rfl
  | true => exact absurd (Z.inj _ _ (h.1 hq)) e
def upd(f:K->Int)(s:K)(v:Int):K->Int:=fun t=>if t=s then v else f t
omit [DecidableEq K]in
theorem upd_same[DecidableEq K](f:K->Int)(s:K)(v:Int):upd f s v s=v:=by simp[upd]
omit [DecidableEq K]in
theorem cK[DecidableEq K](f:K->Int){s t:K}(v:Int)(h:t≠s):upd f s v t=f t:=by simp[upd,h]
def Ta(Z:KK P k K)(e:TypeId)(w:World)(b n:Nat)(f:K->Int):Prop:=
 ∃D:DataW Unit,w.ownsMap P k (plainElem P e) b n D/\(∀s,D.atKey (Z.lit s) (nd 0)=nd (f s))/\∀s,Maps.has D (Z.lit s)=decide (f s≠0)
def qC(f:K->Int)(ks:List K):Prop:=ks.Nodup/\∀s,s∈ks↔f s≠0
variable {Z:KK P k K} {w w':World} {b n:Nat} {f:K->Int} {D:DataW Unit}
omit [DecidableEq K]in
theorem Ta.lt(h:Ta Z e w b n f):b<w.heap.size:=by obtain⟨D,h,_⟩:=h;exact h.lt
omit [DecidableEq K]in
theorem Ta.mono(h:Ta Z e w b n f){m:Nat}(hm:n<=m):Ta Z e w b m f:=by obtain⟨D,h1,h2⟩:=h;exact⟨D,h1.mono hm,h2⟩
omit [DecidableEq K]in
theorem Ta.kept(h:Ta Z e w b n f)(hb:w'.heap[b]? =w.heap[b]?):Ta Z e w' b n f:=by
 obtain⟨D,⟨es,clock,h1,h2⟩,h3⟩:=h;exact⟨D,⟨es,clock,hb.trans h1,h2⟩,h3⟩
omit [DecidableEq K]in
theorem Ta.made(w:World):Ta Z e (w.alloc (.map #[] 0)) w.heap.size 0 fun _=>0:=
 ⟨.map [],World.ownsMap_made _ _ _ _,fun _=>rfl,fun _=>rfl⟩
theorem DK(hD:IsMap D)(h1:∀s,D.atKey (Z.lit s) (nd 0)=nd (f s))(h2:∀s,Maps.has D (Z.lit s)=decide (f s≠0))(s:K)(v:Int)(hv:v≠0):
    (∀t,(D.put (Z.lit s) (nd v)).atKey (Z.lit t) (nd 0)=nd (upd f s v t))/\∀t,Maps.has (D.put (Z.lit s) (nd v)) (Z.lit t)=decide (upd f s v t≠0):=by
 refine⟨fun t=> ?_,fun t=> ?_⟩
 ·by_cases ht:t=s
  ·subst ht;rw[upd_same];exact atKey_put_same hD (Z.isKey t) _ _
  ·rw[cK _ _ ht,atKey_put_other (fun e=>ht (Z.inj _ _ e))];exact h1 t
 ·by_cases ht:t=s
  ·subst ht;rw[upd_same,has_put_same hD (Z.isKey t)];simp[hv]
  ·rw[cK _ _ ht,has_put_other (fun e=>ht (Z.inj _ _ e))];exact h2 t
theorem EY(h1:∀s,D.atKey (Z.lit s) (nd 0)=nd (f s))(h2:∀s,Maps.has D (Z.lit s)=decide (f s≠0))(s:K):
    (∀t,(D.del (Z.lit s)).atKey (Z.lit t) (nd 0)=nd (upd f s 0 t))/\∀t,Maps.has (D.del (Z.lit s)) (Z.lit t)=decide (upd f s 0 t≠0):=by
 refine⟨fun t=> ?_,fun t=> ?_⟩
 ·by_cases ht:t=s
  ·subst ht;rw[upd_same];exact atKey_del_same _
  ·rw[cK _ _ ht,atKey_del_other (fun e=>ht (Z.inj _ _ e))];exact h1 t
 ·by_cases ht:t=s
  ·subst ht;rw[upd_same,has_del_same];simp
  ·rw[cK _ _ ht,has_del_other (fun e=>ht (Z.inj _ _ e))];exact h2 t
def oD(Z:KK P k K)(D:DataW Unit)(left:Lit->Bool)(ss:List K):Prop:=ss.Nodup/\∀x,x∈ss↔(Maps.has D (Z.lit x)=true/\left (Z.lit x)=false)
omit [DecidableEq K]in
theorem oD.start(D:DataW Unit):oD Z D (Maps.has D) []:=⟨List.nodup_nil,fun x=>by cases Maps.has D (Z.lit x)<;>simp⟩
theorem oD.step{left:Lit->Bool}{ss:List K}(h:oD Z D left ss){x:K}{y:DataW Unit}(hlk:left (Z.lit x)=true)(hat:∀zd,D.atKey (Z.lit x) zd=y):oD Z D (fun z=>left z && !z.sameKey (Z.lit x)) (ss++[x]):=by
 have hhas:Maps.has D (Z.lit x)=true:=has_true_of_atKey hat;have hnew:x∉ss:=fun hx=>by have:=((h.2 x).1 hx).2;rw[hlk]at this;cases this
 refine⟨List.nodup_append.2 ⟨h.1,by simp,fun a ha b hb=>by simp at hb;subst hb;exact fun e=>hnew (e ▸ ha)⟩,fun y=> ?_⟩;by_cases hy:y=x
 ·subst hy;simp[hhas,Z.same]
 ·simp[h.2 y,hy,Z.same]
omit [DecidableEq K]in
theorem oD.sup{left:Lit->Bool}{ss:List K}(h:oD Z D left ss)(h2:∀s,Maps.has D (Z.lit s)=decide (f s≠0))(hl:∀kl,left kl=false):qC f ss:=
 ⟨h.1,fun s=>by rw[h.2 s,hl,h2];simp⟩
theorem dS[DecidableEq α]:∀{l m:List α},l.Nodup->(∀x∈l,x∈m)->l.length<=m.length
 | [], _, _, _ => zL _
 | a::l, m, hn, hs => by
  have hn':=List.nodup_cons.1 hn;have h:=dS (l:=l) (m:=m.erase a) hn'.2 (fun x hx=>(List.mem_erase_of_ne (fun(e:x=a)=>hn'.1 (e ▸ hx))).2 (hs x (mO _ hx)));have h2:=List.length_erase_of_mem (hs a mX);have h3:=List.length_pos_of_mem (hs a mX);simp only[lC];omega
theorem qC.le{ks ms:List K}(h:qC f ks)(hs:∀s,f s≠0->s∈ms):ks.length<=ms.length:=dS h.1 fun x hx=>hs x ((h.2 x).1 hx)
omit [DecidableEq K]in
theorem qC.perm{ks ms:List K}(h:qC f ks)(h2:qC f ms):ks.Perm ms:=(List.perm_ext_iff_of_nodup h.1 h2.1).2 fun x=>(h.2 x).trans (h2.2 x).symm
omit [DecidableEq K]in
theorem ny(h:w.ownsMap P k (plainElem P e) b n D)(h2:∀s,Maps.has D (Z.lit s)=decide (f s≠0)):∃ks,qC f ks/\ks.length=Maps.size D:=by
 obtain⟨es,hD,hpw,hik⟩:=h.entries Z.law;obtain⟨es',clock,hb,F,_,hD'⟩:=h;have hke:∀p∈es,∃s,p.1=Z.lit s:=fun p hp=>by
  have e1:es=(es'.toList.map (WideElems.rg P k (plainElem P e))).foldr DataW.insert []:=by rw[hD]at hD';simpa using hD'
  rw[e1]at hp;obtain⟨v,hv⟩:=fit_keys F p (mem_sorted.1 hp);obtain⟨s,_,hs⟩:=Z.inv v p.1 hv;exact⟨s,hs⟩
 subst hD;clear hD';have key:∀l:List (Lit×DataW Unit),(∀p∈l,∃s,p.1=Z.lit s)->∃ks:List K,l.map (·.1)=ks.map Z.lit:=by
  intro l
  induction l with
  | nil => exact fun _=>⟨[],rfl⟩
  | cons p l ih=>
   intro hl;obtain⟨s,hs⟩:=hl p mX;obtain⟨ks,hks⟩:=ih fun q hq=>hl q (mO _ hq);exact⟨s::ks,by simp[hs,hks]⟩
 obtain⟨ks,hks⟩:=key es hke;refine⟨ks,⟨?_,fun s=> ?_⟩, ?_⟩
 ·have h1:(es.map (·.1)).Pairwise (·≠·):=List.pairwise_map.2 hpw;rw[hks,List.pairwise_map]at h1;exact h1.imp fun {a b} hne e=>hne (by rw[e])
 ·have h3:=h2 s;rw[has_eq]at h3;constructor
  ·intro hs;have hm:Z.lit s∈es.map (·.1):=(by rw[hks];exact List.mem_map_of_mem hs);obtain⟨p,hp,hpe⟩:=mM.1 hm;have:es.any (fun p=>p.1.sameKey (Z.lit s))=true:=List.any_eq_true.2 ⟨p,hp,by rw[hpe];exact WideAt.sameKey_self (Z.isKey s)⟩;rw[this]at h3;simpa using h3.symm
  ·intro hf;rw[decide_eq_true hf]at h3;obtain⟨p,hp,hq⟩:=List.any_eq_true.1 h3;have hpe:=(WideAt.sameKey_iff (Z.isKey s)).1 hq;have hm:p.1∈es.map (·.1):=List.mem_map_of_mem hp;rw[hks,hpe]at hm;obtain⟨t,ht,hte⟩:=mM.1 hm;exact Z.inj _ _ hte ▸ ht
 ·have:=congrArg List.length hks;simpa[Maps.size]using this.symm
end
end
end Go.Proofs.YtiiefcalkjeieaaGreat
