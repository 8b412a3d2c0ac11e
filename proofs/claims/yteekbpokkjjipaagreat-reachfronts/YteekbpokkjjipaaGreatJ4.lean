import Derived.Laws.CopyOwn
import Derived.Deep.AppendLies
import Derived.Laws.AppendOwnNone
import Derived.Test.YteekbpokkjjipaaGreatJ3
import Derived.Test.YteekbpokkjjipaaGreatJ2
import Derived.DeepKeys4
import Derived.Shelf.SlSortCmp.QuietGrown
variable{w w':Go.World}{v z u:Go.Value}{b n base j size off c k s n' bt E M:Nat}{e t sT:Go.TypeId}{S T:Nat->Prop}{xs:List Go.Value}{cs:Array Go.Value}
set_option maxHeartbeats 1000000
set_option maxRecDepth 100000
namespace Go.Proofs.YteekbpokkjjipaaGreat
section
open Go.RowKit Go.Sort
structure El(α:Type) where
 k:Nat
 enc:α->List Value
 len:∀x,(enc x).length=k
 one:∀x,∀u∈enc x,u.oneCell'=true
section
variable {α:Type} (E:El α)
def fl(l:List α):List Value:=l.flatMap E.enc
theorem VE:fl E []=[]:=rfl
theorem aQ(t:α)(ts:List α):fl E (t::ts)=E.enc t++fl E ts:=rfl
theorem aS(a b:List α):fl E (a++b)=fl E a++fl E b:=by simp[fl]
theorem dK(t:α):fl E [t]=E.enc t:=by simp[fl]
theorem gu(ts:List α):(fl E ts).length=ts.length*E.k:=by
 induction ts with
 | nil => simp[fl]
 | cons t ts ih => rw[aQ,dH,ih,E.len,lC,Nat.succ_mul,Nat.add_comm]
theorem FP(ts:List α)(j i:Nat)(t:α)(h:ts[j]? =some t)(hi:i<E.k):(fl E ts)[j*E.k+i]? =(E.enc t)[i]? :=by
 induction ts generalizing j with
 | nil => simp at h
 | cons s ts ih=>
  rw[aQ];cases j with
  | zero=>
   simp at h;subst h;rw[Nat.zero_mul,nZ,gL (by rw[E.len];exact hi)]
  | succ j=>
   have e:(j+1)*E.k+i=E.k+(j*E.k+i):=(by rw[Nat.succ_mul];omega);rw[e,List.getElem?_append_right (by rw[E.len];omega),E.len,Nat.add_sub_cancel_left];exact ih j (by simpa using h)
theorem vV(ts:List α):∀u∈fl E ts,u.oneCell'=true:=by
 intro u hu;simp only[fl,List.mem_flatMap]at hu;obtain⟨t,_,hu⟩:=hu;exact E.one t u hu
theorem Al(l:List α)(n:Nat):(fl E l).take (n*E.k)=fl E (l.take n):=by
 induction l generalizing n with
 | nil => simp[fl]
 | cons x l ih=>
  cases n with
  | zero => simp[fl]
  | succ n=>
   rw[aQ,List.take_succ_cons,aQ,Nat.succ_mul,List.take_append,List.take_of_length_le (by rw[E.len];omega),E.len,Nat.add_sub_cancel,ih n]
theorem Iz(l:List α)(n:Nat):(fl E l).drop (n*E.k)=fl E (l.drop n):=by
 induction l generalizing n with
 | nil => simp[fl]
 | cons x l ih=>
  cases n with
  | zero => simp[fl]
  | succ n=>
   rw[aQ,List.drop_succ_cons,Nat.succ_mul,List.drop_append,List.drop_of_length_le (by rw[E.len];omega),E.len,Nat.add_sub_cancel,ih n,List.nil_append]
def aaY(w:World)(b off:Nat)(ts:List α):Prop:=∀j u,(fl E ts)[j]? =some u->w.cell? ⟨b,off+j,none⟩=some u
def Ls(w:World)(v:Value)(ts:List α):Prop:=
 (ts=[]/\v= .slice none 0 0)\/∃b off c,v= .slice (some ⟨b,off,none⟩) ts.length c/\b<w.heap.size/\aaY E w b off ts
variable {E}
theorem Ls.kept{ts:List α}(h:Ls E w v ts)(hs:w.heap.size<=w'.heap.size)(hb:∀g,v.ownBlock=some g->w'.heap[g]? =w.heap[g]?):Ls E w' v ts:=by
 rcases h with h|⟨b,off,c,hv,hbs,ht⟩
 ·exact Or.inl h
 ·refine Or.inr ⟨b,off,c,hv,nL hbs hs,fun j u hj=> ?_⟩;have:=hb b (by rw[hv];rfl);rw[World.cell?_of_block (a:=⟨b,off+j,none⟩) this];exact ht j u hj
theorem Ls.blk{ts:List α}(h:Ls E w v ts):∀g,v.ownBlock=some g->g<w.heap.size:=by
 intro g hg;rcases h with⟨_,rfl⟩|⟨b,off,c,rfl,hbs,_⟩
 ·simp[Value.ownBlock]at hg
 ·simp[Value.ownBlock]at hg;omega
theorem Ls.below{ts:List α}(h:Ls E w v ts)(hb:Below w.heap.size w w'):Ls E w' v ts:=
 h.kept hb.size fun g hg=>hb.block g (h.blk g hg)
theorem Ls.nil(w:World):Ls E w (.slice none 0 0) []:=Or.inl ⟨rfl,rfl⟩
theorem Ls.form{ts:List α}(h:Ls E w v ts):∃p c,v= .slice p ts.length c:=by
 rcases h with⟨rfl,rfl⟩|⟨b,off,c,hv,_,_⟩
 ·exact⟨_,_,rfl⟩
 ·exact⟨_,_,hv⟩
theorem Ls.get{ts:List α}(h:Ls E w v ts){t:α}(hj:ts[j]? =some t):
    ∃b off c,v= .slice (some ⟨b,off,none⟩) ts.length c/\b<w.heap.size/\∀i u,i<E.k->(E.enc t)[i]? =some u->w.cell? ⟨b,off+j*E.k+i,none⟩=some u:=by
 rcases h with⟨rfl,_⟩|⟨b,off,c,hv,hb,ht⟩
 ·simp at hj
 ·exact⟨b,off,c,hv,hb,fun i u hi hu=>by rw[Nat.add_assoc];exact ht _ _ ((FP E ts j i t hj hi).trans hu)⟩
theorem JY(b off i:Nat):(⟨b,off,none⟩:Addr).add i=⟨b,off+i,none⟩:=by unfold Addr.add;split<;>simp_all
theorem aJ{ts:List α}(h:w.ownsRow base e E.k v ts.length (fl E ts)):Ls E w v ts:=by
 rcases h.2 with⟨hv,h0⟩|⟨g,cap,cur,hv,hg,hh,_,_,_,htake⟩
 ·exact Or.inl ⟨List.eq_nil_of_length_eq_zero h0,hv⟩
 ·refine Or.inr ⟨g,0,cap,hv,(aG.1 hh).1,fun j u hj=> ?_⟩;have:=h.cells (g:=g) (by rw[hv];rfl) j u hj;rw[JY]at this;exact this
theorem Ls.cut{l:List α}(h:Ls E w (.slice (some ⟨b,off,none⟩) n c) l)(hk:k<=l.length)(c2:Nat):Ls E w (.slice (some ⟨b,off,none⟩) k c2) (l.take k):=by
 rcases h with⟨_,h⟩|⟨b',off',c',hv,hb,ht⟩
 ·cases h
 ·cases hv;refine Or.inr ⟨b,off,c2,by rw[lK,Nat.min_eq_left hk],hb,fun j u hj=>ht j u ?_⟩;rw[<-Al,List.getElem?_take]at hj;split at hj
  ·exact hj
  ·cases hj
theorem Ls.tail{l:List α}(h:Ls E w (.slice (some ⟨b,off,none⟩) n c) l)(c2:Nat):Ls E w (.slice (some ⟨b,off+k*E.k,none⟩) (l.length-k) c2) (l.drop k):=by
 rcases h with⟨_,h⟩|⟨b',off',c',hv,hb,ht⟩
 ·cases h
 ·cases hv;refine Or.inr ⟨b,off+k*E.k,c2,by rw[List.length_drop],hb,fun j u hj=> ?_⟩;rw[<-Iz,List.getElem?_drop]at hj;rw[Nat.add_assoc];exact ht _ u hj
theorem Ls.void{l:List α}(h:Ls E w (.slice (some ⟨b,off,none⟩) n c) l)(hk:l.length<=k)(c2:Nat):Ls E w (.slice (some ⟨b,off,none⟩) (l.length-k) c2) (l.drop k):=by
 rcases h with⟨_,h⟩|⟨b',off',c',hv,hb,ht⟩
 ·cases h
 ·cases hv;refine Or.inr ⟨b,off,c2,by rw[List.length_drop],hb,fun j u hj=> ?_⟩;rw[List.drop_of_length_le hk]at hj;simp[fl]at hj
end
structure Kp(S:Nat->Prop)(w w':World):Prop where
 os:w'.os=w.os
 tape:w'.tape=w.tape
 output:w'.output=w.output
 size:w.heap.size<=w'.heap.size
 block:∀k,k<w.heap.size->¬S k->w'.heap[k]? =w.heap[k]?
theorem Kp.refl(S:Nat->Prop)(w:World):Kp S w w:=⟨rfl,rfl,rfl,nR _,fun _ _ _=>rfl⟩
theorem Kp.trans{a b c:World}(h:Kp S a b)(k:Kp T b c)(hT:∀j,j<a.heap.size->T j->S j):Kp S a c:=
 ⟨k.os.trans h.os,k.tape.trans h.tape,k.output.trans h.output,nT h.size k.size,fun i hi hS=>(k.block i (nL hi h.size) (fun ht=>hS (hT i hi ht))).trans (h.block i hi hS)⟩
theorem Kp.of_below(h:Below w.heap.size w w'):Kp S w w':=⟨h.os,h.tape,h.output,h.size,fun k hk _=>h.block k hk⟩
theorem Kp.aU(h:Gr w w'):Kp S w w':=Kp.of_below h.below
theorem Kp.mono(h:Kp S w w')(hT:∀k,S k->T k):Kp T w w':=⟨h.os,h.tape,h.output,h.size,fun k hk ht=>h.block k hk (fun hs=>ht (hT k hs))⟩
theorem Kp.below{B:Nat}(h:Kp S w w')(hB:B<=w.heap.size)(hS:∀k,S k->B<=k):Below B w w':=
 ⟨h.os,h.tape,h.output,h.size,fun k hk=>h.block k (nL hk hB) (fun hs=>absurd (hS k hs) (Nat.not_le.2 hk))⟩
theorem Kp.grownBy{r:Option Nat}(h:w.grownBy w' r)(hS:∀k,r=some k->S k):Kp S w w':=
 ⟨h.os,h.tape,h.output,h.size,fun k hk hs=>h.block k hk (fun e=>hs (hS k e.symm))⟩
theorem Kp.ls{α:Type}{E:El α}{l:List α}(h:Kp S w w')(hv:Ls E w v l)(hS:∀k,v.ownBlock=some k->¬S k):Ls E w' v l:=
 hv.kept h.size fun g hg=>h.block g (hv.blk g hg) (hS g hg)
theorem Kp.cell(h:Kp S w w'){o:Nat}(hb:b<w.heap.size)(hS:¬S b):w'.cell? ⟨b,o,none⟩=w.cell? ⟨b,o,none⟩:=
 World.cell?_of_block (a:=⟨b,o,none⟩) (h.block b hb hS)
theorem ay(h:Kp S w w')(ho:w.ownsRow base e size v n xs)(hS:∀k,v.ownBlock=some k->¬S k):w'.ownsRow base e size v n xs:=by
 obtain⟨h1,h2⟩:=ho;refine⟨h1, ?_⟩;rcases h2 with h2|⟨g,cap,cur,hv,hg,hh,r⟩
 ·exact Or.inl h2
 ·exact Or.inr ⟨g,cap,cur,hv,hg,by rw[h.block g (aG.1 hh).1 (hS g (by rw[hv];rfl))];exact hh,r⟩
theorem ag(h:w.ownsRow base e size v n xs)(hb:Below w.heap.size w w'):w'.ownsRow base e size v n xs:=
 ay (S:=fun _=>False) (Kp.of_below hb) h fun _ _ hf=>hf
theorem aK{b':Nat}(h:w.ownsRow b e size v n xs)(hb:b'<=b):w.ownsRow b' e size v n xs:=by
 obtain⟨h1,h2⟩:=h;refine⟨h1, ?_⟩;rcases h2 with h2|⟨g,cap,cur,hv,hg,r⟩
 ·exact Or.inl h2
 ·exact Or.inr ⟨g,cap,cur,hv,nT hb hg,r⟩
theorem aP{xs':List Value}(h:w.ownsRow base e s v n xs)(hn:n=n')(hx:xs=xs'):w.ownsRow base e s v n' xs':=by
 subst hn;subst hx;exact h
theorem LK{p:Option Addr}{cap:Nat}(h:w.ownsRow base e size (.slice p n' cap) n xs):n<=cap/\cap<=maxLen:=by
 obtain⟨_,⟨h0,h1⟩|⟨g',cap',cur,hv,_,_,hn,hm,_⟩⟩:=h
 ·cases h0;subst h1;exact⟨nR _,Nat.zero_le _⟩
 ·cases hv;exact⟨hn,hm⟩
theorem info_parts{P:Program}(h:(P.info? t).map (fun i=>(i.zero,i.size,i.bytes))=some (some z,s,b)):∃i,P.info? t=some i/\i.zero=some z/\i.size=s/\i.bytes=b:=by
 cases hq:P.info? t with
 | none => simp[hq]at h
 | some i=>
  simp[hq]at h;exact⟨i,rfl,h.1,h.2.1,h.2.2⟩
theorem ai(w:World)(o:Obj):(w.alloc o).heap[w.heap.size]? =some o:=by
 rw[show(w.alloc o).heap=w.heap.push o from rfl];simp
section
variable {P:Program} {α:Type} (E:El α) {w:World} {ops:Array Oper} {rest:List Oper} {o:Oper} {a:Act} {Q:Exit->Act->World->Prop}
theorem fM(hu:P.underlying sT=some (.slice e))(hI:(P.info? e).map (fun i=>(i.zero,i.size,i.bytes))=some (some z,E.k,bt))(hz:z.cells.size=E.k)(hk:0<E.k)
    (hgd:o.guard=none) (s x:Operand) (ho:o.op= .call { callee:= .builtin .append,args:=#[s,x],argTypes:=#[sT,sT] })
    (base:Nat) (v:Value) (n:Nat) (xs:List Value) (hs:a.eval s=v) (hown:w.ownsRow base e E.k v n xs)
    (t:α) (hx:a.eval x= .slice (some ⟨w.heap.size,0,none⟩) 1 1) (hbig:(n+1)*bt<=140737488355328) (hmx:n+1<=maxLen) (hbase:base<=w.heap.size)
    (cs:Array Value) (hcs:cs.toList=E.enc t) (te:TypeId)
    (h:∀g cap w',w'.ownsRow base e E.k (.slice (some ⟨g,0,none⟩) (n+1) cap) (n+1) (xs++E.enc t)->w.grownBy w' v.ownBlock->(v.ownBlock=some g\/w.heap.size<=g)->wpList P ops Q rest (a.put o.dst (.slice (some ⟨g,0,none⟩) (n+1) cap)) w') :
    wpList P ops Q (o::rest) a (w.alloc (.cells cs te)):=by
 obtain⟨i0,hi,hz0,hz1,hz2⟩:=info_parts hI;refine wpList_append_lies _ hgd s x _ ho base e i0 _ E.k bt hu hi hz0 hz1 hz2 hz hk v n xs hs (hown.alloc _) ⟨w.heap.size,0,none⟩ 1 1 (E.enc t) hx (by rw[E.len,Nat.one_mul]) (by have:=World.news_of_block (ai w (.cells cs te));rw[hcs]at this;exact this) (E.one t) (by decide) hmx hbig (by simp;omega) _ rfl ?_;intro g cap w' h1 h2 h3 _;refine h g cap w' h1 ⟨h2.os,h2.tape,h2.output,nT (by simp) h2.size,fun k hk hne=>(h2.block k (by simp;omega) hne).trans ((World.grownBy_alloc w _ none).block k hk (by simp))⟩ ?_;rcases h3 with h3|h3
 ·exact Or.inl h3
 ·right;rw[h3];simp
theorem ou(hu:P.underlying sT=some (.slice e))(hI:(P.info? e).map (fun i=>(i.zero,i.size,i.bytes))=some (some z,E.k,bt))(hz:z.cells.size=E.k)(hk:0<E.k)
    (hgd:o.guard=none) (s x:Operand) (ho:o.op= .call { callee:= .builtin .append,args:=#[s,x],argTypes:=#[sT,sT] })
    (base:Nat) (v:Value) (n:Nat) (xs:List Value) (hs:a.eval s=v) (hown:w.ownsRow base e E.k v n xs)
    (v1:Value) (ts:List α) (hx:a.eval x=v1) (hv:Ls E w v1 ts) (hbig:(n+ts.length)*bt<=140737488355328) (hmx:n+ts.length<=maxLen) (hbase:base<=w.heap.size)
    (h:∀v' w',w'.ownsRow base e E.k v' (n+ts.length) (xs++fl E ts)->w.grownBy w' v.ownBlock->wpList P ops Q rest (a.put o.dst v') w'):wpList P ops Q (o::rest) a w:=by
 obtain⟨i0,hi,hz0,hz1,hz2⟩:=info_parts hI;rcases hv with⟨rfl,rfl⟩|⟨b,off,c,rfl,hb,ht⟩
 ·refine wpList_append_own_none hgd s x _ ho base e i0 E.k hu hi v n xs hs hown hx ?_;exact h v w (by rw[VE,DF];exact hown) ⟨rfl,rfl,rfl,nR _,fun _ _ _=>rfl⟩
 ·refine wpList_append_own _ hgd s x _ ho base e i0 _ E.k bt hu hi hz0 hz1 hz2 hz hk v n xs hs hown ⟨b,off,none⟩ ts.length c (fl E ts) hx (gu E ts) (fun j u hj=>by rw[JY];exact ht j u hj) (vV E ts) hmx hbig hbase ?_;intro v' w' h1 h2 _;exact h v' w' h1 h2
end
theorem xg{P:Program}(w:World)(dT sT ty elem:TypeId)(s g o dLen dCap:Nat)(a:Addr)(sLen sCap:Nat)(cur:Array Value)(t:TypeId)(cs:List Value)
    (hu:P.underlying dT=some (.slice elem)) (hs:(P.info? elem).map (·.size)=some s)
    (hg:w.heap[g]? =some (.cells cur t (0,0))) (hn:cs.length=Nat.min sLen dLen*s)
    (hsrc:∀j v,cs[j]? =some v->w.cell? (a.add j)=some v) (hfit:o+cs.length<=cur.size) (h1:∀v∈cs,v.oneCell'=true) :
    (Builtin.copy_ #[dT,sT] ty #[.slice (some ⟨g,o,none⟩) dLen dCap, .slice (some a) sLen sCap]).run P w =
     .ok (goInt (Nat.min sLen dLen)) (w.setRow g (cur.toList.take o++cs++cur.toList.drop (o+cs.length)).toArray):=by
 have hl:=run_loadCells_list (P:=P) w a cs hsrc;have hst:=run_storeCells_at P g o t cs 0 cur w hg (by simpa using hfit) h1;cases hq:P.info? elem with
 | none => simp[hq]at hs
 | some i=>
  have hi:i.size=s:=by simpa[hq]using hs
  simp[Builtin.copy_,run_underlying hu,Builtin.lenOf,Builtin.firstCells,sizeOf,typeInfo,hq,hi,<-hn,hl,hst]
end
namespace Df
open Go.RowKit Go.Sort
theorem hid{p:Prop}(h:p):Hid p:=h
abbrev mW:=Nat×Nat×Nat
structure Xj where
 kind:Int
 arg:Nat
 deriving DecidableEq
structure dF where
 cO:Int
 o:Int
 via:mW
 deriving DecidableEq
structure df where
 kind:Int
 ins:Int
 outs:Int
 code:List Xj
 via:mW
 bound:Nat
 bP:List dF
 start:Bool
 deriving DecidableEq
structure dI where
 src:Int
 o:Int
 dst:Int
 cO:Int
 keyed:Bool
 deriving DecidableEq
structure bI where
 arity:Int
 nodes:List df
 aL:List dI
 deriving DecidableEq
def Kk(n:Int):Prop:= -9223372036854775808<=n/\n<=9223372036854775807
def Dq(n:Nat):Prop:=n<=18446744073709551615
def gH(p:mW):Prop:=Dq p.1/\Dq p.2.1/\Dq p.2.2
def Wo(o:Xj):Prop:=Kk o.kind/\Dq o.arg
def WQ(c:dF):Prop:=Kk c.cO/\Kk c.o/\gH c.via
def Zx(n:df):Prop:=Kk n.kind/\Kk n.ins/\Kk n.outs/\(∀o∈n.code,Wo o)/\gH n.via/\Dq n.bound/\∀c∈n.bP,WQ c
def RS(x:dI):Prop:=Kk x.src/\Kk x.o/\Kk x.dst/\Kk x.cO
def RQ(g:bI):Prop:=Kk g.arity/\(∀n∈g.nodes,Zx n)/\∀x∈g.aL,RS x
theorem ae{o:Obj}(h:w.heap[b]? =some o):b<w.heap.size:=(aG.1 h).1
theorem bE(h:w.heap[b]? =some (.cells cs t (0,0)))(i:Nat)(x:Value):(w.setCell ⟨b,i,none⟩ x).heap[b]? =some (.cells (cs.setIfInBounds i x) t (0,0))/\Kp (fun k=>k=b) w (w.setCell ⟨b,i,none⟩ x):=by
 have e:=setCell_eq_setRow w b i _ _ _ x h;rw[e];exact⟨by rw[setRow_heap w b _ _ _ _ h],rfl,rfl,rfl,by simp[World.setRow],fun k _ hne=>setRow_other w b k _ (by omega)⟩
theorem aa(h:w.heap[b]? =some (.cells cs t (0,0))):(∀i,w.cell? ⟨b,i,none⟩=cs[i]?)/\∀i,w.frozen? ⟨b,i,none⟩=false:=by
 refine⟨fun i=>by simp[World.cell?,h],fun i=>by simp[World.frozen?,h]⟩
theorem Uz(w:World)(o1 o2:Obj):(((w.alloc o1).alloc o2).drew).heap[w.heap.size]? =some o1:=by
 have h:=ai w o1;rw[<-h];exact((Gr.refl (w.alloc o1)).alloc o2).drew.below.block w.heap.size (by simp)
theorem Uy(w:World)(o1 o2:Obj):(((w.alloc o1).alloc o2).drew).heap[w.heap.size+1]? =some o2:=by
 have h:=ai (w.alloc o1) o2
 rwa [show(w.alloc o1).heap.size=w.heap.size+1 by simp]at h
theorem aH{T:TypeId}(h:w.ownsRow base T E u n xs):∀k,u.ownBlock=some k->base<=k/\k<w.heap.size:=fun k hk=>h.lt k hk
theorem az{T:TypeId}(h:w.ownsRow base T E u n xs):∃q m c,u= .slice q m c:=by
 obtain⟨_,⟨h0,_⟩|⟨g',cap',cur,hv,_⟩⟩:=h
 ·exact⟨_,_,_,h0⟩
 ·exact⟨_,_,_,hv⟩
def EO:El Xj where
 k:=2
 enc o:=[.int .i64 o.kind, .int .u64 (o.arg:Nat)]
 len _:=rfl
 one o u hu:=by
  simp at hu;rcases hu with rfl|rfl<;>rfl
theorem Yb:(Tryz.prog.info? 202).map (fun i=>(i.zero,i.size,i.bytes))=some (some (.agg #[.int .i64 0, .int .u64 0]),2,16):=by kernel_rfl
def EC:El dF where
 k:=5
 enc o:=[.int .i64 o.cO, .int .i64 o.o, .int .u64 (o.via.1:Nat), .int .u64 (o.via.2.1:Nat), .int .u64 (o.via.2.2:Nat)]
 len _:=rfl
 one o u hu:=by
  simp at hu;rcases hu with rfl|rfl|rfl|rfl|rfl<;>rfl
theorem vH:(Tryz.prog.info? 205).map (fun i=>(i.zero,i.size,i.bytes))=some (some (.agg #[.int .i64 0, .int .i64 0, .int .u64 0, .int .u64 0, .int .u64 0]),5,40):=by kernel_rfl
def ED:El dI where
 k:=5
 enc o:=[.int .i64 o.src, .int .i64 o.o, .int .i64 o.dst, .int .i64 o.cO, .bool o.keyed]
 len _:=rfl
 one o u hu:=by
  simp at hu;rcases hu with rfl|rfl|rfl|rfl|rfl<;>rfl
theorem Yc:(Tryz.prog.info? 151).map (fun i=>(i.zero,i.size,i.bytes))=some (some (.agg #[.int .i64 0, .int .i64 0, .int .i64 0, .int .i64 0, .bool false]),5,40):=by kernel_rfl
structure NV where
 n:df
 cq:Option Addr
 cm:Nat
 cc:Nat
 dq:Option Addr
 dm:Nat
 dc:Nat
abbrev NV.cv(x:NV):Value:= .slice x.cq x.cm x.cc
abbrev NV.dv(x:NV):Value:= .slice x.dq x.dm x.dc
abbrev aM(k i o:Int)(c:Value)(p:mW)(b:Nat)(d:Value)(s:Bool):Array Value:=#[.int .i64 k, .int .i64 i, .int .i64 o,c, .int .u64 (p.1:Nat), .int .u64 (p.2.1:Nat), .int .u64 (p.2.2:Nat), .int .u64 (b:Nat),d, .bool s]
abbrev NV.cells(x:NV):Array Value:=aM x.n.kind x.n.ins x.n.outs x.cv x.n.via x.n.bound x.dv x.n.start
def EV:El NV where
 k:=10
 enc x:=x.cells.toList
 len _:=rfl
 one x u hu:=by
  simp at hu;rcases hu with rfl|rfl|rfl|rfl|rfl|rfl|rfl|rfl|rfl|rfl<;>rfl
theorem Ya:(Tryz.prog.info? 149).map (fun i=>(i.zero,i.size,i.bytes))=some (some (.agg #[.int .i64 0, .int .i64 0, .int .i64 0, .slice none 0 0, .int .u64 0, .int .u64 0, .int .u64 0, .int .u64 0, .slice none 0 0, .bool false]),10,112):=by kernel_rfl
abbrev iO(a:Int)(nv ev:Value):Array Value:=#[.int .i64 a,nv,ev]
theorem Ux(w:World)(o1 o2 o3:Obj):(((w.alloc o1).alloc o2).alloc o3).heap[w.heap.size]? =some o1/\(((w.alloc o1).alloc o2).alloc o3).heap[w.heap.size+1]? =some o2/\(((w.alloc o1).alloc o2).alloc o3).heap[w.heap.size+2]? =some o3:=by
 have g3:=((Gr.refl ((w.alloc o1).alloc o2)).alloc o3).below;refine⟨?_, ?_, ?_⟩
 ·rw[g3.block w.heap.size (by simp;omega)];exact Uz w o1 o2
 ·rw[g3.block (w.heap.size+1) (by simp)];exact Uy w o1 o2
 ·have h:=ai ((w.alloc o1).alloc o2) o3
  rwa [show((w.alloc o1).alloc o2).heap.size=w.heap.size+2 by simp]at h
theorem CV{z0 z1 z2:Value}(h:w.heap[b]? =some (.cells #[z0,z1,z2] t (0,0)))(x0 x1 x2:Value):(((w.setCell ⟨b,0,none⟩ x0).setCell ⟨b,1,none⟩ x1).setCell ⟨b,2,none⟩ x2).heap[b]? =some (.cells #[x0,x1,x2] t (0,0))/\Kp (fun k=>k=b) w (((w.setCell ⟨b,0,none⟩ x0).setCell ⟨b,1,none⟩ x1).setCell ⟨b,2,none⟩ x2):=by
 have s0:(w.setCell ⟨b,0,none⟩ x0).heap[b]? =some (.cells #[x0,z1,z2] t (0,0))/\Kp (fun k=>k=b) w (w.setCell ⟨b,0,none⟩ x0):=bE h 0 x0;have s1:((w.setCell ⟨b,0,none⟩ x0).setCell ⟨b,1,none⟩ x1).heap[b]? =some (.cells #[x0,x1,z2] t (0,0))/\Kp (fun k=>k=b) (w.setCell ⟨b,0,none⟩ x0) ((w.setCell ⟨b,0,none⟩ x0).setCell ⟨b,1,none⟩ x1):=bE s0.1 1 x1;have s2:=bE s1.1 2 x2;exact⟨s2.1,(s0.2.trans s1.2 (fun _ _ h=>h)).trans s2.2 (fun _ _ h=>h)⟩
def Lz{α:Type}(E:El α)(M:Nat)(w:World)(v:Value)(l:List α):Prop:=(Ls E w v l/\∀k,v.ownBlock=some k->k<M)\/(l=[]/\∃p c,v= .slice p 0 c)
section
variable {α:Type} {E:El α} {M:Nat} {w w':World} {v:Value} {l:List α}
theorem Lz.form(h:Lz E M w v l):∃p c,v= .slice p l.length c:=by
 rcases h with⟨h,_⟩|⟨rfl,p,c,rfl⟩
 ·exact h.form
 ·exact⟨p,c,rfl⟩
end
section
variable {α:Type} {E:El α} {M:Nat} {w w':World} {v:Value} {l:List α}
theorem Lz.below(h:Lz E M w v l)(hb:Below w.heap.size w w'):Lz E M w' v l:=by
 rcases h with⟨h,hs⟩|h
 ·exact Or.inl ⟨h.below hb,hs⟩
 ·exact Or.inr h
end
section
variable {α:Type} {E:El α} {M:Nat} {w w':World} {v:Value} {l:List α}
end
section
variable {α:Type} {E:El α} {M:Nat} {w w':World} {v:Value} {l:List α}
theorem Lz.ls(h:Lz E M w v l){i:Nat}{x:α}(hi:l[i]? =some x):Ls E w v l:=by
 rcases h with⟨h,_⟩|⟨rfl,_⟩
 ·exact h
 ·simp at hi
end
section
variable {α:Type} {E:El α} {M:Nat} {w w':World} {v:Value} {l:List α}
theorem Lz.nil(E:El α)(M:Nat)(w:World):Lz E M w (.slice none 0 0) []:=Or.inr ⟨rfl,none,0,rfl⟩
end
theorem qV{ts:List dF}(h:Ls EC w v ts){o:dF}(hj:ts[j]? =some o):
    ∃b off c,v= .slice (some ⟨b,off,none⟩) ts.length c/\b<w.heap.size/\w.cell? ⟨b,off+j*5,none⟩=some (.int .i64 o.cO)/\w.cell? ⟨b,off+j*5+1,none⟩=some (.int .i64 o.o)/\w.cell? ⟨b,off+j*5+2,none⟩=some (.int .u64 (o.via.1:Nat))/\w.cell? ⟨b,off+j*5+3,none⟩=some (.int .u64 (o.via.2.1:Nat))/\w.cell? ⟨b,off+j*5+4,none⟩=some (.int .u64 (o.via.2.2:Nat)):=by
 obtain⟨b,off,c,hv,hb,hc⟩:=h.get hj;exact⟨b,off,c,hv,hb,hc 0 _ (by decide) rfl,hc 1 _ (by decide) rfl,hc 2 _ (by decide) rfl,hc 3 _ (by decide) rfl,hc 4 _ (by decide) rfl⟩
theorem qU{ts:List dI}(h:Ls ED w v ts){o:dI}(hj:ts[j]? =some o):
    ∃b off c,v= .slice (some ⟨b,off,none⟩) ts.length c/\b<w.heap.size/\w.cell? ⟨b,off+j*5,none⟩=some (.int .i64 o.src)/\w.cell? ⟨b,off+j*5+1,none⟩=some (.int .i64 o.o)/\w.cell? ⟨b,off+j*5+2,none⟩=some (.int .i64 o.dst)/\w.cell? ⟨b,off+j*5+3,none⟩=some (.int .i64 o.cO)/\w.cell? ⟨b,off+j*5+4,none⟩=some (.bool o.keyed):=by
 obtain⟨b,off,c,hv,hb,hc⟩:=h.get hj;exact⟨b,off,c,hv,hb,hc 0 _ (by decide) rfl,hc 1 _ (by decide) rfl,hc 2 _ (by decide) rfl,hc 3 _ (by decide) rfl,hc 4 _ (by decide) rfl⟩
structure NR(M:Nat)(w:World)(x:NV):Prop where
 code:Lz EO M w x.cv x.n.code
 bP:Lz EC M w x.dv x.n.bP
theorem jN{ts:List NV}(h:Ls EV w v ts){x:NV}(hj:ts[j]? =some x):
    ∃b off c,v= .slice (some ⟨b,off,none⟩) ts.length c/\b<w.heap.size/\w.cell? ⟨b,off+j*10,none⟩=some (.int .i64 x.n.kind)/\w.cell? ⟨b,off+j*10+1,none⟩=some (.int .i64 x.n.ins)/\w.cell? ⟨b,off+j*10+2,none⟩=some (.int .i64 x.n.outs)/\w.cell? ⟨b,off+j*10+3,none⟩=some x.cv/\w.cell? ⟨b,off+j*10+4,none⟩=some (.int .u64 (x.n.via.1:Nat))/\w.cell? ⟨b,off+j*10+5,none⟩=some (.int .u64 (x.n.via.2.1:Nat))/\w.cell? ⟨b,off+j*10+6,none⟩=some (.int .u64 (x.n.via.2.2:Nat))/\w.cell? ⟨b,off+j*10+7,none⟩=some (.int .u64 (x.n.bound:Nat))/\w.cell? ⟨b,off+j*10+8,none⟩=some x.dv/\w.cell? ⟨b,off+j*10+9,none⟩=some (.bool x.n.start):=by
 obtain⟨b,off,c,hv,hb,hc⟩:=h.get hj;exact⟨b,off,c,hv,hb,hc 0 _ (by decide) rfl,hc 1 _ (by decide) rfl,hc 2 _ (by decide) rfl,hc 3 _ (by decide) rfl,hc 4 _ (by decide) rfl,hc 5 _ (by decide) rfl,hc 6 _ (by decide) rfl,hc 7 _ (by decide) rfl,hc 8 _ (by decide) rfl,hc 9 _ (by decide) rfl⟩
structure GR(M:Nat)(w:World)(nv ev:Value)(xs:List NV)(es:List dI):Prop where
 nodes:Lz EV M w nv xs
 aL:Lz ED M w ev es
 each:∀x∈xs,NR M w x
 big:∀x∈xs,x.n.code.length<=140737488355328/\x.n.bP.length<=140737488355328
 wide:xs.length<=140737488355328/\es.length<=140737488355328
abbrev jG(a:Int)(xs:List NV)(es:List dI):bI:=⟨a,xs.map NV.n,es⟩
theorem NR.below{x:NV}(h:NR M w x)(hb:Below w.heap.size w w'):NR M w' x:=⟨h.code.below hb,h.bP.below hb⟩
theorem GR.below{nv ev:Value}{xs:List NV}{es:List dI}(h:GR M w nv ev xs es)(hb:Below w.heap.size w w'):GR M w' nv ev xs es:=
 ⟨h.nodes.below hb,h.aL.below hb,fun x hx=>(h.each x hx).below hb,h.big,h.wide⟩
end Df
section
open Go.RowKit Go.Sort Go.Maps
theorem laidOut:laidOutB Tryz.prog=true:=by kernel_rfl
abbrev Tm:={ p:Int×Int×Int // (Lit.int .u64 p.1).wf=true/\(Lit.int .u64 p.2.1).wf=true/\(Lit.int .u64 p.2.2).wf=true }
instance:Inhabited Tm:=⟨⟨(0,0,0),by decide⟩⟩
abbrev tv(t:Tm):Value:= .agg #[.int .u64 t.1.1, .int .u64 t.1.2.1, .int .u64 t.1.2.2]
def ET:El Tm where
 k:=3
 enc t:=[.int .u64 t.1.1, .int .u64 t.1.2.1, .int .u64 t.1.2.2]
 len _:=rfl
 one x u hu:=by
  simp at hu;rcases hu with rfl|rfl|rfl<;>rfl
theorem Ei{s t:Tm}(h1:s.1.1=t.1.1)(h2:s.1.2.1=t.1.2.1)(h3:s.1.2.2=t.1.2.2):s=t:=Subtype.ext (Prod.ext h1 (Prod.ext h2 h3))
theorem GJ(s t:Tm):oV s.1.1 s.1.2.1 s.1.2.2 t.1.1 t.1.2.1 t.1.2.2=decide (s=t):=by
 rw[Bool.eq_iff_iff,sZ,decide_eq_true_iff];exact⟨fun h=>Ei h.1 h.2.1 h.2.2,fun h=>by subst h;exact⟨rfl,rfl,rfl⟩⟩
abbrev eu(l:List Tm):List Value:=fl ET l
theorem QS:eu []=[]:=rfl
theorem jc(a b:List Tm):eu (a++b)=eu a++eu b:=aS ET a b
theorem tV(t:Tm):eu [t]=ET.enc t:=dK ET t
theorem gX(ts:List Tm):(eu ts).length=ts.length*3:=gu ET ts
theorem CQ(l:List Tm)(k:Nat):(eu l).take (k*3)=eu (l.take k):=Al ET l k
theorem ND(l:List Tm)(k:Nat):(eu l).drop (k*3)=eu (l.drop k):=Iz ET l k
theorem CR(ts:List Tm):∀u∈eu ts,u.oneCell'=true:=vV ET ts
abbrev mX(w:World)(v:Value)(ts:List Tm):Prop:=Ls ET w v ts
theorem Ls.at3{ts:List Tm}(h:Ls ET w v ts){t:Tm}(hj:ts[j]? =some t):
    ∃b off c,v= .slice (some ⟨b,off,none⟩) ts.length c/\b<w.heap.size/\w.cell? ⟨b,off+j*3,none⟩=some (.int .u64 t.1.1)/\w.cell? ⟨b,off+j*3+1,none⟩=some (.int .u64 t.1.2.1)/\w.cell? ⟨b,off+j*3+2,none⟩=some (.int .u64 t.1.2.2):=by
 obtain⟨b,off,c,hv,hb,hc⟩:=h.get hj;exact⟨b,off,c,hv,hb,hc 0 _ (by decide) rfl,hc 1 _ (by decide) rfl,hc 2 _ (by decide) rfl⟩
theorem dA{ts:List Tm}(h:w.ownsRow base e 3 v ts.length (eu ts)):mX w v ts:=aJ (E:=ET) h
theorem MN:(Tryz.prog.info? 45).map (fun i=>(i.zero,i.size,i.bytes))=some (some (.agg #[.int .u64 0, .int .u64 0, .int .u64 0]),3,24):=by kernel_rfl
def ax(s t:Tm):Bool:=Bn s.1.1 s.1.2.1 s.1.2.2 t.1.1 t.1.2.1 t.1.2.2
def wZ(s t:Tm):Int:=kG s.1.1 s.1.2.1 s.1.2.2 t.1.1 t.1.2.1 t.1.2.2
def dh(s t:Tm):Bool:=decide (wZ s t<0)
theorem gG(s t:Tm):ax s t=true↔s.1.1<=t.1.1/\s.1.2.1<=t.1.2.1/\s.1.2.2<=t.1.2.2:=by simp[ax,Bn]
theorem ik(x y:Int):c64 x y<0↔x<y:=by unfold c64;(repeat split)<;>omega
theorem fJ(x y:Int):c64 x y=0↔x=y:=by unfold c64;(repeat split)<;>omega
theorem pF(a b c x y z:Int):kG a b c x y z<0↔a<x\/(a=x/\(b<y\/(b=y/\c<z))):=by
 have h1:=ik a x;have h2:=fJ a x;have h3:=ik b y;have h4:=fJ b y;have h5:=ik c z;unfold kG Kc;generalize c64 a x=p at *;generalize c64 b y=q at *;generalize c64 c z=r at *
 (repeat split)<;>omega
theorem I4(a b c x y z:Int):kG a b c x y z=0↔a=x/\b=y/\c=z:=by
 have h2:=fJ a x;have h4:=fJ b y;have h5:=fJ c z;unfold kG Kc;generalize c64 a x=p at *;generalize c64 b y=q at *;generalize c64 c z=r at *
 (repeat split)<;>omega
theorem jq(s t:Tm):dh s t=true↔s.1.1<t.1.1\/(s.1.1=t.1.1/\(s.1.2.1<t.1.2.1\/(s.1.2.1=t.1.2.1/\s.1.2.2<t.1.2.2))):=by
 unfold dh wZ;rw[decide_eq_true_iff];exact pF _ _ _ _ _ _
theorem y8(s t:Tm):dh s t=false↔¬(s.1.1<t.1.1\/(s.1.1=t.1.1/\(s.1.2.1<t.1.2.1\/(s.1.2.1=t.1.2.1/\s.1.2.2<t.1.2.2)))):=by
 rw[<-jq,Bool.not_eq_true]
theorem nQ:qD ax dh where
 refl a:=by rw[gG];omega
 trans a b c h1 h2:=by rw[gG]at *;omega
 Wi a b h1 h2:=by
  rw[gG]at *;exact Ei (by omega) (by omega) (by omega)
 oN a:=by rw[y8];omega
 tr a b c h1 h2:=by rw[jq]at *;omega
 tot a b hne h:=by
  rw[y8]at h;rw[jq];have:¬(a.1.1=b.1.1/\a.1.2.1=b.1.2.1/\a.1.2.2=b.1.2.2):=fun e=>hne (Ei e.1 e.2.1 e.2.2);omega
theorem TD:(match Tryz.prog.underlying 45 with|some (.array _ _)|some (.struct _)=>true|_=>false)=true:=by kernel_rfl
theorem RZ:(45:TypeId)<Tryz.prog.types.size:=of_decide_eq_true (by kernel_rfl)
theorem MB:WideMaps.KeyLaw Tryz.prog 45:=deep_law_laid laidOut (m:=3) (by omega) RZ (by kernel_rfl) TD
theorem nK:Tryz.prog.cellsOf 45=3:=by kernel_rfl
theorem wH:Tryz.prog.cellsOf 43=1:=by kernel_rfl
theorem MI:Tryz.prog.keyType 45=true:=by kernel_rfl
theorem jE{q:IntKind}(hu:Tryz.prog.underlying t=some (.int q))(d:Nat)(n:Int)(h:(Lit.int q n).wf=true):Tryz.prog.keyLits (d+1) t [.int q n]=some [.int q n]:=by
 unfold Program.keyLits;simp only[hu];simp[h]
theorem iq{q:IntKind}(hu:Tryz.prog.underlying t=some (.int q))(d:Nat){x:Value}{ls:List Lit}(h:Tryz.prog.keyLits (d+1) t [x]=some ls):∃n,x= .int q n/\(Lit.int q n).wf=true/\ls=[.int q n]:=by
 unfold Program.keyLits at h;simp only[hu]at h;split at h<;>simp_all
theorem vE(d:Nat)(x y z:Value):Tryz.prog.keyLits (d+2) 45 [x,y,z]=(do let a <-Tryz.prog.keyLits (d+1) 43 [x];let b <-Tryz.prog.keyLits (d+1) 43 [y];let c <-Tryz.prog.keyLits (d+1) 43 [z];pure (a++(b++c))):=by
 conv=>lhs;unfold Program.keyLits
 simp only[Tryz.underlying45,nK];simp[wH];cases Tryz.prog.keyLits (d+1) 43 [x]<;>cases Tryz.prog.keyLits (d+1) 43 [y]<;>cases Tryz.prog.keyLits (d+1) 43 [z]<;>simp
theorem La:∃d,Tryz.prog.types.size+1=d+2:=⟨Tryz.prog.types.size-1,by have h:(45:Nat)<Tryz.prog.types.size:=RZ;omega⟩
theorem Ij(p:Tm):keyOf Tryz.prog 45 (tv p)=some (.string (keyBytes [.int .u64 p.1.1, .int .u64 p.1.2.1, .int .u64 p.1.2.2])):=by
 obtain⟨d,hd⟩:=La;have h1:=jE Tryz.underlying43 d p.1.1 p.2.1;have h2:=jE Tryz.underlying43 d p.1.2.1 p.2.2.1;have h3:=jE Tryz.underlying43 d p.1.2.2 p.2.2.2;have hf:(tv p).formed Tryz.prog 45=true:=by simp[Value.formed,Tryz.underlying45,nK]
 unfold keyOf;rw[Tryz.underlying45];simp only[MI,hf,Bool.and_self,if_true,hd];simp only[Value.cells,vE,h1,h2,h3];simp
theorem X9(v:Value)(l:Lit)(h:keyOf Tryz.prog 45 v=some l):∃p:Tm,v=tv p:=by
 obtain⟨d,hd⟩:=La;unfold keyOf at h;rw[Tryz.underlying45]at h;simp only[MI,Bool.true_and]at h;split at h
 ·next hf=>
  cases v<;>simp[Value.formed,Tryz.underlying45,nK]at hf
  next cs=>
  obtain⟨cs⟩:=cs
  match cs,hf with
  | [x,y,z],_=>
   simp only[Value.cells,hd,vE]at h;cases h1:Tryz.prog.keyLits (d+1) 43 [x]with
   | none => simp[h1]at h
   | some a=>
    cases h2:Tryz.prog.keyLits (d+1) 43 [y]with
    | none => simp[h1,h2]at h
    | some b=>
     cases h3:Tryz.prog.keyLits (d+1) 43 [z]with
     | none => simp[h1,h2,h3]at h
     | some c=>
      obtain⟨n1,rfl,w1,_⟩:=iq Tryz.underlying43 d h1;obtain⟨n2,rfl,w2,_⟩:=iq Tryz.underlying43 d h2;obtain⟨n3,rfl,w3,_⟩:=iq Tryz.underlying43 d h3;exact⟨⟨(n1,n2,n3),w1,w2,w3⟩,rfl⟩
 ·cases h
def ZT:KK Tryz.prog 45 Tm where
 enc:=tv
 lit p:= .string (keyBytes [.int .u64 p.1.1, .int .u64 p.1.2.1, .int .u64 p.1.2.2])
 law:=Keyed.of_law MB
 key:=Ij
 inv v l h:=by
  obtain⟨p,rfl⟩:=X9 v l h;rw[Ij p]at h;exact⟨p,rfl,(Option.some.inj h).symm⟩
 inj p q h:=by
  have e:=MB.inj (Ij p) ((Ij q).trans (congrArg some h.symm));obtain⟨⟨a,b,c⟩,_⟩:=p;obtain⟨⟨a',b',c'⟩,_⟩:=q;simp at e;obtain⟨rfl,rfl,rfl⟩:=e;rfl
abbrev fv(f:Nat):Value:= .func (.func f) #[] #[]
structure dS(f:Nat)(r:Tm->Tm->Bool):Prop where
 enter:∀args w,(callFunc f args).run Tryz.prog w= .ok (.enter f args) w
 calls:∀(a b:Tm) (W:World),Calls Tryz.prog f #[tv a,tv b] W fun e w'=>e= .returned (.bool (r a b))/\Gr W w'
theorem eU:dS 18 ax:=
 ⟨enters_of Tryz.func18 (by kernel_rfl) rfl,fun a b W=>kz _ _ _ _ _ _ W⟩
theorem jo:dS 106 dh:=by
 refine⟨enters_of Tryz.func106 (by kernel_rfl) rfl,fun a b W=> ?_⟩;have h:=fun W=>eX a.1.1 a.1.2.1 a.1.2.2 b.1.1 b.1.2.1 b.1.2.2 W;unfold dh;rw[show kG a.1.1 a.1.2.1 a.1.2.2 b.1.1 b.1.2.1 b.1.2.2=wZ a b from rfl]at h;generalize wZ a b=r at h⊢;go_enter Tryz.func106,Tryz.ntmps106;go_wp2_with fail;refine(h _).mono ?_;rintro e w' ⟨rfl,hg⟩;go_wp2;go_ret;exact⟨rfl,(((Gr.refl _).alloc _).alloc _).trans hg⟩
end
end Go.Proofs.YteekbpokkjjipaaGreat
