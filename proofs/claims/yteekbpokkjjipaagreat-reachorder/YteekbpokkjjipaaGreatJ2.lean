import Derived.Test.YteekbpokkjjipaaGreatJ1
import Derived.Laws.CopyOwn
import Derived.Deep.AppendLies
import Derived.Laws.AppendOwnNone
import Derived.Test.YteekbpokkjjipaaGreatRows
variable{w w':Go.World}{v z u:Go.Value}{n b base j size off c k s n' bt E M:Nat}{e t sT:Go.TypeId}{S T:Nat->Prop}{xs:List Go.Value}{cs:Array Go.Value}
namespace Go.Proofs.YteekbpokkjjipaaGreat
section
open Go.RowKit Go.Sort
structure El(α:Type) where
 k:Nat
 enc:α->List Value
 len:∀x,(enc x).length=k
 one:∀x,∀u∈enc x,u.oneCell'=true
section
variable {α:Type} (E:El α)
def fl(l:List α):List Value:=l.flatMap E.enc
theorem Xm:fl E []=[]:=rfl
theorem aV(t:α)(ts:List α):fl E (t::ts)=E.enc t++fl E ts:=rfl
theorem aT(a b:List α):fl E (a++b)=fl E a++fl E b:=by simp[fl]
theorem dx(t:α):fl E [t]=E.enc t:=by simp[fl]
theorem gD(ts:List α):(fl E ts).length=ts.length*E.k:=by
 induction ts with
 | nil => simp[fl]
 | cons t ts ih => rw[aV,dK,ih,E.len,lC,Nat.succ_mul,Nat.add_comm]
theorem GY(ts:List α)(j i:Nat)(t:α)(h:ts[j]? =some t)(hi:i<E.k):(fl E ts)[j*E.k+i]? =(E.enc t)[i]? :=by
 induction ts generalizing j with
 | nil => simp at h
 | cons s ts ih=>
  rw[aV];cases j with
  | zero=>
   simp at h;subst h;rw[Nat.zero_mul,nZ,gL (by rw[E.len];exact hi)]
  | succ j=>
   have e:(j+1)*E.k+i=E.k+(j*E.k+i):=(by rw[Nat.succ_mul];omega);rw[e,U5 (by rw[E.len];omega),E.len,Nat.add_sub_cancel_left];exact ih j (by simpa using h)
theorem xB(ts:List α):∀u∈fl E ts,u.oneCell'=true:=by
 intro u hu;simp only[fl,List.mem_flatMap]at hu;obtain⟨t,_,hu⟩:=hu;exact E.one t u hu
theorem Bz(l:List α)(n:Nat):(fl E l).take (n*E.k)=fl E (l.take n):=by
 induction l generalizing n with
 | nil => simp[fl]
 | cons x l ih=>
  cases n with
  | zero => simp[fl]
  | succ n=>
   rw[aV,List.take_succ_cons,aV,Nat.succ_mul,List.take_append,tL (by rw[E.len];omega),E.len,Nat.add_sub_cancel,ih n]
theorem Jt(l:List α)(n:Nat):(fl E l).drop (n*E.k)=fl E (l.drop n):=by
 induction l generalizing n with
 | nil => simp[fl]
 | cons x l ih=>
  cases n with
  | zero => simp[fl]
  | succ n=>
   rw[aV,List.drop_succ_cons,Nat.succ_mul,List.drop_append,List.drop_of_length_le (by rw[E.len];omega),E.len,Nat.add_sub_cancel,ih n,List.nil_append]
def abK(w:World)(b off:Nat)(ts:List α):Prop:=∀j u,(fl E ts)[j]? =some u->w.cell? ⟨b,off+j,none⟩=some u
def Ls(w:World)(v:Value)(ts:List α):Prop:=
 (ts=[]/\v= .slice none 0 0)\/∃b off c,v= .slice (some ⟨b,off,none⟩) ts.length c/\b<w.heap.size/\abK E w b off ts
variable {E}
theorem Ls.kept{ts:List α}(h:Ls E w v ts)(hs:w.heap.size<=w'.heap.size)(hb:∀g,v.ownBlock=some g->w'.heap[g]? =w.heap[g]?):Ls E w' v ts:=by
 rcases h with h|⟨b,off,c,hv,hbs,ht⟩
 ·exact Or.inl h
 ·refine Or.inr ⟨b,off,c,hv,nL hbs hs,fun j u hj=> ?_⟩;have:=hb b (by rw[hv];rfl);rw[yJ (a:=⟨b,off+j,none⟩) this];exact ht j u hj
theorem Ls.blk{ts:List α}(h:Ls E w v ts):∀g,v.ownBlock=some g->g<w.heap.size:=by
 intro g hg;rcases h with⟨_,rfl⟩|⟨b,off,c,rfl,hbs,_⟩
 ·simp[Value.ownBlock]at hg
 ·simp[Value.ownBlock]at hg;omega
theorem Ls.below{ts:List α}(h:Ls E w v ts)(hb:Below w.heap.size w w'):Ls E w' v ts:=
 h.kept hb.size fun g hg=>hb.block g (h.blk g hg)
theorem Ls.nil(w:World):Ls E w (.slice none 0 0) []:=Or.inl ⟨rfl,rfl⟩
theorem Ls.form{ts:List α}(h:Ls E w v ts):∃p c,v= .slice p ts.length c:=by
 rcases h with⟨rfl,rfl⟩|⟨b,off,c,hv,_,_⟩
 ·exact⟨_,_,rfl⟩
 ·exact⟨_,_,hv⟩
theorem Ls.get{ts:List α}(h:Ls E w v ts){t:α}(hj:ts[j]? =some t):
    ∃b off c,v= .slice (some ⟨b,off,none⟩) ts.length c/\b<w.heap.size/\∀i u,i<E.k->(E.enc t)[i]? =some u->w.cell? ⟨b,off+j*E.k+i,none⟩=some u:=by
 rcases h with⟨rfl,_⟩|⟨b,off,c,hv,hb,ht⟩
 ·simp at hj
 ·exact⟨b,off,c,hv,hb,fun i u hi hu=>by rw[Nat.add_assoc];exact ht _ _ ((GY E ts j i t hj hi).trans hu)⟩
theorem KR(b off i:Nat):(⟨b,off,none⟩:Addr).add i=⟨b,off+i,none⟩:=by unfold Addr.add;split<;>simp_all
theorem aJ{ts:List α}(h:w.ownsRow base e E.k v ts.length (fl E ts)):Ls E w v ts:=by
 rcases h.2 with⟨hv,h0⟩|⟨g,cap,cur,hv,hg,hh,_,_,_,htake⟩
 ·exact Or.inl ⟨List.eq_nil_of_length_eq_zero h0,hv⟩
 ·refine Or.inr ⟨g,0,cap,hv,(aG.1 hh).1,fun j u hj=> ?_⟩;have:=h.cells (g:=g) (by rw[hv];rfl) j u hj;rw[KR]at this;exact this
theorem Ls.cut{l:List α}(h:Ls E w (.slice (some ⟨b,off,none⟩) n c) l)(hk:k<=l.length)(c2:Nat):Ls E w (.slice (some ⟨b,off,none⟩) k c2) (l.take k):=by
 rcases h with⟨_,h⟩|⟨b',off',c',hv,hb,ht⟩
 ·cases h
 ·cases hv;refine Or.inr ⟨b,off,c2,by rw[lK,Nat.min_eq_left hk],hb,fun j u hj=>ht j u ?_⟩;rw[<-Bz,List.getElem?_take]at hj;split at hj
  ·exact hj
  ·cases hj
theorem Ls.tail{l:List α}(h:Ls E w (.slice (some ⟨b,off,none⟩) n c) l)(c2:Nat):Ls E w (.slice (some ⟨b,off+k*E.k,none⟩) (l.length-k) c2) (l.drop k):=by
 rcases h with⟨_,h⟩|⟨b',off',c',hv,hb,ht⟩
 ·cases h
 ·cases hv;refine Or.inr ⟨b,off+k*E.k,c2,by rw[List.length_drop],hb,fun j u hj=> ?_⟩;rw[<-Jt,List.getElem?_drop]at hj;rw[Nat.add_assoc];exact ht _ u hj
theorem Ls.void{l:List α}(h:Ls E w (.slice (some ⟨b,off,none⟩) n c) l)(hk:l.length<=k)(c2:Nat):Ls E w (.slice (some ⟨b,off,none⟩) (l.length-k) c2) (l.drop k):=by
 rcases h with⟨_,h⟩|⟨b',off',c',hv,hb,ht⟩
 ·cases h
 ·cases hv;refine Or.inr ⟨b,off,c2,by rw[List.length_drop],hb,fun j u hj=> ?_⟩;rw[List.drop_of_length_le hk]at hj;simp[fl]at hj
end
structure Kp(S:Nat->Prop)(w w':World):Prop where
 os:w'.os=w.os
 tape:w'.tape=w.tape
 output:w'.output=w.output
 size:w.heap.size<=w'.heap.size
 block:∀k,k<w.heap.size->¬S k->w'.heap[k]? =w.heap[k]?
theorem Kp.refl(S:Nat->Prop)(w:World):Kp S w w:=⟨rfl,rfl,rfl,nR _,fun _ _ _=>rfl⟩
theorem Kp.trans{a b c:World}(h:Kp S a b)(k:Kp T b c)(hT:∀j,j<a.heap.size->T j->S j):Kp S a c:=
 ⟨k.os.trans h.os,k.tape.trans h.tape,k.output.trans h.output,nT h.size k.size,fun i hi hS=>(k.block i (nL hi h.size) (fun ht=>hS (hT i hi ht))).trans (h.block i hi hS)⟩
theorem Kp.of_below(h:Below w.heap.size w w'):Kp S w w':=⟨h.os,h.tape,h.output,h.size,fun k hk _=>h.block k hk⟩
theorem Kp.aZ(h:Gr w w'):Kp S w w':=Kp.of_below h.below
theorem Kp.mono(h:Kp S w w')(hT:∀k,S k->T k):Kp T w w':=⟨h.os,h.tape,h.output,h.size,fun k hk ht=>h.block k hk (fun hs=>ht (hT k hs))⟩
theorem Kp.below{B:Nat}(h:Kp S w w')(hB:B<=w.heap.size)(hS:∀k,S k->B<=k):Below B w w':=
 ⟨h.os,h.tape,h.output,h.size,fun k hk=>h.block k (nL hk hB) (fun hs=>absurd (hS k hs) (Nat.not_le.2 hk))⟩
theorem Kp.grownBy{r:Option Nat}(h:w.grownBy w' r)(hS:∀k,r=some k->S k):Kp S w w':=
 ⟨h.os,h.tape,h.output,h.size,fun k hk hs=>h.block k hk (fun e=>hs (hS k e.symm))⟩
theorem Kp.ls{α:Type}{E:El α}{l:List α}(h:Kp S w w')(hv:Ls E w v l)(hS:∀k,v.ownBlock=some k->¬S k):Ls E w' v l:=
 hv.kept h.size fun g hg=>h.block g (hv.blk g hg) (hS g hg)
theorem Kp.cell{S:Nat->Prop}{w w':World}(h:Kp S w w'){b o:Nat}(hb:b<w.heap.size)(hS:¬S b):w'.cell? ⟨b,o,none⟩=w.cell? ⟨b,o,none⟩:=
 yJ (a:=⟨b,o,none⟩) (h.block b hb hS)
theorem ax(h:Kp S w w')(ho:w.ownsRow base e size v n xs)(hS:∀k,v.ownBlock=some k->¬S k):w'.ownsRow base e size v n xs:=by
 obtain⟨h1,h2⟩:=ho;refine⟨h1, ?_⟩;rcases h2 with h2|⟨g,cap,cur,hv,hg,hh,r⟩
 ·exact Or.inl h2
 ·exact Or.inr ⟨g,cap,cur,hv,hg,by rw[h.block g (aG.1 hh).1 (hS g (by rw[hv];rfl))];exact hh,r⟩
theorem ag(h:w.ownsRow base e size v n xs)(hb:Below w.heap.size w w'):w'.ownsRow base e size v n xs:=
 ax (S:=fun _=>False) (Kp.of_below hb) h fun _ _ hf=>hf
theorem aM{b':Nat}(h:w.ownsRow b e size v n xs)(hb:b'<=b):w.ownsRow b' e size v n xs:=by
 obtain⟨h1,h2⟩:=h;refine⟨h1, ?_⟩;rcases h2 with h2|⟨g,cap,cur,hv,hg,r⟩
 ·exact Or.inl h2
 ·exact Or.inr ⟨g,cap,cur,hv,nT hb hg,r⟩
theorem aS{xs':List Value}(h:w.ownsRow base e s v n xs)(hn:n=n')(hx:xs=xs'):w.ownsRow base e s v n' xs':=by
 subst hn;subst hx;exact h
theorem M8{p:Option Addr}{cap:Nat}(h:w.ownsRow base e size (.slice p n' cap) n xs):n<=cap/\cap<=maxLen:=by
 obtain⟨_,⟨h0,h1⟩|⟨g',cap',cur,hv,_,_,hn,hm,_⟩⟩:=h
 ·cases h0;subst h1;exact⟨nR _,zL _⟩
 ·cases hv;exact⟨hn,hm⟩
theorem info_parts{P:Program}(h:(P.info? t).map (fun i=>(i.zero,i.size,i.bytes))=some (some z,s,b)):∃i,P.info? t=some i/\i.zero=some z/\i.size=s/\i.bytes=b:=by
 cases hq:P.info? t with
 | none => simp[hq]at h
 | some i=>
  simp[hq]at h;exact⟨i,rfl,h.1,h.2.1,h.2.2⟩
theorem ai(w:World)(o:Obj):(w.alloc o).heap[w.heap.size]? =some o:=by
 rw[show(w.alloc o).heap=w.heap.push o from rfl];simp
section
variable {P:Program} {α:Type} (E:El α) {w:World} {ops:Array Oper} {rest:List Oper} {o:Oper} {a:Act} {Q:Exit->Act->World->Prop}
theorem fU(hu:P.underlying sT=some (.slice e))(hI:(P.info? e).map (fun i=>(i.zero,i.size,i.bytes))=some (some z,E.k,bt))(hz:z.cells.size=E.k)(hk:0<E.k)
    (hgd:o.guard=none) (s x:Operand) (ho:o.op= .call { callee:= .builtin .append,args:=#[s,x],argTypes:=#[sT,sT] })
    (base:Nat) (v:Value) (n:Nat) (xs:List Value) (hs:a.eval s=v) (hown:w.ownsRow base e E.k v n xs)
    (t:α) (hx:a.eval x= .slice (some ⟨w.heap.size,0,none⟩) 1 1) (hbig:(n+1)*bt<=140737488355328) (hmx:n+1<=maxLen) (hbase:base<=w.heap.size)
    (cs:Array Value) (hcs:cs.toList=E.enc t) (te:TypeId)
    (h:∀g cap w',w'.ownsRow base e E.k (.slice (some ⟨g,0,none⟩) (n+1) cap) (n+1) (xs++E.enc t)->w.grownBy w' v.ownBlock->(v.ownBlock=some g\/w.heap.size<=g)->wpList P ops Q rest (a.put o.dst (.slice (some ⟨g,0,none⟩) (n+1) cap)) w') :
    wpList P ops Q (o::rest) a (w.alloc (.cells cs te)):=by
 obtain⟨i0,hi,hz0,hz1,hz2⟩:=info_parts hI;refine wpList_append_lies _ hgd s x _ ho base e i0 _ E.k bt hu hi hz0 hz1 hz2 hz hk v n xs hs (hown.alloc _) ⟨w.heap.size,0,none⟩ 1 1 (E.enc t) hx (by rw[E.len,Nat.one_mul]) (by have:=World.news_of_block (ai w (.cells cs te));rw[hcs]at this;exact this) (E.one t) (by decide) hmx hbig (by simp;omega) _ rfl ?_;intro g cap w' h1 h2 h3 _;refine h g cap w' h1 ⟨h2.os,h2.tape,h2.output,nT (by simp) h2.size,fun k hk hne=>(h2.block k (by simp;omega) hne).trans ((World.grownBy_alloc w _ none).block k hk (by simp))⟩ ?_;rcases h3 with h3|h3
 ·exact Or.inl h3
 ·right;rw[h3];simp
theorem pJ(hu:P.underlying sT=some (.slice e))(hI:(P.info? e).map (fun i=>(i.zero,i.size,i.bytes))=some (some z,E.k,bt))(hz:z.cells.size=E.k)(hk:0<E.k)
    (hgd:o.guard=none) (s x:Operand) (ho:o.op= .call { callee:= .builtin .append,args:=#[s,x],argTypes:=#[sT,sT] })
    (base:Nat) (v:Value) (n:Nat) (xs:List Value) (hs:a.eval s=v) (hown:w.ownsRow base e E.k v n xs)
    (v1:Value) (ts:List α) (hx:a.eval x=v1) (hv:Ls E w v1 ts) (hbig:(n+ts.length)*bt<=140737488355328) (hmx:n+ts.length<=maxLen) (hbase:base<=w.heap.size)
    (h:∀v' w',w'.ownsRow base e E.k v' (n+ts.length) (xs++fl E ts)->w.grownBy w' v.ownBlock->wpList P ops Q rest (a.put o.dst v') w'):wpList P ops Q (o::rest) a w:=by
 obtain⟨i0,hi,hz0,hz1,hz2⟩:=info_parts hI;rcases hv with⟨rfl,rfl⟩|⟨b,off,c,rfl,hb,ht⟩
 ·refine wpList_append_own_none hgd s x _ ho base e i0 E.k hu hi v n xs hs hown hx ?_;exact h v w (by rw[Xm,EN];exact hown) ⟨rfl,rfl,rfl,nR _,fun _ _ _=>rfl⟩
 ·refine wpList_append_own _ hgd s x _ ho base e i0 _ E.k bt hu hi hz0 hz1 hz2 hz hk v n xs hs hown ⟨b,off,none⟩ ts.length c (fl E ts) hx (gD E ts) (fun j u hj=>by rw[KR];exact ht j u hj) (xB E ts) hmx hbig hbase ?_;intro v' w' h1 h2 _;exact h v' w' h1 h2
end
theorem yt{P:Program}(w:World)(dT sT ty elem:TypeId)(s g o dLen dCap:Nat)(a:Addr)(sLen sCap:Nat)(cur:Array Value)(t:TypeId)(cs:List Value)
    (hu:P.underlying dT=some (.slice elem)) (hs:(P.info? elem).map (·.size)=some s)
    (hg:w.heap[g]? =some (.cells cur t (0,0))) (hn:cs.length=Nat.min sLen dLen*s)
    (hsrc:∀j v,cs[j]? =some v->w.cell? (a.add j)=some v) (hfit:o+cs.length<=cur.size) (h1:∀v∈cs,v.oneCell'=true) :
    (Builtin.copy_ #[dT,sT] ty #[.slice (some ⟨g,o,none⟩) dLen dCap, .slice (some a) sLen sCap]).run P w =
     .ok (goInt (Nat.min sLen dLen)) (w.setRow g (cur.toList.take o++cs++cur.toList.drop (o+cs.length)).toArray):=by
 have hl:=run_loadCells_list (P:=P) w a cs hsrc;have hst:=run_storeCells_at P g o t cs 0 cur w hg (by simpa using hfit) h1;cases hq:P.info? elem with
 | none => simp[hq]at hs
 | some i=>
  have hi:i.size=s:=by simpa[hq]using hs
  simp[Builtin.copy_,run_underlying hu,Builtin.lenOf,Builtin.firstCells,sizeOf,typeInfo,hq,hi,<-hn,hl,hst]
end
namespace Df
open Go.RowKit Go.Sort
theorem hid{p:Prop}(h:p):Hid p:=h
abbrev nJ:=Nat×Nat×Nat
structure YJ where
 kind:Int
 arg:Nat
 deriving DecidableEq
structure dJ where
 df:Int
 o:Int
 via:nJ
 deriving DecidableEq
structure dw where
 kind:Int
 ins:Int
 outs:Int
 code:List YJ
 via:nJ
 bound:Nat
 bT:List dJ
 start:Bool
 deriving DecidableEq
structure dN where
 src:Int
 o:Int
 dst:Int
 df:Int
 keyed:Bool
 deriving DecidableEq
structure bD where
 arity:Int
 nodes:List dw
 aN:List dN
 deriving DecidableEq
def Lg(n:Int):Prop:= -9223372036854775808<=n/\n<=9223372036854775807
def Et(n:Nat):Prop:=n<=18446744073709551615
def gP(p:nJ):Prop:=Et p.1/\Et p.2.1/\Et p.2.2
def X5(o:YJ):Prop:=Lg o.kind/\Et o.arg
def Yq(c:dJ):Prop:=Lg c.df/\Lg c.o/\gP c.via
def aaG(n:dw):Prop:=Lg n.kind/\Lg n.ins/\Lg n.outs/\(∀o∈n.code,X5 o)/\gP n.via/\Et n.bound/\∀c∈n.bT,Yq c
def TU(x:dN):Prop:=Lg x.src/\Lg x.o/\Lg x.dst/\Lg x.df
def TS(g:bD):Prop:=Lg g.arity/\(∀n∈g.nodes,aaG n)/\∀x∈g.aN,TU x
theorem ae{o:Obj}(h:w.heap[b]? =some o):b<w.heap.size:=(aG.1 h).1
theorem bE(h:w.heap[b]? =some (.cells cs t (0,0)))(i:Nat)(x:Value):(w.setCell ⟨b,i,none⟩ x).heap[b]? =some (.cells (cs.setIfInBounds i x) t (0,0))/\Kp (fun k=>k=b) w (w.setCell ⟨b,i,none⟩ x):=by
 have e:=setCell_eq_setRow w b i _ _ _ x h;rw[e];exact⟨by rw[setRow_heap w b _ _ _ _ h],rfl,rfl,rfl,by simp[World.setRow],fun k _ hne=>setRow_other w b k _ (by omega)⟩
theorem aa(h:w.heap[b]? =some (.cells cs t (0,0))):(∀i,w.cell? ⟨b,i,none⟩=cs[i]?)/\∀i,w.frozen? ⟨b,i,none⟩=false:=by
 refine⟨fun i=>by simp[World.cell?,h],fun i=>by simp[World.frozen?,h]⟩
theorem VS(w:World)(o1 o2:Obj):(((w.alloc o1).alloc o2).drew).heap[w.heap.size]? =some o1:=by
 have h:=ai w o1;rw[<-h];exact((Gr.refl (w.alloc o1)).alloc o2).drew.below.block w.heap.size (by simp)
theorem VR(w:World)(o1 o2:Obj):(((w.alloc o1).alloc o2).drew).heap[w.heap.size+1]? =some o2:=by
 have h:=ai (w.alloc o1) o2
 rwa [show(w.alloc o1).heap.size=w.heap.size+1 by simp]at h
theorem aL{T:TypeId}(h:w.ownsRow base T E u n xs):∀k,u.ownBlock=some k->base<=k/\k<w.heap.size:=fun k hk=>h.lt k hk
theorem aB{T:TypeId}(h:w.ownsRow base T E u n xs):∃q m c,u= .slice q m c:=by
 obtain⟨_,⟨h0,_⟩|⟨g',cap',cur,hv,_⟩⟩:=h
 ·exact⟨_,_,_,h0⟩
 ·exact⟨_,_,_,hv⟩
def EO:El YJ where
 k:=2
 enc o:=[.int .i64 o.kind, .int .u64 (o.arg:Nat)]
 len _:=rfl
 one o u hu:=by
  simp at hu;rcases hu with rfl|rfl<;>rfl
theorem ZE:(Tryz.prog.info? 202).map (fun i=>(i.zero,i.size,i.bytes))=some (some (.agg #[.int .i64 0, .int .u64 0]),2,16):=by kernel_rfl
def EC:El dJ where
 k:=5
 enc o:=[.int .i64 o.df, .int .i64 o.o, .int .u64 (o.via.1:Nat), .int .u64 (o.via.2.1:Nat), .int .u64 (o.via.2.2:Nat)]
 len _:=rfl
 one o u hu:=by
  simp at hu;rcases hu with rfl|rfl|rfl|rfl|rfl<;>rfl
theorem wX:(Tryz.prog.info? 205).map (fun i=>(i.zero,i.size,i.bytes))=some (some (.agg #[.int .i64 0, .int .i64 0, .int .u64 0, .int .u64 0, .int .u64 0]),5,40):=by kernel_rfl
def ED:El dN where
 k:=5
 enc o:=[.int .i64 o.src, .int .i64 o.o, .int .i64 o.dst, .int .i64 o.df, .bool o.keyed]
 len _:=rfl
 one o u hu:=by
  simp at hu;rcases hu with rfl|rfl|rfl|rfl|rfl<;>rfl
theorem ZF:(Tryz.prog.info? 151).map (fun i=>(i.zero,i.size,i.bytes))=some (some (.agg #[.int .i64 0, .int .i64 0, .int .i64 0, .int .i64 0, .bool false]),5,40):=by kernel_rfl
structure NV where
 n:dw
 cq:Option Addr
 cm:Nat
 cc:Nat
 dq:Option Addr
 dm:Nat
 dc:Nat
abbrev NV.cv(x:NV):Value:= .slice x.cq x.cm x.cc
abbrev NV.dv(x:NV):Value:= .slice x.dq x.dm x.dc
abbrev aP(k i o:Int)(c:Value)(p:nJ)(b:Nat)(d:Value)(s:Bool):Array Value:=#[.int .i64 k, .int .i64 i, .int .i64 o,c, .int .u64 (p.1:Nat), .int .u64 (p.2.1:Nat), .int .u64 (p.2.2:Nat), .int .u64 (b:Nat),d, .bool s]
abbrev NV.cells(x:NV):Array Value:=aP x.n.kind x.n.ins x.n.outs x.cv x.n.via x.n.bound x.dv x.n.start
def EV:El NV where
 k:=10
 enc x:=x.cells.toList
 len _:=rfl
 one x u hu:=by
  simp at hu;rcases hu with rfl|rfl|rfl|rfl|rfl|rfl|rfl|rfl|rfl|rfl<;>rfl
theorem ZC:(Tryz.prog.info? 149).map (fun i=>(i.zero,i.size,i.bytes))=some (some (.agg #[.int .i64 0, .int .i64 0, .int .i64 0, .slice none 0 0, .int .u64 0, .int .u64 0, .int .u64 0, .int .u64 0, .slice none 0 0, .bool false]),10,112):=by kernel_rfl
abbrev iQ(a:Int)(nv ev:Value):Array Value:=#[.int .i64 a,nv,ev]
theorem VQ(w:World)(o1 o2 o3:Obj):(((w.alloc o1).alloc o2).alloc o3).heap[w.heap.size]? =some o1/\(((w.alloc o1).alloc o2).alloc o3).heap[w.heap.size+1]? =some o2/\(((w.alloc o1).alloc o2).alloc o3).heap[w.heap.size+2]? =some o3:=by
 have g3:=((Gr.refl ((w.alloc o1).alloc o2)).alloc o3).below;refine⟨?_, ?_, ?_⟩
 ·rw[g3.block w.heap.size (by simp;omega)];exact VS w o1 o2
 ·rw[g3.block (w.heap.size+1) (by simp)];exact VR w o1 o2
 ·have h:=ai ((w.alloc o1).alloc o2) o3
  rwa [show((w.alloc o1).alloc o2).heap.size=w.heap.size+2 by simp]at h
theorem D9{z0 z1 z2:Value}(h:w.heap[b]? =some (.cells #[z0,z1,z2] t (0,0)))(x0 x1 x2:Value):(((w.setCell ⟨b,0,none⟩ x0).setCell ⟨b,1,none⟩ x1).setCell ⟨b,2,none⟩ x2).heap[b]? =some (.cells #[x0,x1,x2] t (0,0))/\Kp (fun k=>k=b) w (((w.setCell ⟨b,0,none⟩ x0).setCell ⟨b,1,none⟩ x1).setCell ⟨b,2,none⟩ x2):=by
 have s0:(w.setCell ⟨b,0,none⟩ x0).heap[b]? =some (.cells #[x0,z1,z2] t (0,0))/\Kp (fun k=>k=b) w (w.setCell ⟨b,0,none⟩ x0):=bE h 0 x0;have s1:((w.setCell ⟨b,0,none⟩ x0).setCell ⟨b,1,none⟩ x1).heap[b]? =some (.cells #[x0,x1,z2] t (0,0))/\Kp (fun k=>k=b) (w.setCell ⟨b,0,none⟩ x0) ((w.setCell ⟨b,0,none⟩ x0).setCell ⟨b,1,none⟩ x1):=bE s0.1 1 x1;have s2:=bE s1.1 2 x2;exact⟨s2.1,(s0.2.trans s1.2 (fun _ _ h=>h)).trans s2.2 (fun _ _ h=>h)⟩
def Lz{α:Type}(E:El α)(M:Nat)(w:World)(v:Value)(l:List α):Prop:=(Ls E w v l/\∀k,v.ownBlock=some k->k<M)\/(l=[]/\∃p c,v= .slice p 0 c)
section
variable {α:Type} {E:El α} {M:Nat} {w w':World} {v:Value} {l:List α}
theorem Lz.form(h:Lz E M w v l):∃p c,v= .slice p l.length c:=by
 rcases h with⟨h,_⟩|⟨rfl,p,c,rfl⟩
 ·exact h.form
 ·exact⟨p,c,rfl⟩
end
section
variable {α:Type} {E:El α} {M:Nat} {w w':World} {v:Value} {l:List α}
theorem Lz.below(h:Lz E M w v l)(hb:Below w.heap.size w w'):Lz E M w' v l:=by
 rcases h with⟨h,hs⟩|h
 ·exact Or.inl ⟨h.below hb,hs⟩
 ·exact Or.inr h
end
section
variable {α:Type} {E:El α} {M:Nat} {w w':World} {v:Value} {l:List α}
end
section
variable {α:Type} {E:El α} {M:Nat} {w w':World} {v:Value} {l:List α}
theorem Lz.ls(h:Lz E M w v l){i:Nat}{x:α}(hi:l[i]? =some x):Ls E w v l:=by
 rcases h with⟨h,_⟩|⟨rfl,_⟩
 ·exact h
 ·simp at hi
end
section
variable {α:Type} {E:El α} {M:Nat} {w w':World} {v:Value} {l:List α}
theorem Lz.nil(E:El α)(M:Nat)(w:World):Lz E M w (.slice none 0 0) []:=Or.inr ⟨rfl,none,0,rfl⟩
end
theorem sF{ts:List dJ}(h:Ls EC w v ts){o:dJ}(hj:ts[j]? =some o):
    ∃b off c,v= .slice (some ⟨b,off,none⟩) ts.length c/\b<w.heap.size/\w.cell? ⟨b,off+j*5,none⟩=some (.int .i64 o.df)/\w.cell? ⟨b,off+j*5+1,none⟩=some (.int .i64 o.o)/\w.cell? ⟨b,off+j*5+2,none⟩=some (.int .u64 (o.via.1:Nat))/\w.cell? ⟨b,off+j*5+3,none⟩=some (.int .u64 (o.via.2.1:Nat))/\w.cell? ⟨b,off+j*5+4,none⟩=some (.int .u64 (o.via.2.2:Nat)):=by
 obtain⟨b,off,c,hv,hb,hc⟩:=h.get hj;exact⟨b,off,c,hv,hb,hc 0 _ (by decide) rfl,hc 1 _ (by decide) rfl,hc 2 _ (by decide) rfl,hc 3 _ (by decide) rfl,hc 4 _ (by decide) rfl⟩
theorem sD{ts:List dN}(h:Ls ED w v ts){o:dN}(hj:ts[j]? =some o):
    ∃b off c,v= .slice (some ⟨b,off,none⟩) ts.length c/\b<w.heap.size/\w.cell? ⟨b,off+j*5,none⟩=some (.int .i64 o.src)/\w.cell? ⟨b,off+j*5+1,none⟩=some (.int .i64 o.o)/\w.cell? ⟨b,off+j*5+2,none⟩=some (.int .i64 o.dst)/\w.cell? ⟨b,off+j*5+3,none⟩=some (.int .i64 o.df)/\w.cell? ⟨b,off+j*5+4,none⟩=some (.bool o.keyed):=by
 obtain⟨b,off,c,hv,hb,hc⟩:=h.get hj;exact⟨b,off,c,hv,hb,hc 0 _ (by decide) rfl,hc 1 _ (by decide) rfl,hc 2 _ (by decide) rfl,hc 3 _ (by decide) rfl,hc 4 _ (by decide) rfl⟩
structure NR(M:Nat)(w:World)(x:NV):Prop where
 code:Lz EO M w x.cv x.n.code
 bT:Lz EC M w x.dv x.n.bT
theorem jX{ts:List NV}(h:Ls EV w v ts){x:NV}(hj:ts[j]? =some x):
    ∃b off c,v= .slice (some ⟨b,off,none⟩) ts.length c/\b<w.heap.size/\w.cell? ⟨b,off+j*10,none⟩=some (.int .i64 x.n.kind)/\w.cell? ⟨b,off+j*10+1,none⟩=some (.int .i64 x.n.ins)/\w.cell? ⟨b,off+j*10+2,none⟩=some (.int .i64 x.n.outs)/\w.cell? ⟨b,off+j*10+3,none⟩=some x.cv/\w.cell? ⟨b,off+j*10+4,none⟩=some (.int .u64 (x.n.via.1:Nat))/\w.cell? ⟨b,off+j*10+5,none⟩=some (.int .u64 (x.n.via.2.1:Nat))/\w.cell? ⟨b,off+j*10+6,none⟩=some (.int .u64 (x.n.via.2.2:Nat))/\w.cell? ⟨b,off+j*10+7,none⟩=some (.int .u64 (x.n.bound:Nat))/\w.cell? ⟨b,off+j*10+8,none⟩=some x.dv/\w.cell? ⟨b,off+j*10+9,none⟩=some (.bool x.n.start):=by
 obtain⟨b,off,c,hv,hb,hc⟩:=h.get hj;exact⟨b,off,c,hv,hb,hc 0 _ (by decide) rfl,hc 1 _ (by decide) rfl,hc 2 _ (by decide) rfl,hc 3 _ (by decide) rfl,hc 4 _ (by decide) rfl,hc 5 _ (by decide) rfl,hc 6 _ (by decide) rfl,hc 7 _ (by decide) rfl,hc 8 _ (by decide) rfl,hc 9 _ (by decide) rfl⟩
structure GR(M:Nat)(w:World)(nv ev:Value)(xs:List NV)(es:List dN):Prop where
 nodes:Lz EV M w nv xs
 aN:Lz ED M w ev es
 each:∀x∈xs,NR M w x
 big:∀x∈xs,x.n.code.length<=140737488355328/\x.n.bT.length<=140737488355328
 wide:xs.length<=140737488355328/\es.length<=140737488355328
abbrev jH(a:Int)(xs:List NV)(es:List dN):bD:=⟨a,xs.map NV.n,es⟩
theorem NR.below{x:NV}(h:NR M w x)(hb:Below w.heap.size w w'):NR M w' x:=⟨h.code.below hb,h.bT.below hb⟩
theorem GR.below{nv ev:Value}{xs:List NV}{es:List dN}(h:GR M w nv ev xs es)(hb:Below w.heap.size w w'):GR M w' nv ev xs es:=
 ⟨h.nodes.below hb,h.aN.below hb,fun x hx=>(h.each x hx).below hb,h.big,h.wide⟩
end Df
end Go.Proofs.YteekbpokkjjipaaGreat
