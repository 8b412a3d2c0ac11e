import Derived.Laws.CopyOwn
import Derived.Deep.AppendLies
import Derived.Laws.AppendOwnNone
import Derived.Test.YtiiefcalkjeieaaGreatRows
import Derived.Test.YtiiefcalkjeieaaGreatJ2
import Derived.Deep.DrawnRows
import Derived.Deep.DeepCutAuto
import Derived.Deep.LoopGhost
import Derived.Deep.QuietTactic
import Derived.BigQuiet
import Derived.Shelf.SlSortCmp.QuietGrown
variable{w w':Go.World}{v z u ff:Go.Value}{n b i j base at_ c size off k s cap n' bt E M a hb g:Nat}{e t sT:Go.TypeId}{S T:Nat->Prop}{xs:List Go.Value}{cs:Array Go.Value}
set_option maxHeartbeats 1000000
namespace Go.Proofs.YtiiefcalkjeieaaGreat
section
open Go.RowKit Go.Sort
structure El(α:Type) where
 k:Nat
 enc:α->List Value
 len:∀x,(enc x).length=k
 one:∀x,∀u∈enc x,u.oneCell'=true
section
variable {α:Type} (E:El α)
def fl(l:List α):List Value:=l.flatMap E.enc
theorem XH:fl E []=[]:=rfl
theorem aO(t:α)(ts:List α):fl E (t::ts)=E.enc t++fl E ts:=rfl
theorem aQ(a b:List α):fl E (a++b)=fl E a++fl E b:=by simp[fl]
theorem dK(t:α):fl E [t]=E.enc t:=by simp[fl]
theorem fM(ts:List α):(fl E ts).length=ts.length*E.k:=by
 induction ts with
 | nil => simp[fl]
 | cons t ts ih => rw[aO,dO,ih,E.len,lC,Nat.succ_mul,Nat.add_comm]
theorem jA(ts:List α)(j i:Nat)(t:α)(h:ts[j]? =some t)(hi:i<E.k):(fl E ts)[j*E.k+i]? =(E.enc t)[i]? :=by
 induction ts generalizing j with
 | nil => simp at h
 | cons s ts ih=>
  rw[aO];cases j with
  | zero=>
   simp at h;subst h;rw[Nat.zero_mul,nZ,gL (by rw[E.len];exact hi)]
  | succ j=>
   have e:(j+1)*E.k+i=E.k+(j*E.k+i):=(by rw[Nat.succ_mul];omega);rw[e,Vv (by rw[E.len];omega),E.len,Nat.add_sub_cancel_left];exact ih j (by simpa using h)
theorem xM(ts:List α):∀u∈fl E ts,u.oneCell'=true:=by
 intro u hu;simp only[fl,List.mem_flatMap]at hu;obtain⟨t,_,hu⟩:=hu;exact E.one t u hu
theorem BZ(l:List α)(n:Nat):(fl E l).take (n*E.k)=fl E (l.take n):=by
 induction l generalizing n with
 | nil => simp[fl]
 | cons x l ih=>
  cases n with
  | zero => simp[fl]
  | succ n=>
   rw[aO,List.take_succ_cons,aO,Nat.succ_mul,List.take_append,tL (by rw[E.len];omega),E.len,Nat.add_sub_cancel,ih n]
theorem JM(l:List α)(n:Nat):(fl E l).drop (n*E.k)=fl E (l.drop n):=by
 induction l generalizing n with
 | nil => simp[fl]
 | cons x l ih=>
  cases n with
  | zero => simp[fl]
  | succ n=>
   rw[aO,List.drop_succ_cons,Nat.succ_mul,List.drop_append,List.drop_of_length_le (by rw[E.len];omega),E.len,Nat.add_sub_cancel,ih n,List.nil_append]
def ab2(w:World)(b off:Nat)(ts:List α):Prop:=∀j u,(fl E ts)[j]? =some u->w.cell? ⟨b,off+j,none⟩=some u
def Ls(w:World)(v:Value)(ts:List α):Prop:=
 (ts=[]/\v= .slice none 0 0)\/∃b off c,v= .slice (some ⟨b,off,none⟩) ts.length c/\b<w.heap.size/\ab2 E w b off ts
variable {E}
theorem Ls.kept{ts:List α}(h:Ls E w v ts)(hs:w.heap.size<=w'.heap.size)(hb:∀g,v.ownBlock=some g->w'.heap[g]? =w.heap[g]?):Ls E w' v ts:=by
 rcases h with h|⟨b,off,c,hv,hbs,ht⟩
 ·exact Or.inl h
 ·refine Or.inr ⟨b,off,c,hv,nL hbs hs,fun j u hj=> ?_⟩;have:=hb b (by rw[hv];rfl);rw[yY (a:=⟨b,off+j,none⟩) this];exact ht j u hj
theorem Ls.blk{ts:List α}(h:Ls E w v ts):∀g,v.ownBlock=some g->g<w.heap.size:=by
 intro g hg;rcases h with⟨_,rfl⟩|⟨b,off,c,rfl,hbs,_⟩
 ·simp[Value.ownBlock]at hg
 ·simp[Value.ownBlock]at hg;omega
theorem Ls.below{ts:List α}(h:Ls E w v ts)(hb:Below w.heap.size w w'):Ls E w' v ts:=
 h.kept hb.size fun g hg=>hb.block g (h.blk g hg)
theorem Ls.nil(w:World):Ls E w (.slice none 0 0) []:=Or.inl ⟨rfl,rfl⟩
theorem Ls.form{ts:List α}(h:Ls E w v ts):∃p c,v= .slice p ts.length c:=by
 rcases h with⟨rfl,rfl⟩|⟨b,off,c,hv,_,_⟩
 ·exact⟨_,_,rfl⟩
 ·exact⟨_,_,hv⟩
theorem Ls.get{ts:List α}(h:Ls E w v ts){t:α}(hj:ts[j]? =some t):
    ∃b off c,v= .slice (some ⟨b,off,none⟩) ts.length c/\b<w.heap.size/\∀i u,i<E.k->(E.enc t)[i]? =some u->w.cell? ⟨b,off+j*E.k+i,none⟩=some u:=by
 rcases h with⟨rfl,_⟩|⟨b,off,c,hv,hb,ht⟩
 ·simp at hj
 ·exact⟨b,off,c,hv,hb,fun i u hi hu=>by rw[Nat.add_assoc];exact ht _ _ ((jA E ts j i t hj hi).trans hu)⟩
theorem yV(b off i:Nat):(⟨b,off,none⟩:Addr).add i=⟨b,off+i,none⟩:=by unfold Addr.add;split<;>simp_all
theorem aH{ts:List α}(h:w.ownsRow base e E.k v ts.length (fl E ts)):Ls E w v ts:=by
 rcases h.2 with⟨hv,h0⟩|⟨g,cap,cur,hv,hg,hh,_,_,_,htake⟩
 ·exact Or.inl ⟨List.eq_nil_of_length_eq_zero h0,hv⟩
 ·refine Or.inr ⟨g,0,cap,hv,(aG.1 hh).1,fun j u hj=> ?_⟩;have:=h.cells (g:=g) (by rw[hv];rfl) j u hj;rw[yV]at this;exact this
theorem Ls.cut{l:List α}(h:Ls E w (.slice (some ⟨b,off,none⟩) n c) l)(hk:k<=l.length)(c2:Nat):Ls E w (.slice (some ⟨b,off,none⟩) k c2) (l.take k):=by
 rcases h with⟨_,h⟩|⟨b',off',c',hv,hb,ht⟩
 ·cases h
 ·cases hv;refine Or.inr ⟨b,off,c2,by rw[lK,Nat.min_eq_left hk],hb,fun j u hj=>ht j u ?_⟩;rw[<-BZ,List.getElem?_take]at hj;split at hj
  ·exact hj
  ·cases hj
theorem Ls.tail{l:List α}(h:Ls E w (.slice (some ⟨b,off,none⟩) n c) l)(c2:Nat):Ls E w (.slice (some ⟨b,off+k*E.k,none⟩) (l.length-k) c2) (l.drop k):=by
 rcases h with⟨_,h⟩|⟨b',off',c',hv,hb,ht⟩
 ·cases h
 ·cases hv;refine Or.inr ⟨b,off+k*E.k,c2,by rw[List.length_drop],hb,fun j u hj=> ?_⟩;rw[<-JM,List.getElem?_drop]at hj;rw[Nat.add_assoc];exact ht _ u hj
theorem Ls.void{l:List α}(h:Ls E w (.slice (some ⟨b,off,none⟩) n c) l)(hk:l.length<=k)(c2:Nat):Ls E w (.slice (some ⟨b,off,none⟩) (l.length-k) c2) (l.drop k):=by
 rcases h with⟨_,h⟩|⟨b',off',c',hv,hb,ht⟩
 ·cases h
 ·cases hv;refine Or.inr ⟨b,off,c2,by rw[List.length_drop],hb,fun j u hj=> ?_⟩;rw[List.drop_of_length_le hk]at hj;simp[fl]at hj
end
structure Kp(S:Nat->Prop)(w w':World):Prop where
 os:w'.os=w.os
 tape:w'.tape=w.tape
 output:w'.output=w.output
 size:w.heap.size<=w'.heap.size
 block:∀k,k<w.heap.size->¬S k->w'.heap[k]? =w.heap[k]?
theorem Kp.refl(S:Nat->Prop)(w:World):Kp S w w:=⟨rfl,rfl,rfl,nR _,fun _ _ _=>rfl⟩
theorem Kp.trans{a b c:World}(h:Kp S a b)(k:Kp T b c)(hT:∀j,j<a.heap.size->T j->S j):Kp S a c:=
 ⟨k.os.trans h.os,k.tape.trans h.tape,k.output.trans h.output,nT h.size k.size,fun i hi hS=>(k.block i (nL hi h.size) (fun ht=>hS (hT i hi ht))).trans (h.block i hi hS)⟩
theorem Kp.of_below(h:Below w.heap.size w w'):Kp S w w':=⟨h.os,h.tape,h.output,h.size,fun k hk _=>h.block k hk⟩
theorem Kp.aX(h:Gr w w'):Kp S w w':=Kp.of_below h.below
theorem Kp.mono(h:Kp S w w')(hT:∀k,S k->T k):Kp T w w':=⟨h.os,h.tape,h.output,h.size,fun k hk ht=>h.block k hk (fun hs=>ht (hT k hs))⟩
theorem Kp.below{B:Nat}(h:Kp S w w')(hB:B<=w.heap.size)(hS:∀k,S k->B<=k):Below B w w':=
 ⟨h.os,h.tape,h.output,h.size,fun k hk=>h.block k (nL hk hB) (fun hs=>absurd (hS k hs) (Nat.not_le.2 hk))⟩
theorem Kp.grownBy{r:Option Nat}(h:w.grownBy w' r)(hS:∀k,r=some k->S k):Kp S w w':=
 ⟨h.os,h.tape,h.output,h.size,fun k hk hs=>h.block k hk (fun e=>hs (hS k e.symm))⟩
theorem Kp.ls{α:Type}{E:El α}{l:List α}(h:Kp S w w')(hv:Ls E w v l)(hS:∀k,v.ownBlock=some k->¬S k):Ls E w' v l:=
 hv.kept h.size fun g hg=>h.block g (hv.blk g hg) (hS g hg)
theorem Kp.cell{S:Nat->Prop}{w w':World}(h:Kp S w w'){b o:Nat}(hb:b<w.heap.size)(hS:¬S b):w'.cell? ⟨b,o,none⟩=w.cell? ⟨b,o,none⟩:=
 yY (a:=⟨b,o,none⟩) (h.block b hb hS)
theorem av(h:Kp S w w')(ho:w.ownsRow base e size v n xs)(hS:∀k,v.ownBlock=some k->¬S k):w'.ownsRow base e size v n xs:=by
 obtain⟨h1,h2⟩:=ho;refine⟨h1, ?_⟩;rcases h2 with h2|⟨g,cap,cur,hv,hg,hh,r⟩
 ·exact Or.inl h2
 ·exact Or.inr ⟨g,cap,cur,hv,hg,by rw[h.block g (aG.1 hh).1 (hS g (by rw[hv];rfl))];exact hh,r⟩
theorem ag(h:w.ownsRow base e size v n xs)(hb:Below w.heap.size w w'):w'.ownsRow base e size v n xs:=
 av (S:=fun _=>False) (Kp.of_below hb) h fun _ _ hf=>hf
theorem aL{b':Nat}(h:w.ownsRow b e size v n xs)(hb:b'<=b):w.ownsRow b' e size v n xs:=by
 obtain⟨h1,h2⟩:=h;refine⟨h1, ?_⟩;rcases h2 with h2|⟨g,cap,cur,hv,hg,r⟩
 ·exact Or.inl h2
 ·exact Or.inr ⟨g,cap,cur,hv,nT hb hg,r⟩
theorem aS{xs':List Value}(h:w.ownsRow base e s v n xs)(hn:n=n')(hx:xs=xs'):w.ownsRow base e s v n' xs':=by
 subst hn;subst hx;exact h
theorem NB{p:Option Addr}(h:w.ownsRow base e size (.slice p n' cap) n xs):n<=cap/\cap<=maxLen:=by
 obtain⟨_,⟨h0,h1⟩|⟨g',cap',cur,hv,_,_,hn,hm,_⟩⟩:=h
 ·cases h0;subst h1;exact⟨nR _,zL _⟩
 ·cases hv;exact⟨hn,hm⟩
theorem info_parts{P:Program}(h:(P.info? t).map (fun i=>(i.zero,i.size,i.bytes))=some (some z,s,b)):∃i,P.info? t=some i/\i.zero=some z/\i.size=s/\i.bytes=b:=by
 cases hq:P.info? t with
 | none => simp[hq]at h
 | some i=>
  simp[hq]at h;exact⟨i,rfl,h.1,h.2.1,h.2.2⟩
theorem ah(w:World)(o:Obj):(w.alloc o).heap[w.heap.size]? =some o:=by
 rw[show(w.alloc o).heap=w.heap.push o from rfl];simp
section
variable {P:Program} {α:Type} (E:El α) {w:World} {ops:Array Oper} {rest:List Oper} {o:Oper} {a:Act} {Q:Exit->Act->World->Prop}
theorem gu(hu:P.underlying sT=some (.slice e))(hI:(P.info? e).map (fun i=>(i.zero,i.size,i.bytes))=some (some z,E.k,bt))(hz:z.cells.size=E.k)(hk:0<E.k)
    (hgd:o.guard=none) (s x:Operand) (ho:o.op= .call { callee:= .builtin .append,args:=#[s,x],argTypes:=#[sT,sT] })
    (base:Nat) (v:Value) (n:Nat) (xs:List Value) (hs:a.eval s=v) (hown:w.ownsRow base e E.k v n xs)
    (t:α) (hx:a.eval x= .slice (some ⟨w.heap.size,0,none⟩) 1 1) (hbig:(n+1)*bt<=140737488355328) (hmx:n+1<=maxLen) (hbase:base<=w.heap.size)
    (cs:Array Value) (hcs:cs.toList=E.enc t) (te:TypeId)
    (h:∀g cap w',w'.ownsRow base e E.k (.slice (some ⟨g,0,none⟩) (n+1) cap) (n+1) (xs++E.enc t)->w.grownBy w' v.ownBlock->(v.ownBlock=some g\/w.heap.size<=g)->wpList P ops Q rest (a.put o.dst (.slice (some ⟨g,0,none⟩) (n+1) cap)) w') :
    wpList P ops Q (o::rest) a (w.alloc (.cells cs te)):=by
 obtain⟨i0,hi,hz0,hz1,hz2⟩:=info_parts hI;refine wpList_append_lies _ hgd s x _ ho base e i0 _ E.k bt hu hi hz0 hz1 hz2 hz hk v n xs hs (hown.alloc _) ⟨w.heap.size,0,none⟩ 1 1 (E.enc t) hx (by rw[E.len,Nat.one_mul]) (by have:=World.news_of_block (ah w (.cells cs te));rw[hcs]at this;exact this) (E.one t) (by decide) hmx hbig (by simp;omega) _ rfl ?_;intro g cap w' h1 h2 h3 _;refine h g cap w' h1 ⟨h2.os,h2.tape,h2.output,nT (by simp) h2.size,fun k hk hne=>(h2.block k (by simp;omega) hne).trans ((World.grownBy_alloc w _ none).block k hk (by simp))⟩ ?_;rcases h3 with h3|h3
 ·exact Or.inl h3
 ·right;rw[h3];simp
theorem jV(hu:P.underlying sT=some (.slice e))(hI:(P.info? e).map (fun i=>(i.zero,i.size,i.bytes))=some (some z,E.k,bt))(hz:z.cells.size=E.k)(hk:0<E.k)
    (hgd:o.guard=none) (s x:Operand) (ho:o.op= .call { callee:= .builtin .append,args:=#[s,x],argTypes:=#[sT,sT] })
    (base:Nat) (v:Value) (n:Nat) (xs:List Value) (hs:a.eval s=v) (hown:w.ownsRow base e E.k v n xs)
    (v1:Value) (ts:List α) (hx:a.eval x=v1) (hv:Ls E w v1 ts) (hbig:(n+ts.length)*bt<=140737488355328) (hmx:n+ts.length<=maxLen) (hbase:base<=w.heap.size)
    (h:∀v' w',w'.ownsRow base e E.k v' (n+ts.length) (xs++fl E ts)->w.grownBy w' v.ownBlock->wpList P ops Q rest (a.put o.dst v') w'):wpList P ops Q (o::rest) a w:=by
 obtain⟨i0,hi,hz0,hz1,hz2⟩:=info_parts hI;rcases hv with⟨rfl,rfl⟩|⟨b,off,c,rfl,hb,ht⟩
 ·refine wpList_append_own_none hgd s x _ ho base e i0 E.k hu hi v n xs hs hown hx ?_;exact h v w (by rw[XH,FP];exact hown) ⟨rfl,rfl,rfl,nR _,fun _ _ _=>rfl⟩
 ·refine wpList_append_own _ hgd s x _ ho base e i0 _ E.k bt hu hi hz0 hz1 hz2 hz hk v n xs hs hown ⟨b,off,none⟩ ts.length c (fl E ts) hx (fM E ts) (fun j u hj=>by rw[yV];exact ht j u hj) (xM E ts) hmx hbig hbase ?_;intro v' w' h1 h2 _;exact h v' w' h1 h2
end
theorem yJ{P:Program}(w:World)(dT sT ty elem:TypeId)(s g o dLen dCap:Nat)(a:Addr)(sLen sCap:Nat)(cur:Array Value)(t:TypeId)(cs:List Value)
    (hu:P.underlying dT=some (.slice elem)) (hs:(P.info? elem).map (·.size)=some s)
    (hg:w.heap[g]? =some (.cells cur t (0,0))) (hn:cs.length=Nat.min sLen dLen*s)
    (hsrc:∀j v,cs[j]? =some v->w.cell? (a.add j)=some v) (hfit:o+cs.length<=cur.size) (h1:∀v∈cs,v.oneCell'=true) :
    (Builtin.copy_ #[dT,sT] ty #[.slice (some ⟨g,o,none⟩) dLen dCap, .slice (some a) sLen sCap]).run P w =
     .ok (goInt (Nat.min sLen dLen)) (w.setRow g (cur.toList.take o++cs++cur.toList.drop (o+cs.length)).toArray):=by
 have hl:=run_loadCells_list (P:=P) w a cs hsrc;have hst:=run_storeCells_at P g o t cs 0 cur w hg (by simpa using hfit) h1;cases hq:P.info? elem with
 | none => simp[hq]at hs
 | some i=>
  have hi:i.size=s:=by simpa[hq]using hs
  simp[Builtin.copy_,run_underlying hu,Builtin.lenOf,Builtin.firstCells,sizeOf,typeInfo,hq,hi,<-hn,hl,hst]
end
namespace Df
open Go.RowKit Go.Sort
theorem hid{p:Prop}(h:p):Hid p:=h
abbrev nY:=Nat×Nat×Nat
structure Zb where
 kind:Int
 arg:Nat
 deriving DecidableEq
structure dL where
 df:Int
 o:Int
 via:nY
 deriving DecidableEq
structure dx where
 kind:Int
 ins:Int
 outs:Int
 code:List Zb
 via:nY
 bound:Nat
 bT:List dL
 start:Bool
 deriving DecidableEq
structure dQ where
 src:Int
 o:Int
 dst:Int
 df:Int
 keyed:Bool
 deriving DecidableEq
structure bD where
 arity:Int
 nodes:List dx
 aM:List dQ
 deriving DecidableEq
def Mi(n:Int):Prop:= -9223372036854775808<=n/\n<=9223372036854775807
def E9(n:Nat):Prop:=n<=18446744073709551615
def gW(p:nY):Prop:=E9 p.1/\E9 p.2.1/\E9 p.2.2
def Yn(o:Zb):Prop:=Mi o.kind/\E9 o.arg
def YL(c:dL):Prop:=Mi c.df/\Mi c.o/\gW c.via
def aaZ(n:dx):Prop:=Mi n.kind/\Mi n.ins/\Mi n.outs/\(∀o∈n.code,Yn o)/\gW n.via/\E9 n.bound/\∀c∈n.bT,YL c
def UC(x:dQ):Prop:=Mi x.src/\Mi x.o/\Mi x.dst/\Mi x.df
def UB(g:bD):Prop:=Mi g.arity/\(∀n∈g.nodes,aaZ n)/\∀x∈g.aM,UC x
theorem ae{o:Obj}(h:w.heap[b]? =some o):b<w.heap.size:=(aG.1 h).1
theorem bC(h:w.heap[b]? =some (.cells cs t (0,0)))(i:Nat)(x:Value):(w.setCell ⟨b,i,none⟩ x).heap[b]? =some (.cells (cs.setIfInBounds i x) t (0,0))/\Kp (fun k=>k=b) w (w.setCell ⟨b,i,none⟩ x):=by
 have e:=setCell_eq_setRow w b i _ _ _ x h;rw[e];exact⟨by rw[setRow_heap w b _ _ _ _ h],rfl,rfl,rfl,by simp[World.setRow],fun k _ hne=>setRow_other w b k _ (by omega)⟩
theorem aa(h:w.heap[b]? =some (.cells cs t (0,0))):(∀i,w.cell? ⟨b,i,none⟩=cs[i]?)/\∀i,w.frozen? ⟨b,i,none⟩=false:=by
 refine⟨fun i=>by simp[World.cell?,h],fun i=>by simp[World.frozen?,h]⟩
theorem Wo(w:World)(o1 o2:Obj):(((w.alloc o1).alloc o2).drew).heap[w.heap.size]? =some o1:=by
 have h:=ah w o1;rw[<-h];exact((Gr.refl (w.alloc o1)).alloc o2).drew.below.block w.heap.size (by simp)
theorem Wn(w:World)(o1 o2:Obj):(((w.alloc o1).alloc o2).drew).heap[w.heap.size+1]? =some o2:=by
 have h:=ah (w.alloc o1) o2
 rwa [show(w.alloc o1).heap.size=w.heap.size+1 by simp]at h
theorem aK{T:TypeId}(h:w.ownsRow base T E u n xs):∀k,u.ownBlock=some k->base<=k/\k<w.heap.size:=fun k hk=>h.lt k hk
theorem aB{T:TypeId}(h:w.ownsRow base T E u n xs):∃q m c,u= .slice q m c:=by
 obtain⟨_,⟨h0,_⟩|⟨g',cap',cur,hv,_⟩⟩:=h
 ·exact⟨_,_,_,h0⟩
 ·exact⟨_,_,_,hv⟩
def EO:El Zb where
 k:=2
 enc o:=[.int .i64 o.kind, .int .u64 (o.arg:Nat)]
 len _:=rfl
 one o u hu:=by
  simp at hu;rcases hu with rfl|rfl<;>rfl
theorem Z8:(Tryz.prog.info? 202).map (fun i=>(i.zero,i.size,i.bytes))=some (some (.agg #[.int .i64 0, .int .u64 0]),2,16):=by kernel_rfl
def EC:El dL where
 k:=5
 enc o:=[.int .i64 o.df, .int .i64 o.o, .int .u64 (o.via.1:Nat), .int .u64 (o.via.2.1:Nat), .int .u64 (o.via.2.2:Nat)]
 len _:=rfl
 one o u hu:=by
  simp at hu;rcases hu with rfl|rfl|rfl|rfl|rfl<;>rfl
theorem pR:(Tryz.prog.info? 205).map (fun i=>(i.zero,i.size,i.bytes))=some (some (.agg #[.int .i64 0, .int .i64 0, .int .u64 0, .int .u64 0, .int .u64 0]),5,40):=by kernel_rfl
def ED:El dQ where
 k:=5
 enc o:=[.int .i64 o.src, .int .i64 o.o, .int .i64 o.dst, .int .i64 o.df, .bool o.keyed]
 len _:=rfl
 one o u hu:=by
  simp at hu;rcases hu with rfl|rfl|rfl|rfl|rfl<;>rfl
theorem Z9:(Tryz.prog.info? 151).map (fun i=>(i.zero,i.size,i.bytes))=some (some (.agg #[.int .i64 0, .int .i64 0, .int .i64 0, .int .i64 0, .bool false]),5,40):=by kernel_rfl
structure NV where
 n:dx
 cq:Option Addr
 cm:Nat
 cc:Nat
 dq:Option Addr
 dm:Nat
 dc:Nat
abbrev NV.cv(x:NV):Value:= .slice x.cq x.cm x.cc
abbrev NV.dv(x:NV):Value:= .slice x.dq x.dm x.dc
abbrev aN(k i o:Int)(c:Value)(p:nY)(b:Nat)(d:Value)(s:Bool):Array Value:=#[.int .i64 k, .int .i64 i, .int .i64 o,c, .int .u64 (p.1:Nat), .int .u64 (p.2.1:Nat), .int .u64 (p.2.2:Nat), .int .u64 (b:Nat),d, .bool s]
abbrev NV.cells(x:NV):Array Value:=aN x.n.kind x.n.ins x.n.outs x.cv x.n.via x.n.bound x.dv x.n.start
def EV:El NV where
 k:=10
 enc x:=x.cells.toList
 len _:=rfl
 one x u hu:=by
  simp at hu;rcases hu with rfl|rfl|rfl|rfl|rfl|rfl|rfl|rfl|rfl|rfl<;>rfl
theorem Z7:(Tryz.prog.info? 149).map (fun i=>(i.zero,i.size,i.bytes))=some (some (.agg #[.int .i64 0, .int .i64 0, .int .i64 0, .slice none 0 0, .int .u64 0, .int .u64 0, .int .u64 0, .int .u64 0, .slice none 0 0, .bool false]),10,112):=by kernel_rfl
abbrev jc(a:Int)(nv ev:Value):Array Value:=#[.int .i64 a,nv,ev]
theorem Wm(w:World)(o1 o2 o3:Obj):(((w.alloc o1).alloc o2).alloc o3).heap[w.heap.size]? =some o1/\(((w.alloc o1).alloc o2).alloc o3).heap[w.heap.size+1]? =some o2/\(((w.alloc o1).alloc o2).alloc o3).heap[w.heap.size+2]? =some o3:=by
 have g3:=((Gr.refl ((w.alloc o1).alloc o2)).alloc o3).below;refine⟨?_, ?_, ?_⟩
 ·rw[g3.block w.heap.size (by simp;omega)];exact Wo w o1 o2
 ·rw[g3.block (w.heap.size+1) (by simp)];exact Wn w o1 o2
 ·have h:=ah ((w.alloc o1).alloc o2) o3
  rwa [show((w.alloc o1).alloc o2).heap.size=w.heap.size+2 by simp]at h
theorem Ex{z0 z1 z2:Value}(h:w.heap[b]? =some (.cells #[z0,z1,z2] t (0,0)))(x0 x1 x2:Value):(((w.setCell ⟨b,0,none⟩ x0).setCell ⟨b,1,none⟩ x1).setCell ⟨b,2,none⟩ x2).heap[b]? =some (.cells #[x0,x1,x2] t (0,0))/\Kp (fun k=>k=b) w (((w.setCell ⟨b,0,none⟩ x0).setCell ⟨b,1,none⟩ x1).setCell ⟨b,2,none⟩ x2):=by
 have s0:(w.setCell ⟨b,0,none⟩ x0).heap[b]? =some (.cells #[x0,z1,z2] t (0,0))/\Kp (fun k=>k=b) w (w.setCell ⟨b,0,none⟩ x0):=bC h 0 x0;have s1:((w.setCell ⟨b,0,none⟩ x0).setCell ⟨b,1,none⟩ x1).heap[b]? =some (.cells #[x0,x1,z2] t (0,0))/\Kp (fun k=>k=b) (w.setCell ⟨b,0,none⟩ x0) ((w.setCell ⟨b,0,none⟩ x0).setCell ⟨b,1,none⟩ x1):=bC s0.1 1 x1;have s2:=bC s1.1 2 x2;exact⟨s2.1,(s0.2.trans s1.2 (fun _ _ h=>h)).trans s2.2 (fun _ _ h=>h)⟩
def Lz{α:Type}(E:El α)(M:Nat)(w:World)(v:Value)(l:List α):Prop:=(Ls E w v l/\∀k,v.ownBlock=some k->k<M)\/(l=[]/\∃p c,v= .slice p 0 c)
section
variable {α:Type} {E:El α} {M:Nat} {w w':World} {v:Value} {l:List α}
theorem Lz.form(h:Lz E M w v l):∃p c,v= .slice p l.length c:=by
 rcases h with⟨h,_⟩|⟨rfl,p,c,rfl⟩
 ·exact h.form
 ·exact⟨p,c,rfl⟩
end
section
variable {α:Type} {E:El α} {M:Nat} {w w':World} {v:Value} {l:List α}
theorem Lz.below(h:Lz E M w v l)(hb:Below w.heap.size w w'):Lz E M w' v l:=by
 rcases h with⟨h,hs⟩|h
 ·exact Or.inl ⟨h.below hb,hs⟩
 ·exact Or.inr h
end
section
variable {α:Type} {E:El α} {M:Nat} {w w':World} {v:Value} {l:List α}
end
section
variable {α:Type} {E:El α} {M:Nat} {w w':World} {v:Value} {l:List α}
theorem Lz.ls(h:Lz E M w v l){x:α}(hi:l[i]? =some x):Ls E w v l:=by
 rcases h with⟨h,_⟩|⟨rfl,_⟩
 ·exact h
 ·simp at hi
end
section
variable {α:Type} {E:El α} {M:Nat} {w w':World} {v:Value} {l:List α}
theorem Lz.nil(E:El α)(M:Nat)(w:World):Lz E M w (.slice none 0 0) []:=Or.inr ⟨rfl,none,0,rfl⟩
end
theorem sK{ts:List dL}(h:Ls EC w v ts){o:dL}(hj:ts[j]? =some o):
    ∃b off c,v= .slice (some ⟨b,off,none⟩) ts.length c/\b<w.heap.size/\w.cell? ⟨b,off+j*5,none⟩=some (.int .i64 o.df)/\w.cell? ⟨b,off+j*5+1,none⟩=some (.int .i64 o.o)/\w.cell? ⟨b,off+j*5+2,none⟩=some (.int .u64 (o.via.1:Nat))/\w.cell? ⟨b,off+j*5+3,none⟩=some (.int .u64 (o.via.2.1:Nat))/\w.cell? ⟨b,off+j*5+4,none⟩=some (.int .u64 (o.via.2.2:Nat)):=by
 obtain⟨b,off,c,hv,hb,hc⟩:=h.get hj;exact⟨b,off,c,hv,hb,hc 0 _ (by decide) rfl,hc 1 _ (by decide) rfl,hc 2 _ (by decide) rfl,hc 3 _ (by decide) rfl,hc 4 _ (by decide) rfl⟩
theorem sJ{ts:List dQ}(h:Ls ED w v ts){o:dQ}(hj:ts[j]? =some o):
    ∃b off c,v= .slice (some ⟨b,off,none⟩) ts.length c/\b<w.heap.size/\w.cell? ⟨b,off+j*5,none⟩=some (.int .i64 o.src)/\w.cell? ⟨b,off+j*5+1,none⟩=some (.int .i64 o.o)/\w.cell? ⟨b,off+j*5+2,none⟩=some (.int .i64 o.dst)/\w.cell? ⟨b,off+j*5+3,none⟩=some (.int .i64 o.df)/\w.cell? ⟨b,off+j*5+4,none⟩=some (.bool o.keyed):=by
 obtain⟨b,off,c,hv,hb,hc⟩:=h.get hj;exact⟨b,off,c,hv,hb,hc 0 _ (by decide) rfl,hc 1 _ (by decide) rfl,hc 2 _ (by decide) rfl,hc 3 _ (by decide) rfl,hc 4 _ (by decide) rfl⟩
structure NR(M:Nat)(w:World)(x:NV):Prop where
 code:Lz EO M w x.cv x.n.code
 bT:Lz EC M w x.dv x.n.bT
theorem jY{ts:List NV}(h:Ls EV w v ts){x:NV}(hj:ts[j]? =some x):
    ∃b off c,v= .slice (some ⟨b,off,none⟩) ts.length c/\b<w.heap.size/\w.cell? ⟨b,off+j*10,none⟩=some (.int .i64 x.n.kind)/\w.cell? ⟨b,off+j*10+1,none⟩=some (.int .i64 x.n.ins)/\w.cell? ⟨b,off+j*10+2,none⟩=some (.int .i64 x.n.outs)/\w.cell? ⟨b,off+j*10+3,none⟩=some x.cv/\w.cell? ⟨b,off+j*10+4,none⟩=some (.int .u64 (x.n.via.1:Nat))/\w.cell? ⟨b,off+j*10+5,none⟩=some (.int .u64 (x.n.via.2.1:Nat))/\w.cell? ⟨b,off+j*10+6,none⟩=some (.int .u64 (x.n.via.2.2:Nat))/\w.cell? ⟨b,off+j*10+7,none⟩=some (.int .u64 (x.n.bound:Nat))/\w.cell? ⟨b,off+j*10+8,none⟩=some x.dv/\w.cell? ⟨b,off+j*10+9,none⟩=some (.bool x.n.start):=by
 obtain⟨b,off,c,hv,hb,hc⟩:=h.get hj;exact⟨b,off,c,hv,hb,hc 0 _ (by decide) rfl,hc 1 _ (by decide) rfl,hc 2 _ (by decide) rfl,hc 3 _ (by decide) rfl,hc 4 _ (by decide) rfl,hc 5 _ (by decide) rfl,hc 6 _ (by decide) rfl,hc 7 _ (by decide) rfl,hc 8 _ (by decide) rfl,hc 9 _ (by decide) rfl⟩
structure GR(M:Nat)(w:World)(nv ev:Value)(xs:List NV)(es:List dQ):Prop where
 nodes:Lz EV M w nv xs
 aM:Lz ED M w ev es
 each:∀x∈xs,NR M w x
 big:∀x∈xs,x.n.code.length<=140737488355328/\x.n.bT.length<=140737488355328
 wide:xs.length<=140737488355328/\es.length<=140737488355328
abbrev jS(a:Int)(xs:List NV)(es:List dQ):bD:=⟨a,xs.map NV.n,es⟩
theorem NR.below{x:NV}(h:NR M w x)(hb:Below w.heap.size w w'):NR M w' x:=⟨h.code.below hb,h.bT.below hb⟩
theorem GR.below{nv ev:Value}{xs:List NV}{es:List dQ}(h:GR M w nv ev xs es)(hb:Below w.heap.size w w'):GR M w' nv ev xs es:=
 ⟨h.nodes.below hb,h.aM.below hb,fun x hx=>(h.each x hx).below hb,h.big,h.wide⟩
end Df
namespace Hp
variable {ι:Type} {A:ι->ι->Bool}
def par(i:Nat):Nat:=(i-1)/2
theorem eZ(h:0<i):par i<i:=by unfold par;omega
theorem Bl(h:0<j):par j=i↔j=2*i+1\/j=2*i+2:=by unfold par;omega
def Am(A:ι->ι->Bool):Prop:=(∀a b c,A b a=false->A c b=false->A c a=false)/\∀a b,A a b=true->A b a=false
theorem Am.self(h:Am A)(a:ι):A a a=false:=by
 cases e:A a a with
 | false => rfl
 | true => exact e.symm.trans (h.2 a a e)
def bX(A:ι->ι->Bool)(L:List ι):Prop:=∀i x y,0<i->L[i]? =some x->L[par i]? =some y->A x y=false
theorem bX.top(hA:Am A){L:List ι}(h:bX A L){t:ι}(ht:L[0]? =some t):∀(i:Nat) (x:ι),L[i]? =some x->A x t=false:=by
 intro i
 induction i using Nat.strongRecOn with
 | ind i ih=>
  intro x hx;by_cases h0:i=0
  ·subst h0;rw[ht]at hx;cases hx;exact hA.self t
  ·have hp:=eZ (Nat.pos_of_ne_zero h0);have hl:=(lG.1 hx).1;obtain⟨y,hy⟩:∃y,L[par i]? =some y:=⟨L[par i]'(by omega),by rw[pW]⟩;exact hA.1 _ _ _ (ih _ hp y hy) (h i x y (Nat.pos_of_ne_zero h0) hx hy)
inductive Wy (Q:Nat->Prop):Nat->Nat->Prop
 | refl (i:Nat):Wy Q i i
 | step {i a:Nat}:0<i->Q i->Wy Q (par i) a->Wy Q i a
variable {Q:Nat->Prop}
theorem Wy.snoc(h:Wy Q n i)(h0:0<i)(hq:Q i):Wy Q n (par i):=by
 induction h with
 | refl i => exact .step h0 hq (.refl _)
 | step a b _ ih => exact .step a b (ih h0 hq)
theorem Wy.le(h:Wy Q i a):a<=i:=by
 induction h with
 | refl i => exact nR _
 | step h0 _ _ ih => have:=eZ h0;omega
theorem Wy.next(h:Wy Q i a)(hl:a<i):0<i/\Q i/\Wy Q (par i) a:=by
 cases h with
 | refl => omega
 | step a b c => exact⟨a,b,c⟩
theorem set_perm{L:List ι}{y:ι}(x:ι)(h:L[i]? =some y):(y::L.set i x).Perm (x::L):=by
 induction L generalizing i with
 | nil => simp at h
 | cons a L ih=>
  cases i with
  | zero => simp at h;subst h;simp only[List.set_cons_zero];exact List.Perm.swap _ _ _
  | succ i=>
   simp only[List.set_cons_succ];exact(List.Perm.swap _ _ _).trans (((ih (by simpa using h)).cons a).trans (List.Perm.swap _ _ _))
theorem swap_perm{M:List ι}{p:Nat}{y:ι}(x:ι)(hi:i<M.length)(hp:M[p]? =some y)(hne:i≠p):((M.set i y).set p x).Perm (M.set i x):=by
 have h1:(y::(M.set i y).set p x).Perm (x::M.set i y):=set_perm x (by rw[gX hne];exact hp);have hz:M[i]? =some M[i]:=by rw[pW]
 have h2:(M[i]::M.set i y).Perm (y::M):=set_perm y hz;have h3:(M[i]::M.set i x).Perm (x::M):=set_perm x hz;refine List.Perm.cons_inv (a:=y) (List.Perm.cons_inv (a:=M[i]) ?_);refine(h1.cons _).trans ((List.Perm.swap _ _ _).trans ((h2.cons x).trans ((List.Perm.swap _ _ _).trans ((h3.symm.cons y).trans (List.Perm.swap _ _ _)))))
def QU(A:ι->ι->Bool)(L:List ι)(x:ι)(i:Nat):Prop:=∃y,L[par i]? =some y/\A x y=true
def HH(A:ι->ι->Bool)(N:List ι)(i:Nat):Prop:=
 (∀j a b,0<j->j≠i->N[j]? =some a->N[par j]? =some b->A a b=false)/\∀j a b,0<j->par j=i->0<i->N[j]? =some a->N[par i]? =some b->A a b=false
structure dX(A:ι->ι->Bool)(L:List ι)(x:ι)(at_:Nat)(M:List ι)(i:Nat):Prop where
 way:Wy (QU A L x) i at_
 len:M.length=L.length+1
 ile:i<=L.length
 old:∀j,j<=i->M[j]? =(L++[x])[j]?
 perm:(M.set i x).Perm (L++[x])
 hp:Am A->bX A L->HH A (M.set i x) i
theorem dX.init{L:List ι}{x:ι}(h:Wy (QU A L x) L.length at_):dX A L x at_ (L++[x]) L.length:=by
 have e:(L++[x]).set L.length x=L++[x]:=by rw[List.set_append_right _ _ (nR _)];simp
 refine⟨h,by simp,nR _,fun _ _=>rfl,by rw[e],fun hA hH=> ?_⟩;rw[e];refine⟨fun j a b h0 hne ha hb=> ?_,fun j a b h0 hp _ ha _=> ?_⟩
 ·have hl:=(lG.1 ha).1;simp at hl;have:=eZ h0;rw[gL (by omega)]at ha hb;exact hH j a b h0 ha hb
 ·have hl:=(lG.1 ha).1;simp at hl;have:=eZ h0;omega
theorem dX.step{L:List ι}{x:ι}{at_ i:Nat}{M:List ι}(h:dX A L x at_ M i)(hlt:at_<i):∃y,M[par i]? =some y/\dX A L x at_ (M.set i y) (par i):=by
 obtain⟨h0,⟨y,hy,hxy⟩,hw⟩:=h.way.next hlt;have hp:=eZ h0;have hM:M[par i]? =some y:=by
  rw[h.old _ (by omega),gL (by have:=h.ile;omega)];exact hy
 have hil:i<M.length:=by rw[h.len];have:=h.ile;omega
 refine⟨y,hM,hw,by rw[lZ];exact h.len,by have:=h.ile;omega,fun j hj=> ?_,(swap_perm x hil hM (by omega)).trans h.perm,fun hA hH=> ?_⟩
 ·rw[gX (by omega)];exact h.old j (by omega)
 ·obtain⟨H1,H2⟩:=h.hp hA hH;have hpl:par i<(M.set i y).length:=by rw[lZ];omega
  have eo:∀j,j≠i->j≠par i->((M.set i y).set (par i) x)[j]? =(M.set i x)[j]? :=fun j h1 h2=>by
   rw[gX (Ne.symm h2),gX (Ne.symm h1),gX (Ne.symm h1)]
  have ep:((M.set i y).set (par i) x)[par i]? =some x:=by rw[List.getElem?_set_self hpl]
  have ei:((M.set i y).set (par i) x)[i]? =some y:=by rw[gX (by omega),List.getElem?_set_self hil]
  have np:(M.set i x)[par i]? =some y:=by rw[gX (by omega)];exact hM
  have le1:A y x=false:=hA.2 _ _ hxy;refine⟨fun j a b hj hne ha hb=> ?_,fun j a b hj hpj hp0 ha hb=> ?_⟩
  ·by_cases hji:j=i
   ·subst hji;rw[ei]at ha;rw[ep]at hb;cases ha;cases hb;exact le1
   ·rw[eo j hji hne]at ha;by_cases h1:par j=par i
    ·rw[h1,ep]at hb;cases hb;exact hA.1 _ _ _ le1 (H1 j a y hj hji ha (by rw[h1];exact np))
    ·by_cases h2:par j=i
     ·rw[h2,ei]at hb;cases hb;exact H2 j a y hj h2 h0 ha np
     ·rw[eo _ h2 h1]at hb;exact H1 j a b hj hji ha hb
  ·have hpp:=eZ hp0;rw[eo _ (by omega) (by omega)]at hb;have hyb:A y b=false:=H1 (par i) y b hp0 (by omega) np hb;by_cases hji:j=i
   ·subst hji;rw[ei]at ha;cases ha;exact hyb
   ·have hjp:j≠par i:=(by intro e;have:=eZ hj;omega);rw[eo j hji hjp]at ha;exact hA.1 _ _ _ hyb (H1 j a y hj hji ha (by rw[hpj];exact np))
theorem dX.done{L:List ι}{x:ι}{M:List ι}(h:dX A L x at_ M at_)(he:at_=0\/∃y,L[par at_]? =some y/\A x y=false):(M.set at_ x).Perm (L++[x])/\(Am A->bX A L->bX A (M.set at_ x)):=by
 refine⟨h.perm,fun hA hH j a b hj ha hb=> ?_⟩;obtain⟨H1,_⟩:=h.hp hA hH;by_cases e:j=at_
 ·subst e;rcases he with he|⟨y,hy,hxy⟩
  ·omega
  ·have hp:=eZ hj;have hl:=h.ile;rw[List.getElem?_set_self (by rw[h.len];omega)]at ha;rw[gX (by omega),h.old _ (by omega),gL (by omega),hy]at hb;cases ha;cases hb;exact hxy
 ·exact H1 j a b hj e ha hb
def QD(A:ι->ι->Bool)(M0:List ι)(s:ι)(i:Nat):Prop:=
 i<M0.length/\(Am A->∀x,M0[i]? =some x->A s x=false/\∀j y,0<j->par j=par i->M0[j]? =some y->A y x=false)
def pJ(A:ι->ι->Bool)(M0:List ι)(at_ c:Nat)(x:ι):Prop:=
 M0[c]? =some x/\((c=2*at_+1/\∀y,M0[2*at_+2]? =some y->A y x=false)\/(c=2*at_+2/\∃y,M0[2*at_+1]? =some y/\A x y=true))
theorem pJ.par{M0:List ι}{x:ι}(h:pJ A M0 at_ c x):0<c/\Hp.par c=at_:=by
 have h0:0<c:=by rcases h.2 with⟨h,_⟩|⟨h,_⟩<;>omega
 exact⟨h0,(Bl h0).2 (by rcases h.2 with⟨h,_⟩|⟨h,_⟩;exact Or.inl h;exact Or.inr h)⟩
theorem pJ.least{M0:List ι}{x:ι}(hA:Am A)(h:pJ A M0 at_ c x){y:ι}(h0:0<j)(hj:Hp.par j=at_)(hy:M0[j]? =some y):A y x=false:=by
 obtain⟨hx,h⟩:=h;rcases(Bl h0).1 hj with e|e
 ·rcases h with⟨rfl,_⟩|⟨_,z,hz,hxz⟩
  ·rw[<-e,hy]at hx;cases hx;exact hA.self _
  ·rw[<-e,hy]at hz;cases hz;exact hA.2 _ _ hxz
 ·rcases h with⟨_,h⟩|⟨rfl,_⟩
  ·exact h y (by rw[<-e];exact hy)
  ·rw[<-e,hy]at hx;cases hx;exact hA.self _
structure Dn(A:ι->ι->Bool)(M0:List ι)(s:ι)(at_:Nat):Prop where
 lt:at_=0\/at_<M0.length
 way:Wy (QD A M0 s) at_ 0
def oh(A:ι->ι->Bool)(M0:List ι)(s:ι)(at_:Nat):Prop:=Am A->∀j y,0<j->par j=at_->M0[j]? =some y->A y s=false
theorem Dn.step{M0:List ι}{s x:ι}{at_ c:Nat}(h:Dn A M0 s at_)(hp:pJ A M0 at_ c x)(hx:A x s=true):Dn A M0 s c:=by
 obtain⟨h0,hc⟩:=hp.par;have hl:=(lG.1 hp.1).1;refine⟨Or.inr hl, .step h0 ⟨hl,fun hA z hz=> ?_⟩ (by rw[hc];exact h.way)⟩;rw[hp.1]at hz;cases hz;exact⟨hA.2 _ _ hx,fun j y hj he hy=>hp.least hA hj (he.trans hc) hy⟩
theorem Dn.stop{M0:List ι}{s x:ι}(hp:pJ A M0 at_ c x)(hx:A x s=false):oh A M0 s at_:=by
 intro hA j y hj he hy;exact hA.1 _ _ _ hx (hp.least hA hj he hy)
theorem Dn.none{M0:List ι}{s:ι}(h:M0.length<=2*at_+1):oh A M0 s at_:=by
 intro _ j y hj he hy;have hl:=(lG.1 hy).1;rcases(Bl hj).1 he with e|e<;>omega
structure jD(A:ι->ι->Bool)(M0:List ι)(s:ι)(M:List ι)(i:Nat)(mv:ι):Prop where
 way:Wy (QD A M0 s) i 0
 len:M.length=M0.length
 OM:i<M0.length
 old:∀j,j<=2*i->M[j]? =M0[j]?
 perm:(mv::M).Perm (s::M0)
 hp:Am A->bX A M0->(∀j a b,0<j->j≠i->(M.set i mv)[j]? =some a->(M.set i mv)[par j]? =some b->A a b=false)/\(0<i->∀y,M[i]? =some y->A mv y=false)
theorem jD.init{M0:List ι}{s:ι}(h:Dn A M0 s at_)(he:oh A M0 s at_)(hm:0<M0.length):jD A M0 s M0 at_ s:=by
 have hlt:at_<M0.length:=by rcases h.lt with h|h<;>omega
 refine⟨h.way,rfl,hlt,fun _ _=>rfl,List.Perm.refl _,fun hA hH=>⟨fun j a b hj hne ha hb=> ?_,fun h0 y hy=> ?_⟩⟩
 ·rw[gX (Ne.symm hne)]at ha;by_cases e:par j=at_
  ·rw[e,List.getElem?_set_self hlt]at hb;cases hb;exact he hA j a hj e ha
  ·rw[gX (Ne.symm e)]at hb;exact hH j a b hj ha hb
 ·exact((h.way.next h0).2.1.2 hA y hy).1
theorem jD.step{M0:List ι}{s mv:ι}{i:Nat}{M:List ι}(h:jD A M0 s M i mv)(h0:0<i):∃y,M[i]? =some y/\jD A M0 s (M.set i mv) (par i) y:=by
 obtain⟨_,hq,hw⟩:=h.way.next h0;have hp:=eZ h0;have hil:i<M.length:=by rw[h.len];exact h.OM
 obtain⟨y,hy⟩:∃y,M[i]? =some y:=⟨M[i],by rw[pW]⟩;have hy0:M0[i]? =some y:=by rw[<-h.old i (by omega)];exact hy
 have hpp:2*par i+1<=i:=by unfold par;omega
 refine⟨y,hy,hw,by rw[lZ];exact h.len,by have:=h.OM;omega,fun j hj=> ?_,(set_perm mv hy).trans h.perm,fun hA hH=> ?_⟩
 ·rw[gX (by omega)];exact h.old j (by omega)
 ·obtain⟨H1,H2⟩:=h.hp hA hH;have hpl:par i<(M.set i mv).length:=by rw[lZ];omega
  have ep:((M.set i mv).set (par i) y)[par i]? =some y:=by rw[List.getElem?_set_self hpl]
  have eo:∀j,j≠par i->((M.set i mv).set (par i) y)[j]? =(M.set i mv)[j]? :=fun j h1=>gX (Ne.symm h1);refine⟨fun j a b hj hne ha hb=> ?_,fun hp0 z hz=> ?_⟩
  ·rw[eo j hne]at ha;by_cases h1:par j=par i
   ·rw[h1,ep]at hb;cases hb;by_cases hji:j=i
    ·subst hji;rw[List.getElem?_set_self hil]at ha;cases ha;exact H2 h0 y hy
    ·have hj2:j<=2*i:=by
       rcases(Bl hj).1 h1 with e|e<;>omega
     rw[gX (Ne.symm hji),h.old j hj2]at ha;exact(hq.2 hA y hy0).2 j a hj h1 ha
   ·rw[eo _ h1]at hb;by_cases hji:j=i
    ·subst hji;exact absurd rfl h1
    ·exact H1 j a b hj hji ha hb
  ·rw[gX (by omega),h.old _ (by omega)]at hz;exact hH i y z h0 hy0 hz
theorem jD.done{M0:List ι}{s mv:ι}{M:List ι}(h:jD A M0 s M 0 mv):(∃t,M0[0]? =some t/\(t::M.set 0 mv).Perm (s::M0))/\(Am A->bX A M0->bX A (M.set 0 mv)):=by
 refine⟨?_,fun hA hH j a b hj ha hb=>(h.hp hA hH).1 j a b hj (by omega) ha hb⟩;have hl:=h.OM;obtain⟨t,ht⟩:∃t,M0[0]? =some t:=⟨M0[0],by rw[pW]⟩;exact⟨t,ht,(set_perm mv ((h.old 0 (by omega)).trans ht)).trans h.perm⟩
theorem bX.take{L:List ι}(h:bX A L)(n:Nat):bX A (L.take n):=by
 intro i x y h0 hx hy;rw[List.getElem?_take]at hx hy;split at hx
 ·split at hy
  ·exact h i x y h0 hx hy
  ·cases hy
 ·cases hx
end Hp
namespace Hc
open Go.RowKit Go.Sort Hp
attribute[local go_sem ↓]wp_at_zero wp_at_succ
abbrev Th:=Int×Pt.ai×Int
abbrev tv(a:Th):Value:= .agg #[.int .i64 a.1, .int .u64 a.2.1.1.1, .int .u64 a.2.1.1.2.1, .int .u64 a.2.1.1.2.2, .int .i64 a.2.2]
abbrev It:=Th×Nat
abbrev iv(x:It):Value:= .agg #[.int .i64 x.1.1, .int .u64 x.1.2.1.1.1, .int .u64 x.1.2.1.1.2.1, .int .u64 x.1.2.1.1.2.2, .int .i64 x.1.2.2, .int .u64 (x.2:Nat)]
def EI:El It where
 k:=6
 enc x:=[.int .i64 x.1.1, .int .u64 x.1.2.1.1.1, .int .u64 x.1.2.1.1.2.1, .int .u64 x.1.2.1.1.2.2, .int .i64 x.1.2.2, .int .u64 (x.2:Nat)]
 len _:=rfl
 one x u hu:=by
  simp at hu;rcases hu with rfl|rfl|rfl|rfl|rfl|rfl<;>rfl
theorem gP{ts:List It}(h:Ls EI w v ts){x:It}(hj:ts[j]? =some x):
    ∃b off c,v= .slice (some ⟨b,off,none⟩) ts.length c/\b<w.heap.size/\w.cell? ⟨b,off+j*6,none⟩=some (.int .i64 x.1.1)/\w.cell? ⟨b,off+j*6+1,none⟩=some (.int .u64 x.1.2.1.1.1)/\w.cell? ⟨b,off+j*6+2,none⟩=some (.int .u64 x.1.2.1.1.2.1)/\w.cell? ⟨b,off+j*6+3,none⟩=some (.int .u64 x.1.2.1.1.2.2)/\w.cell? ⟨b,off+j*6+4,none⟩=some (.int .i64 x.1.2.2)/\w.cell? ⟨b,off+j*6+5,none⟩=some (.int .u64 (x.2:Nat)):=by
 obtain⟨b,off,c,hv,hb,hc⟩:=h.get hj;exact⟨b,off,c,hv,hb,hc 0 _ (by decide) rfl,hc 1 _ (by decide) rfl,hc 2 _ (by decide) rfl,hc 3 _ (by decide) rfl,hc 4 _ (by decide) rfl,hc 5 _ (by decide) rfl⟩
abbrev fv(ff:Value):Value:= .func (.func 86) #[ff] #[]
structure dY(K:World->Prop)(V:Th->Prop)(ff:Value)(r:Th->Th->Bool):Prop where
 enter:∀args w,(callFunc 86 args).run Tryz.prog w= .ok (.enter 86 args) w
 calls:∀(a b:Th) (W:World),V a->V b->K W->Calls Tryz.prog 86 #[ff,tv a,tv b] W fun e w'=>e= .returned (.bool (r a b))/\Gr W w'
 gr:∀W W',K W->Gr W W'->K W'
def aU(r:Th->Th->Bool)(a b:It):Bool:=if a.2<b.2 then !r b.1 a.1 else r a.1 b.1
structure Hb(w:World)(hb:Nat)(ff:Value)(v:Value)(L:List It)(np:Nat):Prop where
 blk:w.heap[hb]? =some (.cells #[fv ff,v, .int .u64 (np:Nat)] 249 (0,0))
 own:w.ownsRow 0 251 6 v L.length (fl EI L)
 off:v.ownBlock≠some hb
section
variable {w w':World} {hb np:Nat} {ff:Value} {v:Value} {L:List It}
theorem Hb.lt(h:Hb w hb ff v L np):hb<w.heap.size:=(aG.1 h.blk).1
theorem Hb.c0(h:Hb w hb ff v L np):w.cell? ⟨hb,0,none⟩=some (fv ff):=by simp[World.cell?,h.blk]
theorem Hb.c1(h:Hb w hb ff v L np):w.cell? ⟨hb,1,none⟩=some v:=by simp[World.cell?,h.blk]
theorem Hb.c2(h:Hb w hb ff v L np):w.cell? ⟨hb,2,none⟩=some (.int .u64 (np:Nat)):=by simp[World.cell?,h.blk]
theorem Hb.fz(h:Hb w hb ff v L np)(o:Nat):w.frozen? ⟨hb,o,none⟩=false:=by simp[World.frozen?,h.blk]
theorem Hb.qC(h:Hb w hb ff v L np):Ls EI w v L:=aH (E:=EI) h.own
theorem Hb.row(h:Hb w hb ff v L np):∀k,v.ownBlock=some k->k<w.heap.size:=fun k hk=>(h.own.lt k hk).2
theorem Hb.kp(h:Hb w hb ff v L np)(hk:Kp S w w')(h1:¬S hb)(h2:∀k,v.ownBlock=some k->¬S k):Hb w' hb ff v L np:=
 ⟨(hk.block hb h.lt h1).trans h.blk,av hk h.own h2,h.off⟩
theorem Hb.below(h:Hb w hb ff v L np)(hb':Below w.heap.size w w'):Hb w' hb ff v L np:=h.kp (S:=fun _=>False) (Kp.of_below hb') (fun h=>h) (fun _ _ h=>h)
theorem Hb.gr(h:Hb w hb ff v L np)(hg:Gr w w'):Hb w' hb ff v L np:=h.below hg.below
end
theorem lT{n:Value}(h:w.heap[hb]? =some (.cells #[fv ff,v,n] 249 (0,0))):
    (∀v2,(w.setCell ⟨hb,1,none⟩ v2).heap[hb]? =some (.cells #[fv ff,v2,n] 249 (0,0))/\Kp (fun k=>k=hb) w (w.setCell ⟨hb,1,none⟩ v2))/\(∀n2,(w.setCell ⟨hb,2,none⟩ n2).heap[hb]? =some (.cells #[fv ff,v,n2] 249 (0,0))/\Kp (fun k=>k=hb) w (w.setCell ⟨hb,2,none⟩ n2)):=by
 refine⟨fun v2=> ?_,fun n2=> ?_⟩
 ·have e:=setCell_eq_setRow w hb 1 _ _ _ v2 h;rw[e];exact⟨by rw[setRow_heap w hb _ _ _ _ h];simp,rfl,rfl,rfl,by simp[World.setRow],fun k _ hne=>setRow_other w hb k _ (by omega)⟩
 ·have e:=setCell_eq_setRow w hb 2 _ _ _ n2 h;rw[e];exact⟨by rw[setRow_heap w hb _ _ _ _ h];simp,rfl,rfl,rfl,by simp[World.setRow],fun k _ hne=>setRow_other w hb k _ (by omega)⟩
theorem Hb.Dt{np:Nat}{L:List It}(h:Hb w hb ff v L np)(n:Nat):Hb (w.setCell ⟨hb,2,none⟩ (.int .u64 n)) hb ff v L n/\Kp (fun k=>k=hb) w (w.setCell ⟨hb,2,none⟩ (.int .u64 n)):=by
 obtain⟨h1,h2⟩:=(lT h.blk).2 (.int .u64 n);exact⟨⟨h1,av h2 h.own (fun k hk e=>h.off (e ▸ hk)),h.off⟩,h2⟩
theorem bZ{q:Nat}(u:Value)(h:w.ownsRow 0 e s (.slice (some ⟨g,0,none⟩) n cap) n xs):
    (w.setCell ⟨g,q,none⟩ u).ownsRow 0 e s (.slice (some ⟨g,0,none⟩) n cap) n (xs.set q u)/\Kp (fun k=>k=g) w (w.setCell ⟨g,q,none⟩ u):=by
 obtain⟨h1,⟨h0,_⟩|⟨g',cap',cur,hv,hg,hh,h2,h3,h4,h5⟩⟩:=h
 ·cases h0
 ·cases hv;have e1:=setCell_eq_setRow w g q _ _ _ u hh;have hk1:Kp (fun k=>k=g) w (w.setCell ⟨g,q,none⟩ u):=by
   rw[e1];exact⟨rfl,rfl,rfl,by simp[World.setRow],fun q _ hne=>setRow_other _ g q _ (by omega)⟩
  refine⟨⟨by simpa using h1,Or.inr ⟨g,cap,_,rfl,hg,by rw[e1];exact setRow_heap _ g _ _ _ _ hh,h2,h3, ?_, ?_⟩⟩,hk1⟩
  ·simp[h4]
  ·rw[Array.toList_setIfInBounds,List.take_set,h5]
theorem Ca(L:List It)(i:Nat)(x:It):(((((((fl EI L).set (i*6) (.int .i64 x.1.1)).set (i*6+1) (.int .u64 x.1.2.1.1.1)).set (i*6+2) (.int .u64 x.1.2.1.1.2.1)).set (i*6+3) (.int .u64 x.1.2.1.1.2.2)).set (i*6+4) (.int .i64 x.1.2.2)).set (i*6+5) (.int .u64 (x.2:Nat)))=fl EI (L.set i x):=by
 induction L generalizing i with
 | nil => simp[fl]
 | cons y L ih=>
  rw[aO];cases i with
  | zero => simp[EI,fl]
  | succ i=>
   rw[List.set_cons_succ,aO,<-ih i,show(i+1)*6=i*6+6 by omega];simp[EI]
theorem fH{N:Nat}{L:List It}(x:It)(h:w.ownsRow 0 251 6 (.slice (some ⟨g,0,none⟩) N cap) N (fl EI L)):((((((w.setCell ⟨g,i*6,none⟩ (.int .i64 x.1.1)).setCell ⟨g,i*6+1,none⟩ (.int .u64 x.1.2.1.1.1)).setCell ⟨g,i*6+2,none⟩ (.int .u64 x.1.2.1.1.2.1)).setCell ⟨g,i*6+3,none⟩ (.int .u64 x.1.2.1.1.2.2)).setCell ⟨g,i*6+4,none⟩ (.int .i64 x.1.2.2)).setCell ⟨g,i*6+5,none⟩ (.int .u64 (x.2:Nat))).ownsRow 0 251 6 (.slice (some ⟨g,0,none⟩) N cap) N (fl EI (L.set i x))/\Kp (fun k=>k=g) w ((((((w.setCell ⟨g,i*6,none⟩ (.int .i64 x.1.1)).setCell ⟨g,i*6+1,none⟩ (.int .u64 x.1.2.1.1.1)).setCell ⟨g,i*6+2,none⟩ (.int .u64 x.1.2.1.1.2.1)).setCell ⟨g,i*6+3,none⟩ (.int .u64 x.1.2.1.1.2.2)).setCell ⟨g,i*6+4,none⟩ (.int .i64 x.1.2.2)).setCell ⟨g,i*6+5,none⟩ (.int .u64 (x.2:Nat))):=by
 obtain⟨h0,m0⟩:=bZ (q:=i*6) (.int .i64 x.1.1) h;obtain⟨h1,m1⟩:=bZ (q:=i*6+1) (.int .u64 x.1.2.1.1.1) h0;obtain⟨h2,m2⟩:=bZ (q:=i*6+2) (.int .u64 x.1.2.1.1.2.1) h1;obtain⟨h3,m3⟩:=bZ (q:=i*6+3) (.int .u64 x.1.2.1.1.2.2) h2;obtain⟨h4,m4⟩:=bZ (q:=i*6+4) (.int .i64 x.1.2.2) h3;obtain⟨h5,m5⟩:=bZ (q:=i*6+5) (.int .u64 (x.2:Nat)) h4;refine⟨?_,(((((m0.trans m1 (fun _ _ h=>h)).trans m2 (fun _ _ h=>h)).trans m3 (fun _ _ h=>h)).trans m4 (fun _ _ h=>h)).trans m5 (fun _ _ h=>h))⟩;rw[<-Ca];exact h5
def dW(hb:Nat)(v v':Value)(w w':World):Prop:=Kp (fun k=>k=hb\/v.ownBlock=some k) w w'/\∀g,v'.ownBlock=some g->v.ownBlock=some g\/w.heap.size<=g
theorem gy(i:Nat)(h0:0<i)(hl:i<9223372036854775807)(w:World):Calls Tryz.prog 147 #[.int .i64 i] w fun e w'=>e= .returned (.int .i64 (par i:Nat))/\w'=w:=by
 have hz:((i:Int)-1).tdiv 2=(par i:Nat):=by
  unfold par;rw[Int.tdiv_eq_ediv_of_nonneg (by omega)];omega
 go_enter Tryz.func147,Tryz.ntmps147;go_wp2;go_ret;refine⟨?_,rfl⟩;have hw:wrap64 (par i:Nat)=(par i:Nat):=by unfold wrap64;have:=eZ h0;omega
 show Ending.returned (Value.int _ (wrap64 (par i:Nat)))=_;rw[hw]
theorem kP(ff:Value)(r:Th->Th->Bool){K:World->Prop}{V:Th->Prop}(hF:dY K V ff r)(x y:It)(hx:V x.1)(hy:V y.1)(hb:Nat)(w:World)(hk:K w)(hlt:hb<w.heap.size)(cf:w.cell? ⟨hb,0,none⟩=some (fv ff)):
    Calls Tryz.prog 209 #[.pointer (some ⟨hb,0,none⟩),iv x,iv y] w fun e w'=>e= .returned (.bool (aU r x y))/\Gr w w':=by
 have he:=hF.enter;have hc1:=fun W=>hF.calls y.1 x.1 W hy hx;have hc2:=fun W=>hF.calls x.1 y.1 W hx hy;have YA:Hid (∀W,Gr w W->K W):=fun W g=>hF.gr _ _ hk g;have hm:Tryz.prog.follows .mixedOrders=true:=by kernel_rfl
 obtain⟨W1,hW1⟩:=aC ((w.alloc (.cells #[.int .i64 x.1.1, .int .u64 x.1.2.1.1.1, .int .u64 x.1.2.1.1.2.1, .int .u64 x.1.2.1.1.2.2, .int .i64 x.1.2.2, .int .u64 (x.2:Nat)] 251)).alloc (.cells #[.int .i64 y.1.1, .int .u64 y.1.2.1.1.1, .int .u64 y.1.2.1.1.2.1, .int .u64 y.1.2.1.1.2.2, .int .i64 y.1.2.2, .int .u64 (y.2:Nat)] 251));have G1:Gr w W1:=by rw[hW1];exact((Gr.refl _).alloc _).alloc _
 have hz:w.heap.size+1<W1.heap.size:=by rw[hW1];simp
 obtain⟨nb,hnb⟩:=aC (w.heap.size);have k0:=cell_grown (a:=⟨hb,0,none⟩) (nU hlt (Nat.lt_of_succ_lt hz)) ((G1.cell hlt).trans cf);obtain⟨p0,p1,p2,p3,p4,p5⟩:W1.cell? ⟨nb,0,none⟩=some (.int .i64 x.1.1)/\W1.cell? ⟨nb,1,none⟩=some (.int .u64 x.1.2.1.1.1)/\W1.cell? ⟨nb,2,none⟩=some (.int .u64 x.1.2.1.1.2.1)/\W1.cell? ⟨nb,3,none⟩=some (.int .u64 x.1.2.1.1.2.2)/\W1.cell? ⟨nb,4,none⟩=some (.int .i64 x.1.2.2)/\W1.cell? ⟨nb,5,none⟩=some (.int .u64 (x.2:Nat)):=by rw[hW1,hnb];simp
 obtain⟨q0,q1,q2,q3,q4,q5⟩:W1.cell? ⟨nb+1,0,none⟩=some (.int .i64 y.1.1)/\W1.cell? ⟨nb+1,1,none⟩=some (.int .u64 y.1.2.1.1.1)/\W1.cell? ⟨nb+1,2,none⟩=some (.int .u64 y.1.2.1.1.2.1)/\W1.cell? ⟨nb+1,3,none⟩=some (.int .u64 y.1.2.1.1.2.2)/\W1.cell? ⟨nb+1,4,none⟩=some (.int .i64 y.1.2.2)/\W1.cell? ⟨nb+1,5,none⟩=some (.int .u64 (y.2:Nat)):=by rw[hW1,hnb];simp
 have k10:=cell_grown (w:=W1) (a:=⟨nb,0,none⟩) (by rw[hnb];exact Nat.lt_of_succ_lt hz) p0;have k11:=cell_grown (w:=W1) (a:=⟨nb,1,none⟩) (by rw[hnb];exact Nat.lt_of_succ_lt hz) p1;have k12:=cell_grown (w:=W1) (a:=⟨nb,2,none⟩) (by rw[hnb];exact Nat.lt_of_succ_lt hz) p2;have k13:=cell_grown (w:=W1) (a:=⟨nb,3,none⟩) (by rw[hnb];exact Nat.lt_of_succ_lt hz) p3;have k14:=cell_grown (w:=W1) (a:=⟨nb,4,none⟩) (by rw[hnb];exact Nat.lt_of_succ_lt hz) p4;have k15:=cell_grown (w:=W1) (a:=⟨nb,5,none⟩) (by rw[hnb];exact Nat.lt_of_succ_lt hz) p5;have k20:=cell_grown (w:=W1) (a:=⟨nb+1,0,none⟩) (by rw[hnb];exact hz) q0;have k21:=cell_grown (w:=W1) (a:=⟨nb+1,1,none⟩) (by rw[hnb];exact hz) q1;have k22:=cell_grown (w:=W1) (a:=⟨nb+1,2,none⟩) (by rw[hnb];exact hz) q2;have k23:=cell_grown (w:=W1) (a:=⟨nb+1,3,none⟩) (by rw[hnb];exact hz) q3;have k24:=cell_grown (w:=W1) (a:=⟨nb+1,4,none⟩) (by rw[hnb];exact hz) q4;have k25:=cell_grown (w:=W1) (a:=⟨nb+1,5,none⟩) (by rw[hnb];exact hz) q5;by_cases hlt2:x.2<y.2
 ·have hlz:(x.2:Int)<(y.2:Int):=by omega
  have HA:Hid (aU r x y= !r y.1 x.1):=by unfold aU;rw[if_pos hlt2];rfl
  rw[HA.o];generalize r y.1 x.1=rr at hc1⊢;clear hc2 HA;go_enter Tryz.func209,Tryz.ntmps209;go_upto_region 2 with fail;rw[<-hW1,<-hnb];clear hW1 hnb cf;go_quiet_grown (first|(go_at_call 86;refine Calls.grown_of (v:= .bool rr) (hc1 _ (YA.o _ ((G1.drewN _).grown _)))));go_wp2;go_ret;exact⟨rfl,(G1.drewN _).grown _⟩
 ·have hlz:¬(x.2:Int)<(y.2:Int):=by omega
  have HA:Hid (aU r x y=r x.1 y.1):=by unfold aU;rw[if_neg hlt2];rfl
  rw[HA.o];generalize r x.1 y.1=rr at hc2⊢;clear hc1 HA;go_enter Tryz.func209,Tryz.ntmps209;go_upto_region 3 with fail;rw[<-hW1,<-hnb];clear hW1 hnb cf;go_quiet_grown (first|(go_at_call 86;refine Calls.grown_of (v:= .bool rr) (hc2 _ (YA.o _ ((G1.drewN _).grown _)))));go_wp2;go_ret;exact⟨rfl,(G1.drewN _).grown _⟩
end Hc
end Go.Proofs.YtiiefcalkjeieaaGreat
