import Derived.Test.YteekbpokkjjipaaGreatJ1
import Derived.Maps.OwnOps
import Derived.Maps.OwnSet
import Derived.Maps.RangeWalk
import Derived.Maps.Ext
import Derived.WideKeyEntry
namespace Go.Proofs.YteekbpokkjjipaaGreat
section
open Go.RowKit Go.Sort Go.Maps
structure KK(P:Program)(k:TypeId)(K:Type) where
 enc:K->Value
 lit:K->Lit
 law:Keyed P k
 key:∀s,keyOf P k (enc s)=some (lit s)
 inv:∀v l,keyOf P k v=some l->∃s,v=enc s/\l=lit s
 inj:∀s t,lit s=lit t->s=t
abbrev nd(n:Int):DataW Unit:= .lit (.int .i64 n)
section
variable {P:Program} {k e:TypeId} {K:Type} [DecidableEq K]
omit [DecidableEq K]in
theorem KK.isKey(Z:KK P k K)(s:K):WideAt.IsKeyLit (Z.lit s):=Z.law.key (Z.key s)
theorem KK.same(Z:KK P k K)(s t:K):(Z.lit s).sameKey (Z.lit t)=decide (s=t):=by
 have h:=WideAt.sameKey_iff (a:=Z.lit s) (Z.isKey t);by_cases e:s=t
 ·subst e;rw[decide_eq_true rfl];exact h.2 rfl
 ·rw[decide_eq_false e];cases hq:(Z.lit s).sameKey (Z.lit t)with
  | false => rfl
  | true => exact absurd (Z.inj _ _ (h.1 hq)) e
def upd(f:K->Int)(s:K)(v:Int):K->Int:=fun t=>if t=s then v else f t
omit [DecidableEq K]in
theorem upd_same[DecidableEq K](f:K->Int)(s:K)(v:Int):upd f s v s=v:=by simp[upd]
omit [DecidableEq K]in
theorem bX[DecidableEq K](f:K->Int){s t:K}(v:Int)(h:t≠s):upd f s v t=f t:=by simp[upd,h]
def Ta(Z:KK P k K)(e:TypeId)(w:World)(b n:Nat)(f:K->Int):Prop:=
 ∃D:DataW Unit,w.ownsMap P k (plainElem P e) b n D/\(∀s,D.atKey (Z.lit s) (nd 0)=nd (f s))/\∀s,Maps.has D (Z.lit s)=decide (f s≠0)
def oU(f:K->Int)(ks:List K):Prop:=ks.Nodup/\∀s,s∈ks↔f s≠0
variable {Z:KK P k K} {w w':World} {b n:Nat} {f:K->Int} {D:DataW Unit}
omit [DecidableEq K]in
theorem Ta.lt(h:Ta Z e w b n f):b<w.heap.size:=by obtain⟨D,h,_⟩:=h;exact h.lt
omit [DecidableEq K]in
theorem Ta.mono(h:Ta Z e w b n f){m:Nat}(hm:n<=m):Ta Z e w b m f:=by obtain⟨D,h1,h2⟩:=h;exact⟨D,h1.mono hm,h2⟩
omit [DecidableEq K]in
theorem Ta.kept(h:Ta Z e w b n f)(hb:w'.heap[b]? =w.heap[b]?):Ta Z e w' b n f:=by
 obtain⟨D,⟨es,clock,h1,h2⟩,h3⟩:=h;exact⟨D,⟨es,clock,hb.trans h1,h2⟩,h3⟩
omit [DecidableEq K]in
theorem Ta.made(w:World):Ta Z e (w.alloc (.map #[] 0)) w.heap.size 0 fun _=>0:=
 ⟨.map [],World.ownsMap_made _ _ _ _,fun _=>rfl,fun _=>rfl⟩
theorem BH(hD:IsMap D)(h1:∀s,D.atKey (Z.lit s) (nd 0)=nd (f s))(h2:∀s,Maps.has D (Z.lit s)=decide (f s≠0))(s:K)(v:Int)(hv:v≠0) :
    (∀t,(D.put (Z.lit s) (nd v)).atKey (Z.lit t) (nd 0)=nd (upd f s v t))/\∀t,Maps.has (D.put (Z.lit s) (nd v)) (Z.lit t)=decide (upd f s v t≠0):=by
 refine⟨fun t=> ?_,fun t=> ?_⟩
 ·by_cases ht:t=s
  ·subst ht;rw[upd_same];exact atKey_put_same hD (Z.isKey t) _ _
  ·rw[bX _ _ ht,atKey_put_other (fun e=>ht (Z.inj _ _ e))];exact h1 t
 ·by_cases ht:t=s
  ·subst ht;rw[upd_same,has_put_same hD (Z.isKey t)];simp[hv]
  ·rw[bX _ _ ht,has_put_other (fun e=>ht (Z.inj _ _ e))];exact h2 t
theorem CZ(h1:∀s,D.atKey (Z.lit s) (nd 0)=nd (f s))(h2:∀s,Maps.has D (Z.lit s)=decide (f s≠0))(s:K) :
    (∀t,(D.del (Z.lit s)).atKey (Z.lit t) (nd 0)=nd (upd f s 0 t))/\∀t,Maps.has (D.del (Z.lit s)) (Z.lit t)=decide (upd f s 0 t≠0):=by
 refine⟨fun t=> ?_,fun t=> ?_⟩
 ·by_cases ht:t=s
  ·subst ht;rw[upd_same];exact atKey_del_same _
  ·rw[bX _ _ ht,atKey_del_other (fun e=>ht (Z.inj _ _ e))];exact h1 t
 ·by_cases ht:t=s
  ·subst ht;rw[upd_same,has_del_same];simp
  ·rw[bX _ _ ht,has_del_other (fun e=>ht (Z.inj _ _ e))];exact h2 t
def mZ(Z:KK P k K)(D:DataW Unit)(left:Lit->Bool)(ss:List K):Prop:=ss.Nodup/\∀x,x∈ss↔(Maps.has D (Z.lit x)=true/\left (Z.lit x)=false)
omit [DecidableEq K]in
theorem mZ.start(D:DataW Unit):mZ Z D (Maps.has D) []:=⟨List.nodup_nil,fun x=>by cases Maps.has D (Z.lit x)<;>simp⟩
theorem mZ.step{left:Lit->Bool}{ss:List K}(h:mZ Z D left ss){x:K}{y:DataW Unit}(hlk:left (Z.lit x)=true)(hat:∀zd,D.atKey (Z.lit x) zd=y):mZ Z D (fun z=>left z && !z.sameKey (Z.lit x)) (ss++[x]):=by
 have hhas:Maps.has D (Z.lit x)=true:=has_true_of_atKey hat;have hnew:x∉ss:=fun hx=>by have:=((h.2 x).1 hx).2;rw[hlk]at this;cases this
 refine⟨List.nodup_append.2 ⟨h.1,by simp,fun a ha b hb=>by simp at hb;subst hb;exact fun e=>hnew (e ▸ ha)⟩,fun y=> ?_⟩;by_cases hy:y=x
 ·subst hy;simp[hhas,Z.same]
 ·simp[h.2 y,hy,Z.same]
omit [DecidableEq K]in
theorem mZ.sup{left:Lit->Bool}{ss:List K}(h:mZ Z D left ss)(h2:∀s,Maps.has D (Z.lit s)=decide (f s≠0))(hl:∀kl,left kl=false):oU f ss:=
 ⟨h.1,fun s=>by rw[h.2 s,hl,h2];simp⟩
theorem dJ{α:Type}[DecidableEq α]:∀{l m:List α},l.Nodup->(∀x∈l,x∈m)->l.length<=m.length
 | [], _, _, _ => Nat.zero_le _
 | a::l, m, hn, hs => by
  have hn':=List.nodup_cons.1 hn;have h:=dJ (l:=l) (m:=m.erase a) hn'.2 (fun x hx=>(List.mem_erase_of_ne (fun(e:x=a)=>hn'.1 (e ▸ hx))).2 (hs x (List.mem_cons_of_mem _ hx)));have h2:=List.length_erase_of_mem (hs a List.mem_cons_self);have h3:=List.length_pos_of_mem (hs a List.mem_cons_self);simp only[lC];omega
theorem oU.le{ks ms:List K}(h:oU f ks)(hs:∀s,f s≠0->s∈ms):ks.length<=ms.length:=dJ h.1 fun x hx=>hs x ((h.2 x).1 hx)
omit [DecidableEq K]in
theorem oU.perm{ks ms:List K}(h:oU f ks)(h2:oU f ms):ks.Perm ms:=(List.perm_ext_iff_of_nodup h.1 h2.1).2 fun x=>(h.2 x).trans (h2.2 x).symm
omit [DecidableEq K]in
theorem mg(h:w.ownsMap P k (plainElem P e) b n D)(h2:∀s,Maps.has D (Z.lit s)=decide (f s≠0)):∃ks,oU f ks/\ks.length=Maps.size D:=by
 obtain⟨es,hD,hpw,hik⟩:=h.entries Z.law;obtain⟨es',clock,hb,F,_,hD'⟩:=h;have hke:∀p∈es,∃s,p.1=Z.lit s:=fun p hp=>by
  have e1:es=(es'.toList.map (WideElems.rg P k (plainElem P e))).foldr DataW.insert []:=by rw[hD]at hD';simpa using hD'
  rw[e1]at hp;obtain⟨v,hv⟩:=fit_keys F p (mem_sorted.1 hp);obtain⟨s,_,hs⟩:=Z.inv v p.1 hv;exact⟨s,hs⟩
 subst hD;clear hD';have key:∀l:List (Lit×DataW Unit),(∀p∈l,∃s,p.1=Z.lit s)->∃ks:List K,l.map (·.1)=ks.map Z.lit:=by
  intro l
  induction l with
  | nil => exact fun _=>⟨[],rfl⟩
  | cons p l ih=>
   intro hl;obtain⟨s,hs⟩:=hl p List.mem_cons_self;obtain⟨ks,hks⟩:=ih fun q hq=>hl q (List.mem_cons_of_mem _ hq);exact⟨s::ks,by simp[hs,hks]⟩
 obtain⟨ks,hks⟩:=key es hke;refine⟨ks,⟨?_,fun s=> ?_⟩, ?_⟩
 ·have h1:(es.map (·.1)).Pairwise (·≠·):=List.pairwise_map.2 hpw;rw[hks,List.pairwise_map]at h1;exact h1.imp fun {a b} hne e=>hne (by rw[e])
 ·have h3:=h2 s;rw[has_eq]at h3;constructor
  ·intro hs;have hm:Z.lit s∈es.map (·.1):=(by rw[hks];exact List.mem_map_of_mem hs);obtain⟨p,hp,hpe⟩:=mM.1 hm;have:es.any (fun p=>p.1.sameKey (Z.lit s))=true:=List.any_eq_true.2 ⟨p,hp,by rw[hpe];exact WideAt.sameKey_self (Z.isKey s)⟩;rw[this]at h3;simpa using h3.symm
  ·intro hf;rw[decide_eq_true hf]at h3;obtain⟨p,hp,hq⟩:=List.any_eq_true.1 h3;have hpe:=(WideAt.sameKey_iff (Z.isKey s)).1 hq;have hm:p.1∈es.map (·.1):=List.mem_map_of_mem hp;rw[hks,hpe]at hm;obtain⟨t,ht,hte⟩:=mM.1 hm;exact Z.inj _ _ hte ▸ ht
 ·have:=congrArg List.length hks;simpa[Maps.size]using this.symm
end
end
section
open Go.RowKit Go.Sort Go.Maps Go.WideMaps Go.WideElems
open Go.ChangeMaps (setBlock heap_setBlock_same modify_eq_set)
section
variable {P:Program} {k e t:TypeId} {K:Type}
def Mq(Z:KK P k K)(e:TypeId)(w:World)(b n:Nat)(f:K->Int)(ks:List K):Prop:=
 ∃D:DataW Unit,w.ownsMap P k (plainElem P e) b n D/\(∀s,D.atKey (Z.lit s) (nd 0)=nd (f s))/\∀s,Maps.has D (Z.lit s)=true↔s∈ks
variable {Z:KK P k K} {w w':World} {b n:Nat} {f:K->Int} {ks:List K} {D:DataW Unit}
theorem Mq.lt(h:Mq Z e w b n f ks):b<w.heap.size:=by obtain⟨D,h,_⟩:=h;exact h.lt
theorem Mq.kept(h:Mq Z e w b n f ks)(hb:w'.heap[b]? =w.heap[b]?):Mq Z e w' b n f ks:=by
 obtain⟨D,⟨es,clock,h1,h2⟩,h3⟩:=h;exact⟨D,⟨es,clock,hb.trans h1,h2⟩,h3⟩
theorem Mq.made(w:World):Mq Z e (w.alloc (.map #[] 0)) w.heap.size 0 (fun _=>0) []:=
 ⟨.map [],World.ownsMap_made _ _ _ _,fun _=>rfl,fun s=>by rw[show Maps.has (DataW.map (H:=Unit) []) (Z.lit s)=false from rfl];simp⟩
variable [DecidableEq K]
theorem xU(hD:IsMap D)(h1:∀s,D.atKey (Z.lit s) (nd 0)=nd (f s))(h2:∀s,Maps.has D (Z.lit s)=true↔s∈ks)(s:K)(v:Int) :
    (∀t,(D.put (Z.lit s) (nd v)).atKey (Z.lit t) (nd 0)=nd (upd f s v t))/\∀t,Maps.has (D.put (Z.lit s) (nd v)) (Z.lit t)=true↔t∈ks++[s]:=by
 refine⟨fun t=> ?_,fun t=> ?_⟩
 ·by_cases ht:t=s
  ·subst ht;rw[upd_same];exact atKey_put_same hD (Z.isKey t) _ _
  ·rw[bX _ _ ht,atKey_put_other (fun e=>ht (Z.inj _ _ e))];exact h1 t
 ·by_cases ht:t=s
  ·subst ht;rw[has_put_same hD (Z.isKey t)];simp
  ·rw[has_put_other (fun e=>ht (Z.inj _ _ e)),h2 t];simp[ht]
theorem FU{R:Value->Option (DataW Unit×List MemPlace)}{es:Array MapEntry}{clock:Nat}(L:KeyLaw P k)(ht:P.underlying t=some (.map k e)){z:Value}(hz:∀u:World,(zeroValue e).run P u= .ok z u)(hb:w.heap[b]? =some (.map es clock))(F:Fit P k R es clock)
    {key:Value} {kl:Lit} (hkey:keyOf P k key=some kl) :
    ∃(v0:Value) (st:Nat) (w1:World),(Instr.mapEntry t (.map (some b)) key).run P w= .ok (.tuple #[v0,goInt st]) w1/\
     (w1=w\/((Instr.mapUpdate t (.map (some b)) key z).run P w= .ok () w1/\(Instr.lookup t (.map (some b)) key false).run P w= .ok z w))/\
     ∀val:Value,∃w2,(Instr.entryStore t (.map (some b)) (goInt st) val).run P w1= .ok () w2/\(Instr.mapUpdate t (.map (some b)) key val).run P w= .ok () w2:=by
 obtain⟨v0,st,es1,clock1,hE,_,hS⟩:=entry_then_store L ht hz hb F hkey;refine⟨v0,st,_,hE, ?_,fun val=> ?_⟩
 ·rcases L.find w hkey es.toList F.keys with⟨h1,h2⟩|⟨j,e0,h1,h2,h3⟩
  ·right
   have hx:(Instr.mapEntry t (.map (some b)) key).run P w= .ok (.tuple #[z,goInt clock]) (setBlock w b (.map (es.push ⟨key,z,clock⟩) (clock+1))):=by
    simp[Instr.mapEntry,run_underlying ht,MapKept.run_getObj_map hb,L.check w false hkey,h1,hz,MapKept.run_setObj_map _ hb,Result.andThen,setBlock]
   rw[hx]at hE;injection hE with _ hw;rw[<-hw];refine⟨?_, ?_⟩
   ·simp[Instr.mapUpdate,run_underlying ht,MapKept.run_getObj_map hb,L.check w false hkey,h1,MapKept.run_setObj_map _ hb,Result.andThen,setBlock]
   ·simp[Instr.lookup,run_underlying ht,MapKept.run_getObj_map hb,L.check w es.isEmpty hkey,h1,hz,Result.andThen]
  ·left
   have hj:es[j]? =some e0:=(by simpa using h2);have hsame:es.modify j (fun e=>{ e with key:=key })=es:=by
    apply Array.ext';rw[Array.toList_modify,modify_eq_set _ _ _ _ h2];have:({ e0 with key:=key }:MapEntry)=e0:=(by rw[<-h3]);rw[this];exact set_self _ _ _ h2
   have hx:(Instr.mapEntry t (.map (some b)) key).run P w= .ok (.tuple #[e0.val,goInt e0.born]) (setBlock w b (.map es clock)):=by
    simp[Instr.mapEntry,run_underlying ht,MapKept.run_getObj_map hb,L.check w false hkey,h1,hj,h3,L.stays w hkey,hsame,MapKept.run_setObj_map _ hb,Result.andThen,setBlock]
   rw[hx]at hE;injection hE with _ hw;rw[<-hw];obtain⟨hlt,hval⟩:=aG.1 hb;have:w.heap.setIfInBounds b (.map es clock)=w.heap:=by
    rw[<-hval];apply Array.ext';rw[Array.toList_setIfInBounds,set_self];simp
   unfold setBlock;rw[this]
 ·obtain⟨es',clock',h1,h2⟩:=hS (setBlock w b (.map es1 clock1)) val (heap_setBlock_same hb _);refine⟨_,h1, ?_⟩;rw[h2];simp[setBlock]
theorem Mq.bump(h:Mq Z e w b n f ks)(L:KeyLaw P k)(ht:P.underlying t=some (.map k e))(he:P.underlying e=some (.int .i64))(hz:∀u:World,(zeroValue e).run P u= .ok (.int .i64 0) u)(hn:n<maxLen)(x:K)(v:Int)(hv:(Lit.int .i64 v).wf=true) :
    ∃(v0:Value) (st:Nat) (w1 w2:World),(Instr.lookup t (.map (some b)) (Z.enc x) false).run P w= .ok (.int .i64 (f x)) w/\(Instr.mapEntry t (.map (some b)) (Z.enc x)).run P w= .ok (.tuple #[v0,goInt st]) w1/\
     (Instr.lookup t (.map (some b)) (Z.enc x) false).run P w1= .ok (.int .i64 (f x)) w1/\(Instr.entryStore t (.map (some b)) (goInt st) (.int .i64 v)).run P w1= .ok () w2/\
     Mq Z e w2 b (n+1) (upd f x v) (ks++[x])/\w.grownBy w1 (some b)/\w.grownBy w2 (some b):=by
 obtain⟨D,hown,h1,h2⟩:=h;have hx:=h1 x;obtain⟨c,hlk,hat,_⟩:=hown.lookup_int Z.law ht he (hz w) (Z.key x);have e0:c=f x:=by
  rw[hx]at hat;simpa using hat.symm
 subst e0;obtain⟨es,clock,hb,F,hs,hD⟩:=id hown;obtain⟨v0,st,w1,hE,hw1,hS⟩:=FU L ht hz hb F (Z.key x);obtain⟨w2,hst,hup⟩:=hS (.int .i64 v);obtain⟨w2',Yi,hown2,UO⟩:=hown.store Z.law ht hn (Z.key x) (plainElem_int he hv);rw[hup]at Yi;injection Yi with _ hw;subst hw;have ht2:=xU hown.isMap h1 h2 x v;refine⟨v0,st,w1,w2,hlk,hE, ?_,hst,⟨_,hown2,ht2.1,ht2.2⟩, ?_,UO.grown⟩
 ·rcases hw1 with rfl|⟨hw1,hlz⟩
  ·exact hlk
  ·obtain⟨w1',MW,hown1,hturn1⟩:=hown.store Z.law ht hn (Z.key x) (plainElem_int (a:=0) he (by decide));rw[hw1]at MW;obtain⟨-,rfl⟩:=Result.ok.inj MW;obtain⟨c,aaD,YT,_⟩:=hown1.lookup_int Z.law ht he (hz w1) (Z.key x);have hp:=(xU hown.isMap h1 h2 x 0).1 x;rw[upd_same]at hp;rw[hp]at YT;have hc0:c=0:=(by simpa using YT.symm);rw[hlk]at hlz;have hv0:=(Result.ok.inj hlz).1;rw[hv0];subst hc0;exact aaD
 ·rcases hw1 with rfl|⟨hw1,_⟩
  ·exact⟨rfl,rfl,rfl,nR _,fun _ _ _=>rfl⟩
  ·obtain⟨w1',MW,hown1,hturn1⟩:=hown.store Z.law ht hn (Z.key x) (plainElem_int (a:=0) he (by decide));rw[hw1]at MW;obtain⟨-,rfl⟩:=Result.ok.inj MW;exact hturn1.grown
end
end
end Go.Proofs.YteekbpokkjjipaaGreat
