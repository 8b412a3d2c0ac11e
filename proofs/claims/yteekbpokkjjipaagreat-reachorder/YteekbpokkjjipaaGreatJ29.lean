import Derived.Test.YteekbpokkjjipaaGreatJ28
variable{N i j p T np n g:Nat}{β:Type}{w W:Go.World}
set_option maxHeartbeats 4000000
set_option maxRecDepth 100000
namespace Go.Proofs.YteekbpokkjjipaaGreat
namespace Pt
section
variable {κ:Type} [DecidableEq κ]
def uW(c:κ×Int):List (κ×Int)->List (κ×Int)
 | [] => [c]
 | d::l => if d.1=c.1 then(d.1,d.2+c.2)::l else d::uW c l
theorem IX(c:κ×Int)(l:List (κ×Int))(k:κ):eP (uW c l) k=eP l k+if c.1=k then c.2 else 0:=by
 induction l with
 | nil => rw[show uW c []=[c]from rfl,ek];omega
 | cons d l ih=>
  unfold uW;split
  ·rename_i e;rw[ek,ek,e];simp only;by_cases h:c.1=k
   ·rw[if_pos h,if_pos h,if_pos h];omega
   ·rw[if_neg h,if_neg h,if_neg h];omega
  ·rw[ek,ek,ih];omega
theorem M6(c:κ×Int)(l:List (κ×Int))(k:κ):k∈(uW c l).map Prod.fst↔k=c.1\/k∈l.map Prod.fst:=by
 induction l with
 | nil => simp[uW]
 | cons d l ih=>
  unfold uW;split
  ·rename_i e;rw[List.map_cons,eO,List.map_cons,eO];simp only;constructor
   ·exact fun h=> .inr h
   ·rintro(h|h)
    ·exact .inl (by rw[h,e])
    ·exact h
  ·rw[List.map_cons,eO,ih,List.map_cons,eO];constructor
   ·rintro(h|h|h)
    ·exact .inr (.inl h)
    ·exact .inl h
    ·exact .inr (.inr h)
   ·rintro(h|h|h)
    ·exact .inr (.inl h)
    ·exact .inl h
    ·exact .inr (.inr h)
theorem J3(c:κ×Int){l:List (κ×Int)}(h:(l.map Prod.fst).Nodup):((uW c l).map Prod.fst).Nodup:=by
 induction l with
 | nil => simp[uW]
 | cons d l ih=>
  rw[List.map_cons,List.nodup_cons]at h;unfold uW;split
  ·rw[List.map_cons];exact List.nodup_cons.2 h
  ·rename_i e;rw[List.map_cons,List.nodup_cons,M6];exact⟨fun x=>x.elim e h.1,ih h.2⟩
theorem IY(c:κ×Int)(l:List (κ×Int)):(uW c l).length<=l.length+1:=by
 induction l with
 | nil => simp[uW]
 | cons d l ih=>
  unfold uW;split
  ·rw[lC,lC];omega
  ·rw[lC,lC];omega
theorem M7{c:κ×Int}{l:List (κ×Int)}{d:κ×Int}(hi:l[i]? =some d)(hd:d.1=c.1)(h:∀(j:Nat) (e:κ×Int),j<i->l[j]? =some e->e.1≠c.1):uW c l=l.set i (d.1,d.2+c.2):=by
 induction l generalizing i with
 | nil => cases hi
 | cons a l ih=>
  cases i with
  | zero=>
   have:a=d:=(by simpa using hi);subst this;unfold uW;rw[if_pos hd];rfl
  | succ i=>
   unfold uW;rw[if_neg (h 0 a (Nat.succ_pos _) rfl),ih (by simpa using hi) fun j e hj he=>h (j+1) e (by omega) (by simpa using he)];rfl
theorem Rf{c:κ×Int}{l:List (κ×Int)}(h:∀(j:Nat) (e:κ×Int),l[j]? =some e->e.1≠c.1):uW c l=l++[c]:=by
 induction l with
 | nil => rfl
 | cons a l ih=>
  unfold uW;rw[if_neg (h 0 a rfl),ih fun j e he=>h (j+1) e (by simpa using he)];rfl
theorem Fu{l:List (κ×Int)}(h:(l.map Prod.fst).Nodup){d:κ×Int}(hd:d∈l):eP l d.1=d.2:=by
 induction l with
 | nil => cases hd
 | cons a l ih=>
  rw[List.map_cons,List.nodup_cons]at h;rw[ek];rcases eO.1 hd with rfl|hd
  ·rw[if_pos rfl,LJ fun e he x=>h.1 (mM.2 ⟨e,he,x⟩)];omega
  ·rw[if_neg fun x=>h.1 (mM.2 ⟨d,hd,x.symm⟩),ih h.2 hd];omega
end
end Pt
namespace Rc
open Go.RowKit Go.Sort Go.Maps Pt Hc
structure Ev(N:Nat)(L:Nat->List (Nat×ah))(R:Nat->Nat->List ah)(c:Nat->ah->Int)(K O:Nat->List ah)(C:Nat->ah->Int)(F:Nat->List ah):Prop where
 yc:Ew N L O C F
 OY:∀p,p<N->Fg PX (jm N R O p) (F p)
 own:∀p,p<N->fJ (c p) (O p)
 bd:∀p t,p<N->-2147483647<=c p t/\c p t<=2147483647
 kp:∀p t,p<N->c p t≠0->t∈K p
theorem Ev.init(N:Nat)(L:Nat->List (Nat×ah))(R:Nat->Nat->List ah):Ev N L R (fun _ _=>0) (fun _=>[]) (fun _=>[]) (fun _ _=>0) (fun _=>[]) where
 yc:=by
  have e:∀p t,rhs N L (fun _=>[]) (fun _=>[]) p t=0:=fun p t=>by
   have h:¬0<rhs N L (fun _=>[]) (fun _=>[]) p t:=fun k=>by
    rcases qN.1 k with k|⟨q,u,b,_,hu,_⟩
    ·cases k
    ·cases hu
   have:=wB N L (fun _=>[]) (fun _=>[]) p t;omega
  exact⟨fun p t _=>(e p t).symm,fun p _=>⟨.nil,fun t=>⟨fun h=>absurd h (by simp),fun h=>absurd h.1 (by decide)⟩⟩⟩
 OY p _:=by
  refine⟨.nil,fun t=>⟨fun h=>absurd h (by simp),fun h=> ?_⟩⟩;obtain⟨q,u,a,_,hu,_⟩:=qV.1 h.1;cases hu
 own _ _:=fJ.nil
 bd _ _ _:=by omega
 kp _ _ _ h:=absurd rfl h
section
variable {N:Nat} {L:Nat->List (Nat×ah)} {St:Nat->Nat->ah->Prop} {R:Nat->Nat->List ah} {c:Nat->ah->Int} {K O:Nat->List ah} {C:Nat->ah->Int} {F:Nat->List ah}
theorem Ev.inK(h:Ev N L R c K O C F)(hp:p<N):(O p).length<=(K p).length:=by
 refine iT (h.own p hp).nodup fun t ht=>h.kp p t hp ?_;have:=(((h.own p hp).mem t).1 ht).1;omega
theorem Ev.QI(h:Ev N L R c K O C F)(hT:sN (fun p=>(K p).length) (List.range N)<=T):sN (fun p=>(O p).length) (List.range N)<=T:=nT (kr fun _ hp=>h.inK (mR.1 hp)) hT
theorem QJ(N:Nat)(S:Nat->List ah):(uR N S).length=sN (fun p=>(S p).length) (List.range N):=by
 unfold uR sN;rw[List.length_flatMap]
 congr 1
 refine List.map_congr_left fun p _=> ?_;rw[fQ]
def lH(c:Nat->ah->Int)(l:List Th)(p:Nat):ah->Int:=bP (c p) (prt l p)
def Bf(K:Nat->List ah)(l:List Th)(p:Nat):List ah:=K p++(prt l p).map Prod.fst
structure Rm(N:Nat)(L:Nat->List (Nat×ah))(T E Z B:Nat):Prop where
 hN:N<=192
 hE:sN (fun q=>(L q).length) (List.range N)<=E
 hZ:sN (fun q=>(L q).length*mZ N L q) (List.range N)<=Z
 hB:2*T+6*(T*E+64*T*Z)<=B
 hB2:B<=549755813888
 e:E<=432
 t:T<=15000
theorem XN(ht:Ci N L St R){rs:List Nat}(wZ:rJ N L (mI N (lT rs)))(hrl:rs.length=N)(hr:∀x∈rs,x<=N)(GN:Ev N L R c K O C F)(l:List Th)(hb:∀p,p<N->bad (c p) (prt l p)=false){E Z B:Nat}(hm:Rm N L T E Z B)(hK:sN (fun p=>(K p).length) (List.range N)<=T)(hK2:sN (fun p=>(Bf K l p).length) (List.range N)<=T):
    ∃On Cn Fn,(∀p,p<N->fJ (lH c l p) (On p))/\Ev N L R (lH c l) (Bf K l) On Cn Fn/\(nQ (za O On) (List.range N)).length<=2*T/\(∀p,p<N->(F p).length<=64*T/\(Fn p).length<=64*T)/\
     ∀(ms:List Nat) (Q0:List It),ms.length=N->(wq Q0).Perm (nQ (za O On) (List.range N))->(∀y∈Q0,Vq N y)->TB N L rs ms On C Cn F Fn (Ms N L O F On Fn) B Q0 Q0.length:=by
 have hx:∀p,∃fr,p<N->fJ (lH c l p) fr:=fun p=>by
  by_cases hp:p<N
  ·obtain⟨fr,h⟩:=RS (lH c l p) (Bf K l p) fun t h=>zg (GN.kp p · hp) t (by unfold lH at h;omega);exact⟨fr,fun _=>h⟩
  ·exact⟨[],fun h=>absurd h hp⟩
 obtain⟨On,Xc⟩:=Classical.axiomOfChoice hx;have hbd:∀p t,p<N->-2147483647<=lH c l p t/\lH c l p t<=2147483647:=fun p t hp=>Ru (GN.bd p · hp) (hb p hp) t;have hkp:∀p t,p<N->lH c l p t≠0->t∈Bf K l p:=fun p t hp h=>zg (GN.kp p · hp) t h;have hO:=fun p (hp:p<N)=>(GN.own p hp).nodup;have hN:=fun p (hp:p<N)=>(Xc p hp).nodup;have hD:∀p,p<N->yn (O p) (On p) (za O On p):=fun p hp=>jT (hO p hp) (hN p hp);have hTo:=GN.QI hK;have hTn:sN (fun p=>(On p).length) (List.range N)<=T:=by
  refine nT (kr (g:=fun p=>(Bf K l p).length) fun p hp=> ?_) hK2;have hp:=mR.1 hp;refine iT (hN p hp) fun t ht=>hkp p t hp ?_;have:=(((Xc p hp).mem t).1 ht).1;omega
 obtain⟨Cn,Fn,htr⟩:=ht.turn (W:=nQ (za O On) (List.range N)) GN.yc GN.OY hO hN hD (List.Perm.refl _) hTo hTn hm.hE hm.hZ hm.hB;have h0:=htr (mI N (lT rs));have hwl:(nQ (za O On) (List.range N)).length<=2*T:=U8 hD (nR _) hTo hTn;refine⟨On,Cn,Fn,Xc,⟨h0.yc,h0.OY,Xc,hbd,hkp⟩,hwl,fun p hp=>⟨h0.fo p hp,h0.fn p hp⟩,fun ms Q0 hms hq hv=> ?_⟩;have hll:(wq Q0).length=(nQ (za O On) (List.range N)).length:=hq.length_eq;rw[mi]at hll;have e1:=hm.e;have e2:=hm.t;have e3:=hm.hN;have hTE:T*E<=15000*432:=Nat.mul_le_mul e2 e1;have hNT:N*T<=192*15000:=Nat.mul_le_mul e3 e2;have e64:64*T*E=64*(T*E):=Nat.mul_assoc _ _ _;refine⟨hms,hrl,hr,by omega,wZ,h0.yc,h0.sup,Eu h0.xZ hq,hv,by rw[hll];exact h0.bd,hm.hB2,fun p t hp=> ?_,fun p t hp=> ?_,fun p hp=> ?_, ?_,fun p hp=> ?_⟩
 ·have:=h0.bo p t hp;omega
 ·have:=h0.bn p t hp;omega
 ·have h1:=h0.sl p hp;rw[e64]at h1;omega
 ·rw[QJ];have h1:=h0.st;rw[e64]at h1;omega
 ·have:=ko (f:=fun q=>(L q).length) (mR.2 hp);have:=hm.hE;omega
end
open Lf (Fw)
open Df (LV EL)
attribute[local go_sem ↓]wp_at_zero wp_at_succ
theorem RV:(Tryz.prog.info? 159).map (fun i=>(i.zero,i.size,i.bytes))=some (some (.slice none 0 0),1,24):=by kernel_rfl
theorem sw{v:Value}{ts:List Th}(h:Ls EC w v ts){x:Th}(hj:ts[j]? =some x):∃b off c,v= .slice (some ⟨b,off,none⟩) ts.length c/\b<w.heap.size/\w.cell? ⟨b,off+j*5,none⟩=some (.int .i64 x.1)/\w.cell? ⟨b,off+j*5+1,none⟩=some (.int .u64 x.2.1.1.1)/\w.cell? ⟨b,off+j*5+2,none⟩=some (.int .u64 x.2.1.1.2.1)/\w.cell? ⟨b,off+j*5+3,none⟩=some (.int .u64 x.2.1.1.2.2)/\w.cell? ⟨b,off+j*5+4,none⟩=some (.int .i64 x.2.2):=by
 obtain⟨b,off,c,hv,hb,hc⟩:=h.get hj;exact⟨b,off,c,hv,hb,hc 0 _ (by decide) rfl,hc 1 _ (by decide) rfl,hc 2 _ (by decide) rfl,hc 3 _ (by decide) rfl,hc 4 _ (by decide) rfl⟩
def Ad(w:World)(n g:Nat)(l:List Th)(W:World):Prop:=∃vs,Fw ED 163 159 w.heap.size W (.slice (some ⟨g,0,none⟩) n n) vs (prt l)/\vs.length=n/\Below w.heap.size w W
theorem Ad.below{W':World}{l:List Th}(h:Ad w n g l W)(hb:Below W.heap.size W W'):Ad w n g l W':=by
 obtain⟨vs,h1,h2,h3⟩:=h;exact⟨vs,h1.below hb,h2,h3.trans (hb.mono h3.size)⟩
theorem Ad.cell{w W:World}{n g:Nat}{l:List Th}(h:Ad w n g l W){k:Nat}(hk:k<n):∃vs x,Fw ED 163 159 w.heap.size W (.slice (some ⟨g,0,none⟩) n n) vs (prt l)/\vs.length=n/\Below w.heap.size w W/\vs[k]? =some x/\W.cell? ⟨g,k,none⟩=some x.v/\g<W.heap.size/\W.ownsRow w.heap.size 163 4 x.v (prt l k).length (fl ED (prt l k)):=by
 obtain⟨vs,h1,h2,h3⟩:=h;obtain⟨x,a1,a2,a3,-,a5⟩:=h1.cell h2 hk;exact⟨vs,x,h1,h2,h3,a1,a2,a3,a5⟩
theorem Ad.rws{l:List Th}(h:Ad w n g l W)(tag:Nat->Nat)(j:Nat):KU ED W (tg tag w j) j (.slice (some ⟨g,0,none⟩) n n) n (prt l):=by
 obtain⟨vs,h1,h2,h3⟩:=h;have e:fl EV (vs.map fun x=>(x.q,x.m,x.c))=fl EL vs:=by
  clear h1 h2
  induction vs with
  | nil => rfl
  | cons x l ih => rw[List.map_cons,aV,aV,ih];rfl
 have hr:=h1.row;rw[h2,<-e]at hr;refine⟨vs.map fun x=>(x.q,x.m,x.c),⟨aJ (E:=EV) (e:=159) (base:=w.heap.size) (by rw[fQ,h2];exact hr),fun k hk=>aR (iX hr hk)⟩,by rw[fQ,h2],fun p x hx=> ?_⟩;rw[gM]at hx;cases e2:vs[p]? with
 | none => rw[e2]at hx;cases hx
 | some y=>
  rw[e2]at hx;cases hx;have:=h1.each p y e2;exact⟨aJ (E:=ED) this,fun k hk=>aR (iX this hk)⟩
def kQ{β:Type}(i:Nat)(f g:Nat->β)(q:Nat):β:=if q<i then g q else f q
theorem vK(f g:Nat->β):kQ 0 f g=f:=by
 funext q
 exact if_neg (nW q)
theorem Fy(i:Nat)(f g:Nat->β):kQ i f g i=f i:=if_neg (Nat.lt_irrefl i)
theorem Fv{q:Nat}(f g:Nat->β)(h:q<i):kQ i f g q=g q:=if_pos h
theorem zZ(i:Nat)(f g:Nat->β):bI (kQ i f g) i (g i)=kQ (i+1) f g:=by
 funext q
 unfold bI kQ;by_cases e:q=i
 ·subst e;rw[if_pos rfl,if_pos (Nat.lt_succ_self _)]
 ·rw[if_neg e];by_cases k:q<i
  ·rw[if_pos k,if_pos (by omega)]
  ·rw[if_neg k,if_neg (by omega)]
theorem vL{f g:Nat->β}(h:f i=g i):kQ i f g=kQ (i+1) f g:=by
 funext q
 unfold kQ;by_cases e:q=i
 ·subst e;rw[if_neg (Nat.lt_irrefl _),if_pos (Nat.lt_succ_self _),h]
 ·by_cases k:q<i
  ·rw[if_pos k,if_pos (by omega)]
  ·rw[if_neg k,if_neg (by omega)]
structure As(w0:World)(aK:Nat->Nat)(w:World)(tag:Nat->Nat)(hb rb:Nat)(ar:Int)(sv rv ov cv uv pv:Value)(N:Nat)(L:Nat->List (Nat×ah))(rs os ms:List Nat)(P:Nat->List Dl)(Q:List It)(np:Nat)(nn:Nat->Nat)(c:Nat->ah->Int)(O:Nat->List ah)(C:Nat->ah->Int)(F:Nat->List ah):Prop where
 rd:Rd w tag rb ar sv rv ov cv uv N L rs ms
 po:Lm EA w tag 0 ov os
 pt:KU ED w tag 4294967296 pv N P
 hm:Hm w tag hb (wv ar sv rv) (kL N rs) Q np
 ow:∀p mb,os[p]? =some mb->Ml w tag (3+N+p) mb (nn p) (c p) (O p)
 cm:∀p mb,ms[p]? =some mb->∃n,Ml w tag (3+p) mb n (C p) (F p)
 kp:Kp (fun k=>aK k≠0) w0 w
 old:∀k,k<w0.heap.size->tag k=aK k
section
variable {w0 w w':World} {aK tag:Nat->Nat} {hb rb:Nat} {ar:Int} {sv rv ov cv uv pv:Value} {N:Nat} {L:Nat->List (Nat×ah)} {rs os ms:List Nat} {P:Nat->List Dl} {Q:List It} {np:Nat} {nn:Nat->Nat} {c:Nat->ah->Int} {O:Nat->List ah} {C:Nat->ah->Int} {F:Nat->List ah}
theorem As.kp'(h:As w0 aK w tag hb rb ar sv rv ov cv uv pv N L rs os ms P Q np nn c O C F)(hj:j≠0)(hK:Kp (fun k=>tag k=j) w w'):Kp (fun k=>aK k≠0) w0 w':=h.kp.trans hK fun k hk e=>by rw[<-h.old k hk,e];exact hj
theorem As.old'(h:As w0 aK w tag hb rb ar sv rv ov cv uv pv N L rs os ms P Q np nn c O C F)(j:Nat):∀k,k<w0.heap.size->Rc.tg tag w j k=aK k:=fun k hk=>by rw[aj (nL hk h.kp.size),h.old k hk]
theorem As.heap(h:As w0 aK w tag hb rb ar sv rv ov cv uv pv N L rs os ms P Q np nn c O C F){Q':List It}{EU:Nat}(hm:Hm w' (Rc.tg tag w 1) hb (wv ar sv rv) (kL N rs) Q' EU)(hK:Kp (fun k=>tag k=1) w w'):As w0 aK w' (Rc.tg tag w 1) hb rb ar sv rv ov cv uv pv N L rs os ms P Q' EU nn c O C F:=
 ⟨h.rd.keep hK (fun k _ e=>by omega) (fun k hk=>aj hk),h.po.keep hK (fun k _ e=>by omega) (fun k hk=>aj hk),h.pt.keep hK (fun k _ e=>by omega) (fun k hk=>aj hk),hm,fun p mb hp=>(h.ow p mb hp).keep hK (fun k _ e=>by omega) (fun k hk=>aj hk),fun p mb hp=>(h.cm p mb hp).imp fun n hn=>hn.keep hK (fun k _ e=>by omega) (fun k hk=>aj hk),h.kp' (by decide) hK,h.old' 1⟩
theorem As.Nj(h:As w0 aK w tag hb rb ar sv rv ov cv uv pv N L rs os ms P Q np nn c O C F)(hN:N<=192)(hol:os.length=N)(q8:ms.length=N){mb:Nat}(hp:os[p]? =some mb){n':Nat}{f':ah->Int}{fr':List ah}(hm:Ml w' (Rc.tg tag w (3+N+p)) (3+N+p) mb n' f' fr')(hK:Kp (fun k=>tag k=3+N+p) w w'):As w0 aK w' (Rc.tg tag w (3+N+p)) hb rb ar sv rv ov cv uv pv N L rs os ms P Q np (bI nn p n') (bI c p f') (bI O p fr') C F:=by
 have hpl:=(lG.1 hp).1;refine⟨h.rd.keep hK (fun k _ e=>by omega) (fun k hk=>aj hk),h.po.keep hK (fun k _ e=>by omega) (fun k hk=>aj hk),h.pt.keep hK (fun k _ e=>by omega) (fun k hk=>aj hk),h.hm.keep hK (fun k _ e=>by omega) (fun k hk=>aj hk),fun q mq hq=> ?_,fun q mq hq=> ?_,h.kp' (by omega) hK,h.old' (3+N+p)⟩
 ·by_cases e:q=p
  ·subst e;rw[hp]at hq;rw[<-oJ hq,bK,bK,bK];exact hm
  ·rw[bJ nn n' e,bJ c f' e,bJ O fr' e];exact(h.ow q mq hq).keep hK (fun k _ e2=>by omega) (fun k hk=>aj hk)
 ·have RZ:=(lG.1 hq).1;exact(h.cm q mq hq).imp fun n hn=>hn.keep hK (fun k _ e=>by omega) (fun k hk=>aj hk)
theorem As.grow(h:As w0 aK w tag hb rb ar sv rv ov cv uv pv N L rs os ms P Q np nn c O C F)(j:Nat)(hB:Below w.heap.size w w'):As w0 aK w' (Rc.tg tag w j) hb rb ar sv rv ov cv uv pv N L rs os ms P Q np nn c O C F:=by
 have hK:=Kp.of_below (S:=fun _=>False) hB;exact⟨h.rd.keep hK (fun k _ e=>e.elim) (fun k hk=>aj hk),h.po.keep hK (fun k _ e=>e.elim) (fun k hk=>aj hk),h.pt.keep hK (fun k _ e=>e.elim) (fun k hk=>aj hk),h.hm.keep hK (fun k _ e=>e.elim) (fun k hk=>aj hk),fun p mb hp=>(h.ow p mb hp).keep hK (fun k _ e=>e.elim) (fun k hk=>aj hk),fun p mb hp=>(h.cm p mb hp).imp fun n hn=>hn.keep hK (fun k _ e=>e.elim) (fun k hk=>aj hk),h.kp.trans hK fun k _ e=>e.elim,h.old' j⟩
end
theorem Cy(D:Nat->List (ah×Int))(h:i<=N):(nQ D (List.range i)).length<=(nQ D (List.range N)).length:=by
 obtain⟨k,rfl⟩:∃k,N=i+k:=⟨N-i,by omega⟩;rw[List.range_add,pM,dK];omega
structure Wa(N:Nat)(O On:Nat->List ah)(i j:Nat)(Q:List It)(np:Nat):Prop where
 perm:(wq Q).Perm (nQ (za O On) (List.range i)++((za O On i).take j).map fun d=>(i,d.1,d.2))
 np:np=Q.length
 vs:∀y∈Q,Vq N y
theorem Wa.init(N:Nat)(O On:Nat->List ah):Wa N O On 0 0 [] 0:=⟨by rw[tZ];exact List.Perm.refl _,rfl,fun _ h=>by cases h⟩
theorem Wa.push{O On:Nat->List ah}{Q Q':List It}(h:Wa N O On i j Q np){d:ah×Int}(hd:(za O On i)[j]? =some d)(hi:i<N)(hn: -1<=d.2/\d.2<=1)(hp:Q'.Perm (Q++[(((i:Int),d.1,d.2),np)])):Wa N O On i (j+1) Q' (np+1):=by
 refine⟨?_, ?_,fun y hy=> ?_⟩
 ·refine(zW hp).trans ?_;rw[Fh,tO,hd,Option.toList_some,zV,<-aA];refine h.perm.append ?_;show List.Perm [(Int.toNat (i:Int),d.1,d.2)] _;rw[tN];exact List.Perm.refl _
 ·have h2:=hp.length_eq;rw[dK,lS]at h2;have:=h.np;omega
 ·rcases j3.1 (hp.mem_iff.1 hy)with k|k
  ·exact h.vs y k
  ·rw[vF]at k;rw[k];exact⟨⟨i,rfl,hi⟩,hn⟩
theorem Wa.next{O On:Nat->List ah}{Q:List It}(h:Wa N O On i j Q np)(hj:(za O On i).length<=j):Wa N O On (i+1) 0 Q np:=by
 refine⟨?_,h.np,h.vs⟩;have h1:=h.perm;rw[tL hj]at h1;rw[tZ,List.map_nil,EN,vI];exact h1
theorem Wa.len{O On:Nat->List ah}{Q:List It}(h:Wa N O On i j Q np)(hi:i<N)(ht:(nQ (za O On) (List.range N)).length<=T):Q.length<=T:=by
 have h1:=h.perm.length_eq;rw[mi,dK,fQ,lK]at h1;have h2:=Cy (za O On) (show i+1<=N by omega);rw[vI,dK,fQ]at h2;omega
end Rc
namespace Rc
open Go.RowKit Go.Sort Go.Maps Pt Hc
open Tt (dR dG)
attribute[local go_sem ↓]wp_at_zero wp_at_succ
def ky(x:Th):Rs.Sm:=sk x.1.toNat x.2.1
theorem Zv{x:Th}(hN:N<=192)(h:Vp N x):(ky x).1=(x.1,x.2.1.1):=by
 obtain⟨p,hp,hl⟩:=h;unfold ky;rw[hp,tN,j6 (by omega)]
def qK(l:List Th):Rs.Sm->Int:=l.foldl (fun g x=>upd g (ky x) (wrap64 (g (ky x)+x.2.2))) (fun _=>0)
theorem MB{l:List Th}{k:Nat}{x:Th}(h:l[k]? =some x):qK (l.take (k+1))=upd (qK (l.take k)) (ky x) (wrap64 (qK (l.take k) (ky x)+x.2.2)):=by
 unfold qK;rw[tO,h,List.foldl_append];rfl
theorem MC(l:List Th)(x:Th):qK (l++[x])=upd (qK l) (ky x) (wrap64 (qK l (ky x)+x.2.2)):=by
 unfold qK;rw[List.foldl_append];rfl
theorem ME(hN:N<=192){l:List Th}(hl:∀x∈l,Vp N x)(hp:p<N)(t:ah):qK l (sk p t)=Go.Proofs.YteekbpokkjjipaaGreat.sm (prt l p) t:=by
 induction h:l.length generalizing l with
 | zero=>
  have:l=[]:=List.length_eq_zero_iff.1 h;subst this;rfl
 | succ n ih=>
  obtain⟨m,x,rfl⟩:∃m c,l=m++[c]:=by
   have hne:l≠[]:=fun e=>(by rw[e]at h;cases h);exact⟨l.dropLast,l.getLast hne,(List.dropLast_concat_getLast hne).symm⟩
  have hm:∀x∈m,Vp N x:=fun y hy=>hl y (List.mem_append_left _ hy);have ih':=ih hm (by rw[dK]at h;simpa using h);obtain⟨q,hq,RZ⟩:=hl x (List.mem_append_right _ (List.mem_singleton_self _));rw[MC,Dc m x q p hq];have hk:ky x=sk q x.2.1:=by unfold ky;rw[hq,tN]
  rw[hk];by_cases e:p=q
  ·subst e;rw[if_pos rfl];have e2:Go.Proofs.YteekbpokkjjipaaGreat.sm (prt m p++[(x.2.1,x.2.2)])=upd (Go.Proofs.YteekbpokkjjipaaGreat.sm (prt m p)) x.2.1 (wrap64 (Go.Proofs.YteekbpokkjjipaaGreat.sm (prt m p) x.2.1+x.2.2)):=by
    unfold Go.Proofs.YteekbpokkjjipaaGreat.sm;rw[List.foldl_append];rfl
   rw[e2];by_cases et:t=x.2.1
   ·subst et;rw[upd_same,upd_same,ih']
   ·have hne:sk p t≠sk p x.2.1:=fun k=>et (((kV (p:=p) (by omega)).1 k).2.symm.trans (by
      exact((kV (p:=p) (t:=t) (by omega)).1 rfl).2)|>.symm)
    rw[bZ _ _ hne,bZ _ _ et,ih']
  ·rw[if_neg e];have hne:sk p t≠sk q x.2.1:=fun k=>by
    have h1:=((kV (p:=q) (by omega)).1 k).1;rw[j6 (by omega)]at h1;simp only at h1;omega
   rw[bZ _ _ hne,ih']
def Cc(c:Nat->ah->Int)(l:List Th):Bool:=l.all (fun x=> !dR x.2.2)&&l.all fun x=> !dR (bP (c x.1.toNat) (prt l x.1.toNat) x.2.1)
theorem I4{c:Nat->ah->Int}{l:List Th}(hl:∀x∈l,Vp N x):Cc c l=true↔∀p,p<N->bad (c p) (prt l p)=false:=by
 unfold Cc;rw[bA,List.all_eq_true,List.all_eq_true];constructor
 ·rintro⟨h1,h2⟩ p hp;unfold bad;rw[Bool.or_eq_false_iff,List.any_eq_false,List.any_eq_false];refine⟨fun d hd=> ?_,fun d hd=> ?_⟩
  ·have:=h1 _ (uV.1 hd);simpa using this
  ·have:=h2 _ (uV.1 hd);simp only[tN]at this;simpa using this
 ·intro h;refine⟨fun x hx=> ?_,fun x hx=> ?_⟩
  ·obtain⟨p,hp,hpl⟩:=hl x hx;have h1:=h p hpl;unfold bad at h1;rw[Bool.or_eq_false_iff,List.any_eq_false]at h1;have hm:(x.2.1,x.2.2)∈prt l p:=uV.2 (by rw[<-hp];exact hx);have:=h1.1 _ hm;simpa using this
  ·obtain⟨p,hp,hpl⟩:=hl x hx;have h1:=h p hpl;unfold bad at h1;rw[Bool.or_eq_false_iff,List.any_eq_false,List.any_eq_false]at h1;have hm:(x.2.1,x.2.2)∈prt l p:=uV.2 (by rw[<-hp];exact hx);have:=h1.2 _ hm;rw[hp,tN];simpa using this
theorem XU(n:Int):Rs.Tt.dR n=dR n:=rfl
theorem uk(n:Int)(w:World):Calls Tryz.prog 135 #[.int .i64 n] w fun e w'=>e= .returned (.bool (dR n))/\w'=w:=by
 rw[<-XU];exact gy n w
theorem VT{key:Value}{kl:Lit}(h:keyOf Tryz.prog 47 key=some kl):∃x,key=Rs.mv x:=by
 obtain⟨x,hx,_⟩:=Rs.ZM.inv _ _ h;exact⟨x,hx⟩
theorem Dv{rb:Nat}{ar:Int}{sv rv ov cv uv:Value}{os:List Nat}{c:Nat->ah->Int}(l:List Th)(v:Value)(w:World)(hN:N<=192)(hol:os.length=N)(hR:w.heap[rb]? =some (.cells #[.int .i64 ar,sv,rv,ov,cv,uv] 102 (0,0)))(ho:Ls EA w ov os)(hM:∀q mb,os[q]? =some mb->∃tb b cb n v fr,Mu w mb tb b cb n v (c q) fr)(hv:Ls EC w v l)(hl:l.length<=100000000000)(hp:∀x∈l,Vp N x):
    Calls Tryz.prog 76 #[.pointer (some ⟨rb,0,none⟩),v] w fun e w'=>e= .returned (.bool (Cc c l))/\Below w.heap.size w w':=by
 have hmx:Tryz.prog.follows .mixedOrders=true:=by kernel_rfl
 have hmm:=@run_makeMap Tryz.prog;obtain⟨pl,cl,rfl⟩:=hv.form;obtain⟨W1,hW1⟩:=aD (w.alloc (.map #[] 0));have G1:Gr w W1:=by rw[hW1];exact(Gr.refl _).alloc _
 obtain⟨mb,hmb⟩:=aD (w.heap.size);have PR:Hid (Mq Rs.ZM 2 W1 mb 0 (fun _=>0) []):=by
  have:=Mq.made (Z:=Rs.ZM) (e:=2) w;rw[hW1,hmb];simpa[Hid]using this
 have HL:Hid (Ls EC W1 (.slice pl l.length cl) l):=hv.below G1.below;have HLB:Hid (∀k,(Value.slice pl l.length cl).ownBlock=some k->k<w.heap.size):=hv.blk;have HC:Hid (∀(p:Int) (t:ah) (W:World),Below w.heap.size w W->Calls Tryz.prog 36 #[.pointer (some ⟨rb,0,none⟩), .agg #[.int .i64 p, .int .u64 t.1.1, .int .u64 t.1.2.1, .int .u64 t.1.2.2]] W fun e w'=>e= .returned (.int .i64 (Ce os c p t))/\Gr W w'):=fun p t W hb=>by
  refine dQ p t W ((hb.block rb (ae hR)).trans hR) (ho.below hb) fun q m hq=> ?_;obtain⟨tb,b,cb,n,v,fr,h⟩:=hM q m hq;exact⟨tb,b,cb,n,v,fr,h.below hb⟩
 have HG:Hid (Gr w W1):=G1;have zT:=hid hmb;have HP:=hid hp;have HOL:=hid hol;clear hv G1 hR ho hM hp hol;go_enter Tryz.func76,Tryz.ntmps76;go_wp2_with fail;rw[<-hW1,<-hmb];clear hW1 hmb;go_loopw [7,13] (fun _ s13 wr=>∃k:Nat,k<=l.length/\s13= .int .i64 k/\Hid (Mq Rs.ZM 2 wr mb k (qK (l.take k)) ((l.take k).map ky)/\Kp (fun j=>j=mb) W1 wr/\∀x∈l.take k,dR x.2.2=false)) (fun _ s13 _=>l.length-(intOf s13).toNat);case atStart=>exact⟨0,zL _,rfl,by simpa[qK]using PR.o,Kp.refl _ _,by simp⟩
 case round=>
  obtain⟨k,hk,rfl,HI⟩:=hrel;have jd:Hid (Below w.heap.size w wr):=HG.o.below.trans (HI.o.2.1.below HG.o.size (fun j hj=>by rw[hj,zT.o];exact nR _));by_cases hlt:k<l.length
  ·have hltz:(k:Int)<(l.length:Int):=(by omega);obtain⟨x,hx⟩:∃x,l[k]? =some x:=⟨l[k],by simp⟩;have hxm:x∈l:=lM hx;obtain⟨b1,o1,c1,e1,z1,x0,x1,x2,x3,x4⟩:=sw (HI.o.2.1.ls HL.o (fun j hj hs=>by have:=HLB.o j hj;have:=zT.o;omega)) hx;simp only[vS]at e1;obtain⟨rfl,-,rfl⟩:=e1;have HS:Hid (qK (l.take (k+1))=upd (qK (l.take k)) (ky x) (wrap64 (qK (l.take k) (ky x)+x.2.2))):=MB hx;have rT:Hid (l.take (k+1)=l.take k++[x]):=(by rw[tO,hx];rfl);have hbe:=uk x.2.2;have HD:Hid (l[k]? =some x):=hx;have HDM:Hid (x∈l):=hxm;have HKY:Hid ((ky x).1=(x.1,x.2.1.1)):=Zv hN (HP.o x hxm);clear hx hxm;cases hq:dR x.2.2 with
   | true=>
    rw[hq]at hbe;go_wp2_with (go_at_call 135;refine(hbe _).mono ?_;rintro e w2 ⟨rfl,rfl⟩);go_ret;refine⟨?_,jd.o.trans (((Gr.refl _).alloc _).below.mono jd.o.size)⟩;have:Cc c l=false:=by
     unfold Cc;rw[Bool.and_eq_false_iff];refine Or.inl (List.all_eq_false.2 ⟨x,HDM.o,by simp[hq]⟩)
    rw[this];rfl
   | false=>
    rw[hq]at hbe;obtain⟨W2,hW2⟩:=aD (wr.alloc (.cells #[.int .i64 x.1, .int .u64 x.2.1.1.1, .int .u64 x.2.1.1.2.1, .int .u64 x.2.1.1.2.2, .int .i64 x.2.2] 49));obtain⟨nb,hnb⟩:=aD (wr.heap.size);have G2:Gr wr W2:=(by rw[hW2];exact(Gr.refl _).alloc _);have WG:mb<wr.heap.size:=HI.o.1.lt;have hM2:Mq Rs.ZM 2 W2.drew mb k (qK (l.take k)) ((l.take k).map ky):=HI.o.1.kept (G2.drew.below.block mb WG);obtain⟨v0,st,w1,w2,hL0,hE,hL1,hSt,hM3,hg1,hg2⟩:=hM2.bump (t:=235) Rs.NI Tryz.underlying235 Tryz.underlying2 Rs.Tt.zeroE (by unfold maxLen;omega) (ky x) (wrap64 (qK (l.take k) (ky x)+x.2.2)) (wf_wrap _);have HW2:Hid (Mq Rs.ZM 2 w2 mb (k+1) (qK (l.take (k+1))) ((l.take (k+1)).map ky)/\Kp (fun j=>j=mb) W1 w2/\∀d∈l.take (k+1),dR d.2.2=false):=by
     refine⟨?_,HI.o.2.1.trans ((Kp.aZ (S:=fun j=>j=mb) G2.drew).trans (Kp.grownBy (S:=fun j=>j=mb) hg2 (fun j hj=>by simpa using hj.symm)) (fun _ _ h=>h)) (fun _ _ h=>h), ?_⟩
     ·rw[HS.o,rT.o];simpa using hM3
     ·rw[rT.o];intro e he;rcases j3.1 he with he|he
      ·exact HI.o.2.2 e he
      ·simp at he;subst he;exact hq
    have hblk:W2.heap[nb]? =some (.cells #[.int .i64 x.1, .int .u64 x.2.1.1.1, .int .u64 x.2.1.1.2.1, .int .u64 x.2.1.1.2.2, .int .i64 x.2.2] 49 (0,0)):=(by rw[hW2,hnb];exact ai _ _);have hnl:nb<W2.drew.heap.size:=(aG.1 hblk).1;have y0:∀q,w1.cell? ⟨nb,q,none⟩=W2.drew.cell? ⟨nb,q,none⟩:=fun q=>yJ (a:=⟨nb,q,none⟩) (hg1.block nb hnl (by simp;omega));have q0:W2.cell? ⟨nb,0,none⟩=some (.int .i64 x.1):=(by simp only[World.cell?];rw[hblk];rfl);have q1:W2.cell? ⟨nb,1,none⟩=some (.int .u64 x.2.1.1.1):=(by simp only[World.cell?];rw[hblk];rfl);have q2:W2.cell? ⟨nb,2,none⟩=some (.int .u64 x.2.1.1.2.1):=(by simp only[World.cell?];rw[hblk];rfl);have q3:W2.cell? ⟨nb,3,none⟩=some (.int .u64 x.2.1.1.2.2):=(by simp only[World.cell?];rw[hblk];rfl);have q4:W2.cell? ⟨nb,4,none⟩=some (.int .i64 x.2.2):=(by simp only[World.cell?];rw[hblk];rfl);have r0:=(y0 0).trans q0;have r1:=(y0 1).trans q1;have r2:=(y0 2).trans q2;have r3:=(y0 3).trans q3;have r4:=(y0 4).trans q4;have eK:Rs.ZM.enc (ky x)= .agg #[.int .i64 x.1, .int .u64 x.2.1.1.1, .int .u64 x.2.1.1.2.1, .int .u64 x.2.1.1.2.2]:=by
     show Rs.mv (ky x)=_;unfold Rs.mv;rw[HKY.o]
    rw[eK]at hL0 hL1 hE;have hE:(Instr.mapEntry 235 (.map (some mb)) (.agg #[.int .i64 x.1, .int .u64 x.2.1.1.1, .int .u64 x.2.1.1.2.1, .int .u64 x.2.1.1.2.2])).run Tryz.prog W2.drew= .ok (.tuple #[v0, .int .i64 st]) w1:=hE;have hSt:(Instr.entryStore 235 (.map (some mb)) (.int .i64 st) (.int .i64 (wrap64 (qK (l.take k) (ky x)+x.2.2)))).run Tryz.prog w1= .ok () w2:=hSt;clear eK;generalize qK (l.take k) (ky x)=cx at hL0 hL1 hSt;go_wp2_with (go_at_call 135;refine(hbe _).mono ?_;rintro e w2 ⟨rfl,rfl⟩);rw[<-hW2,<-hnb];clear hW2 hnb x0 x1 x2 x3 x4 hblk y0 hM2 hM3 hg1 hg2 G2;go_region;all_goals go_wp2
    all_goals exact⟨⟨k+1,by omega,by go_num,HW2.o⟩,by simp[intOf];omega⟩
  ·have hltz:¬(k:Int)<(l.length:Int):=(by omega);have hk':k=l.length:=(by omega);subst hk';have hD:=HI.o.1;have vE:Hid (∀x∈l,dR x.2.2=false):=(by have:=HI.o.2.2;rw[tK]at this;exact this);rw[tK]at hD;obtain⟨D,hown,h1,h2⟩:=hD;have h1':Hid (∀s,D.atKey (Rs.ZM.lit s) (nd 0)=nd (qK l s)):=h1;have H2:Hid (∀s,Maps.has D (Rs.ZM.lit s)=true↔s∈l.map ky):=h2;have hbl:mb<wr.heap.size:=hown.lt;clear HI h1 h2 hltz hlt hk PR HL HLB HG;obtain⟨wL,hwL⟩:∃x,x=wr:=⟨wr,rfl⟩;subst hwL;go_wp2_with (first
    | (at_range;refine wpList_range_own _ rfl _ 235 rfl 47 2 Rs.ZM.law Tryz.underlying235 _ mb l.length _ rfl hown ?_;intro w0 hrg0 hg0 hs0)
    | go_in)
   go_frame;go_loopw [8,9] (fun _ _ wr=>∃(left:Lit->Bool) (cnt:Nat) (ss:List Rs.Sm),wr.ranges Tryz.prog 47 (plainElem Tryz.prog 2) mb wL.heap.size l.length D left cnt/\nP Rs.ZM D left ss/\Below wL.heap.size wL wr/\Hid (∀s∈ss,dR (wrap64 (qK l s+Ce os c s.1.1 (jV s)))=false))
    (fun _ _ wr=>wr.rangeLeft mb wL.heap.size)
   case atStart=>
    exact⟨_,_,[],hrg0,nP.start D,(Below.refl _ _).grown hg0 (nR _) (fun j hj=>by cases hj),by simp[Hid]⟩
   case round=>
    obtain⟨left,cnt,ss,hrg,hC,hnx,HB⟩:=hrel;have jC:Hid (ss.Nodup->(∀s,s∈ss↔s∈l.map ky)->Cc c l=true):=fun _ hA=>by
     unfold Cc;rw[bA,List.all_eq_true,List.all_eq_true];refine⟨fun x hx=>by rw[vE.o x hx];rfl,fun x hx=> ?_⟩;have h1:=HB.o (ky x) ((hA (ky x)).2 (List.mem_map_of_mem hx));obtain⟨p,hp,hpl⟩:=HP.o x hx;have hk:ky x=sk p x.2.1:=(by unfold ky;rw[hp,tN]);have ht:jV (sk p x.2.1)=x.2.1:=((kV (p:=p) (t:=x.2.1) (by omega)).1 rfl).2;have ha:(sk p x.2.1).1.1=(p:Int):=(by rw[j6 (by omega)]);have hcn:Ce os c (p:Int) x.2.1=c p x.2.1:=by
      unfold Ce;rw[if_pos (by have:=HOL.o;omega),tN]
     rw[hk,ht,ha,hcn,ME hN HP.o hpl]at h1;rw[hp,tN];show(!dR (bP (c p) (prt l p) x.2.1))=true;unfold bP;rw[h1];rfl
    go_wp2_with (first
     | (at_next; refine wpList_next_ranges _ rfl _ rfl 47 Rs.ZM.law (plainElem Tryz.prog 2) Rs.mv (Value.int .i64) (fun key kl hk => VT hk) (fun v y hv=>by obtain⟨c,rfl,_⟩:=plainElem_int_inv Tryz.underlying2 hv;exact⟨c,rfl⟩) mb wL.heap.size l.length _ _ _ rfl hrg ?_ ?_)
     | go_in)
    ·intro hc0 hl0;have hA:=hC.all H2.o hl0;go_wp2;go_ret;refine⟨?_,jd.o.trans (hnx.mono jd.o.size)⟩;rw[jC.o hA.1 hA.2];rfl
    ·intro s0 s1 s2 s3 sp cz kl yd yp w2 cnt2 hkey hlk hv hat hrg2 hlt2 hg2 hs2 hen;obtain⟨x,hx⟩:∃x:Rs.Sm,x=⟨(s0,s1,s2,s3),sp⟩:=⟨_,rfl⟩;have hX:Hid (s0=x.1.1/\s1=(jV x).1.1/\s2=(jV x).1.2.1/\s3=(jV x).1.2.2):=(by rw[hx];exact⟨rfl,rfl,rfl,rfl⟩);rw[<-hx]at hkey hen⊢;clear hx sp s0 s1 s2 s3 hX;obtain rfl:kl=Rs.ZM.lit x:=by
      have h7:=(Rs.ZM.key x).symm.trans hkey;exact(oJ h7).symm
     obtain rfl:cz=qK l x:=by
      obtain⟨c',e1,e2,_⟩:=plainElem_int_inv Tryz.underlying2 hv;have e3:=(h1'.o x).symm.trans (hat _);cases e1;cases e2;simpa using e3.symm
     have HXM:Hid (x∈l.map ky):=(H2.o x).1 (has_true_of_atKey hat);have B2:Below wL.heap.size wL w2:=hnx.grown hg2 hnx.size (fun j hj=>by cases hj;exact nR _);have Io:=hid (hC.step hlk hat);obtain⟨W3,hW3⟩:=aD (w2.alloc (.cells #[.int .i64 x.1.1, .int .u64 x.1.2.1, .int .u64 x.1.2.2.1, .int .u64 x.1.2.2.2] 47));obtain⟨nb,hnb⟩:=aD (w2.heap.size);have G3:Gr w2 W3:=(by rw[hW3];exact(Gr.refl _).alloc _);have B3:Below wL.heap.size wL W3:=B2.trans (G3.below.mono B2.size);have hco:=HC.o x.1.1 (jV x) W3 (jd.o.trans (B3.mono jd.o.size));have hco:Calls Tryz.prog 36 #[.pointer (some ⟨rb,0,none⟩), .agg #[.int .i64 x.1.1, .int .u64 x.1.2.1, .int .u64 x.1.2.2.1, .int .u64 x.1.2.2.2]] W3 fun e w'=>e= .returned (.int .i64 (Ce os c x.1.1 (jV x)))/\Gr W3 w':=hco;have hblk:W3.heap[nb]? =some (.cells #[.int .i64 x.1.1, .int .u64 x.1.2.1, .int .u64 x.1.2.2.1, .int .u64 x.1.2.2.2] 47 (0,0)):=(by rw[hW3,hnb];exact ai _ _);have hnl:nb<W3.heap.size:=(aG.1 hblk).1;have q0:W3.cell? ⟨nb,0,none⟩=some (.int .i64 x.1.1):=(by simp only[World.cell?];rw[hblk];rfl);have q1:W3.cell? ⟨nb,1,none⟩=some (.int .u64 x.1.2.1):=(by simp only[World.cell?];rw[hblk];rfl);have q2:W3.cell? ⟨nb,2,none⟩=some (.int .u64 x.1.2.2.1):=(by simp only[World.cell?];rw[hblk];rfl);have q3:W3.cell? ⟨nb,3,none⟩=some (.int .u64 x.1.2.2.2):=(by simp only[World.cell?];rw[hblk];rfl);have hrg3:=hrg2.kept (row:=none) ⟨G3.below.os,G3.below.tape,G3.below.output,G3.below.size,fun k hk _=>G3.below.block k hk⟩ (by simp) (by simp);have UW:Hid (dR (wrap64 (Ce os c x.1.1 (jV x)+qK l x))=dR (wrap64 (qK l x+Ce os c x.1.1 (jV x)))):=congrArg (fun z=>dR (wrap64 z)) (Int.add_comm _ _);have hbe:=uk (wrap64 (Ce os c x.1.1 (jV x)+qK l x));have TL:Hid (dR (wrap64 (Ce os c x.1.1 (jV x)+qK l x))=true->Cc c l=false):=fun hq=>by
      rw[UW.o]at hq;obtain⟨y,hy,hyx⟩:=mM.1 HXM.o;obtain⟨p,hp,hpl⟩:=HP.o y hy;have hk:x=sk p y.2.1:=(by rw[<-hyx];unfold ky;rw[hp,tN]);have ht:jV (sk p y.2.1)=y.2.1:=((kV (p:=p) (t:=y.2.1) (by omega)).1 rfl).2;have ha:(sk p y.2.1).1.1=(p:Int):=(by rw[j6 (by omega)]);have hcn:Ce os c (p:Int) y.2.1=c p y.2.1:=by
       unfold Ce;rw[if_pos (by have:=HOL.o;omega),tN]
      rw[hk,ht,ha,hcn,ME hN HP.o hpl]at hq;unfold Cc;rw[Bool.and_eq_false_iff];refine Or.inr (List.all_eq_false.2 ⟨y,hy, ?_⟩);rw[hp,tN];have:dR (bP (c p) (prt l p) y.2.1)=true:=hq;simp[this]
     have vC:Hid (dR (wrap64 (Ce os c x.1.1 (jV x)+qK l x))=false->∀s∈ss++[x],dR (wrap64 (qK l s+Ce os c s.1.1 (jV s)))=false):=fun hq s hs=>by
      rcases j3.1 hs with h|h
      ·exact HB.o s h
      ·rw[vF]at h;rw[h,<-UW.o];exact hq
     generalize qK l x=sx at *;generalize Ce os c x.1.1 (jV x)=fx at *;clear hs2 hblk hrg2 hv hat hkey hlk;cases hq:dR (wrap64 (fx+sx))with
     | true=>
      rw[hq]at hbe;have HF:=hid (TL.o hq);go_wp2_with fail;rw[<-hW3];refine hco.mono ?_;rintro e w4 ⟨rfl,hg4⟩;go_wp2_with (go_at_call 135;refine(hbe _).mono ?_;rintro e w5 ⟨rfl,rfl⟩);go_ret;refine⟨?_,jd.o.trans ((B3.trans (hg4.below.mono B3.size)).mono jd.o.size)⟩;rw[HF.o];rfl
     | false=>
      rw[hq]at hbe;have HF:=hid (vC.o hq);go_wp2_with fail;rw[<-hW3];refine hco.mono ?_;rintro e w4 ⟨rfl,hg4⟩;have B4:Below wL.heap.size wL w4:=B3.trans (hg4.below.mono B3.size);have Om:=hrg3.kept (row:=none) ⟨hg4.below.os,hg4.below.tape,hg4.below.output,hg4.below.size,fun k hk _=>hg4.below.block k hk⟩ (by simp) (by simp);clear q0 q1 q2 q3 hrg3 hco hg4;go_wp2_with (go_at_call 135;refine(hbe _).mono ?_;rintro e w5 ⟨rfl,rfl⟩);go_roundw;case rel=>exact⟨_,cnt2,ss++[x],Om,Io.o,B4,HF.o⟩
      case measure=>rw[Om.left_eq,hrg.left_eq];exact hlt2
end Rc
end Go.Proofs.YteekbpokkjjipaaGreat
