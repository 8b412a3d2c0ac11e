import Derived.Test.YteekbpokkjjipaaGreatJ20
variable{n c i q g j k B m:Nat}{v su:Go.Value}{cs:List Nat}
set_option maxHeartbeats 4000000
set_option maxRecDepth 100000
namespace Go.Proofs.YteekbpokkjjipaaGreat
namespace Lf
open Go.RowKit Go.Sort Pt
def EF:El Hf.Th where
 k:=4
 enc a:=[.int .i64 a.1, .int .u64 a.2.1.1, .int .u64 a.2.1.2.1, .int .u64 a.2.1.2.2]
 len _:=rfl
 one x u hu:=by
  simp at hu;rcases hu with rfl|rfl|rfl|rfl<;>rfl
theorem aaT{w:World}{ts:List Hf.Th}(h:Ls EF w v ts){x:Hf.Th}(hj:ts[j]? =some x):
    ∃b off c,v= .slice (some ⟨b,off,none⟩) ts.length c/\b<w.heap.size/\w.cell? ⟨b,off+j*4,none⟩=some (.int .i64 x.1)/\w.cell? ⟨b,off+j*4+1,none⟩=some (.int .u64 x.2.1.1)/\w.cell? ⟨b,off+j*4+2,none⟩=some (.int .u64 x.2.1.2.1)/\w.cell? ⟨b,off+j*4+3,none⟩=some (.int .u64 x.2.1.2.2):=by
 obtain⟨b,off,c,hv,hb,hc⟩:=h.get hj;exact⟨b,off,c,hv,hb,hc 0 _ (by decide) rfl,hc 1 _ (by decide) rfl,hc 2 _ (by decide) rfl,hc 3 _ (by decide) rfl⟩
abbrev Vw:={ v:Value // v.oneCell'=true }
def EV:El Vw where
 k:=1
 enc v:=[v.1]
 len _:=rfl
 one x u hu:=by simp at hu;subst hu;exact x.2
def Sp(w:World)(su:Value)(ss:List (List Hf.Th)):Prop:=∃vs:List Vw,Ls EV w su vs/\vs.length=ss.length/\∀(i:Nat) (v:Vw) (s:List Hf.Th),vs[i]? =some v->ss[i]? =some s->Ls EF w v.1 s
theorem Sp.below{w w':World}{ss:List (List Hf.Th)}(h:Sp w su ss)(hb:Below w.heap.size w w'):Sp w' su ss:=by
 obtain⟨vs,h1,h2,h3⟩:=h;exact⟨vs,h1.below hb,h2,fun i v s hv hs=>(h3 i v s hv hs).below hb⟩
theorem Sp.form{w:World}{ss:List (List Hf.Th)}(h:Sp w su ss):∃p c,su= .slice p ss.length c:=by
 obtain⟨vs,h1,h2,h3⟩:=h;rw[<-h2];exact h1.form
theorem Sp.at{w:World}{p:Option Addr}{ss:List (List Hf.Th)}(h:Sp w (.slice p n c) ss){s:List Hf.Th}(hs:ss[i]? =some s):∃b off q m,p=some ⟨b,off,none⟩/\b<w.heap.size/\w.cell? ⟨b,off+i,none⟩=some (.slice q s.length m)/\Ls EF w (.slice q s.length m) s:=by
 obtain⟨vs,h1,h2,h3⟩:=h;obtain⟨v,hv⟩:∃v,vs[i]? =some v:=⟨vs[i]'(by rw[h2];exact(lG.1 hs).1),by simp⟩;have h4:=h3 i v s hv hs;obtain⟨q,m,e⟩:=h4.form;obtain⟨b,off,c',e2,hb,hc⟩:=h1.get hv;simp only[vS]at e2;obtain⟨rfl,-,rfl⟩:=e2;have h5:=hc 0 _ (by decide) rfl;have h6:w.cell? ⟨b,off+i,none⟩=some v.1:=by simpa[EV]using h5
 rw[e]at h6 h4;exact⟨b,off,q,m,rfl,hb,h6,h4⟩
theorem V6:(Tryz.prog.info? 218).map (fun i=>(i.zero,i.size,i.bytes))=some (some (.pointer none),1,8):=by kernel_rfl
theorem Zn(n:Nat):(madeCells (Value.pointer none).cells (n*1)).toList=fl EP (([]:List Nat).map some++List.replicate (n-([]:List Nat).length) none):=by
 rw[Nat.mul_one,DZ];exact(toList_madeCells_one _ n).trans (by simp)
open Df (LV EL aL aF jo vk)
structure Fw{α:Type}(E:El α)(T TT:TypeId)(B:Nat)(w:World)(v:Value)(vs:List LV)(L:Nat->List α):Prop where
 row:w.ownsRow B TT 1 v vs.length (fl EL vs)
 each:∀(k:Nat) (x:LV),vs[k]? =some x->w.ownsRow B T E.k x.v (L k).length (fl E (L k))
 apart:∀(k:Nat) (x:LV),vs[k]? =some x->∀b,x.v.ownBlock=some b->∀(k':Nat) (x':LV),vs[k']? =some x'->x'.v.ownBlock=some b->k'=k
section
variable {α:Type} {E:El α} {T TT:TypeId} {B:Nat} {w w1 w':World} {v:Value} {vs:List LV} {L L':Nat->List α}
theorem Fw.below(h:Fw E T TT B w v vs L)(hb:Below w.heap.size w w'):Fw E T TT B w' v vs L:=⟨ag h.row hb,fun k x hk=>ag (h.each k x hk) hb,h.apart⟩
theorem Fw.re(h:Fw E T TT B w v vs L)(hL:∀k,k<vs.length->L k=L' k):Fw E T TT B w v vs L':=⟨h.row,fun k x hk=>by rw[<-hL k (lG.1 hk).1];exact h.each k x hk,h.apart⟩
theorem Fw.step(hTT:T≠TT)(h:Fw E T TT B w v vs L){k pb pc g cap:Nat}{x:LV}(hk:vs[k]? =some x)(hpv:v= .slice (some ⟨pb,0,none⟩) vs.length pc){y:α}
    (h1:w1.ownsRow B T E.k (.slice (some ⟨g,0,none⟩) ((L k).length+1) cap) ((L k).length+1) (fl E (L k)++E.enc y)) (h2:w.grownBy w1 x.v.ownBlock) (h3:x.v.ownBlock=some g\/w.heap.size<=g) :
    Fw E T TT B (w1.setCell ⟨pb,k,none⟩ (.slice (some ⟨g,0,none⟩) ((L k).length+1) cap)) v (vs.set k ⟨some ⟨g,0,none⟩,(L k).length+1,cap⟩) (fun j=>if j=k then L k++[y]else L j)/\Kp (fun j=>v.ownBlock=some j\/x.v.ownBlock=some j) w (w1.setCell ⟨pb,k,none⟩ (.slice (some ⟨g,0,none⟩) ((L k).length+1) cap)):=by
 have hks:=(lG.1 hk).1;have K2:=Kp.grownBy (S:=fun j=>x.v.ownBlock=some j) h2 (fun _ h=>h);have sp1:=ax K2 h.row (fun j e e2=>aF h.row (h.each k x hk) (Ne.symm hTT) j e e2);have sp2:=sp1;rw[hpv]at sp2;obtain⟨so,sk⟩:=jo sp2 k (.slice (some ⟨g,0,none⟩) ((L k).length+1) cap);have hpb:v.ownBlock=some pb:=by rw[hpv];rfl
 have Rx:∀{n:Nat} {u:Value} {us:List Value},w1.ownsRow B T E.k u n us->(w1.setCell ⟨pb,k,none⟩ (.slice (some ⟨g,0,none⟩) ((L k).length+1) cap)).ownsRow B T E.k u n us:=fun o=>ax sk o (fun j e e2=>aF o sp1 hTT j e (by rw[e2];exact hpb));have get:∀(j:Nat) (x':LV),(vs.set k ⟨some ⟨g,0,none⟩,(L k).length+1,cap⟩)[j]? =some x'->(j=k/\x'=⟨some ⟨g,0,none⟩,(L k).length+1,cap⟩)\/(j≠k/\vs[j]? =some x'):=fun j x' hj=>by
  rw[List.getElem?_set]at hj;by_cases e:k=j
  ·subst e;rw[if_pos rfl,if_pos hks]at hj;exact Or.inl ⟨rfl,(oJ hj).symm⟩
  ·rw[if_neg e]at hj;exact Or.inr ⟨fun e2=>e e2.symm,hj⟩
 have Ec:∀(j:Nat) (x':LV),vs[j]? =some x'->∀b,x'.v.ownBlock=some b->b<w.heap.size:=fun j x' hj b e=>(aL (h.each j x' hj) b e).2;refine⟨⟨?_, ?_, ?_⟩, ?_⟩
 ·rw[hpv];refine aS so (by simp) ?_;have:=vk EL vs k 0 x ⟨some ⟨g,0,none⟩,(L k).length+1,cap⟩ (.slice (some ⟨g,0,none⟩) ((L k).length+1) cap) hk (by decide) rfl;rw[show EL.k=1 from rfl,Nat.mul_one,nO]at this;exact this
 ·intro j x' hj;rcases get j x' hj with⟨rfl,rfl⟩|⟨hne,hj⟩
  ·simp only[if_true];exact aS (Rx h1) (by simp) (by rw[aT,dx])
  ·simp only[if_neg hne];exact Rx (ax K2 (h.each j x' hj) (fun b e e2=>hne (h.apart k x hk b e2 j x' hj e)))
 ·intro j x' hj b hb;rcases get j x' hj with⟨rfl,rfl⟩|⟨hne,hj2⟩
  ·obtain rfl:g=b:=(by simpa[Value.ownBlock]using hb);intro k' x' hk' e;rcases get k' x' hk' with⟨rfl,_⟩|⟨hne',hk'⟩
   ·rfl
   ·rcases h3 with h3|h3
    ·exact h.apart j x hk g h3 k' x' hk' e
    ·have:=Ec k' x' hk' g e;omega
  ·intro k' t hk' e;rcases get k' t hk' with⟨rfl,rfl⟩|⟨_,hk2⟩
   ·obtain rfl:g=b:=(by simpa[Value.ownBlock]using e);rcases h3 with h3|h3
    ·exact h.apart j x' hj2 g hb k' x hk h3
    ·have:=Ec j x' hj2 g hb;omega
   ·exact h.apart j x' hj2 b hb k' t hk2 e
 ·exact(K2.mono (T:=fun j=>v.ownBlock=some j\/x.v.ownBlock=some j) (fun j e=>Or.inr e)).trans sk (fun j _ e=>Or.inl (by rw[e];exact hpb))
theorem Fw.blocks(h:Fw E T TT B w v vs L){x:LV}(hk:vs[k]? =some x):∀j,v.ownBlock=some j\/x.v.ownBlock=some j->B<=j:=fun j e=>by
 rcases e with e|e
 ·exact(aL h.row j e).1
 ·exact(aL (h.each k x hk) j e).1
theorem Fw.other(h:Fw E T TT B w v vs L){x:LV}(hk:vs[k]? =some x)(hK:Kp (fun j=>v.ownBlock=some j\/x.v.ownBlock=some j) w w'){B2:Nat}{T2:TypeId}{size:Nat}{u:Value}{us:List Value}(ho:w.ownsRow B2 T2 size u n us)(hT:T2≠T)(hT2:T2≠TT):w'.ownsRow B2 T2 size u n us:=
 ax hK ho (fun j e e2=>by
  rcases e2 with e2|e2
  ·exact aF ho h.row hT2 j e e2
  ·exact aF ho (h.each k x hk) hT j e e2)
end
theorem UA(vs:List LV):fl EL vs=vs.map LV.v:=by
 induction vs with
 | nil => rfl
 | cons x l ih => rw[aV,ih];rfl
def LV.w(x:LV):Vw:=⟨x.v,rfl⟩
theorem aas(vs:List LV):fl EV (vs.map LV.w)=fl EL vs:=by
 induction vs with
 | nil => rfl
 | cons x l ih => rw[List.map_cons,aV,aV,ih];rfl
theorem Zm(n:Nat):(madeCells (Value.slice none 0 0).cells (n*1)).toList=fl EL (List.replicate n ⟨none,0,0⟩):=by
 rw[Nat.mul_one,UA];exact(toList_madeCells_one _ n).trans (by simp)
theorem Fw.made{α:Type}(E:El α)(T TT:TypeId){w1:World}{b:Nat}(hrow:w1.ownsRow B TT 1 (.slice (some ⟨b,0,none⟩) n c) n (madeCells (Value.slice none 0 0).cells (n*1)).toList):Fw E T TT B w1 (.slice (some ⟨b,0,none⟩) n c) (List.replicate n ⟨none,0,0⟩) (fun _=>[]):=by
 have hnil:∀(k:Nat) (x:LV),(List.replicate n (⟨none,0,0⟩:LV))[k]? =some x->x=⟨none,0,0⟩:=fun k x h=>List.eq_of_mem_replicate (lM h);refine⟨?_,fun k x h=> ?_,fun k x h b e=> ?_⟩
 ·rw[List.length_replicate];rw[Zm]at hrow;exact hrow
 ·rw[hnil k x h];exact oN _ _ _ _
 ·rw[hnil k x h]at e;cases e
theorem Fw.cell{α:Type}{E:El α}{T TT:TypeId}{B:Nat}{w:World}{g n c:Nat}{vs:List LV}{L:Nat->List α}(h:Fw E T TT B w (.slice (some ⟨g,0,none⟩) n c) vs L)(hn:vs.length=n){k:Nat}(hk:k<n):∃x:LV,vs[k]? =some x/\w.cell? ⟨g,k,none⟩=some x.v/\g<w.heap.size/\x.m=(L k).length/\w.ownsRow B T E.k x.v (L k).length (fl E (L k)):=by
 obtain⟨x,hx⟩:∃x,vs[k]? =some x:=⟨vs[k]'(by omega),by simp⟩;obtain⟨b,off,c,hv,hb,hc⟩:=Df.pY (aJ (E:=EL) h.row) hx;simp only[vS,oI,aI]at hv;obtain⟨⟨rfl,rfl,-⟩,-,-⟩:=hv;rw[nZ]at hc;exact⟨x,hx,hc,hb,(Df.aU (h.each k x hx) _ _ _ rfl).1,h.each k x hx⟩
theorem Fw.sp{T TT:TypeId}{w:World}{vs:List LV}{L:Nat->List Hf.Th}(h:Fw EF T TT B w v vs L):Sp w v ((List.range vs.length).map L):=by
 refine⟨vs.map LV.w,aJ (E:=EV) (e:=TT) (base:=B) ?_,by simp,fun i v' s hv hs=> ?_⟩
 ·rw[aas,fQ];exact h.row
 ·rw[gM]at hv;cases e:vs[i]? with
  | none => rw[e]at hv;cases hv
  | some x=>
   rw[e]at hv;cases hv;have hi:=(lG.1 e).1;rw[gM,List.getElem?_range hi]at hs;cases hs;exact aJ (E:=EF) (h.each i x e)
end Lf
namespace Lf
open Go.RowKit Go.Sort Pt
structure Pu(ss:List (List Hf.Th))(p d:Nat)(rows:Nat->List ah)(L:List Hf.It)(np:Nat):Prop where
 iv:Iv PX (JD ss) p rows (opn L)
 rg:Rg ss.length L
 sm:∀q,(rows q).length<=64
 nb:np<=1+tot ss.length rows*d
 ln:L.length<=np
section
variable {ss:List (List Hf.Th)} {s:List Hf.Th} {p d q0 k np EU:Nat} {w:ah} {rows:Nat->List ah} {R L L':List Hf.It}
theorem Pu.init(hp:p<ss.length):Pu ss p d (fun _=>[]) [(((p:Int),PX.z),0)] 1:=by
 refine⟨by simpa[opn]using Iv.init (X:=PX) (St:=JD ss) (p:=p),fun x hx=> ?_,fun _=>zL _,by omega,nR _⟩;simp only[vF]at hx;subst hx;exact⟨p,hp,rfl⟩
theorem Pu.bd(h:Pu ss p d rows L np)(hM:(64*ss.length*(d+1)+2)*40<=140737488355328):np<=64*ss.length*(d+1)+1/\L.length<=64*ss.length*(d+1)+1/\(L.length+1)*40<=140737488355328/\np+1<18446744073709551616:=by
 have h1:=Aa (n:=ss.length) (m:=64) (rows:=rows) (fun q _=>h.sm q);have h2:tot ss.length rows*d<=64*ss.length*(d+1):=Nat.mul_le_mul h1 (Nat.le_succ d);have h3:=h.nb;have h4:=h.ln;refine⟨by omega,by omega,by omega,by omega⟩
theorem Pu.skip(h:Pu ss p d rows L np)(hp:((((q0:Int),w),k)::R).Perm L)(hc:pE PX (rows q0) w):Pu ss p d rows R np/\I7 ss.length d rows R.length<I7 ss.length d rows L.length:=by
 have h0:∀x,x∈opn L↔x=(q0,w)\/x∈opn R:=fun x=>by
  rw[<-kz hp x,mQ];simp
 have hl:R.length+1=L.length:=by simpa using hp.length_eq
 refine⟨⟨h.iv.skip (fun x hx=>(h0 x).1 hx) (fun x hx=>(h0 x).2 (Or.inr hx)) hc,fun x hx=>h.rg x (hp.mem_iff.1 (mO _ hx)),h.sm,h.nb,by have:=h.ln;omega⟩, ?_⟩;unfold I7;omega
theorem Pu.take(h:Pu ss p d rows L np)(hp:((((q0:Int),w),k)::R).Perm L)(hk:∀x∈R,Hf.kf ((q0:Int),w)<Hf.kf x.1\/(Hf.kf ((q0:Int),w)=Hf.kf x.1/\k<x.2))(hc:¬pE PX (rows q0) w)(hs:ss[q0]? =some s)(hd:s.length<=d)(h64:(rows q0).length+1<=64)
    (hi:o5 s ss.length w (dL rows q0 w) R L' s.length) (hn1:EU<=np+s.length) (hn2:L'.length<=EU):Pu ss p d (dL rows q0 w) L' EU/\I7 ss.length d (dL rows q0 w) L'.length<I7 ss.length d rows L.length:=by
 have hq:q0<ss.length:=(lG.1 hs).1;have hl:R.length+1=L.length:=by simpa using hp.length_eq
 have hsm:∀q,(dL rows q0 w q).length<=64:=fun q=>by
  unfold dL;split
  ·rename_i e;subst e;simpa using h64
  ·exact h.sm q
 refine⟨⟨hi.fin h.iv hp (zK hp hk) hc hs,hi.rg,hsm, ?_,hn2⟩, ?_⟩
 ·rw[vO,if_pos hq,Nat.add_mul,Nat.one_mul];have:=h.nb;omega
 ·exact Nq hq (fun q _=>hsm q) (by omega) (by have:=hi.cnt;omega)
theorem Pu.wide(h:Pu ss p d rows L np)(hp:((((q0:Int),w),k)::R).Perm L)(hk:∀x∈R,Hf.kf ((q0:Int),w)<Hf.kf x.1\/(Hf.kf ((q0:Int),w)=Hf.kf x.1/\k<x.2))(hc:¬pE PX (rows q0) w)(h64:64<(rows q0).length+1):rR PX (JD ss) p none:=by
 obtain⟨o,ho⟩:=Mg h.iv hp (zK hp hk) hc;exact ho.wide bH (q:=q0) (by unfold dL;rw[if_pos rfl];simpa using h64)
theorem Pu.fin(h:Pu ss p d rows [] np):rR PX (JD ss) p (some rows):=Iv.fin bH h.iv h.sm
theorem Pu.ins(h:Pu ss p d rows L np)(hp:((((q0:Int),w),k)::R).Perm L):gq au dH (rows q0) w=if bG au (rows q0) w then rows q0 else rows q0++[w]:=
 Ti Pc.BO Pc.L8 bH h.iv (by rw[<-kz hp,mQ];simp)
end
end Lf
section
open Go.RowKit Go.Sort
attribute[local go_sem ↓]wp_at_zero wp_at_succ
end
namespace Df
open Go.RowKit Go.Sort
attribute[local go_sem ↓]wp_at_zero wp_at_succ
def sC(ns:List dw)(i:Nat)(c:dJ):dJ:=⟨((Qm ns i c:Nat):Int),((cOut ns i c:Nat):Int),c.via⟩
def jF(ns:List dw):Nat->List dJ
 | 0 => []
 | i + 1 => jF ns i++(dh ns (i:Int)).map (sC ns i)
def sE(ns:List dw)(d:dN):dJ:=⟨((dZ ns d:Nat):Int),((iM ns d:Nat):Int),(0,0,0)⟩
def rQ(g:bD):List dJ:=jF g.nodes g.nodes.length++g.aN.map (sE g.nodes)
def emR(g:bD):List dJ:=(rQ g).filter RU
theorem Dk{g:bD}(h:gQ g)(m:Nat):(jF g.nodes m).length<=16*m:=by
 induction m with
 | zero => simp[jF]
 | succ m ih=>
  unfold jF;rw[dK,fQ];have h2:=h.BF m;omega
theorem QL{g:bD}(h:gQ g):(rQ g).length<=432:=by
 unfold rQ;rw[dK,fQ];have h1:=Dk h g.nodes.length;have h2:=h.nl;have h3:=h.el;omega
theorem wM{ns:List dw}{x:dJ}:x∈jF ns m↔∃i c,i<m/\c∈dh ns ((i:Nat):Int)/\x=sC ns i c:=by
 induction m with
 | zero => simp[jF]
 | succ m ih=>
  unfold jF;rw[j3,ih];constructor
  ·rintro(⟨i,c,h1,h2⟩|h)
   ·exact⟨i,c,by omega,h2⟩
   ·obtain⟨c,hc,rfl⟩:=mM.1 h;exact⟨m,c,by omega,hc,rfl⟩
  ·rintro⟨i,c,h1,h2,rfl⟩;by_cases e:i=m
   ·subst e;exact Or.inr (mM.2 ⟨c,h2,rfl⟩)
   ·exact Or.inl ⟨i,c,by omega,h2,rfl⟩
theorem SH{g:bD}{x:dJ}:x∈emR g↔∃p q:Nat,x=⟨(p:Int),(q:Int),(0,0,0)⟩/\(p,q)∈iJ g:=by
 unfold emR rQ iJ;rw[mF,j3,wM];constructor
 ·rintro⟨⟨i,c,h1,h2,rfl⟩|h,he⟩
  ·have hv:c.via=(0,0,0):=of_decide_eq_true he;exact⟨Qm g.nodes i c,cOut g.nodes i c,by simp[sC,hv],j3.2 (Or.inr (wK.2 ⟨i,c,h1,h2,by simp[RU,hv],rfl⟩))⟩
  ·obtain⟨d,hd,rfl⟩:=mM.1 h;exact⟨dZ g.nodes d,iM g.nodes d,rfl,j3.2 (Or.inl (mM.2 ⟨d,hd,rfl⟩))⟩
 ·rintro⟨p,q,rfl,h⟩;refine⟨?_,by simp[RU]⟩;rcases j3.1 h with h|h
  ·obtain⟨d,hd,e⟩:=mM.1 h;unfold SK at e;simp only[Prod.mk.injEq]at e;exact Or.inr (mM.2 ⟨d,hd,by unfold sE;rw[e.1,e.2]⟩)
  ·obtain⟨i,c,h1,h2,h3,e⟩:=wK.1 h;unfold Pp at e;simp only[Prod.mk.injEq]at e;have hv:c.via=(0,0,0):=of_decide_eq_true h3;exact Or.inl ⟨i,c,h1,h2,by unfold sC;rw[<-e.1,<-e.2,hv]⟩
end Df
namespace Lf
open Go.RowKit Go.Sort Pt
open Df (dJ bD dw dN nJ gP aO rQ jF sE sC Qm cOut dZ iM gQ dh fM)
instance (p:nJ):Decidable (gP p):=by unfold Df.gP Df.Et;infer_instance
def JL(p:nJ):ah:=if h:gP p then⟨((p.1:Int),(p.2.1:Int),(p.2.2:Int)),by
 obtain⟨h1,h2,h3⟩:=h;unfold Df.Et at h1 h2 h3;exact⟨(kP _).2 ⟨by simp only;omega,by simp only;omega⟩,(kP _).2 ⟨by simp only;omega,by simp only;omega⟩,(kP _).2 ⟨by simp only;omega,by simp only;omega⟩⟩⟩else PX.z
theorem uP{p:nJ}(h:gP p):(JL p).1.1=(p.1:Int)/\(JL p).1.2.1=(p.2.1:Int)/\(JL p).1.2.2=(p.2.2:Int):=by
 unfold JL;rw[dif_pos h];exact⟨rfl,rfl,rfl⟩
theorem TY:JL (0,0,0)=PX.z:=by
 have h:gP (0,0,0):=⟨by unfold Df.Et;simp,by unfold Df.Et;simp,by unfold Df.Et;simp⟩;obtain⟨h1,h2,h3⟩:=uP h;exact bW (by rw[h1];rfl) (by rw[h2];rfl) (by rw[h3];rfl)
def th(c:dJ):Hf.Th:=(c.o,JL c.via)
def mE(l:List dJ)(q:Nat):List Hf.Th:=(l.filter (fun c=>c.df==(q:Int))).map th
theorem QR(l m:List dJ)(q:Nat):mE (l++m) q=mE l q++mE m q:=by simp[mE]
theorem QQ(c:dJ)(q:Nat):mE [c] q=if c.df=(q:Int)then[th c]else[]:=by
 unfold mE;by_cases h:c.df=(q:Int)
 ·simp[h]
 ·simp[h]
theorem kW{l:List dJ}{x:Hf.Th}:x∈mE l q↔∃c∈l,c.df=(q:Int)/\x=th c:=by
 unfold mE;rw[mM];constructor
 ·rintro⟨c,hc,rfl⟩;obtain⟨h1,h2⟩:=mF.1 hc;exact⟨c,h1,by simpa using h2,rfl⟩
 ·rintro⟨c,h1,h2,rfl⟩;exact⟨c,mF.2 ⟨h1,by simpa using h2⟩,rfl⟩
theorem Aw(l:List dJ)(q:Nat):(mE l q).length<=l.length:=by
 unfold mE;rw[fQ];exact List.length_filter_le _ _
def FM(n:Nat)(l:List dJ):List (List Hf.Th):=(List.range n).map (mE l)
theorem jL(n:Nat)(l:List dJ):(FM n l).length=n:=by simp[FM]
theorem IE(l:List dJ)(h:q<n):(FM n l)[q]? =some (mE l q):=by simp[FM,h]
theorem kS{l:List dJ}{q':Nat}{b:ah}:JD (FM n l) q q' b↔q<n/\∃c∈l,c.df=(q:Int)/\c.o=(q':Int)/\JL c.via=b:=by
 unfold JD;constructor
 ·rintro⟨s,hs,hm⟩;have hq:q<n:=by
   have:=(lG.1 hs).1
   rwa [jL]at this
  rw[IE l hq]at hs;cases hs;obtain⟨c,h1,h2,h3⟩:=kW.1 hm;simp only[th,Prod.mk.injEq]at h3;exact⟨hq,c,h1,h2,h3.1.symm,h3.2.symm⟩
 ·rintro⟨hq,c,h1,h2,h3,h4⟩;exact⟨_,IE l hq,kW.2 ⟨c,h1,h2,by simp[th,h3,h4]⟩⟩
def uS(g:bD):List dJ:=g.aN.map (sE g.nodes)++jF g.nodes g.nodes.length
theorem kT{g:bD}{c:dJ}:c∈uS g↔c∈rQ g:=by
 unfold uS rQ;rw[j3,j3];exact Or.comm
theorem CR(g:bD)(n:Nat):JD (FM n (uS g))=JD (FM n (rQ g)):=by
 funext q q' b
 refine propext ?_;rw[kS,kS];exact and_congr_right fun _=>exists_congr fun c=>and_congr_left fun _=>kT
theorem Am{g:bD}(h:gQ g):(uS g).length<=432:=by
 have:=Df.QL h;unfold rQ at this;unfold uS;rw[dK]at this⊢;omega
def uC(g:bD):Prop:=∀n∈g.nodes,gP n.via/\∀c∈n.bT,gP c.via
theorem yK:gP (0,0,0):=⟨by unfold Df.Et;simp,by unfold Df.Et;simp,by unfold Df.Et;simp⟩
theorem uC.XH{g:bD}(h:uC g){c:dJ}(hc:c∈dh g.nodes (i:Int)):gP c.via:=by
 rw[Df.nG]at hc;cases e:g.nodes[i]? with
 | none => rw[e]at hc;simp at hc
 | some n=>
  rw[e]at hc;have hn:=h n (lM e);have hc:c∈fM n:=hc;unfold fM at hc;split at hc
  ·simp only[vF]at hc;subst hc;exact hn.1
  ·split at hc
   ·exact hn.2 c hc
   ·have:c.via=(0,0,0):=by
      clear hn e;generalize n.ins.toNat=ii at hc
      induction ii with
      | zero => simp[Df.kK]at hc
      | succ k ih=>
       simp only[Df.kK,j3]at hc;rcases hc with hc|hc
       ·exact ih hc
       ·simp only[Df.oO,mM]at hc;obtain⟨o,_,rfl⟩:=hc;rfl
    rw[this];exact yK
theorem QK{g:bD}(h:uC g){c:dJ}(hc:c∈rQ g):gP c.via:=by
 unfold rQ at hc;rcases j3.1 hc with k|k
 ·obtain⟨i,d,_,h2,rfl⟩:=Df.wM.1 k;exact(h.XH h2:gP d.via)
 ·obtain⟨d,_,rfl⟩:=mM.1 k;exact yK
theorem Al{g:bD}(h:gQ g){c:dJ}(hc:c∈rQ g):(∃p:Nat,p<aO g.nodes/\c.df=(p:Int))/\∃q:Nat,q<aO g.nodes/\c.o=(q:Int):=by
 unfold rQ at hc;rcases j3.1 hc with k|k
 ·obtain⟨i,d,_,h2,rfl⟩:=Df.wM.1 k;obtain⟨h3,h4⟩:=h.XH h2;exact⟨⟨_,Df.xR h3,rfl⟩,_,Df.BJ h4,rfl⟩
 ·obtain⟨d,h1,rfl⟩:=mM.1 k;obtain⟨j,hj⟩:=iG.1 h1;obtain⟨h3,h4⟩:=h.ends hj;exact⟨⟨_,Df.mP h3,rfl⟩,_,Df.Bo h4,rfl⟩
theorem Mo{g:bD}(h:gQ g){l:List dJ}(hl:∀c∈l,c∈rQ g):∀s∈FM (aO g.nodes) l,∀x∈s,∃q:Nat,q<(FM (aO g.nodes) l).length/\x.1=(q:Int):=fun s hs x hx=>by
 obtain⟨k,_,rfl⟩:=mM.1 hs;obtain⟨c,h1,_,rfl⟩:=kW.1 hx;rw[jL];exact(Al h (hl c h1)).2
theorem Mr{l:List dJ}(h:l.length<=m):∀s∈FM n l,s.length<=m:=fun s hs=>by
 obtain⟨k,_,rfl⟩:=mM.1 hs;exact nT (Aw l k) h
section
variable {ss:List (List Hf.Th)} {s:List Hf.Th} {p d q0 k np EU:Nat} {w:ah} {rows:Nat->List ah} {R L L':List Hf.It}
end
end Lf
namespace Lf
open Go.RowKit Go.Sort Pt
attribute[local go_sem ↓]wp_at_zero wp_at_succ
structure Tb(base:Nat)(w:World)(v:Value)(vs:List Vw)(ts:List (List Tm)):Prop where
 row:w.ownsRow base 50 1 v ts.length (fl EV vs)
 len:vs.length=ts.length
 each:∀(i:Nat) (u:Vw) (t:List Tm),vs[i]? =some u->ts[i]? =some t->w.ownsRow base 52 3 u.1 t.length (eG t)/\∀k,u.1.ownBlock=some k->v.ownBlock≠some k
theorem Tb.nil(base:Nat)(w:World):Tb base w (.slice none 0 0) [] []:=⟨oN _ _ _ _,rfl,fun i u t h=>by simp at h⟩
theorem Tb.app{base cap:Nat}{wr w5 w6:World}{vs:List Vw}{ts:List (List Tm)}{t:List Tm}(u:Vw)(h:Tb base wr v vs ts)(hb:base<=wr.heap.size)(hB:Below wr.heap.size wr w5)(ho:w5.ownsRow wr.heap.size 52 3 u.1 t.length (eG t))
    (hn:w6.ownsRow base 50 1 (.slice (some ⟨g,0,none⟩) (ts.length+1) cap) (ts.length+1) (fl EV vs++EV.enc u)) (hg:w5.grownBy w6 v.ownBlock) (hgg:v.ownBlock=some g\/w5.heap.size<=g):Tb base w6 (.slice (some ⟨g,0,none⟩) (ts.length+1) cap) (vs++[u]) (ts++[t]):=by
 have hK:Kp (fun k=>v.ownBlock=some k) w5 w6:=Kp.grownBy hg (fun _ h=>h);have hne:∀k,(v.ownBlock≠some k)->k<w5.heap.size->(Value.slice (some ⟨g,0,none⟩) (ts.length+1) cap).ownBlock≠some k:=fun k h1 h2 e=>by
  have e:g=k:=by simpa[Value.ownBlock]using e
  subst e;rcases hgg with h3|h3
  ·exact h1 h3
  ·omega
 refine⟨?_,by rw[dK,dK,h.len];rfl,fun i u' t' hu ht=> ?_⟩
 ·rw[dK,lS,aT,dx];exact hn
 ·by_cases hi:i<ts.length
  ·rw[gL (by rw[h.len];exact hi)]at hu;rw[gL hi]at ht;obtain⟨h1,h2⟩:=h.each i u' t' hu ht;have h3:=ag h1 hB;exact⟨ax hK h3 (fun k hk e=>h2 k hk e),fun k hk=>hne k (h2 k hk) (h3.lt k hk).2⟩
  ·have e:i=ts.length:=by
     have:=(lG.1 ht).1;rw[dK,lS]at this;omega
   subst e;rw[U5 (nR _),Nat.sub_self]at ht;rw[<-h.len,U5 (nR _),Nat.sub_self]at hu;cases ht;cases hu;have h2:∀k,u.1.ownBlock=some k->v.ownBlock≠some k:=fun k hk e=>by
    have:=(ho.lt k hk).1;have:=(h.row.lt k e).2;omega
   exact⟨ax hK (aM ho hb) (fun k hk e=>h2 k hk e),fun k hk=>hne k (h2 k hk) (ho.lt k hk).2⟩
theorem V3:(Tryz.prog.info? 50).map (fun i=>(i.zero,i.size,i.bytes))=some (some (.slice none 0 0),1,24):=by kernel_rfl
theorem EM{w:World}(h:Ls EP w (.slice (some ⟨g,0,none⟩) n n) (cs.map some))(hc:cs[i]? =some c):w.cell? ⟨g,i,none⟩=some (.pointer (some ⟨c,0,none⟩))/\g<w.heap.size:=by
 obtain⟨b,off,c',e,hb,hx⟩:=h.get (j:=i) (t:=some c) (by rw[gM,hc];rfl);simp only[vS,oI,aI,and_true]at e;obtain⟨⟨rfl,rfl⟩,-,-⟩:=e;exact⟨by simpa[EP]using hx 0 _ (by decide) rfl,hb⟩
theorem Dq{tag:Nat->Nat}{rows:Nat->List Tm}(w:World)(hl:Ls EP w (.slice (some ⟨g,0,none⟩) n n) (cs.map some))(hn:cs.length=n)(hch:∀i c,cs[i]? =some c->Cm w tag (i+3) c (rows i))(hsm:∀q,(rows q).length<=64)(hnb:n*2560<=140737488355328):
    Calls Tryz.prog 132 #[.slice (some ⟨g,0,none⟩) n n] w fun e w'=>∃v vs,e= .returned v/\Tb w.heap.size w' v vs ((List.range n).map rows)/\Below w.heap.size w w':=by
 have HL:Hid (Ls EP w (.slice (some ⟨g,0,none⟩) n n) (cs.map some)):=hl;have HC:Hid (∀i c,cs[i]? =some c->Cm w tag (i+3) c (rows i)):=hch;clear hl hch;go_enter Tryz.func132,Tryz.ntmps132;go_wp2_with fail;go_loopw [3,5,8] (fun s3 _ s8 wr=>∃(i:Nat) (vs:List Vw),i<=n/\s8= .int .i64 i/\Hid (Tb w.heap.size wr s3 vs ((List.range i).map rows)/\Below w.heap.size w wr)) (fun _ _ s8 _=>n-(intOf s8).toNat);case atStart=>exact⟨0,[],zL _,rfl,Tb.nil _ _,Below.refl _ _⟩
 case round=>
  obtain⟨i,vs,hi,rfl,HT⟩:=hrel;by_cases hlt:i<n
  ·have hltz:(i:Int)<(n:Int):=(by omega);have hi0:(0:Int)<=(i:Int):=(by omega);obtain⟨c,hc⟩:∃c,cs[i]? =some c:=⟨cs[i]'(by omega),by simp⟩;obtain⟨x0,x1⟩:=EM (HL.o.below HT.o.2) hc;have hm:=(HC.o i c hc).below HT.o.2;have hlist:Calls Tryz.prog 194 #[.pointer (some ⟨c,0,none⟩)] wr fun e w'=>∃pp cc,e= .returned (.slice pp (rows i).length cc)/\w'.ownsRow wr.heap.size 52 3 (.slice pp (rows i).length cc) (rows i).length (eG (rows i))/\Below wr.heap.size wr w':=by
    obtain⟨v,h1,_⟩:=hm;refine(Pc.Cn.kE wr h1 (by have:=hsm i;omega)).mono ?_;rintro e w' ⟨v',rfl,q1,q2⟩;obtain⟨pp,cc,rfl⟩:=(dC q1).form;exact⟨pp,cc,rfl,q1,q2⟩
   clear hm hc;go_wp2_with fail;refine hlist.mono ?_;rintro e w5 ⟨pu,cu,rfl,hu5,hb5⟩;obtain⟨u,hu⟩:∃u:Vw,u.1= .slice pu (rows i).length cu:=⟨⟨_,rfl⟩,rfl⟩;rw[<-hu]at hu5;have hen:EV.enc u=[.slice pu (rows i).length cu]:=(by rw[<-hu];rfl);have HU5:Hid (w5.ownsRow wr.heap.size 52 3 u.1 (rows i).length (eG (rows i))/\Below wr.heap.size wr w5):=⟨hu5,hb5⟩;have Uj:w.heap.size<=w5.heap.size:=nT HT.o.2.size hb5.size;have hrow:=ag HT.o.1.row hb5;have hlen:((List.range i).map rows).length=i:=(by simp);rw[hlen]at hrow;clear hu5 hb5 hlist x0 hu;go_wp2_with (at_builtin;refine fU EV Tryz.underlying143 V3 rfl (by decide) rfl _ _ rfl w.heap.size _ i _ rfl hrow u rfl (by omega) (by unfold maxLen;omega) Uj _ hen.symm _ ?_);intro g6 c6 w6 qA ny DI;have Qq:Hid (Tb w.heap.size w6 (.slice (some ⟨g6,0,none⟩) (i+1) c6) (vs++[u]) ((List.range (i+1)).map rows)/\Below w.heap.size w w6):=by
    have h1:=HT.o.1.app (g:=g6) (cap:=c6) (w6:=w6) u HT.o.2.size HU5.o.2 HU5.o.1 (by rw[hlen,hen];exact qA) ny DI;rw[hlen]at h1;rw[Y6,zV];refine⟨h1,(HT.o.2.trans (HU5.o.2.mono HT.o.2.size)).trans ((Kp.grownBy (S:=fun k=>w.heap.size<=k) ny (fun k hk=>(hrow.lt k hk).1)).below Uj (fun _ h=>h))⟩
   clear qA ny DI hrow;go_wp2_with fail;go_roundw;case rel=>exact⟨i+1,_,by omega,by first|rfl|go_num,Qq.o⟩
   case measure=>simp[intOf];omega
  ·have hltz:¬(i:Int)<(n:Int):=(by omega);have hin:i=n:=(by omega);subst hin;go_wp2;go_ret;exact⟨_,rfl,⟨vs,HT.o.1⟩,HT.o.2⟩
end Lf
namespace Lf
open Go.RowKit Go.Sort Pt
section
variable {w0 w w':World} {tag tag':Nat->Nat} {hb g n np B:Nat} {cs:List Nat} {rows:Nat->List Tm} {L R:List Hf.It}
theorem Lf.next(h:Lf w0 tag hb g n cs rows L np w)(hl:L.length<=140737488355328):
    Calls Tryz.prog 127 #[.pointer (some ⟨hb,0,none⟩)] w fun e w'=>∃(b:Bool) (t:Hf.Th) (k:Nat) (R:List Hf.It) (tag':Nat->Nat),e= .returned (Hf.ans t b)/\Lf w0 tag' hb g n cs rows R np w'/\Nx 1 tag tag' w w'/\
     (b=true->((t,k)::R).Perm L/\∀x∈R,Hf.kf t<Hf.kf x.1\/(Hf.kf t=Hf.kf x.1/\k<x.2))/\(b=false->L=[]/\R=[]):=by
 cases L with
 | nil=>
  refine h.hm.aa1.mono ?_;rintro e w' ⟨rfl,hB⟩;exact⟨false,Hf.zt,0,[],tag,rfl,h.below hB,Nx.below 1 tag hB,(fun e=>by cases e),fun _=>⟨rfl,rfl⟩⟩
 | cons t L1=>
  refine(h.hm.pop (t:=t) rfl hl).mono ?_;rintro e w' ⟨R,rfl,q1,q2,q3,q4⟩;exact⟨true,t.1,t.2,R,_,rfl,h.heap q1 q4,q4,(fun _=>⟨q2,q3⟩),(fun e=>by cases e)⟩
structure Bx(w0:World)(tag:Nat->Nat)(B:Nat)(t:Hf.Th)(w:World):Prop where
 blk:w.heap[B]? =some (.cells #[.int .i64 t.1, .int .u64 t.2.1.1, .int .u64 t.2.1.2.1, .int .u64 t.2.1.2.2] 215 (0,0))
 tg:tag B=0
 nw:w0.heap.size<=B
theorem Bx.lt{t:Hf.Th}(h:Bx w0 tag B t w):B<w.heap.size:=(aG.1 h.blk).1
theorem Bx.nx{t:Hf.Th}(h:Bx w0 tag B t w)(hn:Nx j tag tag' w w')(hj:j≠0):Bx w0 tag' B t w':=
 ⟨(hn.kp.block B h.lt (fun e=>hj (e.symm.trans h.tg))).trans h.blk,(hn.old B h.lt).trans h.tg,h.nw⟩
theorem Bx.below{t:Hf.Th}(h:Bx w0 tag B t w)(hB:Below w.heap.size w w'):Bx w0 tag B t w':=h.nx (Nx.below 1 tag hB) (by decide)
theorem Bx.cells{t:Hf.Th}(h:Bx w0 tag B t w):w.cell? ⟨B,0,none⟩=some (.int .i64 t.1)/\w.cell? ⟨B,1,none⟩=some (.int .u64 t.2.1.1)/\w.cell? ⟨B,2,none⟩=some (.int .u64 t.2.1.2.1)/\w.cell? ⟨B,3,none⟩=some (.int .u64 t.2.1.2.2):=by
 simp[World.cell?,h.blk]
theorem Bx.fz{t:Hf.Th}(h:Bx w0 tag B t w):w.frozen? ⟨B,0,none⟩=false/\w.frozen? ⟨B,1,none⟩=false/\w.frozen? ⟨B,2,none⟩=false/\w.frozen? ⟨B,3,none⟩=false:=by
 simp[World.frozen?,h.blk]
theorem Lf.box(h:Lf w0 tag hb g n cs rows R np w)(t:Hf.Th):Lf w0 (tg tag w 0) hb g n cs rows R np (w.alloc (.cells #[.int .i64 t.1, .int .u64 t.2.1.1, .int .u64 t.2.1.2.1, .int .u64 t.2.1.2.2] 215))/\Bx w0 (tg tag w 0) w.heap.size t (w.alloc (.cells #[.int .i64 t.1, .int .u64 t.2.1.1, .int .u64 t.2.1.2.1, .int .u64 t.2.1.2.2] 215)):=by
 have hB:Below w.heap.size w (w.alloc (.cells #[.int .i64 t.1, .int .u64 t.2.1.1, .int .u64 t.2.1.2.1, .int .u64 t.2.1.2.2] 215)):=((Gr.refl w).alloc _).below;have hn:Nx 1 tag (tg tag w 0) w (w.alloc (.cells #[.int .i64 t.1, .int .u64 t.2.1.1, .int .u64 t.2.1.2.1, .int .u64 t.2.1.2.2] 215)):=⟨Kp.of_below hB,fun _ hk=>aj hk⟩;have Ur:Nx 0 tag (tg tag w 0) w (w.alloc (.cells #[.int .i64 t.1, .int .u64 t.2.1.1, .int .u64 t.2.1.2.1, .int .u64 t.2.1.2.2] 215)):=⟨Kp.of_below hB,fun _ hk=>aj hk⟩;exact⟨h.heap (h.hm.nx Ur (by decide)) hn,⟨ai _ _,aR (nR _),h.bl.size⟩⟩
theorem Lf.set{t:Hf.Th}(h:Lf w0 tag hb g n cs rows R np w)(hx:Bx w0 tag B t w)(u:Hf.Th):Lf w0 tag hb g n cs rows R np ((((w.setCell ⟨B,0,none⟩ (.int .i64 u.1)).setCell ⟨B,1,none⟩ (.int .u64 u.2.1.1)).setCell ⟨B,2,none⟩ (.int .u64 u.2.1.2.1)).setCell ⟨B,3,none⟩ (.int .u64 u.2.1.2.2))/\
    Bx w0 tag B u ((((w.setCell ⟨B,0,none⟩ (.int .i64 u.1)).setCell ⟨B,1,none⟩ (.int .u64 u.2.1.1)).setCell ⟨B,2,none⟩ (.int .u64 u.2.1.2.1)).setCell ⟨B,3,none⟩ (.int .u64 u.2.1.2.2)):=by
 obtain⟨h1,h2⟩:=Hf.nS (c0:= .int .i64 u.1) (c1:= .int .u64 u.2.1.1) (c2:= .int .u64 u.2.1.2.1) (c3:= .int .u64 u.2.1.2.2) hx.blk;generalize (((w.setCell ⟨B,0,none⟩ (.int .i64 u.1)).setCell ⟨B,1,none⟩ (.int .u64 u.2.1.1)).setCell ⟨B,2,none⟩ (.int .u64 u.2.1.2.1)).setCell ⟨B,3,none⟩ (.int .u64 u.2.1.2.2)=w' at h1 h2⊢;have hn:Nx 0 tag tag w w':=⟨h2.mono (fun k hk=>by rw[hk];exact hx.tg),fun _ _=>rfl⟩;obtain⟨r1,r2⟩:=h.row hn (by decide);exact⟨⟨h.bl.trans (h2.below h.bl.size (fun k hk=>by rw[hk];exact hx.nw)),h.nw,h.len,r1,r2,h.hm.nx hn (by decide),fun i c hc=>(h.ch i c hc).nx hn (by omega)⟩,⟨h1,hx.tg,hx.nw⟩⟩
end
end Lf
end Go.Proofs.YteekbpokkjjipaaGreat
