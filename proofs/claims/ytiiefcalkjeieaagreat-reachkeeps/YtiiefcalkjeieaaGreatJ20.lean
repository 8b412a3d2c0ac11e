import Derived.Test.YtiiefcalkjeieaaGreatJ19
variable{n c i q g j k B m:Nat}{v su:Go.Value}{cs:List Nat}
set_option maxHeartbeats 4000000
set_option maxRecDepth 100000
namespace Go.Proofs.YtiiefcalkjeieaaGreat
namespace Lf
open Go.RowKit Go.Sort Pt
def EF:El Hf.Th where
 k:=4
 enc a:=[.int .i64 a.1, .int .u64 a.2.1.1, .int .u64 a.2.1.2.1, .int .u64 a.2.1.2.2]
 len _:=rfl
 one x u hu:=by
  simp at hu;rcases hu with rfl|rfl|rfl|rfl<;>rfl
theorem abe{w:World}{ts:List Hf.Th}(h:Ls EF w v ts){x:Hf.Th}(hj:ts[j]? =some x):
    ∃b off c,v= .slice (some ⟨b,off,none⟩) ts.length c/\b<w.heap.size/\w.cell? ⟨b,off+j*4,none⟩=some (.int .i64 x.1)/\w.cell? ⟨b,off+j*4+1,none⟩=some (.int .u64 x.2.1.1)/\w.cell? ⟨b,off+j*4+2,none⟩=some (.int .u64 x.2.1.2.1)/\w.cell? ⟨b,off+j*4+3,none⟩=some (.int .u64 x.2.1.2.2):=by
 obtain⟨b,off,c,hv,hb,hc⟩:=h.get hj;exact⟨b,off,c,hv,hb,hc 0 _ (by decide) rfl,hc 1 _ (by decide) rfl,hc 2 _ (by decide) rfl,hc 3 _ (by decide) rfl⟩
abbrev Vw:={ v:Value // v.oneCell'=true }
def EV:El Vw where
 k:=1
 enc v:=[v.1]
 len _:=rfl
 one x u hu:=by simp at hu;subst hu;exact x.2
def Sp(w:World)(su:Value)(ss:List (List Hf.Th)):Prop:=∃vs:List Vw,Ls EV w su vs/\vs.length=ss.length/\∀(i:Nat) (v:Vw) (s:List Hf.Th),vs[i]? =some v->ss[i]? =some s->Ls EF w v.1 s
theorem Sp.below{w w':World}{ss:List (List Hf.Th)}(h:Sp w su ss)(hb:Below w.heap.size w w'):Sp w' su ss:=by
 obtain⟨vs,h1,h2,h3⟩:=h;exact⟨vs,h1.below hb,h2,fun i v s hv hs=>(h3 i v s hv hs).below hb⟩
theorem Sp.form{w:World}{ss:List (List Hf.Th)}(h:Sp w su ss):∃p c,su= .slice p ss.length c:=by
 obtain⟨vs,h1,h2,h3⟩:=h;rw[<-h2];exact h1.form
theorem Sp.at{w:World}{p:Option Addr}{ss:List (List Hf.Th)}(h:Sp w (.slice p n c) ss){s:List Hf.Th}(hs:ss[i]? =some s):∃b off q m,p=some ⟨b,off,none⟩/\b<w.heap.size/\w.cell? ⟨b,off+i,none⟩=some (.slice q s.length m)/\Ls EF w (.slice q s.length m) s:=by
 obtain⟨vs,h1,h2,h3⟩:=h;obtain⟨v,hv⟩:∃v,vs[i]? =some v:=⟨vs[i]'(by rw[h2];exact(lG.1 hs).1),by simp⟩;have h4:=h3 i v s hv hs;obtain⟨q,m,e⟩:=h4.form;obtain⟨b,off,c',e2,hb,hc⟩:=h1.get hv;simp only[vS]at e2;obtain⟨rfl,-,rfl⟩:=e2;have h5:=hc 0 _ (by decide) rfl;have h6:w.cell? ⟨b,off+i,none⟩=some v.1:=by simpa[EV]using h5
 rw[e]at h6 h4;exact⟨b,off,q,m,rfl,hb,h6,h4⟩
theorem WH:(Tryz.prog.info? 218).map (fun i=>(i.zero,i.size,i.bytes))=some (some (.pointer none),1,8):=by kernel_rfl
theorem ZO(n:Nat):(madeCells (Value.pointer none).cells (n*1)).toList=fl EP (([]:List Nat).map some++List.replicate (n-([]:List Nat).length) none):=by
 rw[Nat.mul_one,Er];exact(toList_madeCells_one _ n).trans (by simp)
open Df (LV EL aK aD jr vE)
structure Fw{α:Type}(E:El α)(T TT:TypeId)(B:Nat)(w:World)(v:Value)(vs:List LV)(L:Nat->List α):Prop where
 row:w.ownsRow B TT 1 v vs.length (fl EL vs)
 each:∀(k:Nat) (x:LV),vs[k]? =some x->w.ownsRow B T E.k x.v (L k).length (fl E (L k))
 apart:∀(k:Nat) (x:LV),vs[k]? =some x->∀b,x.v.ownBlock=some b->∀(k':Nat) (x':LV),vs[k']? =some x'->x'.v.ownBlock=some b->k'=k
section
variable {α:Type} {E:El α} {T TT:TypeId} {B:Nat} {w w1 w':World} {v:Value} {vs:List LV} {L L':Nat->List α}
theorem Fw.below(h:Fw E T TT B w v vs L)(hb:Below w.heap.size w w'):Fw E T TT B w' v vs L:=⟨ag h.row hb,fun k x hk=>ag (h.each k x hk) hb,h.apart⟩
theorem Fw.re(h:Fw E T TT B w v vs L)(hL:∀k,k<vs.length->L k=L' k):Fw E T TT B w v vs L':=⟨h.row,fun k x hk=>by rw[<-hL k (lG.1 hk).1];exact h.each k x hk,h.apart⟩
theorem Fw.step(hTT:T≠TT)(h:Fw E T TT B w v vs L){k pb pc g cap:Nat}{x:LV}(hk:vs[k]? =some x)(hpv:v= .slice (some ⟨pb,0,none⟩) vs.length pc){y:α}
    (h1:w1.ownsRow B T E.k (.slice (some ⟨g,0,none⟩) ((L k).length+1) cap) ((L k).length+1) (fl E (L k)++E.enc y)) (h2:w.grownBy w1 x.v.ownBlock) (h3:x.v.ownBlock=some g\/w.heap.size<=g) :
    Fw E T TT B (w1.setCell ⟨pb,k,none⟩ (.slice (some ⟨g,0,none⟩) ((L k).length+1) cap)) v (vs.set k ⟨some ⟨g,0,none⟩,(L k).length+1,cap⟩) (fun j=>if j=k then L k++[y]else L j)/\Kp (fun j=>v.ownBlock=some j\/x.v.ownBlock=some j) w (w1.setCell ⟨pb,k,none⟩ (.slice (some ⟨g,0,none⟩) ((L k).length+1) cap)):=by
 have hks:=(lG.1 hk).1;have K2:=Kp.grownBy (S:=fun j=>x.v.ownBlock=some j) h2 (fun _ h=>h);have sp1:=av K2 h.row (fun j e e2=>aD h.row (h.each k x hk) (Ne.symm hTT) j e e2);have sp2:=sp1;rw[hpv]at sp2;obtain⟨so,sk⟩:=jr sp2 k (.slice (some ⟨g,0,none⟩) ((L k).length+1) cap);have hpb:v.ownBlock=some pb:=by rw[hpv];rfl
 have Sq:∀{n:Nat} {u:Value} {us:List Value},w1.ownsRow B T E.k u n us->(w1.setCell ⟨pb,k,none⟩ (.slice (some ⟨g,0,none⟩) ((L k).length+1) cap)).ownsRow B T E.k u n us:=fun o=>av sk o (fun j e e2=>aD o sp1 hTT j e (by rw[e2];exact hpb));have get:∀(j:Nat) (x':LV),(vs.set k ⟨some ⟨g,0,none⟩,(L k).length+1,cap⟩)[j]? =some x'->(j=k/\x'=⟨some ⟨g,0,none⟩,(L k).length+1,cap⟩)\/(j≠k/\vs[j]? =some x'):=fun j x' hj=>by
  rw[List.getElem?_set]at hj;by_cases e:k=j
  ·subst e;rw[if_pos rfl,if_pos hks]at hj;exact Or.inl ⟨rfl,(oJ hj).symm⟩
  ·rw[if_neg e]at hj;exact Or.inr ⟨fun e2=>e e2.symm,hj⟩
 have EB:∀(j:Nat) (x':LV),vs[j]? =some x'->∀b,x'.v.ownBlock=some b->b<w.heap.size:=fun j x' hj b e=>(aK (h.each j x' hj) b e).2;refine⟨⟨?_, ?_, ?_⟩, ?_⟩
 ·rw[hpv];refine aS so (by simp) ?_;have:=vE EL vs k 0 x ⟨some ⟨g,0,none⟩,(L k).length+1,cap⟩ (.slice (some ⟨g,0,none⟩) ((L k).length+1) cap) hk (by decide) rfl;rw[show EL.k=1 from rfl,Nat.mul_one,nO]at this;exact this
 ·intro j x' hj;rcases get j x' hj with⟨rfl,rfl⟩|⟨hne,hj⟩
  ·simp only[if_true];exact aS (Sq h1) (by simp) (by rw[aQ,dK])
  ·simp only[if_neg hne];exact Sq (av K2 (h.each j x' hj) (fun b e e2=>hne (h.apart k x hk b e2 j x' hj e)))
 ·intro j x' hj b hb;rcases get j x' hj with⟨rfl,rfl⟩|⟨hne,hj2⟩
  ·obtain rfl:g=b:=(by simpa[Value.ownBlock]using hb);intro k' x' hk' e;rcases get k' x' hk' with⟨rfl,_⟩|⟨hne',hk'⟩
   ·rfl
   ·rcases h3 with h3|h3
    ·exact h.apart j x hk g h3 k' x' hk' e
    ·have:=EB k' x' hk' g e;omega
  ·intro k' t hk' e;rcases get k' t hk' with⟨rfl,rfl⟩|⟨_,hk2⟩
   ·obtain rfl:g=b:=(by simpa[Value.ownBlock]using e);rcases h3 with h3|h3
    ·exact h.apart j x' hj2 g hb k' x hk h3
    ·have:=EB j x' hj2 g hb;omega
   ·exact h.apart j x' hj2 b hb k' t hk2 e
 ·exact(K2.mono (T:=fun j=>v.ownBlock=some j\/x.v.ownBlock=some j) (fun j e=>Or.inr e)).trans sk (fun j _ e=>Or.inl (by rw[e];exact hpb))
theorem Fw.blocks(h:Fw E T TT B w v vs L){x:LV}(hk:vs[k]? =some x):∀j,v.ownBlock=some j\/x.v.ownBlock=some j->B<=j:=fun j e=>by
 rcases e with e|e
 ·exact(aK h.row j e).1
 ·exact(aK (h.each k x hk) j e).1
theorem Fw.other(h:Fw E T TT B w v vs L){x:LV}(hk:vs[k]? =some x)(hK:Kp (fun j=>v.ownBlock=some j\/x.v.ownBlock=some j) w w'){B2:Nat}{T2:TypeId}{size:Nat}{u:Value}{us:List Value}(ho:w.ownsRow B2 T2 size u n us)(hT:T2≠T)(hT2:T2≠TT):w'.ownsRow B2 T2 size u n us:=
 av hK ho (fun j e e2=>by
  rcases e2 with e2|e2
  ·exact aD ho h.row hT2 j e e2
  ·exact aD ho (h.each k x hk) hT j e e2)
end
theorem U5(vs:List LV):fl EL vs=vs.map LV.v:=by
 induction vs with
 | nil => rfl
 | cons x l ih => rw[aO,ih];rfl
def LV.w(x:LV):Vw:=⟨x.v,rfl⟩
theorem aaI(vs:List LV):fl EV (vs.map LV.w)=fl EL vs:=by
 induction vs with
 | nil => rfl
 | cons x l ih => rw[List.map_cons,aO,aO,ih];rfl
theorem ZN(n:Nat):(madeCells (Value.slice none 0 0).cells (n*1)).toList=fl EL (List.replicate n ⟨none,0,0⟩):=by
 rw[Nat.mul_one,U5];exact(toList_madeCells_one _ n).trans (by simp)
theorem Fw.made{α:Type}(E:El α)(T TT:TypeId){w1:World}{b:Nat}(hrow:w1.ownsRow B TT 1 (.slice (some ⟨b,0,none⟩) n c) n (madeCells (Value.slice none 0 0).cells (n*1)).toList):Fw E T TT B w1 (.slice (some ⟨b,0,none⟩) n c) (List.replicate n ⟨none,0,0⟩) (fun _=>[]):=by
 have hnil:∀(k:Nat) (x:LV),(List.replicate n (⟨none,0,0⟩:LV))[k]? =some x->x=⟨none,0,0⟩:=fun k x h=>List.eq_of_mem_replicate (lM h);refine⟨?_,fun k x h=> ?_,fun k x h b e=> ?_⟩
 ·rw[List.length_replicate];rw[ZN]at hrow;exact hrow
 ·rw[hnil k x h];exact oN _ _ _ _
 ·rw[hnil k x h]at e;cases e
theorem Fw.cell{α:Type}{E:El α}{T TT:TypeId}{B:Nat}{w:World}{g n c:Nat}{vs:List LV}{L:Nat->List α}(h:Fw E T TT B w (.slice (some ⟨g,0,none⟩) n c) vs L)(hn:vs.length=n){k:Nat}(hk:k<n):∃x:LV,vs[k]? =some x/\w.cell? ⟨g,k,none⟩=some x.v/\g<w.heap.size/\x.m=(L k).length/\w.ownsRow B T E.k x.v (L k).length (fl E (L k)):=by
 obtain⟨x,hx⟩:∃x,vs[k]? =some x:=⟨vs[k]'(by omega),by simp⟩;obtain⟨b,off,c,hv,hb,hc⟩:=Df.qh (aH (E:=EL) h.row) hx;simp only[vS,oI,aI]at hv;obtain⟨⟨rfl,rfl,-⟩,-,-⟩:=hv;rw[nZ]at hc;exact⟨x,hx,hc,hb,(Df.aZ (h.each k x hx) _ _ _ rfl).1,h.each k x hx⟩
theorem Fw.sp{T TT:TypeId}{w:World}{vs:List LV}{L:Nat->List Hf.Th}(h:Fw EF T TT B w v vs L):Sp w v ((List.range vs.length).map L):=by
 refine⟨vs.map LV.w,aH (E:=EV) (e:=TT) (base:=B) ?_,by simp,fun i v' s hv hs=> ?_⟩
 ·rw[aaI,gK];exact h.row
 ·rw[gM]at hv;cases e:vs[i]? with
  | none => rw[e]at hv;cases hv
  | some x=>
   rw[e]at hv;cases hv;have hi:=(lG.1 e).1;rw[gM,List.getElem?_range hi]at hs;cases hs;exact aH (E:=EF) (h.each i x e)
end Lf
namespace Lf
open Go.RowKit Go.Sort Pt
structure Pu(ss:List (List Hf.Th))(p d:Nat)(rows:Nat->List ai)(L:List Hf.It)(np:Nat):Prop where
 iv:Iv PX (JX ss) p rows (opn L)
 rg:Rg ss.length L
 sm:∀q,(rows q).length<=64
 nb:np<=1+tot ss.length rows*d
 ln:L.length<=np
section
variable {ss:List (List Hf.Th)} {s:List Hf.Th} {p d q0 k np Fu:Nat} {w:ai} {rows:Nat->List ai} {R L L':List Hf.It}
theorem Pu.init(hp:p<ss.length):Pu ss p d (fun _=>[]) [(((p:Int),PX.z),0)] 1:=by
 refine⟨by simpa[opn]using Iv.init (X:=PX) (St:=JX ss) (p:=p),fun x hx=> ?_,fun _=>zL _,by omega,nR _⟩;simp only[yF]at hx;subst hx;exact⟨p,hp,rfl⟩
theorem Pu.bd(h:Pu ss p d rows L np)(hM:(64*ss.length*(d+1)+2)*40<=140737488355328):np<=64*ss.length*(d+1)+1/\L.length<=64*ss.length*(d+1)+1/\(L.length+1)*40<=140737488355328/\np+1<18446744073709551616:=by
 have h1:=Ay (n:=ss.length) (m:=64) (rows:=rows) (fun q _=>h.sm q);have h2:tot ss.length rows*d<=64*ss.length*(d+1):=Nat.mul_le_mul h1 (Nat.le_succ d);have h3:=h.nb;have h4:=h.ln;refine⟨by omega,by omega,by omega,by omega⟩
theorem Pu.skip(h:Pu ss p d rows L np)(hp:((((q0:Int),w),k)::R).Perm L)(hc:pV PX (rows q0) w):Pu ss p d rows R np/\Jo ss.length d rows R.length<Jo ss.length d rows L.length:=by
 have h0:∀x,x∈opn L↔x=(q0,w)\/x∈opn R:=fun x=>by
  rw[<-kH hp x,nu];simp
 have hl:R.length+1=L.length:=by simpa using hp.length_eq
 refine⟨⟨h.iv.skip (fun x hx=>(h0 x).1 hx) (fun x hx=>(h0 x).2 (Or.inr hx)) hc,fun x hx=>h.rg x (hp.mem_iff.1 (mO _ hx)),h.sm,h.nb,by have:=h.ln;omega⟩, ?_⟩;unfold Jo;omega
theorem Pu.take(h:Pu ss p d rows L np)(hp:((((q0:Int),w),k)::R).Perm L)(hk:∀x∈R,Hf.kf ((q0:Int),w)<Hf.kf x.1\/(Hf.kf ((q0:Int),w)=Hf.kf x.1/\k<x.2))(hc:¬pV PX (rows q0) w)(hs:ss[q0]? =some s)(hd:s.length<=d)(h64:(rows q0).length+1<=64)
    (hi:pK s ss.length w (dM rows q0 w) R L' s.length) (hn1:Fu<=np+s.length) (hn2:L'.length<=Fu):Pu ss p d (dM rows q0 w) L' Fu/\Jo ss.length d (dM rows q0 w) L'.length<Jo ss.length d rows L.length:=by
 have hq:q0<ss.length:=(lG.1 hs).1;have hl:R.length+1=L.length:=by simpa using hp.length_eq
 have hsm:∀q,(dM rows q0 w q).length<=64:=fun q=>by
  unfold dM;split
  ·rename_i e;subst e;simpa using h64
  ·exact h.sm q
 refine⟨⟨hi.fin h.iv hp (Af hp hk) hc hs,hi.rg,hsm, ?_,hn2⟩, ?_⟩
 ·rw[vW,if_pos hq,Nat.add_mul,Nat.one_mul];have:=h.nb;omega
 ·exact NW hq (fun q _=>hsm q) (by omega) (by have:=hi.cnt;omega)
theorem Pu.wide(h:Pu ss p d rows L np)(hp:((((q0:Int),w),k)::R).Perm L)(hk:∀x∈R,Hf.kf ((q0:Int),w)<Hf.kf x.1\/(Hf.kf ((q0:Int),w)=Hf.kf x.1/\k<x.2))(hc:¬pV PX (rows q0) w)(h64:64<(rows q0).length+1):rW PX (JX ss) p none:=by
 obtain⟨o,ho⟩:=MM h.iv hp (Af hp hk) hc;exact ho.wide bJ (q:=q0) (by unfold dM;rw[if_pos rfl];simpa using h64)
theorem Pu.fin(h:Pu ss p d rows [] np):rW PX (JX ss) p (some rows):=Iv.fin bJ h.iv h.sm
theorem Pu.ins(h:Pu ss p d rows L np)(hp:((((q0:Int),w),k)::R).Perm L):gB ay dI (rows q0) w=if bE ay (rows q0) w then rows q0 else rows q0++[w]:=
 Ub Pc.Cv Pc.MI bJ h.iv (by rw[<-kH hp,nu];simp)
end
end Lf
section
open Go.RowKit Go.Sort
attribute[local go_sem ↓]wp_at_zero wp_at_succ
end
namespace Df
open Go.RowKit Go.Sort
attribute[local go_sem ↓]wp_at_zero wp_at_succ
def sC(ns:List dx)(i:Nat)(c:dL):dL:=⟨((QQ ns i c:Nat):Int),((cOut ns i c:Nat):Int),c.via⟩
def jE(ns:List dx):Nat->List dL
 | 0 => []
 | i + 1 => jE ns i++(dh ns (i:Int)).map (sC ns i)
def sE(ns:List dx)(d:dQ):dL:=⟨((eB ns d:Nat):Int),((iR ns d:Nat):Int),(0,0,0)⟩
def rV(g:bD):List dL:=jE g.nodes g.nodes.length++g.aM.map (sE g.nodes)
def emR(g:bD):List dL:=(rV g).filter SN
theorem DJ{g:bD}(h:gY g)(m:Nat):(jE g.nodes m).length<=16*m:=by
 induction m with
 | zero => simp[jE]
 | succ m ih=>
  unfold jE;rw[dO,gK];have h2:=h.Ce m;omega
theorem RA{g:bD}(h:gY g):(rV g).length<=432:=by
 unfold rV;rw[dO,gK];have h1:=DJ h g.nodes.length;have h2:=h.nl;have h3:=h.el;omega
theorem wZ{ns:List dx}{x:dL}:x∈jE ns m↔∃i c,i<m/\c∈dh ns ((i:Nat):Int)/\x=sC ns i c:=by
 induction m with
 | zero => simp[jE]
 | succ m ih=>
  unfold jE;rw[j4,ih];constructor
  ·rintro(⟨i,c,h1,h2⟩|h)
   ·exact⟨i,c,by omega,h2⟩
   ·obtain⟨c,hc,rfl⟩:=mM.1 h;exact⟨m,c,by omega,hc,rfl⟩
  ·rintro⟨i,c,h1,h2,rfl⟩;by_cases e:i=m
   ·subst e;exact Or.inr (mM.2 ⟨c,h2,rfl⟩)
   ·exact Or.inl ⟨i,c,by omega,h2,rfl⟩
theorem TM{g:bD}{x:dL}:x∈emR g↔∃p q:Nat,x=⟨(p:Int),(q:Int),(0,0,0)⟩/\(p,q)∈iP g:=by
 unfold emR rV iP;rw[mF,j4,wZ];constructor
 ·rintro⟨⟨i,c,h1,h2,rfl⟩|h,he⟩
  ·have hv:c.via=(0,0,0):=of_decide_eq_true he;exact⟨QQ g.nodes i c,cOut g.nodes i c,by simp[sC,hv],j4.2 (Or.inr (wY.2 ⟨i,c,h1,h2,by simp[SN,hv],rfl⟩))⟩
  ·obtain⟨d,hd,rfl⟩:=mM.1 h;exact⟨eB g.nodes d,iR g.nodes d,rfl,j4.2 (Or.inl (mM.2 ⟨d,hd,rfl⟩))⟩
 ·rintro⟨p,q,rfl,h⟩;refine⟨?_,by simp[SN]⟩;rcases j4.1 h with h|h
  ·obtain⟨d,hd,e⟩:=mM.1 h;unfold TQ at e;simp only[Prod.mk.injEq]at e;exact Or.inr (mM.2 ⟨d,hd,by unfold sE;rw[e.1,e.2]⟩)
  ·obtain⟨i,c,h1,h2,h3,e⟩:=wY.1 h;unfold PY at e;simp only[Prod.mk.injEq]at e;have hv:c.via=(0,0,0):=of_decide_eq_true h3;exact Or.inl ⟨i,c,h1,h2,by unfold sC;rw[<-e.1,<-e.2,hv]⟩
end Df
namespace Lf
open Go.RowKit Go.Sort Pt
open Df (dL bD dx dQ nY gW aT rV jE sE sC QQ cOut eB iR gY dh fQ)
instance (p:nY):Decidable (gW p):=by unfold Df.gW Df.E9;infer_instance
def J9(p:nY):ai:=if h:gW p then⟨((p.1:Int),(p.2.1:Int),(p.2.2:Int)),by
 obtain⟨h1,h2,h3⟩:=h;unfold Df.E9 at h1 h2 h3;exact⟨(kS _).2 ⟨by simp only;omega,by simp only;omega⟩,(kS _).2 ⟨by simp only;omega,by simp only;omega⟩,(kS _).2 ⟨by simp only;omega,by simp only;omega⟩⟩⟩else PX.z
theorem uU{p:nY}(h:gW p):(J9 p).1.1=(p.1:Int)/\(J9 p).1.2.1=(p.2.1:Int)/\(J9 p).1.2.2=(p.2.2:Int):=by
 unfold J9;rw[dif_pos h];exact⟨rfl,rfl,rfl⟩
theorem UG:J9 (0,0,0)=PX.z:=by
 have h:gW (0,0,0):=⟨by unfold Df.E9;simp,by unfold Df.E9;simp,by unfold Df.E9;simp⟩;obtain⟨h1,h2,h3⟩:=uU h;exact cZ (by rw[h1];rfl) (by rw[h2];rfl) (by rw[h3];rfl)
def th(c:dL):Hf.Th:=(c.o,J9 c.via)
def mQ(l:List dL)(q:Nat):List Hf.Th:=(l.filter (fun c=>c.df==(q:Int))).map th
theorem RH(l m:List dL)(q:Nat):mQ (l++m) q=mQ l q++mQ m q:=by simp[mQ]
theorem RF(c:dL)(q:Nat):mQ [c] q=if c.df=(q:Int)then[th c]else[]:=by
 unfold mQ;by_cases h:c.df=(q:Int)
 ·simp[h]
 ·simp[h]
theorem kZ{l:List dL}{x:Hf.Th}:x∈mQ l q↔∃c∈l,c.df=(q:Int)/\x=th c:=by
 unfold mQ;rw[mM];constructor
 ·rintro⟨c,hc,rfl⟩;obtain⟨h1,h2⟩:=mF.1 hc;exact⟨c,h1,by simpa using h2,rfl⟩
 ·rintro⟨c,h1,h2,rfl⟩;exact⟨c,mF.2 ⟨h1,by simpa using h2⟩,rfl⟩
theorem Bc(l:List dL)(q:Nat):(mQ l q).length<=l.length:=by
 unfold mQ;rw[gK];exact List.length_filter_le _ _
def Gd(n:Nat)(l:List dL):List (List Hf.Th):=(List.range n).map (mQ l)
theorem jK(n:Nat)(l:List dL):(Gd n l).length=n:=by simp[Gd]
theorem I7(l:List dL)(h:q<n):(Gd n l)[q]? =some (mQ l q):=by simp[Gd,h]
theorem kV{l:List dL}{q':Nat}{b:ai}:JX (Gd n l) q q' b↔q<n/\∃c∈l,c.df=(q:Int)/\c.o=(q':Int)/\J9 c.via=b:=by
 unfold JX;constructor
 ·rintro⟨s,hs,hm⟩;have hq:q<n:=by
   have:=(lG.1 hs).1
   rwa [jK]at this
  rw[I7 l hq]at hs;cases hs;obtain⟨c,h1,h2,h3⟩:=kZ.1 hm;simp only[th,Prod.mk.injEq]at h3;exact⟨hq,c,h1,h2,h3.1.symm,h3.2.symm⟩
 ·rintro⟨hq,c,h1,h2,h3,h4⟩;exact⟨_,I7 l hq,kZ.2 ⟨c,h1,h2,by simp[th,h3,h4]⟩⟩
def uX(g:bD):List dL:=g.aM.map (sE g.nodes)++jE g.nodes g.nodes.length
theorem kW{g:bD}{c:dL}:c∈uX g↔c∈rV g:=by
 unfold uX rV;rw[j4,j4];exact Or.comm
theorem Dj(g:bD)(n:Nat):JX (Gd n (uX g))=JX (Gd n (rV g)):=by
 funext q q' b
 refine propext ?_;rw[kV,kV];exact and_congr_right fun _=>exists_congr fun c=>and_congr_left fun _=>kW
theorem AZ{g:bD}(h:gY g):(uX g).length<=432:=by
 have:=Df.RA h;unfold rV at this;unfold uX;rw[dO]at this⊢;omega
def uG(g:bD):Prop:=∀n∈g.nodes,gW n.via/\∀c∈n.bT,gW c.via
theorem yZ:gW (0,0,0):=⟨by unfold Df.E9;simp,by unfold Df.E9;simp,by unfold Df.E9;simp⟩
theorem uG.XZ{g:bD}(h:uG g){c:dL}(hc:c∈dh g.nodes (i:Int)):gW c.via:=by
 rw[Df.nS]at hc;cases e:g.nodes[i]? with
 | none => rw[e]at hc;simp at hc
 | some n=>
  rw[e]at hc;have hn:=h n (lM e);have hc:c∈fQ n:=hc;unfold fQ at hc;split at hc
  ·simp only[yF]at hc;subst hc;exact hn.1
  ·split at hc
   ·exact hn.2 c hc
   ·have:c.via=(0,0,0):=by
      clear hn e;generalize n.ins.toNat=ii at hc
      induction ii with
      | zero => simp[Df.kQ]at hc
      | succ k ih=>
       simp only[Df.kQ,j4]at hc;rcases hc with hc|hc
       ·exact ih hc
       ·simp only[Df.oW,mM]at hc;obtain⟨o,_,rfl⟩:=hc;rfl
    rw[this];exact yZ
theorem Rx{g:bD}(h:uG g){c:dL}(hc:c∈rV g):gW c.via:=by
 unfold rV at hc;rcases j4.1 hc with k|k
 ·obtain⟨i,d,_,h2,rfl⟩:=Df.wZ.1 k;exact(h.XZ h2:gW d.via)
 ·obtain⟨d,_,rfl⟩:=mM.1 k;exact yZ
theorem AY{g:bD}(h:gY g){c:dL}(hc:c∈rV g):(∃p:Nat,p<aT g.nodes/\c.df=(p:Int))/\∃q:Nat,q<aT g.nodes/\c.o=(q:Int):=by
 unfold rV at hc;rcases j4.1 hc with k|k
 ·obtain⟨i,d,_,h2,rfl⟩:=Df.wZ.1 k;obtain⟨h3,h4⟩:=h.XZ h2;exact⟨⟨_,Df.yh h3,rfl⟩,_,Df.Ck h4,rfl⟩
 ·obtain⟨d,h1,rfl⟩:=mM.1 k;obtain⟨j,hj⟩:=iG.1 h1;obtain⟨h3,h4⟩:=h.ends hj;exact⟨⟨_,Df.nk h3,rfl⟩,_,Df.BN h4,rfl⟩
theorem MU{g:bD}(h:gY g){l:List dL}(hl:∀c∈l,c∈rV g):∀s∈Gd (aT g.nodes) l,∀x∈s,∃q:Nat,q<(Gd (aT g.nodes) l).length/\x.1=(q:Int):=fun s hs x hx=>by
 obtain⟨k,_,rfl⟩:=mM.1 hs;obtain⟨c,h1,_,rfl⟩:=kZ.1 hx;rw[jK];exact(AY h (hl c h1)).2
theorem MV{l:List dL}(h:l.length<=m):∀s∈Gd n l,s.length<=m:=fun s hs=>by
 obtain⟨k,_,rfl⟩:=mM.1 hs;exact nT (Bc l k) h
section
variable {ss:List (List Hf.Th)} {s:List Hf.Th} {p d q0 k np Fu:Nat} {w:ai} {rows:Nat->List ai} {R L L':List Hf.It}
end
end Lf
namespace Lf
open Go.RowKit Go.Sort Pt
attribute[local go_sem ↓]wp_at_zero wp_at_succ
structure Tb(base:Nat)(w:World)(v:Value)(vs:List Vw)(ts:List (List Tm)):Prop where
 row:w.ownsRow base 50 1 v ts.length (fl EV vs)
 len:vs.length=ts.length
 each:∀(i:Nat) (u:Vw) (t:List Tm),vs[i]? =some u->ts[i]? =some t->w.ownsRow base 52 3 u.1 t.length (eO t)/\∀k,u.1.ownBlock=some k->v.ownBlock≠some k
theorem Tb.nil(base:Nat)(w:World):Tb base w (.slice none 0 0) [] []:=⟨oN _ _ _ _,rfl,fun i u t h=>by simp at h⟩
theorem Tb.app{base cap:Nat}{wr w5 w6:World}{vs:List Vw}{ts:List (List Tm)}{t:List Tm}(u:Vw)(h:Tb base wr v vs ts)(hb:base<=wr.heap.size)(hB:Below wr.heap.size wr w5)(ho:w5.ownsRow wr.heap.size 52 3 u.1 t.length (eO t))
    (hn:w6.ownsRow base 50 1 (.slice (some ⟨g,0,none⟩) (ts.length+1) cap) (ts.length+1) (fl EV vs++EV.enc u)) (hg:w5.grownBy w6 v.ownBlock) (hgg:v.ownBlock=some g\/w5.heap.size<=g):Tb base w6 (.slice (some ⟨g,0,none⟩) (ts.length+1) cap) (vs++[u]) (ts++[t]):=by
 have hK:Kp (fun k=>v.ownBlock=some k) w5 w6:=Kp.grownBy hg (fun _ h=>h);have hne:∀k,(v.ownBlock≠some k)->k<w5.heap.size->(Value.slice (some ⟨g,0,none⟩) (ts.length+1) cap).ownBlock≠some k:=fun k h1 h2 e=>by
  have e:g=k:=by simpa[Value.ownBlock]using e
  subst e;rcases hgg with h3|h3
  ·exact h1 h3
  ·omega
 refine⟨?_,by rw[dO,dO,h.len];rfl,fun i u' t' hu ht=> ?_⟩
 ·rw[dO,vL,aQ,dK];exact hn
 ·by_cases hi:i<ts.length
  ·rw[gL (by rw[h.len];exact hi)]at hu;rw[gL hi]at ht;obtain⟨h1,h2⟩:=h.each i u' t' hu ht;have h3:=ag h1 hB;exact⟨av hK h3 (fun k hk e=>h2 k hk e),fun k hk=>hne k (h2 k hk) (h3.lt k hk).2⟩
  ·have e:i=ts.length:=by
     have:=(lG.1 ht).1;rw[dO,vL]at this;omega
   subst e;rw[Vv (nR _),Nat.sub_self]at ht;rw[<-h.len,Vv (nR _),Nat.sub_self]at hu;cases ht;cases hu;have h2:∀k,u.1.ownBlock=some k->v.ownBlock≠some k:=fun k hk e=>by
    have:=(ho.lt k hk).1;have:=(h.row.lt k e).2;omega
   exact⟨av hK (aL ho hb) (fun k hk e=>h2 k hk e),fun k hk=>hne k (h2 k hk) (ho.lt k hk).2⟩
theorem WC:(Tryz.prog.info? 50).map (fun i=>(i.zero,i.size,i.bytes))=some (some (.slice none 0 0),1,24):=by kernel_rfl
theorem Fq{w:World}(h:Ls EP w (.slice (some ⟨g,0,none⟩) n n) (cs.map some))(hc:cs[i]? =some c):w.cell? ⟨g,i,none⟩=some (.pointer (some ⟨c,0,none⟩))/\g<w.heap.size:=by
 obtain⟨b,off,c',e,hb,hx⟩:=h.get (j:=i) (t:=some c) (by rw[gM,hc];rfl);simp only[vS,oI,aI,and_true]at e;obtain⟨⟨rfl,rfl⟩,-,-⟩:=e;exact⟨by simpa[EP]using hx 0 _ (by decide) rfl,hb⟩
theorem DT{tag:Nat->Nat}{rows:Nat->List Tm}(w:World)(hl:Ls EP w (.slice (some ⟨g,0,none⟩) n n) (cs.map some))(hn:cs.length=n)(hch:∀i c,cs[i]? =some c->Cm w tag (i+3) c (rows i))(hsm:∀q,(rows q).length<=64)(hnb:n*2560<=140737488355328):
    Calls Tryz.prog 132 #[.slice (some ⟨g,0,none⟩) n n] w fun e w'=>∃v vs,e= .returned v/\Tb w.heap.size w' v vs ((List.range n).map rows)/\Below w.heap.size w w':=by
 have HL:Hid (Ls EP w (.slice (some ⟨g,0,none⟩) n n) (cs.map some)):=hl;have HC:Hid (∀i c,cs[i]? =some c->Cm w tag (i+3) c (rows i)):=hch;clear hl hch;go_enter Tryz.func132,Tryz.ntmps132;go_wp2_with fail;go_loopw [3,5,8] (fun s3 _ s8 wr=>∃(i:Nat) (vs:List Vw),i<=n/\s8= .int .i64 i/\Hid (Tb w.heap.size wr s3 vs ((List.range i).map rows)/\Below w.heap.size w wr)) (fun _ _ s8 _=>n-(intOf s8).toNat);case atStart=>exact⟨0,[],zL _,rfl,Tb.nil _ _,Below.refl _ _⟩
 case round=>
  obtain⟨i,vs,hi,rfl,HT⟩:=hrel;by_cases hlt:i<n
  ·have hltz:(i:Int)<(n:Int):=(by omega);have hi0:(0:Int)<=(i:Int):=(by omega);obtain⟨c,hc⟩:∃c,cs[i]? =some c:=⟨cs[i]'(by omega),by simp⟩;obtain⟨x0,x1⟩:=Fq (HL.o.below HT.o.2) hc;have hm:=(HC.o i c hc).below HT.o.2;have hlist:Calls Tryz.prog 194 #[.pointer (some ⟨c,0,none⟩)] wr fun e w'=>∃pp cc,e= .returned (.slice pp (rows i).length cc)/\w'.ownsRow wr.heap.size 52 3 (.slice pp (rows i).length cc) (rows i).length (eO (rows i))/\Below wr.heap.size wr w':=by
    obtain⟨v,h1,_⟩:=hm;refine(Pc.Cn.kJ wr h1 (by have:=hsm i;omega)).mono ?_;rintro e w' ⟨v',rfl,q1,q2⟩;obtain⟨pp,cc,rfl⟩:=(dC q1).form;exact⟨pp,cc,rfl,q1,q2⟩
   clear hm hc;go_wp2_with fail;refine hlist.mono ?_;rintro e w5 ⟨pu,cu,rfl,hu5,hb5⟩;obtain⟨u,hu⟩:∃u:Vw,u.1= .slice pu (rows i).length cu:=⟨⟨_,rfl⟩,rfl⟩;rw[<-hu]at hu5;have hen:EV.enc u=[.slice pu (rows i).length cu]:=(by rw[<-hu];rfl);have HU5:Hid (w5.ownsRow wr.heap.size 52 3 u.1 (rows i).length (eO (rows i))/\Below wr.heap.size wr w5):=⟨hu5,hb5⟩;have UT:w.heap.size<=w5.heap.size:=nT HT.o.2.size hb5.size;have hrow:=ag HT.o.1.row hb5;have hlen:((List.range i).map rows).length=i:=(by simp);rw[hlen]at hrow;clear hu5 hb5 hlist x0 hu;go_wp2_with (at_builtin;refine gu EV Tryz.underlying143 WC rfl (by decide) rfl _ _ rfl w.heap.size _ i _ rfl hrow u rfl (by omega) (by unfold maxLen;omega) UT _ hen.symm _ ?_);intro g6 c6 w6 qD nK Ec;have QT:Hid (Tb w.heap.size w6 (.slice (some ⟨g6,0,none⟩) (i+1) c6) (vs++[u]) ((List.range (i+1)).map rows)/\Below w.heap.size w w6):=by
    have h1:=HT.o.1.app (g:=g6) (cap:=c6) (w6:=w6) u HT.o.2.size HU5.o.2 HU5.o.1 (by rw[hlen,hen];exact qD) nK Ec;rw[hlen]at h1;rw[YO,CW];refine⟨h1,(HT.o.2.trans (HU5.o.2.mono HT.o.2.size)).trans ((Kp.grownBy (S:=fun k=>w.heap.size<=k) nK (fun k hk=>(hrow.lt k hk).1)).below UT (fun _ h=>h))⟩
   clear qD nK Ec hrow;go_wp2_with fail;go_roundw;case rel=>exact⟨i+1,_,by omega,by first|rfl|go_num,QT.o⟩
   case measure=>simp[intOf];omega
  ·have hltz:¬(i:Int)<(n:Int):=(by omega);have hin:i=n:=(by omega);subst hin;go_wp2;go_ret;exact⟨_,rfl,⟨vs,HT.o.1⟩,HT.o.2⟩
end Lf
namespace Lf
open Go.RowKit Go.Sort Pt
section
variable {w0 w w':World} {tag tag':Nat->Nat} {hb g n np B:Nat} {cs:List Nat} {rows:Nat->List Tm} {L R:List Hf.It}
theorem Lf.next(h:Lf w0 tag hb g n cs rows L np w)(hl:L.length<=140737488355328):
    Calls Tryz.prog 127 #[.pointer (some ⟨hb,0,none⟩)] w fun e w'=>∃(b:Bool) (t:Hf.Th) (k:Nat) (R:List Hf.It) (tag':Nat->Nat),e= .returned (Hf.ans t b)/\Lf w0 tag' hb g n cs rows R np w'/\Nx 1 tag tag' w w'/\
     (b=true->((t,k)::R).Perm L/\∀x∈R,Hf.kf t<Hf.kf x.1\/(Hf.kf t=Hf.kf x.1/\k<x.2))/\(b=false->L=[]/\R=[]):=by
 cases L with
 | nil=>
  refine h.hm.abo.mono ?_;rintro e w' ⟨rfl,hB⟩;exact⟨false,Hf.zt,0,[],tag,rfl,h.below hB,Nx.below 1 tag hB,(fun e=>by cases e),fun _=>⟨rfl,rfl⟩⟩
 | cons t L1=>
  refine(h.hm.pop (t:=t) rfl hl).mono ?_;rintro e w' ⟨R,rfl,q1,q2,q3,q4⟩;exact⟨true,t.1,t.2,R,_,rfl,h.heap q1 q4,q4,(fun _=>⟨q2,q3⟩),(fun e=>by cases e)⟩
structure Bx(w0:World)(tag:Nat->Nat)(B:Nat)(t:Hf.Th)(w:World):Prop where
 blk:w.heap[B]? =some (.cells #[.int .i64 t.1, .int .u64 t.2.1.1, .int .u64 t.2.1.2.1, .int .u64 t.2.1.2.2] 215 (0,0))
 tg:tag B=0
 nw:w0.heap.size<=B
theorem Bx.lt{t:Hf.Th}(h:Bx w0 tag B t w):B<w.heap.size:=(aG.1 h.blk).1
theorem Bx.nx{t:Hf.Th}(h:Bx w0 tag B t w)(hn:Nx j tag tag' w w')(hj:j≠0):Bx w0 tag' B t w':=
 ⟨(hn.kp.block B h.lt (fun e=>hj (e.symm.trans h.tg))).trans h.blk,(hn.old B h.lt).trans h.tg,h.nw⟩
theorem Bx.below{t:Hf.Th}(h:Bx w0 tag B t w)(hB:Below w.heap.size w w'):Bx w0 tag B t w':=h.nx (Nx.below 1 tag hB) (by decide)
theorem Bx.cells{t:Hf.Th}(h:Bx w0 tag B t w):w.cell? ⟨B,0,none⟩=some (.int .i64 t.1)/\w.cell? ⟨B,1,none⟩=some (.int .u64 t.2.1.1)/\w.cell? ⟨B,2,none⟩=some (.int .u64 t.2.1.2.1)/\w.cell? ⟨B,3,none⟩=some (.int .u64 t.2.1.2.2):=by
 simp[World.cell?,h.blk]
theorem Bx.fz{t:Hf.Th}(h:Bx w0 tag B t w):w.frozen? ⟨B,0,none⟩=false/\w.frozen? ⟨B,1,none⟩=false/\w.frozen? ⟨B,2,none⟩=false/\w.frozen? ⟨B,3,none⟩=false:=by
 simp[World.frozen?,h.blk]
theorem Lf.box(h:Lf w0 tag hb g n cs rows R np w)(t:Hf.Th):Lf w0 (tg tag w 0) hb g n cs rows R np (w.alloc (.cells #[.int .i64 t.1, .int .u64 t.2.1.1, .int .u64 t.2.1.2.1, .int .u64 t.2.1.2.2] 215))/\Bx w0 (tg tag w 0) w.heap.size t (w.alloc (.cells #[.int .i64 t.1, .int .u64 t.2.1.1, .int .u64 t.2.1.2.1, .int .u64 t.2.1.2.2] 215)):=by
 have hB:Below w.heap.size w (w.alloc (.cells #[.int .i64 t.1, .int .u64 t.2.1.1, .int .u64 t.2.1.2.1, .int .u64 t.2.1.2.2] 215)):=((Gr.refl w).alloc _).below;have hn:Nx 1 tag (tg tag w 0) w (w.alloc (.cells #[.int .i64 t.1, .int .u64 t.2.1.1, .int .u64 t.2.1.2.1, .int .u64 t.2.1.2.2] 215)):=⟨Kp.of_below hB,fun _ hk=>ak hk⟩;have WU:Nx 0 tag (tg tag w 0) w (w.alloc (.cells #[.int .i64 t.1, .int .u64 t.2.1.1, .int .u64 t.2.1.2.1, .int .u64 t.2.1.2.2] 215)):=⟨Kp.of_below hB,fun _ hk=>ak hk⟩;exact⟨h.heap (h.hm.nx WU (by decide)) hn,⟨ah _ _,aR (nR _),h.bl.size⟩⟩
theorem Lf.set{t:Hf.Th}(h:Lf w0 tag hb g n cs rows R np w)(hx:Bx w0 tag B t w)(u:Hf.Th):Lf w0 tag hb g n cs rows R np ((((w.setCell ⟨B,0,none⟩ (.int .i64 u.1)).setCell ⟨B,1,none⟩ (.int .u64 u.2.1.1)).setCell ⟨B,2,none⟩ (.int .u64 u.2.1.2.1)).setCell ⟨B,3,none⟩ (.int .u64 u.2.1.2.2))/\
    Bx w0 tag B u ((((w.setCell ⟨B,0,none⟩ (.int .i64 u.1)).setCell ⟨B,1,none⟩ (.int .u64 u.2.1.1)).setCell ⟨B,2,none⟩ (.int .u64 u.2.1.2.1)).setCell ⟨B,3,none⟩ (.int .u64 u.2.1.2.2)):=by
 obtain⟨h1,h2⟩:=Hf.oC (c0:= .int .i64 u.1) (c1:= .int .u64 u.2.1.1) (c2:= .int .u64 u.2.1.2.1) (c3:= .int .u64 u.2.1.2.2) hx.blk;generalize (((w.setCell ⟨B,0,none⟩ (.int .i64 u.1)).setCell ⟨B,1,none⟩ (.int .u64 u.2.1.1)).setCell ⟨B,2,none⟩ (.int .u64 u.2.1.2.1)).setCell ⟨B,3,none⟩ (.int .u64 u.2.1.2.2)=w' at h1 h2⊢;have hn:Nx 0 tag tag w w':=⟨h2.mono (fun k hk=>by rw[hk];exact hx.tg),fun _ _=>rfl⟩;obtain⟨r1,r2⟩:=h.row hn (by decide);exact⟨⟨h.bl.trans (h2.below h.bl.size (fun k hk=>by rw[hk];exact hx.nw)),h.nw,h.len,r1,r2,h.hm.nx hn (by decide),fun i c hc=>(h.ch i c hc).nx hn (by omega)⟩,⟨h1,hx.tg,hx.nw⟩⟩
end
end Lf
end Go.Proofs.YtiiefcalkjeieaaGreat
