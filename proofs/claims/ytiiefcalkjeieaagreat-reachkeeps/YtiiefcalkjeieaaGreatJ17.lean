import Derived.Test.YtiiefcalkjeieaaGreatJ15
import Derived.Test.YtiiefcalkjeieaaGreatJ16
variable{k q n j np c i B m:Nat}{tag:Nat->Nat}{v su:Go.Value}
namespace Go.Proofs.YtiiefcalkjeieaaGreat
namespace Lf
open Go.RowKit Go.Sort
abbrev fA:Nat:=184
abbrev fT:Nat:=125
abbrev fW:Nat:=124
def tg(tag:Nat->Nat)(w:World)(j:Nat):Nat->Nat:=fun k=>if k<w.heap.size then tag k else j
theorem au{w:World}(h:k<w.heap.size):tg tag w j k=tag k:=by unfold tg;rw[if_pos h]
theorem aU{w:World}(h:w.heap.size<=k):tg tag w j k=j:=by unfold tg;rw[if_neg (by omega)]
structure Nx(j:Nat)(tag tag':Nat->Nat)(w w':World):Prop where
 kp:Kp (fun k=>tag k=j) w w'
 old:∀k,k<w.heap.size->tag' k=tag k
def EP:El (Option Nat) where
 k:=1
 enc c:=[.pointer (c.map (fun b=>⟨b,0,none⟩))]
 len _:=rfl
 one x u hu:=by
  simp at hu;subst hu;rfl
def Cm(w:World)(tag:Nat->Nat)(j cb:Nat)(l:List Tm):Prop:=∃v,Cz.Ch false w cb fA fT v l/\tag cb=j/\∀k,v.ownBlock=some k->tag k=j
def Hm(w:World)(tag:Nat->Nat)(j hb:Nat)(L:List Hf.It)(np:Nat):Prop:=∃v,Hf.Hq w hb fW v Hf.kf L np/\tag hb=j/\∀k,v.ownBlock=some k->tag k=j
section
variable {w w':World} {tag tag':Nat->Nat} {i j cb hb np:Nat} {l:List Tm} {L:List Hf.It}
theorem Nx.below(j:Nat)(tag:Nat->Nat)(hB:Bw w w'):Nx j tag tag w w':=⟨Kp.of_below hB,fun _ _=>rfl⟩
theorem Nx.one(hK:Kp (fun k=>tag k=j) w w'):Nx j tag (tg tag w j) w w':=⟨hK,fun _ hk=>au hk⟩
theorem Cm.nx(h:Cm w tag i cb l)(hn:Nx j tag tag' w w')(hij:i≠j):Cm w' tag' i cb l:=by
 obtain⟨v,h1,h2,h3⟩:=h;exact⟨v,h1.kp hn.kp (fun e=>hij (h2.symm.trans e)) (fun k hk e=>hij ((h3 k hk).symm.trans e)),(hn.old cb h1.lt).trans h2,fun k hk=>(hn.old k (h1.row k hk)).trans (h3 k hk)⟩
theorem Cm.below(h:Cm w tag i cb l)(hB:Bw w w'):Cm w' tag i cb l:=h.nx (Nx.below (i+1) tag hB) (by omega)
theorem Hm.nx(h:Hm w tag i hb L np)(hn:Nx j tag tag' w w')(hij:i≠j):Hm w' tag' i hb L np:=by
 obtain⟨v,h1,h2,h3⟩:=h;exact⟨v,h1.kp hn.kp (fun e=>hij (h2.symm.trans e)) (fun k hk e=>hij ((h3 k hk).symm.trans e)),(hn.old hb h1.h.lt).trans h2,fun k hk=>(hn.old k (h1.h.row k hk)).trans (h3 k hk)⟩
theorem Hm.below(h:Hm w tag i hb L np)(hB:Bw w w'):Hm w' tag i hb L np:=h.nx (Nx.below (i+1) tag hB) (by omega)
theorem Cm.insert(x:Tm)(h:Cm w tag j cb l)(hl:(l.length+1)*24<=140737488355328):
    CL 128 #[aB cb,tv x] w fun e w'=>e= .returned (.bool (!bH aC l x))/\Cm w' (tg tag w j) j cb (gG aC dL l x)/\Nx j tag (tg tag w j) w w':=by
 obtain⟨v,h1,h2,h3⟩:=h;refine(Cz.jC x w h1 hl Pc.fJ Pc.jM).mono ?_;rintro e w' ⟨v',rfl,q1,q2⟩;refine⟨rfl,⟨v',q1,(au h1.lt).trans h2,fun k hk=> ?_⟩,Nx.one (q2.1.mono (fun k hk=> ?_))⟩
 ·rcases q2.2 k hk with a|a
  ·exact(au (h1.row k a)).trans (h3 k a)
  ·exact aU a
 ·rcases hk with rfl|a
  ·exact h2
  ·exact h3 k a
theorem Cm.covers(x:Tm)(h:Cm w tag j cb l)(hl:l.length*24<=140737488355328):
    CL 131 #[aB cb,tv x] w fun e w'=>e= .returned (.bool (bH aC l x))/\Gr w w':=by
 obtain⟨v,h1,_⟩:=h;exact Cz.qB x w h1 hl Pc.fJ
theorem Cm.len(h:Cm w tag j cb l):
    CL 129 #[aB cb] w fun e w'=>e= .returned (iV (l.length:Nat))/\w'=w:=by
 obtain⟨v,h1,_⟩:=h;exact Pc.Cn.gW w h1
theorem Hm.push(x:Hf.Th)(h:Hm w tag j hb L np)(hl:(L.length+1)*40<=140737488355328)(Ty:np+1<18446744073709551616):
    CL 126 #[aB hb,Hf.tv x] w fun e w'=>∃L',e= .returned (.tuple #[])/\Hm w' (tg tag w j) j hb L' (np+1)/\L'.Perm (L++[(x,np)])/\Nx j tag (tg tag w j) w w':=by
 obtain⟨v,h1,h2,h3⟩:=h;refine(Hf.sM x w h1 hl Ty Hf.I6).mono ?_;rintro e w' ⟨v',L',rfl,q1,q2,q3⟩;refine⟨L',rfl,⟨v',q1,(au h1.h.lt).trans h2,fun k hk=> ?_⟩,q2,Nx.one (q3.1.mono (fun k hk=> ?_))⟩
 ·rcases q3.2 k hk with a|a
  ·exact(au (h1.h.row k a)).trans (h3 k a)
  ·exact aU a
 ·rcases hk with rfl|a
  ·exact h2
  ·exact h3 k a
theorem Hm.pop{t:Hf.It}(h:Hm w tag j hb L np)(ht:L[0]? =some t)(hl:L.length<=140737488355328):
    CL 127 #[aB hb] w fun e w'=>∃L',e= .returned (Hf.ans t.1 true)/\Hm w' (tg tag w j) j hb L' np/\(t::L').Perm L/\(∀x∈L',Hf.kf t.1<Hf.kf x.1\/(Hf.kf t.1=Hf.kf x.1/\t.2<x.2))/\Nx j tag (tg tag w j) w w':=by
 obtain⟨v,h1,h2,h3⟩:=h;refine(Hf.qY w h1 ht hl Hf.I6).mono ?_;rintro e w' ⟨v',L',rfl,q1,q2,q4,q3⟩;refine⟨L',rfl,⟨v',q1,(au h1.h.lt).trans h2,fun k hk=> ?_⟩,q2,q4,Nx.one (q3.1.mono (fun k hk=> ?_))⟩
 ·rcases q3.2 k hk with a|a
  ·exact(au (h1.h.row k a)).trans (h3 k a)
  ·exact aU a
 ·rcases hk with rfl|a
  ·exact h2
  ·exact h3 k a
theorem Hm.abt(h:Hm w tag j hb [] np):CL 127 #[aB hb] w fun e w'=>e= .returned (Hf.ans Hf.zt false)/\Bw w w':=by
 obtain⟨v,h1,_⟩:=h;exact Hf.wY w h1.h
theorem hnew(w:World)(tag:Nat->Nat)(j:Nat):CL 123 #[Hf.fv fW] w fun e w'=>∃hb,e= .returned (aB hb)/\w.heap.size<=hb/\Hm w' (tg tag w j) j hb [] 0/\Gr w w':=by
 refine(Hf.xx fW Hf.kf w).mono ?_;rintro e w' ⟨hb,rfl,h1,h2,h3⟩;exact⟨hb,rfl,h1,⟨_,h2,aU h1,fun k hk=>by simp[Value.ownBlock]at hk⟩,h3⟩
end
structure Lf(w0:World)(tag:Nat->Nat)(hb g n:Nat)(cs:List Nat)(rows:Nat->List Tm)(L:List Hf.It)(np:Nat)(w:World):Prop where
 bl:Bw w0 w
 nw:∀k,k<w0.heap.size->tag k=0
 len:cs.length=n
 lr:Ls EP w (sO g n n) (cs.map some)
 lt:tag g=2
 hm:Hm w tag 1 hb L np
 ch:∀i c,cs[i]? =some c->Cm w tag (i+3) c (rows i)
section
variable {w0 w w':World} {tag tag':Nat->Nat} {hb g n np FI:Nat} {cs:List Nat} {rows:Nat->List Tm} {L L':List Hf.It}
theorem Lf.up(h:Lf w0 tag hb g n cs rows L np w)(hn:Nx j tag tag' w w')(h0:j≠0):Bw w0 w'/\∀k,k<w0.heap.size->tag' k=0:=by
 refine⟨h.bl.trans (hn.kp.below h.bl.size (fun k hk=> ?_)),fun k hk=>(hn.old k (nL hk h.bl.size)).trans (h.nw k hk)⟩;refine Nat.le_of_not_lt (fun e=>h0 ?_);rw[<-hk];exact h.nw k e
theorem Lf.row(h:Lf w0 tag hb g n cs rows L np w)(hn:Nx j tag tag' w w')(h2:j≠2):Ls EP w' (sO g n n) (cs.map some)/\tag' g=2:=by
 refine⟨hn.kp.ls h.lr (fun k hk e=>h2 ?_),(hn.old g (h.lr.blk g rfl)).trans h.lt⟩;have hk:g=k:=by simpa[Value.ownBlock]using hk
 rw[<-e,<-hk];exact h.lt
theorem Lf.below(h:Lf w0 tag hb g n cs rows L np w)(hB:Bw w w'):Lf w0 tag hb g n cs rows L np w':=
 ⟨h.bl.trans (hB.mono h.bl.size),h.nw,h.len,h.lr.below hB,h.lt,h.hm.below hB,fun i c hc=>(h.ch i c hc).below hB⟩
theorem Lf.heap(h:Lf w0 tag hb g n cs rows L np w)(hm:Hm w' tag' 1 hb L' FI)(hn:Nx 1 tag tag' w w'):Lf w0 tag' hb g n cs rows L' FI w':=by
 obtain⟨u1,u2⟩:=h.up hn (by decide);obtain⟨r1,r2⟩:=h.row hn (by decide);exact⟨u1,u2,h.len,r1,r2,hm,fun i c hc=>(h.ch i c hc).nx hn (by omega)⟩
theorem Lf.chain{l:List Tm}(h:Lf w0 tag hb g n cs rows L np w)(hc:cs[q]? =some c)(hm:Cm w' tag' (q+3) c l)(hn:Nx (q+3) tag tag' w w'):Lf w0 tag' hb g n cs (fun i=>if i=q then l else rows i) L np w':=by
 obtain⟨u1,u2⟩:=h.up hn (by omega);obtain⟨r1,r2⟩:=h.row hn (by omega);refine⟨u1,u2,h.len,r1,r2,h.hm.nx hn (by omega),fun i d hd=> ?_⟩;by_cases e:i=q
 ·subst e;rw[hc]at hd;cases hd;rw[if_pos rfl];exact hm
 ·rw[if_neg e];exact(h.ch i d hd).nx hn (by omega)
end
end Lf
namespace Lf
open Go.RowKit Go.Sort Pt
def opn(L:List Hf.It):List (Nat×ai):=L.map (fun x=>(x.1.1.toNat,x.1.2))
def J5(ss:List (List Hf.Th))(q q':Nat)(b:ai):Prop:=∃s,ss[q]? =some s/\((q':Int),b)∈s
theorem kK{L M:List Hf.It}(h:L.Perm M):∀x,x∈opn L↔x∈opn M:=fun _=>(h.map _).mem_iff
theorem GI(L M:List Hf.It):opn (L++M)=opn L++opn M:=by simp[opn]
theorem nC(t:Hf.It)(L:List Hf.It):opn (t::L)=(t.1.1.toNat,t.1.2)::opn L:=rfl
def Rg(n:Nat)(L:List Hf.It):Prop:=∀x∈L,∃q:Nat,q<n/\x.1.1=(q:Int)
section
variable {ss:List (List Hf.Th)} {s:List Hf.Th} {p n q0:Nat} {w:ai} {rows:Nat->List ai} {R L L':List Hf.It}
theorem MV(h:Iv PX (J5 ss) p rows (opn L))(hp:((((q0:Int),w),np)::R).Perm L)(hf:∀q b,(q,b)∈opn L->¬PX.mh b w)(hc:¬pY PX (rows q0) w):∃o,Iv PX (J5 ss) p (dO rows q0 w) o:=by
 have h0:∀x,x∈opn L↔x=(q0,w)\/x∈opn R:=fun x=>by
  rw[<-kK hp x,nC];simp
 cases hs:ss[q0]? with
 | none=>
  refine⟨opn R,h.take bL ((h0 _).2 (Or.inl rfl)) hf (fun x hx=>(h0 x).1 hx) (fun x hx=>(h0 x).2 (Or.inr hx)) hc (fun _ hx=>hx) (fun q c hx=>Or.inl hx) (fun q b c hst _=> ?_)⟩;obtain⟨s',e,_⟩:=hst;rw[hs]at e;cases e
 | some s=>
  refine⟨opn R++s.filterMap (fun x=>(PX.thn w x.2).bind (fun c=>if 0<=x.1 then some (x.1.toNat,c)else none)),h.take bL ((h0 _).2 (Or.inl rfl)) hf (fun x hx=>(h0 x).1 hx) (fun x hx=>(h0 x).2 (Or.inr hx)) hc (fun _ hx=>kr.2 (Or.inl hx)) (fun q c hx=> ?_) (fun q b c hst hb=>Or.inr ?_)⟩
  ·rcases kr.1 hx with k|k
   ·exact Or.inl k
   ·obtain⟨⟨a,b⟩,h1,h2⟩:=List.mem_filterMap.1 k;obtain⟨c',h3,h4⟩:=Option.bind_eq_some_iff.1 h2;split at h4
    ·rename_i ha;cases h4;have ha:0<=a:=ha;exact Or.inr ⟨b,⟨s,hs,by simpa[Int.toNat_of_nonneg ha]using h1⟩,h3⟩
    ·cases h4
  ·obtain⟨s',e,hm⟩:=hst;rw[hs]at e;cases e;refine kr.2 (Or.inr (List.mem_filterMap.2 ⟨_,hm, ?_⟩));rw[hb];simp
structure pR(s:List Hf.Th)(n:Nat)(w:ai)(rows':Nat->List ai)(R L:List Hf.It)(k:Nat):Prop where
 sub:∀x∈opn R,x∈opn L
 new:∀q c,(q,c)∈opn L->(q,c)∈opn R\/∃b,((q:Int),b)∈s/\PX.thn w b=some c
 don:∀(j q:Nat) (b c:ai),j<k->s[j]? =some ((q:Int),b)->PX.thn w b=some c->pY PX (rows' q) c\/(q,c)∈opn L
 rg:Rg n L
 cnt:L.length<=R.length+k
theorem pR.init{rows':Nat->List ai}(hr:Rg n R):pR s n w rows' R R 0:=⟨fun _ h=>h,fun _ _ h=>Or.inl h,fun _ _ _ _ h=>absurd h (nW _),hr,nR _⟩
theorem pR.skip{rows':Nat->List ai}{b:ai}(h:pR s n w rows' R L k)(hs:s[k]? =some ((q:Int),b))(hc:∀c,PX.thn w b=some c->pY PX (rows' q) c):pR s n w rows' R L (k+1):=by
 refine⟨h.sub,h.new,fun j q' b' c hj hs' hb=> ?_,h.rg,Nat.le_succ_of_le h.cnt⟩;by_cases e:j=k
 ·subst e;rw[hs]at hs';simp only[oI,Prod.mk.injEq,Int.natCast_inj]at hs';obtain⟨rfl,rfl⟩:=hs';exact Or.inl (hc c hb)
 ·exact h.don j q' b' c (by omega) hs' hb
theorem pR.push{rows':Nat->List ai}{b c:ai}(h:pR s n w rows' R L k)(hs:s[k]? =some ((q:Int),b))(hq:q<n)(hb:PX.thn w b=some c)(hp:L'.Perm (L++[(((q:Int),c),np)])):pR s n w rows' R L' (k+1):=by
 have hm:∀x,x∈opn L'↔x∈opn L\/x=(q,c):=fun x=>by
  rw[kK hp x,GI];simp[opn]
 refine⟨fun x hx=>(hm x).2 (Or.inl (h.sub x hx)),fun q' c' hx=> ?_,fun j q' b' c' hj hs' hb'=> ?_,fun x hx=> ?_, ?_⟩
 ·rcases(hm _).1 hx with a|a
  ·exact h.new q' c' a
  ·simp only[Prod.mk.injEq]at a;obtain⟨rfl,rfl⟩:=a;exact Or.inr ⟨b,lM hs,hb⟩
 ·by_cases e:j=k
  ·subst e;rw[hs]at hs';simp only[oI,Prod.mk.injEq,Int.natCast_inj]at hs';obtain⟨rfl,rfl⟩:=hs';rw[hb]at hb';cases hb';exact Or.inr ((hm _).2 (Or.inr rfl))
  ·exact(h.don j q' b' c' (by omega) hs' hb').imp (fun a=>a) (fun a=>(hm _).2 (Or.inl a))
 ·rcases kr.1 (hp.mem_iff.1 hx)with a|a
  ·exact h.rg x a
  ·simp only[yM]at a;subst a;exact⟨q,hq,rfl⟩
 ·rw[hp.length_eq,dQ,vR];have:=h.cnt;omega
theorem pR.fin(h:Iv PX (J5 ss) p rows (opn L))(hp:((((q0:Int),w),np)::R).Perm L)(hf:∀q b,(q,b)∈opn L->¬PX.mh b w)(hc:¬pY PX (rows q0) w)(hs:ss[q0]? =some s)(hi:pR s n w (dO rows q0 w) R L' s.length):Iv PX (J5 ss) p (dO rows q0 w) (opn L'):=by
 have h0:∀x,x∈opn L↔x=(q0,w)\/x∈opn R:=fun x=>by
  rw[<-kK hp x,nC];simp
 refine h.take bL ((h0 _).2 (Or.inl rfl)) hf (fun x hx=>(h0 x).1 hx) (fun x hx=>(h0 x).2 (Or.inr hx)) hc hi.sub (fun q c hx=> ?_) (fun q b c hst hb=> ?_)
 ·exact(hi.new q c hx).imp (fun a=>a) (fun⟨b,h1,h2⟩=>⟨b,⟨s,hs,h1⟩,h2⟩)
 ·obtain⟨s',e,hm⟩:=hst;rw[hs]at e;cases e;obtain⟨j,hj⟩:=iG.1 hm;exact hi.don j q b c (lG.1 hj).1 hj hb
theorem Al{t:Hf.It}(hp:(t::R).Perm L)(hk:∀x∈R,Hf.kf t.1<Hf.kf x.1\/(Hf.kf t.1=Hf.kf x.1/\t.2<x.2)):∀q b,(q,b)∈opn L->¬PX.mh b t.1.2:=by
 intro q b hm ht;rw[<-kK hp,nC]at hm;have key:∀x:Hf.It,PX.mh x.1.2 t.1.2->Hf.kf x.1<Hf.kf t.1:=fun x hx=>(Hf.OE x.1 t.1).2 ((Pc.MP _ _).2 hx);rcases gq.1 hm with a|a
 ·simp only[Prod.mk.injEq]at a;exact bL.qy _ (a.2 ▸ ht)
 ·obtain⟨x,h1,h2⟩:=mM.1 a;simp only[Prod.mk.injEq]at h2;have h3:=key x (by rw[h2.2];exact ht);rcases hk x h1 with h4|h4<;>omega
end
def ui(a b:ai):ai:=(bJ a b).getD PX.z
theorem wy{a b c:ai}(h:bJ a b=some c):ui a b=c:=by unfold ui;rw[h];rfl
theorem RF{a b:ai}(h:¬(a.1.1+b.1.1<18446744073709551616/\a.1.2.1+b.1.2.1<18446744073709551616/\a.1.2.2+b.1.2.2<18446744073709551616)):bJ a b=none:=by
 unfold bJ;rw[dif_neg h]
theorem NK(k:Nat):Gz true k=k:=rfl
theorem AY(a b:ai):∃x1 x2 x3 y1 y2 y3:Nat,(a.1.1=x1/\a.1.2.1=x2/\a.1.2.2=x3)/\(b.1.1=y1/\b.1.2.1=y2/\b.1.2.2=y3)/\(x1<18446744073709551616/\x2<18446744073709551616/\x3<18446744073709551616)/\(y1<18446744073709551616/\y2<18446744073709551616/\y3<18446744073709551616)/\
    kI x1 x2 x3 y1 y2 y3=(bJ a b).isSome/\((Gz (kI x1 x2 x3 y1 y2 y3) (x1+y1):Nat):Int)=(ui a b).1.1/\((Gz (kI x1 x2 x3 y1 y2 y3) (x2+y2):Nat):Int)=(ui a b).1.2.1/\((Gz (kI x1 x2 x3 y1 y2 y3) (x3+y3):Nat):Int)=(ui a b).1.2.2:=by
 obtain⟨⟨a1,a2⟩,⟨a3,a4⟩,⟨a5,a6⟩⟩:=bY a;obtain⟨⟨b1,b2⟩,⟨b3,b4⟩,⟨b5,b6⟩⟩:=bY b;obtain⟨x1,e1⟩:=Int.eq_ofNat_of_zero_le a1;obtain⟨x2,e2⟩:=Int.eq_ofNat_of_zero_le a3;obtain⟨x3,e3⟩:=Int.eq_ofNat_of_zero_le a5;obtain⟨y1,f1⟩:=Int.eq_ofNat_of_zero_le b1;obtain⟨y2,f2⟩:=Int.eq_ofNat_of_zero_le b3;obtain⟨y3,f3⟩:=Int.eq_ofNat_of_zero_le b5;refine⟨x1,x2,x3,y1,y2,y3,⟨e1,e2,e3⟩,⟨f1,f2,f3⟩,⟨by omega,by omega,by omega⟩,⟨by omega,by omega,by omega⟩, ?_⟩;by_cases h:a.1.1+b.1.1<18446744073709551616/\a.1.2.1+b.1.2.1<18446744073709551616/\a.1.2.2+b.1.2.2<18446744073709551616
 ·obtain⟨c,hc⟩:=jN h;have hs:=bE hc;have hp:kI x1 x2 x3 y1 y2 y3=true:=by
   unfold kI;rw[decide_eq_true (by omega),decide_eq_true (by omega),decide_eq_true (by omega)];rfl
  rw[wy hc,hc,hp,NK,NK,NK,hs.1,hs.2.1,hs.2.2,e1,e2,e3,f1,f2,f3];exact⟨rfl,by simp,by simp,by simp⟩
 ·have hc:=RF h;have hp:kI x1 x2 x3 y1 y2 y3=false:=by
   cases k:kI x1 x2 x3 y1 y2 y3 with
   | false => rfl
   | true=>
    unfold kI at k;rw[bA,bA,dE,dE,dE]at k;exact absurd ⟨by omega,by omega,by omega⟩ h
  unfold ui;rw[hc,hp];exact⟨rfl,rfl,rfl,rfl⟩
theorem MQ(a b:ai)(w:World):CL 130 #[tv a,tv b] w fun e w'=>e= .returned (.tuple #[tv (ui a b), .bool (bJ a b).isSome])/\Bw w w':=by
 obtain⟨x1,x2,x3,y1,y2,y3,⟨e1,e2,e3⟩,⟨f1,f2,f3⟩,⟨g1,g2,g3⟩,⟨h1,h2,h3⟩,k0,k1,k2,k3⟩:=AY a b;have h:=Qu x1 x2 x3 y1 y2 y3 w g1 g2 g3 h1 h2 h3;rw[k1,k2,k3,k0]at h;unfold tv;rw[e1,e2,e3,f1,f2,f3];exact h
theorem EE(l:List (Option Nat)):fl EP l=l.map (fun c=>Value.pointer (c.map (fun b=>⟨b,0,none⟩))):=by
 induction l with
 | nil => rfl
 | cons a l ih => rw[aR,ih];rfl
theorem KZ(l:List (Option Nat))(i:Nat)(c:Nat):(fl EP l).set i (aB c)=fl EP (l.set i (some c)):=by
 rw[EE,EE,List.map_set];rfl
theorem PS(cs:List Nat)(n c:Nat)(h:cs.length<n):(cs.map some++List.replicate (n-cs.length) none).set cs.length (some c)=(cs++[c]).map some++List.replicate (n-(cs++[c]).length) none:=by
 obtain⟨m,rfl⟩:∃m,n=cs.length+(m+1):=⟨n-cs.length-1,by omega⟩;rw[List.set_append_right _ _ (by simp),gQ,Nat.sub_self,show cs.length+(m+1)-cs.length=m+1 by omega,List.replicate_succ,List.set_cons_zero,dQ,vR,show cs.length+(m+1)-(cs.length+1)=m by omega];simp
structure QL(w0:World)(tag:Nat->Nat)(g n:Nat)(cs:List Nat)(w:World):Prop where
 bl:Bw w0 w
 nw:∀k,k<w0.heap.size->tag k=0
 le:cs.length<=n
 ro:w.ownsRow 0 218 1 (sO g n n) n (fl EP (cs.map some++List.replicate (n-cs.length) none))
 lt:tag g=2
 ch:∀i c,cs[i]? =some c->Cm w tag (i+3) c []
section
variable {w0 w w':World} {tag:Nat->Nat} {g n:Nat} {cs:List Nat}
theorem QL.gl(h:QL w0 tag g n cs w):g<w.heap.size:=(h.ro.lt g rfl).2
theorem QL.cell(h:QL w0 tag g n cs w)(hlt:cs.length<n)(hg:Gr w w'):w'.cell? ⟨g,cs.length,none⟩=some (.pointer none):=by
 have hl:(cs.map some++List.replicate (n-cs.length) none).length=n:=by simp;omega
 have hls:Ls EP w' (sO g n n) (cs.map some++List.replicate (n-cs.length) none):=aK (E:=EP) (by rw[hl];exact ag h.ro hg.below);obtain⟨b,off,c,e,hb,hc⟩:=hls.get (j:=cs.length) (t:=none) (by rw[VE (by simp),List.getElem?_replicate,if_pos (by simp;omega)]);simp only[vS,oI,aI,and_true]at e;obtain⟨⟨rfl,rfl⟩,-,-⟩:=e;simpa[EP]using hc 0 _ (by decide) rfl
theorem QL.step(h:QL w0 tag g n cs w)(hlt:cs.length<n)(hC:Cz.Ch false w' w.heap.size fA fT (.slice none 0 0) [])(hg:Gr w w') :
    QL w0 (tg tag w (cs.length+3)) g n (cs++[w.heap.size]) (w'.setCell ⟨g,cs.length,none⟩ (aB w.heap.size)):=by
 obtain⟨o1,k1⟩:=Hf.cO (q:=cs.length) (aB w.heap.size) (ag h.ro hg.below);rw[KZ,PS cs n _ hlt]at o1;have hgt:tg tag w (cs.length+3) g=2:=(au h.gl).trans h.lt;have n1:Nx 1 tag (tg tag w (cs.length+3)) w w':=⟨Kp.bg hg,fun _ hk=>au hk⟩;have n2:Nx 2 (tg tag w (cs.length+3)) (tg tag w (cs.length+3)) w' (w'.setCell ⟨g,cs.length,none⟩ (aB w.heap.size)):=⟨k1.mono (fun k hk=>by rw[hk];exact hgt),fun _ _=>rfl⟩;have hg0:w0.heap.size<=g:=Nat.le_of_not_lt (fun e=>by have:=h.nw g e;rw[h.lt]at this;cases this);refine⟨(h.bl.trans (hg.below.mono h.bl.size)).trans (k1.below (nT h.bl.size hg.size) (fun k hk=>by rw[hk];exact hg0)),fun k hk=>(au (nL hk h.bl.size)).trans (h.nw k hk), ?_,o1,hgt,fun i c hc=> ?_⟩
 ·rw[dQ,vR];omega
 ·rw[List.getElem?_append]at hc;split at hc
  ·exact((h.ch i c hc).nx n1 (by omega)).nx n2 (by omega)
  ·rename_i hi;have e:i=cs.length:=by
    rw[lG]at hc;obtain⟨h1,_⟩:=hc;simp at h1;omega
   subst e;rw[Nat.sub_self]at hc;cases hc;exact Cm.nx ⟨_,hC,aU (nR _),fun k hk=>by simp[Value.ownBlock]at hk⟩ n2 (by omega)
theorem QL.done{hb:Nat}{tag':Nat->Nat}{L:List Hf.It}(h:QL w0 tag g n cs w)(hn:cs.length=n)(hx:Nx 1 tag tag' w w')(hm:Hm w' tag' 1 hb L np):Lf w0 tag' hb g n cs (fun _=>[]) L np w':=by
 have hro:=h.ro;rw[hn,Nat.sub_self,List.replicate_zero,FZ]at hro;have hls:Ls EP w (sO g n n) (cs.map some):=aK (E:=EP) (by rw[gQ,hn];exact hro);refine⟨h.bl.trans (hx.kp.below h.bl.size (fun k hk=>Nat.le_of_not_lt (fun e=>by have:=h.nw k e;rw[hk]at this;cases this))),fun k hk=>(hx.old k (nL hk h.bl.size)).trans (h.nw k hk),hn,hx.kp.ls hls (fun k hk e=> ?_),(hx.old g h.gl).trans h.lt,hm,fun i c hc=>(h.ch i c hc).nx hx (by omega)⟩;have hk:g=k:=by simpa[Value.ownBlock]using hk
 rw[<-hk,h.lt]at e;cases e
end
def EF:El Hf.Th where
 k:=4
 enc a:=[iV a.1,uV a.2.1.1,uV a.2.1.2.1,uV a.2.1.2.2]
 len _:=rfl
 one x u hu:=by
  simp at hu;rcases hu with rfl|rfl|rfl|rfl<;>rfl
theorem abj{w:World}{ts:List Hf.Th}(h:Ls EF w v ts){x:Hf.Th}(hj:ts[j]? =some x):
    ∃b off c,v= .slice (some ⟨b,off,none⟩) ts.length c/\b<w.heap.size/\aj w b (off+j*4) (iV x.1)/\aj w b (off+j*4+1) (uV x.2.1.1)/\aj w b (off+j*4+2) (uV x.2.1.2.1)/\aj w b (off+j*4+3) (uV x.2.1.2.2):=by
 obtain⟨b,off,c,hv,hb,hc⟩:=h.get hj;exact⟨b,off,c,hv,hb,hc 0 _ (by decide) rfl,hc 1 _ (by decide) rfl,hc 2 _ (by decide) rfl,hc 3 _ (by decide) rfl⟩
abbrev Vw:={ v:Value // v.oneCell'=true }
def EV:El Vw where
 k:=1
 enc v:=[v.1]
 len _:=rfl
 one x u hu:=by simp at hu;subst hu;exact x.2
def Sp(w:World)(su:Value)(ss:List (List Hf.Th)):Prop:=∃vs:List Vw,Ls EV w su vs/\vs.length=ss.length/\∀(i:Nat) (v:Vw) (s:List Hf.Th),vs[i]? =some v->ss[i]? =some s->Ls EF w v.1 s
theorem Sp.below{w w':World}{ss:List (List Hf.Th)}(h:Sp w su ss)(hb:Bw w w'):Sp w' su ss:=by
 obtain⟨vs,h1,h2,h3⟩:=h;exact⟨vs,h1.below hb,h2,fun i v s hv hs=>(h3 i v s hv hs).below hb⟩
theorem Sp.form{w:World}{ss:List (List Hf.Th)}(h:Sp w su ss):∃p c,su= .slice p ss.length c:=by
 obtain⟨vs,h1,h2,h3⟩:=h;rw[<-h2];exact h1.form
theorem Sp.at{w:World}{p:Option Addr}{ss:List (List Hf.Th)}(h:Sp w (.slice p n c) ss){s:List Hf.Th}(hs:ss[i]? =some s):∃b off q m,p=some ⟨b,off,none⟩/\b<w.heap.size/\aj w b (off+i) (.slice q s.length m)/\Ls EF w (.slice q s.length m) s:=by
 obtain⟨vs,h1,h2,h3⟩:=h;obtain⟨v,hv⟩:∃v,vs[i]? =some v:=⟨vs[i]'(by rw[h2];exact(lG.1 hs).1),by simp⟩;have h4:=h3 i v s hv hs;obtain⟨q,m,e⟩:=h4.form;obtain⟨b,off,c',e2,hb,hc⟩:=h1.get hv;simp only[vS]at e2;obtain⟨rfl,-,rfl⟩:=e2;have h5:=hc 0 _ (by decide) rfl;have h6:w.cell? ⟨b,off+i,none⟩=some v.1:=by simpa[EV]using h5
 rw[e]at h6 h4;exact⟨b,off,q,m,rfl,hb,h6,h4⟩
theorem WQ:(Tryz.prog.info? 218).map (fun i=>(i.zero,i.size,i.bytes))=some (some (.pointer none),1,8):=by kernel_rfl
theorem ZY(n:Nat):(madeCells (Value.pointer none).cells (n*1)).toList=fl EP (([]:List Nat).map some++List.replicate (n-([]:List Nat).length) none):=by
 rw[Nat.mul_one,EE];exact(toList_madeCells_one _ n).trans (by simp)
open Df (LV EL aM aH jA vK)
structure Fw{α:Type}(E:El α)(T TT:TypeId)(B:Nat)(w:World)(v:Value)(vs:List LV)(L:Nat->List α):Prop where
 row:w.ownsRow B TT 1 v vs.length (fl EL vs)
 each:∀(k:Nat) (x:LV),vs[k]? =some x->w.ownsRow B T E.k x.v (L k).length (fl E (L k))
 apart:∀(k:Nat) (x:LV),vs[k]? =some x->∀b,x.v.ownBlock=some b->∀(k':Nat) (x':LV),vs[k']? =some x'->x'.v.ownBlock=some b->k'=k
section
variable {α:Type} {E:El α} {T TT:TypeId} {B:Nat} {w w1 w':World} {v:Value} {vs:List LV} {L L':Nat->List α}
theorem Fw.below(h:Fw E T TT B w v vs L)(hb:Bw w w'):Fw E T TT B w' v vs L:=⟨ag h.row hb,fun k x hk=>ag (h.each k x hk) hb,h.apart⟩
theorem Fw.re(h:Fw E T TT B w v vs L)(hL:∀k,k<vs.length->L k=L' k):Fw E T TT B w v vs L':=⟨h.row,fun k x hk=>by rw[<-hL k (lG.1 hk).1];exact h.each k x hk,h.apart⟩
theorem Fw.step(hTT:T≠TT)(h:Fw E T TT B w v vs L){k pb pc g cap:Nat}{x:LV}(hk:vs[k]? =some x)(hpv:v=sO pb vs.length pc){y:α}
    (h1:w1.ownsRow B T E.k (sO g ((L k).length+1) cap) ((L k).length+1) (fl E (L k)++E.enc y)) (h2:w.grownBy w1 x.v.ownBlock) (h3:x.v.ownBlock=some g\/w.heap.size<=g) :
    Fw E T TT B (w1.setCell ⟨pb,k,none⟩ (sO g ((L k).length+1) cap)) v (vs.set k ⟨some ⟨g,0,none⟩,(L k).length+1,cap⟩) (fun j=>if j=k then L k++[y]else L j)/\Kp (fun j=>v.ownBlock=some j\/x.v.ownBlock=some j) w (w1.setCell ⟨pb,k,none⟩ (sO g ((L k).length+1) cap)):=by
 have hks:=(lG.1 hk).1;have K2:=Kp.grownBy (S:=fun j=>x.v.ownBlock=some j) h2 (fun _ h=>h);have sp1:=ax K2 h.row (fun j e e2=>aH h.row (h.each k x hk) (Ne.symm hTT) j e e2);have sp2:=sp1;rw[hpv]at sp2;obtain⟨so,sk⟩:=jA sp2 k (sO g ((L k).length+1) cap);have hpb:v.ownBlock=some pb:=by rw[hpv];rfl
 have SE:∀{n:Nat} {u:Value} {us:List Value},w1.ownsRow B T E.k u n us->(w1.setCell ⟨pb,k,none⟩ (sO g ((L k).length+1) cap)).ownsRow B T E.k u n us:=fun o=>ax sk o (fun j e e2=>aH o sp1 hTT j e (by rw[e2];exact hpb));have get:∀(j:Nat) (x':LV),(vs.set k ⟨some ⟨g,0,none⟩,(L k).length+1,cap⟩)[j]? =some x'->(j=k/\x'=⟨some ⟨g,0,none⟩,(L k).length+1,cap⟩)\/(j≠k/\vs[j]? =some x'):=fun j x' hj=>by
  rw[List.getElem?_set]at hj;by_cases e:k=j
  ·subst e;rw[if_pos rfl,if_pos hks]at hj;exact Or.inl ⟨rfl,(oJ hj).symm⟩
  ·rw[if_neg e]at hj;exact Or.inr ⟨fun e2=>e e2.symm,hj⟩
 have EX:∀(j:Nat) (x':LV),vs[j]? =some x'->∀b,x'.v.ownBlock=some b->b<w.heap.size:=fun j x' hj b e=>(aM (h.each j x' hj) b e).2;refine⟨⟨?_, ?_, ?_⟩, ?_⟩
 ·rw[hpv];refine aV so (by simp) ?_;have:=vK EL vs k 0 x ⟨some ⟨g,0,none⟩,(L k).length+1,cap⟩ (sO g ((L k).length+1) cap) hk (by decide) rfl;rw[show EL.k=1 from rfl,Nat.mul_one,nO]at this;exact this
 ·intro j x' hj;rcases get j x' hj with⟨rfl,rfl⟩|⟨hne,hj⟩
  ·simp only[if_true];exact aV (SE h1) (by simp) (by rw[aT,dM])
  ·simp only[if_neg hne];exact SE (ax K2 (h.each j x' hj) (fun b e e2=>hne (h.apart k x hk b e2 j x' hj e)))
 ·intro j x' hj b hb;rcases get j x' hj with⟨rfl,rfl⟩|⟨hne,hj2⟩
  ·obtain rfl:g=b:=(by simpa[Value.ownBlock]using hb);intro k' x' hk' e;rcases get k' x' hk' with⟨rfl,_⟩|⟨hne',hk'⟩
   ·rfl
   ·rcases h3 with h3|h3
    ·exact h.apart j x hk g h3 k' x' hk' e
    ·have:=EX k' x' hk' g e;omega
  ·intro k' t hk' e;rcases get k' t hk' with⟨rfl,rfl⟩|⟨_,hk2⟩
   ·obtain rfl:g=b:=(by simpa[Value.ownBlock]using e);rcases h3 with h3|h3
    ·exact h.apart j x' hj2 g hb k' x hk h3
    ·have:=EX j x' hj2 g hb;omega
   ·exact h.apart j x' hj2 b hb k' t hk2 e
 ·exact(K2.mono (T:=fun j=>v.ownBlock=some j\/x.v.ownBlock=some j) (fun j e=>Or.inr e)).trans sk (fun j _ e=>Or.inl (by rw[e];exact hpb))
theorem Fw.blocks(h:Fw E T TT B w v vs L){x:LV}(hk:vs[k]? =some x):∀j,v.ownBlock=some j\/x.v.ownBlock=some j->B<=j:=fun j e=>by
 rcases e with e|e
 ·exact(aM h.row j e).1
 ·exact(aM (h.each k x hk) j e).1
theorem Fw.other(h:Fw E T TT B w v vs L){x:LV}(hk:vs[k]? =some x)(hK:Kp (fun j=>v.ownBlock=some j\/x.v.ownBlock=some j) w w'){B2:Nat}{T2:TypeId}{size:Nat}{u:Value}{us:List Value}(ho:w.ownsRow B2 T2 size u n us)(hT:T2≠T)(hT2:T2≠TT):w'.ownsRow B2 T2 size u n us:=
 ax hK ho (fun j e e2=>by
  rcases e2 with e2|e2
  ·exact aH ho h.row hT2 j e e2
  ·exact aH ho (h.each k x hk) hT j e e2)
end
theorem Ve(vs:List LV):fl EL vs=vs.map LV.v:=by
 induction vs with
 | nil => rfl
 | cons x l ih => rw[aR,ih];rfl
def LV.w(x:LV):Vw:=⟨x.v,rfl⟩
theorem aaM(vs:List LV):fl EV (vs.map LV.w)=fl EL vs:=by
 induction vs with
 | nil => rfl
 | cons x l ih => rw[List.map_cons,aR,aR,ih];rfl
theorem ZX(n:Nat):(madeCells (Value.slice none 0 0).cells (n*1)).toList=fl EL (List.replicate n ⟨none,0,0⟩):=by
 rw[Nat.mul_one,Ve];exact(toList_madeCells_one _ n).trans (by simp)
theorem Fw.made{α:Type}(E:El α)(T TT:TypeId){w1:World}{b:Nat}(hrow:w1.ownsRow B TT 1 (sO b n c) n (madeCells (Value.slice none 0 0).cells (n*1)).toList):Fw E T TT B w1 (sO b n c) (List.replicate n ⟨none,0,0⟩) (fun _=>[]):=by
 have hnil:∀(k:Nat) (x:LV),(List.replicate n (⟨none,0,0⟩:LV))[k]? =some x->x=⟨none,0,0⟩:=fun k x h=>List.eq_of_mem_replicate (lM h);refine⟨?_,fun k x h=> ?_,fun k x h b e=> ?_⟩
 ·rw[List.length_replicate];rw[ZX]at hrow;exact hrow
 ·rw[hnil k x h];exact oN _ _ _ _
 ·rw[hnil k x h]at e;cases e
theorem Fw.cell{α:Type}{E:El α}{T TT:TypeId}{B:Nat}{w:World}{g n c:Nat}{vs:List LV}{L:Nat->List α}(h:Fw E T TT B w (sO g n c) vs L)(hn:vs.length=n){k:Nat}(hk:k<n):∃x:LV,vs[k]? =some x/\w.cell? ⟨g,k,none⟩=some x.v/\g<w.heap.size/\x.m=(L k).length/\w.ownsRow B T E.k x.v (L k).length (fl E (L k)):=by
 obtain⟨x,hx⟩:∃x,vs[k]? =some x:=⟨vs[k]'(by omega),by simp⟩;obtain⟨b,off,c,hv,hb,hc⟩:=Df.qp (aK (E:=EL) h.row) hx;simp only[vS,oI,aI]at hv;obtain⟨⟨rfl,rfl,-⟩,-,-⟩:=hv;rw[nZ]at hc;exact⟨x,hx,hc,hb,(Df.bz (h.each k x hx) _ _ _ rfl).1,h.each k x hx⟩
theorem Fw.sp{T TT:TypeId}{w:World}{vs:List LV}{L:Nat->List Hf.Th}(h:Fw EF T TT B w v vs L):Sp w v ((List.range vs.length).map L):=by
 refine⟨vs.map LV.w,aK (E:=EV) (e:=TT) (base:=B) ?_,by simp,fun i v' s hv hs=> ?_⟩
 ·rw[aaM,gQ];exact h.row
 ·rw[gM]at hv;cases e:vs[i]? with
  | none => rw[e]at hv;cases hv
  | some x=>
   rw[e]at hv;cases hv;have hi:=(lG.1 e).1;rw[gM,List.getElem?_range hi]at hs;cases hs;exact aK (E:=EF) (h.each i x e)
end Lf
namespace Lf
open Go.RowKit Go.Sort Pt
structure Pu(ss:List (List Hf.Th))(p d:Nat)(rows:Nat->List ai)(L:List Hf.It)(np:Nat):Prop where
 iv:Iv PX (J5 ss) p rows (opn L)
 rg:Rg ss.length L
 sm:∀q,(rows q).length<=64
 nb:np<=1+tot ss.length rows*d
 ln:L.length<=np
section
variable {ss:List (List Hf.Th)} {s:List Hf.Th} {p d q0 k np FI:Nat} {w:ai} {rows:Nat->List ai} {R L L':List Hf.It}
theorem Pu.init(hp:p<ss.length):Pu ss p d (fun _=>[]) [(((p:Int),PX.z),0)] 1:=by
 refine⟨by simpa[opn]using Iv.init (X:=PX) (St:=J5 ss) (p:=p),fun x hx=> ?_,fun _=>zL _,by omega,nR _⟩;simp only[yM]at hx;subst hx;exact⟨p,hp,rfl⟩
theorem Pu.bd(h:Pu ss p d rows L np)(hM:(64*ss.length*(d+1)+2)*40<=140737488355328):np<=64*ss.length*(d+1)+1/\L.length<=64*ss.length*(d+1)+1/\(L.length+1)*40<=140737488355328/\np+1<18446744073709551616:=by
 have h1:=AR (n:=ss.length) (m:=64) (rows:=rows) (fun q _=>h.sm q);have h2:tot ss.length rows*d<=64*ss.length*(d+1):=Nat.mul_le_mul h1 (Nat.le_succ d);have h3:=h.nb;have h4:=h.ln;refine⟨by omega,by omega,by omega,by omega⟩
theorem Pu.skip(h:Pu ss p d rows L np)(hp:((((q0:Int),w),k)::R).Perm L)(hc:pY PX (rows q0) w):Pu ss p d rows R np/\Ju ss.length d rows R.length<Ju ss.length d rows L.length:=by
 have h0:∀x,x∈opn L↔x=(q0,w)\/x∈opn R:=fun x=>by
  rw[<-kK hp x,nC];simp
 have hl:R.length+1=L.length:=by simpa using hp.length_eq
 refine⟨⟨h.iv.skip (fun x hx=>(h0 x).1 hx) (fun x hx=>(h0 x).2 (Or.inr hx)) hc,fun x hx=>h.rg x (hp.mem_iff.1 (mO _ hx)),h.sm,h.nb,by have:=h.ln;omega⟩, ?_⟩;unfold Ju;omega
theorem Pu.take(h:Pu ss p d rows L np)(hp:((((q0:Int),w),k)::R).Perm L)(hk:∀x∈R,Hf.kf ((q0:Int),w)<Hf.kf x.1\/(Hf.kf ((q0:Int),w)=Hf.kf x.1/\k<x.2))(hc:¬pY PX (rows q0) w)(hs:ss[q0]? =some s)(hd:s.length<=d)(h64:(rows q0).length+1<=64)
    (hi:pR s ss.length w (dO rows q0 w) R L' s.length) (hn1:FI<=np+s.length) (hn2:L'.length<=FI):Pu ss p d (dO rows q0 w) L' FI/\Ju ss.length d (dO rows q0 w) L'.length<Ju ss.length d rows L.length:=by
 have hq:q0<ss.length:=(lG.1 hs).1;have hl:R.length+1=L.length:=by simpa using hp.length_eq
 have hsm:∀q,(dO rows q0 w q).length<=64:=fun q=>by
  unfold dO;split
  ·rename_i e;subst e;simpa using h64
  ·exact h.sm q
 refine⟨⟨hi.fin h.iv hp (Al hp hk) hc hs,hi.rg,hsm, ?_,hn2⟩, ?_⟩
 ·rw[wu,if_pos hq,Nat.add_mul,Nat.one_mul];have:=h.nb;omega
 ·exact Og hq (fun q _=>hsm q) (by omega) (by have:=hi.cnt;omega)
theorem Pu.wide(h:Pu ss p d rows L np)(hp:((((q0:Int),w),k)::R).Perm L)(hk:∀x∈R,Hf.kf ((q0:Int),w)<Hf.kf x.1\/(Hf.kf ((q0:Int),w)=Hf.kf x.1/\k<x.2))(hc:¬pY PX (rows q0) w)(h64:64<(rows q0).length+1):r9 PX (J5 ss) p none:=by
 obtain⟨o,ho⟩:=MV h.iv hp (Al hp hk) hc;exact ho.wide bL (q:=q0) (by unfold dO;rw[if_pos rfl];simpa using h64)
theorem Pu.fin(h:Pu ss p d rows [] np):r9 PX (J5 ss) p (some rows):=Iv.fin bL h.iv h.sm
theorem Pu.ins(h:Pu ss p d rows L np)(hp:((((q0:Int),w),k)::R).Perm L):gG aC dL (rows q0) w=if bH aC (rows q0) w then rows q0 else rows q0++[w]:=
 Uj Pc.CK Pc.MP bL h.iv (by rw[<-kK hp,nC];simp)
end
end Lf
section
open Go.RowKit Go.Sort
attribute[local go_sem ↓]wp_at_zero wp_at_succ
end
namespace Df
open Go.RowKit Go.Sort
attribute[local go_sem ↓]wp_at_zero wp_at_succ
def sC(ns:List dC)(i:Nat)(c:dN):dN:=⟨((QY ns i c:Nat):Int),((cOut ns i c:Nat):Int),c.via⟩
def jI(ns:List dC):Nat->List dN
 | 0 => []
 | i + 1 => jI ns i++(dA ns (i:Int)).map (sC ns i)
def sE(ns:List dC)(d:dR):dN:=⟨((eD ns d:Nat):Int),((iW ns d:Nat):Int),(0,0,0)⟩
def rZ(g:bG):List dN:=jI g.nodes g.nodes.length++g.aO.map (sE g.nodes)
def emR(g:bG):List dN:=(rZ g).filter Ti
theorem DX{g:bG}(h:ic g)(m:Nat):(jI g.nodes m).length<=16*m:=by
 induction m with
 | zero => simp[jI]
 | succ m ih=>
  unfold jI;rw[dQ,gQ];have h2:=h.Cv m;omega
theorem RP{g:bG}(h:ic g):(rZ g).length<=432:=by
 unfold rZ;rw[dQ,gQ];have h1:=DX h g.nodes.length;have h2:=h.nl;have h3:=h.el;omega
theorem xw{ns:List dC}{x:dN}:x∈jI ns m↔∃i c,i<m/\c∈dA ns ((i:Nat):Int)/\x=sC ns i c:=by
 induction m with
 | zero => simp[jI]
 | succ m ih=>
  unfold jI;rw[kr,ih];constructor
  ·rintro(⟨i,c,h1,h2⟩|h)
   ·exact⟨i,c,by omega,h2⟩
   ·obtain⟨c,hc,rfl⟩:=mM.1 h;exact⟨m,c,by omega,hc,rfl⟩
  ·rintro⟨i,c,h1,h2,rfl⟩;by_cases e:i=m
   ·subst e;exact Or.inr (mM.2 ⟨c,h2,rfl⟩)
   ·exact Or.inl ⟨i,c,by omega,h2,rfl⟩
theorem TY{g:bG}{x:dN}:x∈emR g↔∃p q:Nat,x=⟨(p:Int),(q:Int),(0,0,0)⟩/\(p,q)∈iT g:=by
 unfold emR rZ iT;rw[mF,kr,xw];constructor
 ·rintro⟨⟨i,c,h1,h2,rfl⟩|h,he⟩
  ·have hv:c.via=(0,0,0):=of_decide_eq_true he;exact⟨QY g.nodes i c,cOut g.nodes i c,by simp[sC,hv],kr.2 (Or.inr (xu.2 ⟨i,c,h1,h2,by simp[Ti,hv],rfl⟩))⟩
  ·obtain⟨d,hd,rfl⟩:=mM.1 h;exact⟨eD g.nodes d,iW g.nodes d,rfl,kr.2 (Or.inl (mM.2 ⟨d,hd,rfl⟩))⟩
 ·rintro⟨p,q,rfl,h⟩;refine⟨?_,by simp[Ti]⟩;rcases kr.1 h with h|h
  ·obtain⟨d,hd,e⟩:=mM.1 h;unfold T9 at e;simp only[Prod.mk.injEq]at e;exact Or.inr (mM.2 ⟨d,hd,by unfold sE;rw[e.1,e.2]⟩)
  ·obtain⟨i,c,h1,h2,h3,e⟩:=xu.1 h;unfold Qf at e;simp only[Prod.mk.injEq]at e;have hv:c.via=(0,0,0):=of_decide_eq_true h3;exact Or.inl ⟨i,c,h1,h2,by unfold sC;rw[<-e.1,<-e.2,hv]⟩
end Df
namespace Lf
open Go.RowKit Go.Sort Pt
open Df (dN bG dC dR ou ib aW rZ jI sE sC QY cOut eD iW ic dA fZ)
instance (p:ou):Decidable (ib p):=by unfold Df.ib Df.Fs;infer_instance
def Kh(p:ou):ai:=if h:ib p then⟨((p.1:Int),(p.2.1:Int),(p.2.2:Int)),by
 obtain⟨h1,h2,h3⟩:=h;unfold Df.Fs at h1 h2 h3;exact⟨(kV _).2 ⟨by simp only;omega,by simp only;omega⟩,(kV _).2 ⟨by simp only;omega,by simp only;omega⟩,(kV _).2 ⟨by simp only;omega,by simp only;omega⟩⟩⟩else PX.z
theorem ve{p:ou}(h:ib p):(Kh p).1.1=(p.1:Int)/\(Kh p).1.2.1=(p.2.1:Int)/\(Kh p).1.2.2=(p.2.2:Int):=by
 unfold Kh;rw[dif_pos h];exact⟨rfl,rfl,rfl⟩
theorem UO:Kh (0,0,0)=PX.z:=by
 have h:ib (0,0,0):=⟨by unfold Df.Fs;simp,by unfold Df.Fs;simp,by unfold Df.Fs;simp⟩;obtain⟨h1,h2,h3⟩:=ve h;exact dw (by rw[h1];rfl) (by rw[h2];rfl) (by rw[h3];rfl)
def th(c:dN):Hf.Th:=(c.o,Kh c.via)
def mW(l:List dN)(q:Nat):List Hf.Th:=(l.filter (fun c=>c.dx==(q:Int))).map th
theorem RV(l m:List dN)(q:Nat):mW (l++m) q=mW l q++mW m q:=by simp[mW]
theorem RU(c:dN)(q:Nat):mW [c] q=if c.dx=(q:Int)then[th c]else[]:=by
 unfold mW;by_cases h:c.dx=(q:Int)
 ·simp[h]
 ·simp[h]
theorem lu{l:List dN}{x:Hf.Th}:x∈mW l q↔∃c∈l,c.dx=(q:Int)/\x=th c:=by
 unfold mW;rw[mM];constructor
 ·rintro⟨c,hc,rfl⟩;obtain⟨h1,h2⟩:=mF.1 hc;exact⟨c,h1,by simpa using h2,rfl⟩
 ·rintro⟨c,h1,h2,rfl⟩;exact⟨c,mF.2 ⟨h1,by simpa using h2⟩,rfl⟩
theorem Bl(l:List dN)(q:Nat):(mW l q).length<=l.length:=by
 unfold mW;rw[gQ];exact List.length_filter_le _ _
def Gl(n:Nat)(l:List dN):List (List Hf.Th):=(List.range n).map (mW l)
theorem jO(n:Nat)(l:List dN):(Gl n l).length=n:=by simp[Gl]
theorem Jd(l:List dN)(h:q<n):(Gl n l)[q]? =some (mW l q):=by simp[Gl,h]
theorem kY{l:List dN}{q':Nat}{b:ai}:J5 (Gl n l) q q' b↔q<n/\∃c∈l,c.dx=(q:Int)/\c.o=(q':Int)/\Kh c.via=b:=by
 unfold J5;constructor
 ·rintro⟨s,hs,hm⟩;have hq:q<n:=by
   have:=(lG.1 hs).1
   rwa [jO]at this
  rw[Jd l hq]at hs;cases hs;obtain⟨c,h1,h2,h3⟩:=lu.1 hm;simp only[th,Prod.mk.injEq]at h3;exact⟨hq,c,h1,h2,h3.1.symm,h3.2.symm⟩
 ·rintro⟨hq,c,h1,h2,h3,h4⟩;exact⟨_,Jd l hq,lu.2 ⟨c,h1,h2,by simp[th,h3,h4]⟩⟩
def vz(g:bG):List dN:=g.aO.map (sE g.nodes)++jI g.nodes g.nodes.length
theorem kZ{g:bG}{c:dN}:c∈vz g↔c∈rZ g:=by
 unfold vz rZ;rw[kr,kr];exact Or.comm
theorem Dw(g:bG)(n:Nat):J5 (Gl n (vz g))=J5 (Gl n (rZ g)):=by
 funext q q' b
 refine propext ?_;rw[kY,kY];exact and_congr_right fun _=>exists_congr fun c=>and_congr_left fun _=>kZ
theorem Bd{g:bG}(h:ic g):(vz g).length<=432:=by
 have:=Df.RP h;unfold rZ at this;unfold vz;rw[dQ]at this⊢;omega
def uM(g:bG):Prop:=∀n∈g.nodes,ib n.via/\∀c∈n.bV,ib c.via
theorem zk:ib (0,0,0):=⟨by unfold Df.Fs;simp,by unfold Df.Fs;simp,by unfold Df.Fs;simp⟩
theorem uM.Ya{g:bG}(h:uM g){c:dN}(hc:c∈dA g.nodes (i:Int)):ib c.via:=by
 rw[Df.nY]at hc;cases e:g.nodes[i]? with
 | none => rw[e]at hc;simp at hc
 | some n=>
  rw[e]at hc;have hn:=h n (lM e);have hc:c∈fZ n:=hc;unfold fZ at hc;split at hc
  ·simp only[yM]at hc;subst hc;exact hn.1
  ·split at hc
   ·exact hn.2 c hc
   ·have:c.via=(0,0,0):=by
      clear hn e;generalize n.ins.toNat=ii at hc
      induction ii with
      | zero => simp[Df.kT]at hc
      | succ k ih=>
       simp only[Df.kT,kr]at hc;rcases hc with hc|hc
       ·exact ih hc
       ·simp only[Df.pE,mM]at hc;obtain⟨o,_,rfl⟩:=hc;rfl
    rw[this];exact zk
theorem RO{g:bG}(h:uM g){c:dN}(hc:c∈rZ g):ib c.via:=by
 unfold rZ at hc;rcases kr.1 hc with k|k
 ·obtain⟨i,d,_,h2,rfl⟩:=Df.xw.1 k;exact(h.Ya h2:ib d.via)
 ·obtain⟨d,_,rfl⟩:=mM.1 k;exact zk
theorem Bc{g:bG}(h:ic g){c:dN}(hc:c∈rZ g):(∃p:Nat,p<aW g.nodes/\c.dx=(p:Int))/\∃q:Nat,q<aW g.nodes/\c.o=(q:Int):=by
 unfold rZ at hc;rcases kr.1 hc with k|k
 ·obtain⟨i,d,_,h2,rfl⟩:=Df.xw.1 k;obtain⟨h3,h4⟩:=h.Ya h2;exact⟨⟨_,Df.yu h3,rfl⟩,_,Df.Cy h4,rfl⟩
 ·obtain⟨d,h1,rfl⟩:=mM.1 k;obtain⟨j,hj⟩:=iG.1 h1;obtain⟨h3,h4⟩:=h.ends hj;exact⟨⟨_,Df.nz h3,rfl⟩,_,Df.BX h4,rfl⟩
theorem M5{g:bG}(h:ic g){l:List dN}(hl:∀c∈l,c∈rZ g):∀s∈Gl (aW g.nodes) l,∀x∈s,∃q:Nat,q<(Gl (aW g.nodes) l).length/\x.1=(q:Int):=fun s hs x hx=>by
 obtain⟨k,_,rfl⟩:=mM.1 hs;obtain⟨c,h1,_,rfl⟩:=lu.1 hx;rw[jO];exact(Bc h (hl c h1)).2
theorem M6{l:List dN}(h:l.length<=m):∀s∈Gl n l,s.length<=m:=fun s hs=>by
 obtain⟨k,_,rfl⟩:=mM.1 hs;exact nT (Bl l k) h
section
variable {ss:List (List Hf.Th)} {s:List Hf.Th} {p d q0 k np FI:Nat} {w:ai} {rows:Nat->List ai} {R L L':List Hf.It}
end
end Lf
end Go.Proofs.YtiiefcalkjeieaaGreat
