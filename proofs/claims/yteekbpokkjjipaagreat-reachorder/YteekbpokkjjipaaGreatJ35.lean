import Derived.Test.YteekbpokkjjipaaGreatJ34
variable{p N i j rb:Nat}{v:Go.Value}{tag:Nat->Nat}{w:Go.World}
set_option maxHeartbeats 8000000
set_option maxRecDepth 100000
namespace Go.Proofs.YteekbpokkjjipaaGreat
namespace Rc
open Go.RowKit Go.Sort Go.Maps Pt Hc
open Df (aO)
attribute[local go_sem ↓]wp_at_zero wp_at_succ
theorem Nz.to{c c':Nat->ah->Int}{l:List ah}(h:Nz c p l)(e:c p=c' p):Nz c' p l:=by
 obtain⟨ks,h1,h2⟩:=h;exact⟨ks,e ▸ h1,h2⟩
theorem XF{c c':Nat->ah->Int}(X:Nat->List ah)(e:∀p,p<N->c p=c' p):kM c X N=kM c' X N:=by
 induction N with
 | zero => rfl
 | succ i ih => rw[nD,nD,ih fun p hp=>e p (by omega),e i (by omega)]
theorem Ev.ML{L:Nat->List (Nat×ah)}{R:Nat->Nat->List ah}{c c':Nat->ah->Int}{K K' O O':Nat->List ah}{C C':Nat->ah->Int}{F F':Nat->List ah}(h:Ev N L R c K O C F)(k:Ev N L R c' K' O' C' F')(e:∀p,p<N->c p=c' p)(hp:p<N):F p=F' p:=by
 have hO:∀q,q<N->O q=O' q:=fun q hq=>by
  have h1:=h.own q hq;rw[e q hq]at h1;exact h1.same (k.own q hq)
 have hR:jm N R O p=jm N R O' p:=by
  unfold jm;have key:∀l:List Nat,(∀q∈l,q<N)->(l.flatMap fun q=>(O q).flatMap fun u=>(R q p).filterMap fun a=>bF a u)=l.flatMap fun q=>(O' q).flatMap fun u=>(R q p).filterMap fun a=>bF a u:=fun l hl=>by
   induction l with
   | nil => rfl
   | cons q l ih => rw[K4,K4,ih fun x hx=>hl x (mO _ hx),hO q (hl q (by simp))]
  exact key _ fun q hq=>mR.1 hq
 have h2:=h.OY p hp;rw[hR]at h2;exact h2.same bH (k.OY p hp)
theorem GV(w:World){tag':Nat->Nat}{ra:Nat}{g:Df.bD}{R:Nat->Nat->List ah}{c c':Nat->ah->Int}{K K' O O':Nat->List ah}{C C':Nat->ah->Int}{F F':Nat->List ah}{U U':List Th}(ha:RG i w tag ra g R c K O C F U)(hb:RG j w tag' rb g R c' K' O' C' F' U')(hk:Gk g R)(e:∀p,p<aO g.nodes->c p=c' p):
    Calls Tryz.prog 21 #[.pointer (some ⟨ra,0,none⟩), .pointer (some ⟨rb,0,none⟩), .int .i64 (aO g.nodes:Nat)] w fun e w'=>e= .returned (.bool true)/\Below w.heap.size w w':=by
 have hmx:Tryz.prog.follows .mixedOrders=true:=by kernel_rfl
 have uA:Hid (∀W,Below w.heap.size w W->Calls Tryz.prog 13 #[.pointer (some ⟨ra,0,none⟩)] W fun e w'=>∃p n q CL,e= .returned (.slice p n q)/\Hid (n=CL.length/\n<=1000000000/\w'.ownsRow W.heap.size 49 5 (.slice p n q) n (fl EC CL)/\Below W.heap.size W w'/\∃X,(∀p,p<aO g.nodes->Nz c p (X p))/\CL=kM c X (aO g.nodes))):=fun W hW=>by
  refine((ha.below hk hW (fun _ _=>rfl)).counts hk).mono ?_;rintro e w' ⟨p,n,q,X,rfl,h⟩;obtain⟨h1,h2,h3⟩:=h.o;obtain⟨rfl,-⟩:=Df.aU h2 _ _ _ rfl;refine⟨p,_,q,_,rfl,rfl, ?_,h2,h3,X,h1,rfl⟩;have h4:(kM c X (aO g.nodes)).length<=(List.range (aO g.nodes)).length*7000:=by
   refine iD _ _ _ fun p hp=> ?_;have hp:=mR.1 hp;rw[fQ];have:=(h1 p hp).len (fun t ht=>ha.ev.kp p t hp ht);have:=(ha.oK hp).2;omega
  rw[List.length_range]at h4;have:=hk.n;omega
 have Qt:Hid (∀W,Below w.heap.size w W->∀X,(∀p,p<aO g.nodes->Nz c p (X p))->Calls Tryz.prog 13 #[.pointer (some ⟨rb,0,none⟩)] W fun e w'=>∃p n q,e= .returned (.slice p n q)/\Hid (n=(kM c X (aO g.nodes)).length/\w'.ownsRow W.heap.size 49 5 (.slice p n q) n (fl EC (kM c X (aO g.nodes)))/\Below W.heap.size W w')):=fun W hW X hX=>by
  refine((hb.below hk hW (fun _ _=>rfl)).counts hk).mono ?_;rintro e' w' ⟨p,n,q,Y,rfl,h⟩;obtain⟨h1,h2,h3⟩:=h.o;have hXY:kM c' Y (aO g.nodes)=kM c X (aO g.nodes):=by
   rw[XF X e];exact sP fun p hp=>(h1 p hp).same ((hX p hp).to (e p hp))
  rw[hXY]at h2;obtain⟨rfl,-⟩:=Df.aU h2 _ _ _ rfl;exact⟨p,_,q,rfl,rfl,h2,h3⟩
 have JI:Hid (∀W (q:Nat),Below w.heap.size w W->q<aO g.nodes->Calls Tryz.prog 12 #[.pointer (some ⟨ra,0,none⟩), .int .i64 (q:Int)] W fun e w'=>∃p n z,e= .returned (.slice p n z)/\Hid (n=(F q).length/\n<=1000000000/\w'.ownsRow W.heap.size 45 3 (.slice p n z) n (fl ET (F q))/\Below W.heap.size W w')):=fun W q hW hq=>by
  have h:=(ha.below hk hW (fun _ _=>rfl)).front hk (q:Int);rw[xA hq]at h;refine h.mono ?_;rintro e w' ⟨v,rfl,ho,hb⟩;obtain⟨p,n,z,rfl⟩:=Df.aB ho;obtain⟨rfl,-⟩:=Df.aU ho _ _ _ rfl;exact⟨p,_,z,rfl,rfl,nT (ha.fK hk hq) (by omega),ho,hb⟩
 have HFB:Hid (∀W (q:Nat),Below w.heap.size w W->q<aO g.nodes->Calls Tryz.prog 12 #[.pointer (some ⟨rb,0,none⟩), .int .i64 (q:Int)] W fun e w'=>∃p n z,e= .returned (.slice p n z)/\Hid (n=(F q).length/\w'.ownsRow W.heap.size 45 3 (.slice p n z) n (fl ET (F q))/\Below W.heap.size W w')):=fun W q hW hq=>by
  have h:=(hb.below hk hW (fun _ _=>rfl)).front hk (q:Int);rw[xA hq,<-ha.ev.ML hb.ev e hq]at h;refine h.mono ?_;rintro e w' ⟨v,rfl,ho,hb⟩;obtain⟨p,n,z,rfl⟩:=Df.aB ho;obtain⟨rfl,-⟩:=Df.aU ho _ _ _ rfl;exact⟨p,_,z,rfl,rfl,ho,hb⟩
 have HN:=hid hk.n;clear ha hb hk e;generalize aO g.nodes=N at *;go_enter Tryz.func21,Tryz.ntmps21;have hca:=uA.o w (Below.refl _ _);go_wp2_with fail;refine hca.mono ?_;clear hca;rintro e w1 ⟨p1,n1,q1,CL,rfl,h1⟩;obtain⟨X,hX,hCL⟩:=h1.o.2.2.2.2;have B1:Hid (Below w.heap.size w w1):=h1.o.2.2.2.1;have hcb:=Qt.o w1 B1.o X hX;clear uA Qt hX;go_wp2_with fail;refine hcb.mono ?_;clear hcb;rintro e w2 ⟨p2,n2,q2,rfl,h2⟩;have B2:Hid (Below w.heap.size w w2):=B1.o.trans (h2.o.2.2.mono B1.o.size);have hs:=wm w2 (va:= .slice p1 n1 q1) (vb:= .slice p2 n2 q2) (l:=CL) (by
  obtain⟨e1,e2,e3,e4,e5⟩:=h1.o;rw[e1]at e3⊢;exact(aJ (E:=EC) e3).below h2.o.2.2) (by
  obtain⟨e1,e2,e3⟩:=h2.o;rw[<-hCL]at e1 e2;rw[e1]at e2⊢;exact aJ (E:=EC) e2) (by rw[<-h1.o.1];exact h1.o.2.1)
 clear h1 h2 hCL;go_wp2_with fail;refine hs.mono ?_;clear hs;rintro e w3 ⟨rfl,hb3⟩;have B3:Hid (Below w.heap.size w w3):=B2.o.trans (hb3.mono B2.o.size);clear hb3 B1 B2;have hN:N<=192:=HN.o;go_wp2_with fail;go_loopw [7] (fun s7 wv=>∃q:Nat,q<=N/\s7= .int .i64 (q:Nat)/\Hid (Below w.heap.size w wv)) (fun s7 _=>N-(intOf s7).toNat);case atStart=>exact⟨0,zL _,rfl,B3.o⟩
 case round=>
  obtain⟨q,hq,rfl,HI⟩:=hrel;rename World=>wv;by_cases RZ:q<N
  ·have hqz:(q:Int)<(N:Int):=(by omega);have hfa:=JI.o wv q HI.o RZ;go_wp2_with fail;refine hfa.mono ?_;clear hfa;rintro e w4 ⟨p4,n4,z4,rfl,h4⟩;have B4:Hid (Below w.heap.size w w4):=HI.o.trans (h4.o.2.2.2.mono HI.o.size);have Uw:=HFB.o w4 q B4.o RZ;go_wp2_with fail;refine Uw.mono ?_;clear Uw;rintro e w5 ⟨p5,n5,z5,rfl,h5⟩;have B5:Hid (Below w.heap.size w w5):=B4.o.trans (h5.o.2.2.mono B4.o.size);have hs:=Az w5 (va:= .slice p4 n4 z4) (vb:= .slice p5 n5 z5) (l:=F q) (by
    obtain⟨e1,e2,e3,e4⟩:=h4.o;rw[e1]at e3⊢;exact(aJ (E:=ET) e3).below h5.o.2.2) (by
    obtain⟨e1,e2,e3⟩:=h5.o;rw[e1]at e2⊢;exact aJ (E:=ET) e2) (by rw[<-h4.o.1];exact h4.o.2.1)
   clear h4 h5;go_wp2_with fail;refine hs.mono ?_;clear hs;rintro e w6 ⟨rfl,hb6⟩;have B6:Hid (Below w.heap.size w w6):=B5.o.trans (hb6.mono B5.o.size);clear hb6 B4 B5;go_wp2_with fail;go_roundw;case rel=>exact⟨q+1,by omega,by go_num,B6.o⟩
   case measure=>simp[intOf];omega
  ·have hqz:¬(q:Int)<(N:Int):=(by omega);go_wp2_with fail;go_ret;exact⟨rfl,HI.o⟩
end Rc
namespace Rc
open Go.RowKit Go.Sort Go.Maps Pt Hc
attribute[local go_sem ↓]wp_at_zero wp_at_succ
abbrev Ck:=(Int×ah)×Int
def EK:El Ck where
 k:=5
 enc d:=[.int .i64 d.1.1, .int .u64 d.1.2.1.1, .int .u64 d.1.2.1.2.1, .int .u64 d.1.2.1.2.2, .int .i64 d.2]
 len _:=rfl
 one d u hu:=by
  simp at hu;rcases hu with rfl|rfl|rfl|rfl|rfl<;>rfl
def ck(x:Th):Ck:=((x.1,x.2.1),x.2.2)
theorem Zt{ts:List Ck}(h:Ls EK w v ts){x:Ck}(hj:ts[j]? =some x):∃b off c,v= .slice (some ⟨b,off,none⟩) ts.length c/\b<w.heap.size/\w.cell? ⟨b,off+j*5,none⟩=some (.int .i64 x.1.1)/\w.cell? ⟨b,off+j*5+1,none⟩=some (.int .u64 x.1.2.1.1)/\w.cell? ⟨b,off+j*5+2,none⟩=some (.int .u64 x.1.2.1.2.1)/\w.cell? ⟨b,off+j*5+3,none⟩=some (.int .u64 x.1.2.1.2.2)/\w.cell? ⟨b,off+j*5+4,none⟩=some (.int .i64 x.2):=by
 obtain⟨b,off,c,hv,hb,hc⟩:=h.get hj;exact⟨b,off,c,hv,hb,hc 0 _ (by decide) rfl,hc 1 _ (by decide) rfl,hc 2 _ (by decide) rfl,hc 3 _ (by decide) rfl,hc 4 _ (by decide) rfl⟩
def TD(w:World)(base:Nat)(v:Value)(x:Ck)(l:List Ck)(p:Option Addr)(n q:Nat)(w':World):Prop:=n=(uW x l).length/\w'.ownsRow base 49 5 (.slice p n q) n (fl EK (uW x l))/\Kp (fun k=>v.ownBlock=some k) w w'/\∀k,(Value.slice p n q).ownBlock=some k->v.ownBlock=some k\/w.heap.size<=k
theorem De(w:World){base:Nat}{l:List Ck}(x:Ck)(ho:w.ownsRow base 49 5 v l.length (fl EK l))(hbase:base<=w.heap.size)(hl:l.length<=1000000000)(hb:∀d∈l,-1152921504606846976<=d.2/\d.2<=1152921504606846976)(hx: -1152921504606846976<=x.2/\x.2<=1152921504606846976):
    Calls Tryz.prog 20 #[v, .agg #[.int .i64 x.1.1, .int .u64 x.1.2.1.1, .int .u64 x.1.2.1.2.1, .int .u64 x.1.2.1.2.2, .int .i64 x.2]] w fun e w'=>∃p n q,e= .returned (.slice p n q)/\Hid (TD w base v x l p n q w'):=by
 have hmx:Tryz.prog.follows .mixedOrders=true:=by kernel_rfl
 obtain⟨pv,nv,qv,rfl⟩:=Df.aB ho;obtain⟨rfl,-⟩:=Df.aU ho _ _ _ rfl;obtain⟨n,hn⟩:=aD (l.length);have HN:=hid hn;have HO:=hid ho;have HB:=hid hb;have HXB:=hid hx;have HBS:=hid hbase;rw[<-hn]at hl HO⊢;clear ho hb hx hn hbase;obtain⟨b3,hb3⟩:=aD (w.heap.size);obtain⟨W0,hW0⟩:=aD (w.alloc (.cells #[.int .i64 x.1.1, .int .u64 x.1.2.1.1, .int .u64 x.1.2.1.2.1, .int .u64 x.1.2.1.2.2, .int .i64 x.2] 49));have P0:Hid (Below w.heap.size w W0/\W0.heap[b3]? =some (.cells #[.int .i64 x.1.1, .int .u64 x.1.2.1.1, .int .u64 x.1.2.1.2.1, .int .u64 x.1.2.1.2.2, .int .i64 x.2] 49 (0,0))/\w.heap.size<=b3):=by
  rw[hW0,hb3];exact⟨((Gr.refl w).alloc _).below,ai _ _,nR _⟩
 have HW0:Hid (w.alloc (.cells #[.int .i64 x.1.1, .int .u64 x.1.2.1.1, .int .u64 x.1.2.1.2.1, .int .u64 x.1.2.1.2.2, .int .i64 x.2] 49)=W0/\w.heap.size=b3):=⟨hW0.symm,hb3.symm⟩;clear hW0 hb3;go_enter Tryz.func20,Tryz.ntmps20;go_upto_region 1 with fail;rw[HW0.o.1,HW0.o.2];clear HW0;go_wp2_with fail;go_loopw [8] (fun s8 wv=>∃i:Nat,i<=n/\s8= .int .i64 (i:Nat)/\Hid (Below W0.heap.size W0 wv/\∀(j:Nat) (e:Ck),j<i->l[j]? =some e->e.1≠x.1)) (fun s8 _=>n-(intOf s8).toNat);case atStart=>exact⟨0,zL _,rfl,Below.refl _ _,fun j e hj=>absurd hj (nW _)⟩
 case round=>
  obtain⟨i,hi,rfl,HI⟩:=hrel;rename World=>wv;have hi0:(0:Int)<=(i:Int):=by omega
  by_cases hil:i<n
  ·have hiz:(i:Int)<(n:Int):=(by omega);obtain⟨d,hd⟩:∃d,l[i]? =some d:=⟨l[i]'(by have:=HN.o;omega),by simp⟩;have HD:=hid hd;clear hd;obtain⟨g,hg⟩:∃g,pv=some ⟨g,0,none⟩:=by
    rcases HO.o.2 with⟨h0,h1⟩|⟨g,cap,cur,hv,_⟩
    ·omega
    ·simp only[vS]at hv;exact⟨g,hv.1⟩
   subst hg;have HS:Hid (∀W,Below wv.heap.size wv W->(g<W.heap.size/\W.cell? ⟨g,i*5,none⟩=some (.int .i64 d.1.1)/\W.cell? ⟨g,i*5+1,none⟩=some (.int .u64 d.1.2.1.1)/\W.cell? ⟨g,i*5+2,none⟩=some (.int .u64 d.1.2.1.2.1)/\W.cell? ⟨g,i*5+3,none⟩=some (.int .u64 d.1.2.1.2.2)/\W.cell? ⟨g,i*5+4,none⟩=some (.int .i64 d.2))/\W.heap[b3]? =some (.cells #[.int .i64 x.1.1, .int .u64 x.1.2.1.1, .int .u64 x.1.2.1.2.1, .int .u64 x.1.2.1.2.2, .int .i64 x.2] 49 (0,0))/\W.ownsRow base 49 5 (.slice (some ⟨g,0,none⟩) n qv) n (fl EK l)):=fun W hW=>by
    have hb0:=HI.o.1.trans (hW.mono HI.o.1.size);have hbw:=P0.o.1.trans (hb0.mono P0.o.1.size);have ho:=ag HO.o hbw;have hl2:Ls EK W (.slice (some ⟨g,0,none⟩) n qv) l:=by
     have h:=ho;rw[HN.o]at h⊢;exact aJ (E:=EK) h
    obtain⟨b1',o1',q1',fO,y⟩:=Zt hl2 HD.o;simp only[vS,oI,aI,and_true]at fO;obtain⟨⟨rfl,rfl⟩,-,-⟩:=fO;simp only[nZ]at y;exact⟨y,(hb0.block _ (ae P0.o.2.1)).trans P0.o.2.1,ho⟩
   obtain⟨eb,heb⟩:=aD (decide (d.1=x.1));have heq:∀W,Sem.run Tryz.prog (Op.equalIn 10000 47 (.agg #[.int .i64 d.1.1, .int .u64 d.1.2.1.1, .int .u64 d.1.2.1.2.1, .int .u64 d.1.2.1.2.2]) (.agg #[.int .i64 x.1.1, .int .u64 x.1.2.1.1, .int .u64 x.1.2.1.2.1, .int .u64 x.1.2.1.2.2])) W= .ok eb W:=fun W=>by
    have h:=Rs.qM 9997 d.1.1 d.1.2.1.1 d.1.2.1.2.1 d.1.2.1.2.2 x.1.1 x.1.2.1.1 x.1.2.1.2.1 x.1.2.1.2.2 W;have e:(d.1.1==x.1.1&&pR d.1.2.1.1 d.1.2.1.2.1 d.1.2.1.2.2 x.1.2.1.1 x.1.2.1.2.1 x.1.2.1.2.2)=eb:=by
     rw[heb,Bool.eq_iff_iff,bA,nX,beq_iff_eq,dE];exact⟨fun k=>Prod.ext k.1 (bW k.2.1 k.2.2.1 k.2.2.2),fun k=>by rw[k];exact⟨rfl,rfl,rfl,rfl⟩⟩
    rw[e]at h;exact h
   have HEB:=hid heb;clear heb;go_upto_region 4 with fail;have hS0:Below wv.heap.size wv wv.drew:=(Gr.refl wv).drew.below;refine ay (S:=fun W:World=>Below wv.heap.size wv W) (D:=[]) hmx ?_;refine' aC (i:=0) (oi:={dst:=some 11,op:= .move (.tmp 0),type:=26,pos:= "outright.go:41",after:=#[],guard:=none}) (v:=_) rfl (by kernel_rfl) (by kernel_rfl) (by kernel_rfl) (fun _ _ _ h=>h) (by kernel_rfl) (Or.inl ⟨by rfl, ?hy1⟩) hS0 ?rest1;case hy1=>(intro W hSw;go_simp;try(with_reducible rfl))
   try simp only[Act.put,qi,qz,jD]
   refine' aC (i:=1) (oi:={dst:=some 12,op:= .move (.tmp 5),type:=3,pos:= "outright.go:41",after:=#[],guard:=none}) (v:=_) rfl (by kernel_rfl) (by kernel_rfl) (by kernel_rfl) (fun _ _ _ h=>h) (by kernel_rfl) (Or.inl ⟨by rfl, ?hy2⟩) hS0 ?rest2;case hy2=>(intro W hSw;go_simp;try(with_reducible rfl))
   try simp only[Act.put,qi,qz,jD]
   refine' aC (i:=2) (oi:={dst:=some 13,op:= .indexAddr 26 (.tmp 11) (.tmp 12),type:=0,pos:= "outright.go:41",after:=#[{on:=0,ground:= .data},{on:=1,ground:= .data}],guard:=none}) (v:=_) rfl (by kernel_rfl) (by kernel_rfl) (by kernel_rfl) (fun _ _ _ h=>h) (by kernel_rfl) (Or.inl ⟨by rfl, ?hy3⟩) hS0 ?rest3;case hy3=>(intro W hSw;obtain⟨⟨d0,d1,d2,d3,d4,d5⟩,d6,-⟩:=HS.o W hSw;have e0:=(aa d6).1;have e1:=ae d6;go_simp;try(with_reducible rfl))
   try simp only[Act.put,qi,qz,jD]
   refine' aC (i:=3) (oi:={dst:=some 14,op:= .fieldAddr 49 (.tmp 13) 0,type:=0,pos:= "outright.go:41",after:=#[{on:=2,ground:= .data}],guard:=none}) (v:=_) rfl (by kernel_rfl) (by kernel_rfl) (by kernel_rfl) (fun _ _ _ h=>h) (by kernel_rfl) (Or.inl ⟨by rfl, ?hy4⟩) hS0 ?rest4;case hy4=>(intro W hSw;obtain⟨⟨d0,d1,d2,d3,d4,d5⟩,d6,-⟩:=HS.o W hSw;have e0:=(aa d6).1;have e1:=ae d6;go_simp;try(with_reducible rfl))
   try simp only[Act.put,qi,qz,jD]
   refine' aC (i:=4) (oi:={dst:=some 15,op:= .load 47 (.tmp 14),type:=47,pos:= "outright.go:41",after:=#[{on:=3,ground:= .data}],guard:=none}) (v:=_) rfl (by kernel_rfl) (by kernel_rfl) (by kernel_rfl) (fun _ _ _ h=>h) (by kernel_rfl) (Or.inl ⟨by rfl, ?hy5⟩) hS0 ?rest5;case hy5=>(intro W hSw;obtain⟨⟨d0,d1,d2,d3,d4,d5⟩,d6,-⟩:=HS.o W hSw;have e0:=(aa d6).1;have e1:=ae d6;go_simp;try(with_reducible rfl))
   try simp only[Act.put,qi,qz,jD]
   refine' aC (i:=5) (oi:={dst:=some 16,op:= .fieldAddr 49 (.tmp 3) 0,type:=0,pos:= "outright.go:41",after:=#[],guard:=none}) (v:=_) rfl (by kernel_rfl) (by kernel_rfl) (by kernel_rfl) (fun _ _ _ h=>h) (by kernel_rfl) (Or.inl ⟨by rfl, ?hy6⟩) hS0 ?rest6;case hy6=>(intro W hSw;obtain⟨⟨d0,d1,d2,d3,d4,d5⟩,d6,-⟩:=HS.o W hSw;have e0:=(aa d6).1;have e1:=ae d6;go_simp;try(with_reducible rfl))
   try simp only[Act.put,qi,qz,jD]
   refine' aC (i:=6) (oi:={dst:=some 17,op:= .load 47 (.tmp 16),type:=47,pos:= "outright.go:41",after:=#[{on:=5,ground:= .data}],guard:=none}) (v:=_) rfl (by kernel_rfl) (by kernel_rfl) (by kernel_rfl) (fun _ _ _ h=>h) (by kernel_rfl) (Or.inl ⟨by rfl, ?hy7⟩) hS0 ?rest7;case hy7=>(intro W hSw;obtain⟨⟨d0,d1,d2,d3,d4,d5⟩,d6,-⟩:=HS.o W hSw;have e0:=(aa d6).1;have e1:=ae d6;go_simp;try(with_reducible rfl))
   try simp only[Act.put,qi,qz,jD]
   refine' aC (i:=7) (oi:={dst:=some 18,op:= .binOp .eql 47 (.tmp 15) (.tmp 17) 47,type:=4,pos:= "outright.go:41",after:=#[{on:=4,ground:= .data},{on:=6,ground:= .data}],guard:=none}) (v:=_) rfl (by kernel_rfl) (by kernel_rfl) (by kernel_rfl) (fun _ _ _ h=>h) (by kernel_rfl) (Or.inl ⟨by rfl, ?hy8⟩) hS0 ?rest8;case hy8=>(intro W hSw;have hq:=heq W;go_simp;try(with_reducible rfl))
   try simp only[Act.put,qi,qz,jD]
   refine ak (by kernel_rfl) ?_ _;clear heq;cases eb with
   | false=>
    have FIN:Hid (Below W0.heap.size W0 wv.drew/\∀(j:Nat) (e:Ck),j<i+1->l[j]? =some e->e.1≠x.1):=by
     refine⟨HI.o.1.trans (hS0.mono HI.o.1.size),fun j e hj he=> ?_⟩;by_cases z:j=i
     ·subst z;rw[HD.o]at he;obtain rfl:=oJ he;exact fun k=>by have:=HEB.o;rw[decide_eq_true k]at this;cases this
     ·exact HI.o.2 j e (by omega) he
    clear HS hS0 HI HD HEB;go_wp2_with fail;go_roundw;case rel=>exact⟨i+1,by omega,by go_num,FIN.o⟩
    case measure=>simp[intOf];omega
   | true=>
    have hxe:d.1=x.1:=of_decide_eq_true HEB.o.symm;have hwr:IntKind.i64.wrap (d.2+x.2)=d.2+x.2:=by
     have h1:=HB.o d (lM HD.o);have h2:=HXB.o;simp[IntKind.wrap,IntKind.bits,IntKind.signed];omega
    obtain⟨wd,hwd⟩:=aD (wv.drew);rw[<-hwd]at hS0⊢;clear hwd;have KV:Hid (∀W,Below wd.heap.size wd W->Below wv.heap.size wv W):=fun W hW=>hS0.trans (hW.mono hS0.size);go_upto_region 5 with fail;have hS5:Below wd.heap.size wd wd.drew:=(Gr.refl wd).drew.below;refine ay (S:=fun W:World=>Below wd.heap.size wd W) (D:=[12]) hmx ?_;refine' aC (i:=0) (oi:={dst:=some 19,op:= .move (.tmp 0),type:=26,pos:= "outright.go:42",after:=#[],guard:=none}) (v:=_) rfl (by kernel_rfl) (by kernel_rfl) (by kernel_rfl) (fun _ _ _ h=>h) (by kernel_rfl) (Or.inl ⟨by rfl, ?hy9⟩) hS5 ?rest9;case hy9=>(intro W hSw;go_simp;try(with_reducible rfl))
    try simp only[Act.put,qi,qz,jD]
    refine' aC (i:=1) (oi:={dst:=some 20,op:= .move (.tmp 5),type:=3,pos:= "outright.go:42",after:=#[],guard:=none}) (v:=_) rfl (by kernel_rfl) (by kernel_rfl) (by kernel_rfl) (fun _ _ _ h=>h) (by kernel_rfl) (Or.inl ⟨by rfl, ?Wo⟩) hS5 ?rest10;case Wo=>(intro W hSw;go_simp;try(with_reducible rfl))
    try simp only[Act.put,qi,qz,jD]
    refine' aC (i:=2) (oi:={dst:=some 21,op:= .move (.tmp 0),type:=26,pos:= "outright.go:42",after:=#[],guard:=none}) (v:=_) rfl (by kernel_rfl) (by kernel_rfl) (by kernel_rfl) (fun _ _ _ h=>h) (by kernel_rfl) (Or.inl ⟨by rfl, ?Wn⟩) hS5 ?rest11;case Wn=>(intro W hSw;go_simp;try(with_reducible rfl))
    try simp only[Act.put,qi,qz,jD]
    refine' aC (i:=3) (oi:={dst:=some 22,op:= .move (.tmp 5),type:=3,pos:= "outright.go:42",after:=#[],guard:=none}) (v:=_) rfl (by kernel_rfl) (by kernel_rfl) (by kernel_rfl) (fun _ _ _ h=>h) (by kernel_rfl) (Or.inl ⟨by rfl, ?Wm⟩) hS5 ?rest12;case Wm=>(intro W hSw;go_simp;try(with_reducible rfl))
    try simp only[Act.put,qi,qz,jD]
    refine' aC (i:=4) (oi:={dst:=some 23,op:= .indexAddr 26 (.tmp 21) (.tmp 22),type:=0,pos:= "outright.go:42",after:=#[{on:=2,ground:= .data},{on:=3,ground:= .data}],guard:=none}) (v:=_) rfl (by kernel_rfl) (by kernel_rfl) (by kernel_rfl) (fun _ _ _ h=>h) (by kernel_rfl) (Or.inl ⟨by rfl, ?Wl⟩) hS5 ?rest13;case Wl=>(intro W hSw;obtain⟨⟨d0,d1,d2,d3,d4,d5⟩,d6,-⟩:=HS.o W (KV.o W hSw);have e0:=(aa d6).1;have e1:=ae d6;go_simp;try(with_reducible rfl))
    try simp only[Act.put,qi,qz,jD]
    refine' aC (i:=5) (oi:={dst:=some 24,op:= .fieldAddr 49 (.tmp 23) 1,type:=0,pos:= "outright.go:42",after:=#[{on:=4,ground:= .data}],guard:=none}) (v:=_) rfl (by kernel_rfl) (by kernel_rfl) (by kernel_rfl) (fun _ _ _ h=>h) (by kernel_rfl) (Or.inl ⟨by rfl, ?Wj⟩) hS5 ?rest14;case Wj=>(intro W hSw;obtain⟨⟨d0,d1,d2,d3,d4,d5⟩,d6,-⟩:=HS.o W (KV.o W hSw);have e0:=(aa d6).1;have e1:=ae d6;go_simp;try(with_reducible rfl))
    try simp only[Act.put,qi,qz,jD]
    refine' aC (i:=6) (oi:={dst:=some 25,op:= .load 2 (.tmp 24),type:=2,pos:= "outright.go:42",after:=#[{on:=5,ground:= .data}],guard:=none}) (v:=_) rfl (by kernel_rfl) (by kernel_rfl) (by kernel_rfl) (fun _ _ _ h=>h) (by kernel_rfl) (Or.inl ⟨by rfl, ?Wi⟩) hS5 ?rest15;case Wi=>(intro W hSw;obtain⟨⟨d0,d1,d2,d3,d4,d5⟩,d6,-⟩:=HS.o W (KV.o W hSw);have e0:=(aa d6).1;have e1:=ae d6;go_simp;try(with_reducible rfl))
    try simp only[Act.put,qi,qz,jD]
    refine' aC (i:=7) (oi:={dst:=some 26,op:= .fieldAddr 49 (.tmp 3) 1,type:=0,pos:= "outright.go:42",after:=#[],guard:=none}) (v:=_) rfl (by kernel_rfl) (by kernel_rfl) (by kernel_rfl) (fun _ _ _ h=>h) (by kernel_rfl) (Or.inl ⟨by rfl, ?Wh⟩) hS5 ?rest16;case Wh=>(intro W hSw;obtain⟨⟨d0,d1,d2,d3,d4,d5⟩,d6,-⟩:=HS.o W (KV.o W hSw);have e0:=(aa d6).1;have e1:=ae d6;go_simp;try(with_reducible rfl))
    try simp only[Act.put,qi,qz,jD]
    refine' aC (i:=8) (oi:={dst:=some 27,op:= .load 2 (.tmp 26),type:=2,pos:= "outright.go:42",after:=#[{on:=7,ground:= .data}],guard:=none}) (v:=_) rfl (by kernel_rfl) (by kernel_rfl) (by kernel_rfl) (fun _ _ _ h=>h) (by kernel_rfl) (Or.inl ⟨by rfl, ?We⟩) hS5 ?rest17;case We=>(intro W hSw;obtain⟨⟨d0,d1,d2,d3,d4,d5⟩,d6,-⟩:=HS.o W (KV.o W hSw);have e0:=(aa d6).1;have e1:=ae d6;go_simp;try(with_reducible rfl))
    try simp only[Act.put,qi,qz,jD]
    refine' aC (i:=9) (oi:={dst:=some 28,op:= .binOp .add 2 (.tmp 25) (.tmp 27) 2,type:=2,pos:= "outright.go:42",after:=#[{on:=6,ground:= .data},{on:=8,ground:= .data}],guard:=none}) (v:=_) rfl (by kernel_rfl) (by kernel_rfl) (by kernel_rfl) (fun _ _ _ h=>h) (by kernel_rfl) (Or.inl ⟨by rfl, ?V9⟩) hS5 ?rest18;case V9=>(intro W hSw;go_simp;try(with_reducible rfl))
    try simp only[Act.put,qi,qz,jD]
    refine kN (i:=10) (o:={dst:=some 29,op:= .indexAddr 26 (.tmp 19) (.tmp 20),type:=0,pos:= "outright.go:42",after:=#[{on:=0,ground:= .data},{on:=1,ground:= .data},{on:=0,ground:= .phase},{on:=1,ground:= .phase},{on:=2,ground:= .phase},{on:=3,ground:= .phase},{on:=4,ground:= .phase},{on:=5,ground:= .phase},{on:=6,ground:= .phase},{on:=7,ground:= .phase},{on:=8,ground:= .phase},{on:=9,ground:= .phase}],guard:=none}) (by kernel_rfl) rfl (fun K hK=> ?_);obtain⟨⟨d0,-⟩,-,-⟩:=HS.o _ (KV.o _ hS5);go_simp;try clear d0
    refine hK.o _ _ (fun hD=>hS5) ?_;clear hK K;try simp only[Act.put,qi,qz,jD]
    refine kN (i:=11) (o:={dst:=some 30,op:= .fieldAddr 49 (.tmp 29) 1,type:=0,pos:= "outright.go:42",after:=#[{on:=10,ground:= .data},{on:=0,ground:= .phase},{on:=1,ground:= .phase},{on:=2,ground:= .phase},{on:=3,ground:= .phase},{on:=4,ground:= .phase},{on:=5,ground:= .phase},{on:=6,ground:= .phase},{on:=7,ground:= .phase},{on:=8,ground:= .phase},{on:=9,ground:= .phase}],guard:=none}) (by kernel_rfl) rfl (fun K hK=> ?_);obtain⟨⟨d0,-⟩,-,-⟩:=HS.o _ (KV.o _ hS5);go_simp;try clear d0
    refine hK.o _ _ (fun hD=>hS5) ?_;clear hK K;try simp only[Act.put,qi,qz,jD]
    refine kN (i:=12) (o:={dst:=none,op:= .store 2 (.tmp 30) (.tmp 28),type:=0,pos:= "outright.go:42",after:=#[{on:=11,ground:= .data},{on:=9,ground:= .data},{on:=0,ground:= .phase},{on:=1,ground:= .phase},{on:=2,ground:= .phase},{on:=3,ground:= .phase},{on:=4,ground:= .phase},{on:=5,ground:= .phase},{on:=6,ground:= .phase},{on:=7,ground:= .phase},{on:=8,ground:= .phase},{on:=9,ground:= .phase}],guard:=none}) (by kernel_rfl) rfl (fun K hK=> ?_);obtain⟨⟨d0,-,-,-,-,d5⟩,-,d7⟩:=HS.o _ (KV.o _ hS5);have fz:wd.drew.frozen? ⟨g,i*5+4,none⟩=false:=d7.frozenAt _;have FIN:Hid (TD w base (.slice (some ⟨g,0,none⟩) n qv) x l (some ⟨g,0,none⟩) n qv (wd.setCell ⟨g,i*5+4,none⟩ (.int .i64 (d.2+x.2))).drew):=by
     have hbw:Below w.heap.size w wd:=P0.o.1.trans ((HI.o.1.trans (hS0.mono HI.o.1.size)).mono P0.o.1.size);obtain⟨k1,k2⟩:=yY (ag HO.o hbw) (i*5+4) (.int .i64 (d.2+x.2));have e:=Js EK l i 4 d (d.1,d.2+x.2) (.int .i64 (d.2+x.2)) HD.o (by decide) (by simp[EK]);rw[show EK.k=5 from rfl]at e;rw[e,<-M7 HD.o hxe HI.o.2]at k1;have gd:=(Gr.refl (wd.setCell ⟨g,i*5+4,none⟩ (.int .i64 (d.2+x.2)))).drew.below;refine⟨?_,ag k1 gd,((Kp.of_below (S:=fun k=>(Value.slice (some ⟨g,0,none⟩) n qv).ownBlock=some k) hbw).trans k2 (fun k _ h=>by rw[h];rfl)).trans (Kp.of_below (S:=fun _=>False) gd) (fun _ _ h=>h.elim),fun k hk=> .inl hk⟩;rw[M7 HD.o hxe HI.o.2,lZ];exact HN.o
    go_simp;clear d0 d5 d7 fz;refine hK.o _ _ (fun hD=>absurd (mX ..) hD) ?_;clear hK K;try simp only[Act.put,qi,qz,jD]
    refine ak (by kernel_rfl) ?_ _;clear HS KV hS5 hS0 hxe hwr;go_wp2_with fail;go_ret;exact⟨_,_,_,rfl,FIN⟩
  ·have hiz:¬(i:Int)<(n:Int):=(by omega);have hc:=(HI.o.1.block _ (ae P0.o.2.1)).trans P0.o.2.1;have c3:=(aa hc).1;have l3:=ae hc;have hbw:Below w.heap.size w wv:=P0.o.1.trans (HI.o.1.mono P0.o.1.size);have jd:=hid hbw;have HOW:=hid (ag HO.o hbw);clear hc hbw;go_wp2_with (at_builtin;refine Fj rfl _ _ rfl base (.slice pv n qv) n (fl EK l) rfl HOW.o (nT HBS.o jd.o.size) (x.1.1,x.1.2,x.2) #[.int .i64 x.1.1, .int .u64 x.1.2.1.1, .int .u64 x.1.2.1.2.1, .int .u64 x.1.2.1.2.2, .int .i64 x.2] rfl rfl (by omega) ?_);intro g9 Hz w9 h9 k9 n9;have FIN:Hid (TD w base (.slice pv n qv) x l (some ⟨g9,0,none⟩) (n+1) Hz w9):=by
    have e:uW x l=l++[x]:=Rf fun j e he=>HI.o.2 j e (by have:=(lG.1 he).1;have:=HN.o;omega) he;refine⟨by rw[e,dK,<-HN.o];rfl,aS h9.o rfl (by rw[e,aT,dx];rfl),(Kp.of_below (S:=fun k=>(Value.slice pv n qv).ownBlock=some k) jd.o).trans k9.o (fun _ _ h=>h),fun k hk=> ?_⟩;have e2:k=g9:=(by simpa[Value.ownBlock]using hk.symm);subst e2;exact n9.o.imp (fun h=>h) fun h=>nT jd.o.size h
   clear h9 k9 n9 c3 l3;generalize hnn:n+1=nn at FIN⊢;go_wp2_with fail;go_ret;exact⟨_,_,_,rfl,FIN⟩
end Rc
namespace Rc
open Go.RowKit Go.Sort Go.Maps Pt Hc
open Df (aO)
open Tt (dR dG)
def lY(ds:List Dl)(t:Tm):Int:=(ds.map fun d=>if d.1=t then d.2 else 0).sum
theorem wW(t:Tm):lY [] t=0:=rfl
theorem oD(d:Dl)(ds:List Dl)(t:Tm):lY (d::ds) t=(if d.1=t then d.2 else 0)+lY ds t:=by simp[lY]
theorem Dt(a b:List Dl)(t:Tm):lY (a++b) t=lY a t+lY b t:=by simp[lY]
def Lo9(ds:List Dl):Prop:=∀d∈ds,-999<=d.2/\d.2<=999
theorem Bh{ds:List Dl}(h:Lo9 ds)(t:Tm): -(999*(ds.length:Int))<=lY ds t/\lY ds t<=999*(ds.length:Int):=by
 induction ds with
 | nil => simp[wW]
 | cons d ds ih=>
  have h1:=ih (fun e he=>h e (mO _ he));have h2:=h d (by simp);rw[oD,lC];split<;>omega
theorem QP(ds:List Dl)(h:Lo9 ds)(g:Tm->Int)(hg:∀t,-1000000000000+999*(ds.length:Int)<=g t/\g t<=1000000000000-999*(ds.length:Int))(t:Tm):
    ds.foldl (fun g d=>upd g d.1 (wrap64 (g d.1+d.2))) g t=g t+lY ds t:=by
 induction ds generalizing g with
 | nil => simp[wW]
 | cons d ds ih=>
  have h2:=h d (by simp);have h3:wrap64 (g d.1+d.2)=g d.1+d.2:=by
   have:=hg d.1;simp only[lC]at this;unfold wrap64;omega
  rw[List.foldl_cons,ih (fun e he=>h e (mO _ he)),oD,h3]
  ·unfold upd;by_cases e:t=d.1
   ·rw[if_pos e,if_pos e.symm,e];omega
   ·rw[if_neg e,if_neg (fun e'=>e e'.symm)];omega
  ·intro s;rw[h3];have h4:=hg s;have h5:=hg d.1;simp only[lC]at h4 h5;unfold upd;split<;>omega
theorem zk{f:Tm->Int}{ds:List Dl}(h:Lo9 ds)(hl:ds.length<=1000000)(hf:∀t,-1000000000000<=f t/\f t<=1000000000000):bP f ds=fun t=>lY ds t+f t:=by
 funext t
 have e:YteekbpokkjjipaaGreat.sm ds t=lY ds t:=by
  unfold YteekbpokkjjipaaGreat.sm;rw[QP ds h _ (fun s=>by omega)];omega
 unfold bP;rw[e];have h1:=Bh h t;have h2:=hf t;unfold wrap64;omega
theorem KO{f:Tm->Int}{ds:List Dl}(h:Lo9 ds)(hl:ds.length<=1000000)(hf:∀t,-1000000000<=f t/\f t<=1000000000):bad f ds=false:=by
 unfold bad;rw[zk h hl (fun t=>by have:=hf t;omega),Bool.or_eq_false_iff,List.any_eq_false,List.any_eq_false];refine⟨fun d hd=> ?_,fun d hd=> ?_⟩
 ·have:=h d hd;rw[dG.2 (by omega)];simp
 ·have h1:=Bh h d.1;have h2:=hf d.1;have h3:dR (lY ds d.1+f d.1)=false:=dG.2 (by omega);show ¬dR (lY ds d.1+f d.1)=true;rw[h3];simp
def cI(m:List Th)(p:Nat)(t:ah):Int:=lY (prt m p) t
def Qp(m:List Th):Prop:=∀x∈m,-999<=x.2.2/\x.2.2<=999
theorem FY{m:List Th}(h:Qp m)(p:Nat):Lo9 (prt m p):=fun d hd=>by
 unfold prt at hd;obtain⟨x,hx,rfl⟩:=mM.1 hd;exact h x (mF.1 hx).1
theorem sU(a b:List Th):cI (a++b)=fun p t=>cI a p t+cI b p t:=by
 funext p t
 unfold cI;rw[IW,Dt]
theorem UE{m:List Th}(h:Qp m)(hl:m.length<=200)(p:Nat)(t:ah): -1000000<=cI m p t/\cI m p t<=1000000:=by
 have h1:=Bh (FY h p) t;have h2:=qP m p;unfold cI;omega
theorem XJ{m l:List Th}(hm:Qp m)(q8:m.length<=200)(hl:Qp l)(hll:l.length<=200):lH (cI m) l=cI (m++l):=by
 funext p
 unfold lH;rw[zk (FY hl p) (by have:=qP l p;omega) (fun t=>by have:=UE hm q8 p t;omega),sU]
 funext t
 show lY (prt l p) t+cI m p t=cI m p t+lY (prt l p) t;omega
def zf(l:List Th):List Th:=l.map fun x=>(x.1,x.2.1,-x.2.2)
theorem UD(l:List Th):cI (l++zf l)=fun _ _=>0:=by
 rw[sU]
 funext p t
 have key:cI (zf l) p t= - cI l p t:=by
  induction l with
  | nil => rfl
  | cons x l ih=>
   have e1:cI (x::l) p t=cI [x] p t+cI l p t:=(by rw[show x::l=[x]++l from rfl,sU]);have e2:cI (zf (x::l)) p t=cI [(x.1,x.2.1,-x.2.2)] p t+cI (zf l) p t:=(by rw[show zf (x::l)=[(x.1,x.2.1,-x.2.2)]++zf l from rfl,sU]);rw[e1,e2,ih];have e3:cI [(x.1,x.2.1,-x.2.2)] p t= - cI [x] p t:=by
    unfold cI;rw[AO,AO];by_cases e:x.1=(p:Int)
    ·rw[if_pos e,if_pos e,oD,oD,wW];dsimp only;split<;>omega
    ·rw[if_neg e,if_neg e];rfl
   omega
 rw[key];omega
theorem QH{g:Df.bD}{x:Th}(h:qh g x):qh g (x.1,x.2.1,-x.2.2):=by
 obtain⟨h1,h2,h3⟩:=h;exact⟨h1,by show -999<=-x.2.2;omega,by show -x.2.2<=999;omega⟩
theorem qF{g:Df.bD}{l:List Th}(h:∀x∈l,qh g x):Qp l:=fun x hx=>(h x hx).2
theorem abH{g:Df.bD}{m l:List Th}(hm:Qp m)(q8:m.length<=200)(h:∀x∈l,qh g x)(hll:l.length<=200):jb (aO g.nodes) g.arity (cI m) l=0:=by
 have h1:∀x∈l,Vp (aO g.nodes) x/\bL x.2.1.1.1 x.2.1.1.2.1 x.2.1.1.2.2 g.arity=0:=fun x hx=>DW (h x hx).1 x (by simp);have h2:=DX h1;have h3:Cc (cI m) l=true:=(I4 fun x hx=>(h1 x hx).1).2 fun p _=>KO (FY (qF h) p) (by have:=qP l p;omega) fun t=>by have:=UE hm q8 p t;omega
 unfold jb;rw[if_neg (by rw[h2];simp),if_pos h3]
theorem LP{F Fn:Nat->List ah}(h1:∀p,p<N->(F p).Nodup)(h2:∀p,p<N->(Fn p).Nodup)(z:Int)(t:ah):eP ((nV N F Fn).map ck) (z,t)=if 0<=z/\z<(N:Int)then dn (F z.toNat) (Fn z.toNat) t else 0:=by
 induction N with
 | zero => rw[if_neg (by omega)];rfl
 | succ N ih=>
  have e:(nV (N+1) F Fn).map ck=(nV N F Fn).map ck++(mh (F N) (Fn N)).map fun d=>(((N:Int),d.1),d.2):=by
   unfold nV;rw[Y6,List.flatMap_append,zV]
   congr 1
   simp only[K4,List.flatMap_nil,EN,List.map_map];rfl
  have key:∀ds:List (ah×Int),eP (ds.map fun d=>(((N:Int),d.1),d.2)) (z,t)=if z=(N:Int)then Pt.sm (fun d=>(if d.1=t then 1 else 0)*d.2) ds else 0:=fun ds=>by
   induction ds with
   | nil => rw[List.map_nil,jl];split <;> rfl
   | cons d ds ih2=>
    rw[List.map_cons,ek,ih2,aQ];simp only[Prod.mk.injEq];by_cases ez:z=(N:Int)
    ·rw[if_pos ez,if_pos ez];by_cases et:d.1=t
     ·rw[if_pos ⟨ez.symm,et⟩,if_pos et];omega
     ·rw[if_neg (fun x=>et x.2),if_neg et];omega
    ·rw[if_neg ez,if_neg ez,if_neg (fun x=>ez x.1.symm)];omega
  rw[e,mr,key,ih (fun p hp=>h1 p (by omega)) fun p hp=>h2 p (by omega)];by_cases ez:z=(N:Int)
  ·rw[if_pos ez,if_neg (by omega),if_pos (by omega),ez,tN,(jT (h1 N (by omega)) (h2 N (by omega))).dn (h1 N (by omega)) (h2 N (by omega))];omega
  ·rw[if_neg ez];by_cases er:0<=z/\z<(N:Int)
   ·rw[if_pos er,if_pos (by omega)];omega
   ·rw[if_neg er,if_neg (by omega)];omega
theorem LQ{F Fn:Nat->List ah}(h1:∀p,p<N->(F p).Nodup)(h2:∀p,p<N->(Fn p).Nodup):∀x∈nV N F Fn,x.2.2= -1\/x.2.2=1:=fun x hx=>by
 unfold nV at hx;obtain⟨p,hp,hx⟩:=List.mem_flatMap.1 hx;obtain⟨d,hd,rfl⟩:=mM.1 hx;have hp:=mR.1 hp;exact(jT (h1 p hp) (h2 p hp)).sign hd
theorem LU{M:Nat}{F Fn:Nat->List ah}(h1:∀p,p<N->(F p).Nodup)(h2:∀p,p<N->(Fn p).Nodup)(h3:∀p,p<N->(F p).length<=M/\(Fn p).length<=M):(nV N F Fn).length<=N*(2*M):=by
 have key:∀l:List Nat,(∀p∈l,p<N)->(l.flatMap fun p=>(mh (F p) (Fn p)).map fun d=>((p:Int),d.1,d.2)).length<=l.length*(2*M):=fun l hl=>by
  refine iD _ _ _ fun p hp=> ?_;have hp:=hl p hp;rw[fQ];have:=(jT (h1 p hp) (h2 p hp)).len;have:=h3 p hp;omega
 have:=key (List.range N) fun p hp=>mR.1 hp;rw[List.length_range]at this;exact this
theorem RG.fS{g:Df.bD}{R:Nat->Nat->List ah}{c:Nat->ah->Int}{K O:Nat->List ah}{C:Nat->ah->Int}{F:Nat->List ah}{U:List Th}(h:RG i w tag rb g R c K O C F U)(hk:Gk g R){S:Nat}(hS:sN (fun p=>(K p).length) (List.range (aO g.nodes))<=S)(hp:p<aO g.nodes):(F p).length<=64*S:=by
 have h1:=hk.tbl.short (O:=O) (h.ev.OY p hp);have h2:=h.ev.QI hS;omega
theorem Ev.empty{L:Nat->List (Nat×ah)}{R:Nat->Nat->List ah}{c:Nat->ah->Int}{K O:Nat->List ah}{C:Nat->ah->Int}{F:Nat->List ah}(h:Ev N L R c K O C F)(e:∀p,p<N->c p=fun _=>0)(hp:p<N):F p=[]:=h.ML (Ev.init N L R) e hp
theorem Pm{c:Nat->ah->Int}{X:Nat->List ah}(e:∀p,p<N->c p=fun _=>0)(hX:∀p,p<N->Nz c p (X p)):kM c X N=[]:=by
 have:∀p,p<N->X p=[]:=fun p hp=>List.eq_nil_iff_forall_not_mem.2 fun t ht=>by
  have:=((hX p hp).mem t).1 ht;rw[e p hp]at this;exact this rfl
 rw[sP (Y:=fun _=>[]) this];unfold kM;simp
end Rc
namespace Rc
open Go.RowKit Go.Sort Go.Maps Pt Hc
open Lf (bt)
open Df (aO)
theorem Gk.same{g:Df.bD}{R R':Nat->Nat->List ah}(h:Gk g R)(k:Gk g R')(hp:p<aO g.nodes):R p=R' p:=oJ (rR.same bH (h.res p hp) (k.res p hp))
section
variable {n:Nat} {R R':Nat->Nat->List ah}
theorem aaz(hs:∀p,p<n->R p=R' p)(p q:Int):bt n R p q=bt n R' p q:=by
 unfold bt;split
 ·rename_i h;rw[hs _ (by omega)]
 ·rfl
theorem VH(hs:∀p,p<n->R p=R' p):rZ n R=rZ n R':=by
 have e:tV n R=tV n R':=by
  funext r p
  unfold tV Lf.KL;rw[aaz hs]
 unfold rZ;rw[e]
theorem MZ(hs:∀p,p<n->R p=R' p)(O:Nat->List ah)(p:Nat):jm n R O p=jm n R' O p:=by
 unfold jm;have key:∀l:List Nat,(∀q∈l,q<n)->(l.flatMap fun q=>(O q).flatMap fun u=>(R q p).filterMap fun a=>bF a u)=l.flatMap fun q=>(O q).flatMap fun u=>(R' q p).filterMap fun a=>bF a u:=fun l hl=>by
  induction l with
  | nil => rfl
  | cons q l ih => rw[K4,K4,ih fun x hx=>hl x (mO _ hx),hs q (hl q (by simp))]
 exact key _ fun q hq=>mR.1 hq
end
def RI(i:Nat)(w:World)(tag:Nat->Nat)(rb:Nat)(g:Df.bD)(R:Nat->Nat->List ah)(m:List Th)(F:Nat->List ah)(U:List Th):Prop:=∃K O C,RG i w tag rb g R (cI m) K O C F U/\sN (fun p=>(K p).length) (List.range (aO g.nodes))<=m.length
section
variable {i j:Nat} {w w':World} {tag tag':Nat->Nat} {ra rb:Nat} {g:Df.bD} {R R':Nat->Nat->List ah} {m m':List Th} {F F':Nat->List ah} {U U':List Th} {S:Nat->Prop}
theorem RI.new{C:Nat->ah->Int}{O:Nat->List ah}(h:RG i w tag rb g R' (fun _ _=>0) (fun _=>[]) O C F U)(hk:Gk g R)(hk':Gk g R'):RI i w tag rb g R [] F U:=by
 have hs:∀p,p<aO g.nodes->R' p=R p:=fun p hp=>hk'.same hk hp;refine⟨_,_,_,⟨by rw[<-VH hs];exact h.q,⟨h.ev.yc,fun p hp=>by rw[<-MZ hs];exact h.ev.OY p hp,h.ev.own,h.ev.bd,h.ev.kp⟩,h.kt,h.ul⟩, ?_⟩;have:∀l:List Nat,sN (fun _=>([]:List ah).length) l=0:=fun l=>by
  rw[wo];simp
 rw[this];exact zL _
theorem RI.below(h:RI i w tag rb g R m F U)(hk:Gk g R)(hb:Below w.heap.size w w')(hT:∀k,k<w.heap.size->tag' k=tag k):RI i w' tag' rb g R m F U:=by
 obtain⟨K,O,C,h1,h2⟩:=h;exact⟨K,O,C,h1.below hk hb hT,h2⟩
theorem RI.keep(h:RI i w tag rb g R m F U)(hk:Gk g R)(hK:Kp (gW j tag) w w')(hij:i≠j)(hT:∀k,k<w.heap.size->tag' k=tag k):RI i w' tag' rb g R m F U:=by
 obtain⟨K,O,C,h1,h2⟩:=h;refine⟨K,O,C,h1.keep hk hK (fun k hk e=>⟨fun z=> ?_,fun e2=> ?_⟩) hT,h2⟩
 ·have:=e.1;omega
 ·unfold gW at e e2;omega
theorem RI.Ug(h:RI i w tag rb g R m F U)(hk:Gk g R)(hK:Kp S w w')(hS:∀k,k<w.heap.size->S k->tag k≠0/\¬gW i tag k)(hT:∀k,k<w.heap.size->tag' k=tag k):RI i w' tag' rb g R m F U:=by
 obtain⟨K,O,C,h1,h2⟩:=h;exact⟨K,O,C,h1.keep hk hK hS hT,h2⟩
def ChI(i:Nat)(w:World)(tag:Nat->Nat)(rb:Nat)(g:Df.bD)(R:Nat->Nat->List ah)(m:List Th)(F:Nat->List ah)(w':World):Prop:=
 ∃tag' F',(∀k,k<w.heap.size->tag' k=tag k)/\Kp (gW i tag) w w'/\RI i w' tag' rb g R m F' (nV (aO g.nodes) F F')
theorem RI.change(h:RI i w tag rb g R m F U)(hk:Gk g R)(hm:Qp m)(l:List Th)(v:Value)(hv:Ls EC w v l)(hl:∀x∈l,qh g x)(hn:m.length+l.length<=200):
    Calls Tryz.prog 10 #[.pointer (some ⟨rb,0,none⟩),v] w fun e w'=>e= .returned (.int .i64 0)/\Hid (ChI i w tag rb g R (m++l) F w'):=by
 obtain⟨K,O,C,h1,h2⟩:=h;refine(h1.change hk l v hv (by omega)).mono ?_;rintro e w' ⟨rfl,h3⟩;have hz:=abH (g:=g) hm (by omega) hl (by omega);rw[hz];refine⟨rfl, ?_⟩;obtain⟨tag',a1,a2,a3⟩:=h3.o;rcases a3 with⟨a4,_⟩|⟨_,On,Cn,Fn,a4⟩
 ·exact absurd hz a4
 ·rw[XJ hm (by omega) (qF hl) (by omega)]at a4;refine⟨tag',Fn,a1,a2,_,On,Cn,a4, ?_⟩;have:=Be (N:=aO g.nodes) (K:=K) (l:=l);rw[dK];omega
theorem RI.nodup(h:RI i w tag rb g R m F U)(hp:p<aO g.nodes):(F p).Nodup:=by
 obtain⟨K,O,C,h1,h2⟩:=h;exact(h1.ev.yc.fr p hp).nodup
theorem RI.len(h:RI i w tag rb g R m F U)(hk:Gk g R)(hp:p<aO g.nodes):(F p).length<=64*m.length:=by
 obtain⟨K,O,C,h1,h2⟩:=h;exact h1.fS hk h2 hp
theorem RI.front(h:RI i w tag rb g R m F U)(hk:Gk g R){q:Nat}(hq:q<aO g.nodes):Calls Tryz.prog 12 #[.pointer (some ⟨rb,0,none⟩), .int .i64 (q:Int)] w fun e w'=>∃p n z,e= .returned (.slice p n z)/\n=(F q).length/\Below w.heap.size w w':=by
 obtain⟨K,O,C,h1,h2⟩:=h;have h:=h1.front hk (q:Int);rw[xA hq]at h;refine h.mono ?_;rintro e w' ⟨v,rfl,ho,hb⟩;obtain⟨p,n,z,rfl⟩:=Df.aB ho;obtain⟨rfl,-⟩:=Df.aU ho _ _ _ rfl;exact⟨p,_,z,rfl,rfl,hb⟩
theorem RI.turns(h:RI i w tag rb g R m F U):Calls Tryz.prog 19 #[.pointer (some ⟨rb,0,none⟩)] w fun e w'=>∃p n q,e= .returned (.slice p n q)/\Hid (n=U.length/\w'.ownsRow w.heap.size 49 5 (.slice p n q) n (fl EC U)/\Below w.heap.size w w'):=by
 obtain⟨K,O,C,h1,h2⟩:=h;refine h1.turns.mono ?_;rintro e w' ⟨p,n,q,rfl,hh⟩;obtain⟨ho,hb⟩:=hh.o;obtain⟨rfl,-⟩:=Df.aU ho _ _ _ rfl;exact⟨p,_,q,rfl,rfl,ho,hb⟩
theorem RI.same(h:RI i w tag ra g R m F U)(k:RI j w' tag' rb g R m' F' U')(e:cI m=cI m')(hp:p<aO g.nodes):F p=F' p:=by
 obtain⟨K,O,C,h1,h2⟩:=h;obtain⟨K',O',C',k1,k2⟩:=k;exact h1.ev.ML k1.ev (fun p _=>by rw[e]) hp
theorem RI.OV(h:RI i w tag ra g R m F U)(k:RI j w tag' rb g R m' F' U')(hk:Gk g R)(e:cI m=cI m'):
    Calls Tryz.prog 21 #[.pointer (some ⟨ra,0,none⟩), .pointer (some ⟨rb,0,none⟩), .int .i64 (aO g.nodes:Nat)] w fun e w'=>e= .returned (.bool true)/\Below w.heap.size w w':=by
 obtain⟨K,O,C,h1,h2⟩:=h;obtain⟨K',O',C',k1,k2⟩:=k;exact GV w h1 k1 hk fun p _=>by rw[e]
theorem RI.gone(h:RI i w tag rb g R m F U)(e:cI m=fun _ _=>0)(hp:p<aO g.nodes):F p=[]:=by
 obtain⟨K,O,C,h1,h2⟩:=h;exact h1.ev.empty (fun p _=>by rw[e]) hp
theorem RI.none(h:RI i w tag rb g R m F U)(hk:Gk g R)(e:cI m=fun _ _=>0):Calls Tryz.prog 13 #[.pointer (some ⟨rb,0,none⟩)] w fun e w'=>∃p q,e= .returned (.slice p 0 q)/\Below w.heap.size w w':=by
 obtain⟨K,O,C,h1,h2⟩:=h;refine(h1.counts hk).mono ?_;rintro e' w' ⟨p,n,q,X,rfl,hh⟩;obtain⟨a1,a2,a3⟩:=hh.o;rw[Pm (fun p _=>by rw[e]) a1]at a2;obtain⟨rfl,-⟩:=Df.aU a2 _ _ _ rfl;exact⟨p,q,rfl,a3⟩
end
end Rc
namespace Rc
open Go.RowKit Go.Sort Go.Maps Pt Hc
open Df (aO)
structure Os(Wb:World)(tB:Nat->Nat)(g:Df.bD)(R:Nat->Nat->List ah)(rb rc:Nat)(m2 m3:List Th)(F2:Nat->List ah)(U2:List Th)(s:List Ck)(p:Option Addr)(n q:Nat)(W:World)(t:Nat->Nat):Prop where
 kp:Kp (fun k=>gW 2 tB k\/gW 3 tB k) Wb W
 old:∀k,k<Wb.heap.size->t k=tB k
 b:RI 2 W t rb g R m2 F2 U2
 c:∃F3 U3,RI 3 W t rc g R m3 F3 U3
 nl:n=s.length
 ow:W.ownsRow Wb.heap.size 49 5 (.slice p n q) n (fl EK s)
 tg:∀k,(Value.slice p n q).ownBlock=some k->t k=4
 nd:(s.map Prod.fst).Nodup
section
variable {Wb W W':World} {tB t:Nat->Nat} {g:Df.bD} {R:Nat->Nat->List ah} {rb rc:Nat} {m2 m3:List Th} {F2:Nat->List ah} {U2:List Th} {s:List Ck} {p:Option Addr} {n q:Nat}
theorem Os.below(h:Os Wb tB g R rb rc m2 m3 F2 U2 s p n q W t)(hk:Gk g R)(hb:Below W.heap.size W W')(j:Nat):Os Wb tB g R rb rc m2 m3 F2 U2 s p n q W' (Rc.tg t W j):=by
 obtain⟨F3,U3,hc⟩:=h.c;have h0:=h.kp.size;exact⟨h.kp.trans (Kp.of_below (S:=fun _=>False) hb) fun _ _ e=>e.elim,fun k hk=>by rw[aj (by omega)];exact h.old k hk,h.b.below hk hb fun k hk=>aj hk,⟨F3,U3,hc.below hk hb fun k hk=>aj hk⟩,h.nl,ag h.ow hb,fun k e=>by rw[aj (h.ow.lt k e).2];exact h.tg k e,h.nd⟩
theorem Os.chB{m:List Th}(h:Os Wb tB g R rb rc m2 m3 F2 U2 s p n q W t)(hk:Gk g R)(hc:ChI 2 W t rb g R m F2 W'):∃F' t',Os Wb tB g R rb rc m m3 F' (nV (aO g.nodes) F2 F') s p n q W' t'/\Kp (gW 2 t) W W':=by
 obtain⟨t',F',a1,a2,a3⟩:=hc;obtain⟨F3,U3,h3⟩:=h.c;have h0:=h.kp.size;refine⟨F',t',⟨h.kp.trans a2 fun k hk e=> ?_,fun k hk=>by rw[a1 k (by omega)];exact h.old k hk,a3,⟨F3,U3,h3.keep hk a2 (by decide) a1⟩,h.nl,ax a2 h.ow fun k e e2=> ?_,fun k e=>by rw[a1 k (h.ow.lt k e).2];exact h.tg k e,h.nd⟩,a2⟩
 ·unfold gW at e⊢;rw[<-h.old k hk];exact .inl e
 ·have:=h.tg k e;unfold gW at e2;omega
theorem Os.chC{m:List Th}{F3:Nat->List ah}(h:Os Wb tB g R rb rc m2 m3 F2 U2 s p n q W t)(hk:Gk g R)(hc:ChI 3 W t rc g R m F3 W'):∃t',Os Wb tB g R rb rc m2 m F2 U2 s p n q W' t'/\Kp (gW 3 t) W W':=by
 obtain⟨t',F',a1,a2,a3⟩:=hc;have h0:=h.kp.size;refine⟨t',⟨h.kp.trans a2 fun k hk e=> ?_,fun k hk=>by rw[a1 k (by omega)];exact h.old k hk,h.b.keep hk a2 (by decide) a1,⟨F',_,a3⟩,h.nl,ax a2 h.ow fun k e e2=> ?_,fun k e=>by rw[a1 k (h.ow.lt k e).2];exact h.tg k e,h.nd⟩,a2⟩
 ·unfold gW at e⊢;rw[<-h.old k hk];exact .inr e
 ·have:=h.tg k e;unfold gW at e2;omega
theorem Os.plus{x:Ck}{p':Option Addr}{n' q':Nat}(h:Os Wb tB g R rb rc m2 m3 F2 U2 s p n q W t)(hk:Gk g R)(hp:TD W Wb.heap.size (.slice p n q) x s p' n' q' W'):Os Wb tB g R rb rc m2 m3 F2 U2 (uW x s) p' n' q' W' (Rc.tg t W 4)/\Kp (fun k=>(Value.slice p n q).ownBlock=some k) W W':=by
 obtain⟨F3,U3,h3⟩:=h.c;obtain⟨a1,a2,a3,a4⟩:=hp;have h0:=h.kp.size;have no:∀(i:Nat) (k:Nat),1<=i->k<W.heap.size->(Value.slice p n q).ownBlock=some k->t k≠0/\¬gW i t k:=fun i k hi _ e=>by
  have:=h.tg k e;unfold gW;omega
 refine⟨⟨h.kp.trans a3 fun k hk e=>absurd (h.ow.lt k e).1 (by omega),fun k hk=>by rw[aj (by omega)];exact h.old k hk,h.b.Ug hk a3 (no 2 · (by decide)) fun k hk=>aj hk,⟨F3,U3,h3.Ug hk a3 (no 3 · (by decide)) fun k hk=>aj hk⟩,a1,a2,fun k e=> ?_,J3 x h.nd⟩,a3⟩;rcases a4 k e with e|e
 ·rw[aj (h.ow.lt k e).2];exact h.tg k e
 ·exact aR e
theorem Os.goB(h:Os Wb tB g R rb rc m2 m3 F2 U2 s p n q W t)(hk:Gk g R)(hm:Qp m2){x:Th}(hx:qh g x)(hv:Ls EC W v [x])(hl:m2.length+1<=200):
    Calls Tryz.prog 10 #[.pointer (some ⟨rb,0,none⟩),v] W fun e w'=>e= .returned (.int .i64 0)/\Hid (∃F' t',Os Wb tB g R rb rc (m2++[x]) m3 F' (nV (aO g.nodes) F2 F') s p n q w' t'):=by
 refine(h.b.change hk hm [x] v hv (fun y hy=>by rw[vF.1 hy];exact hx) hl).mono ?_;rintro e w' ⟨rfl,hc⟩;obtain⟨F',t',h1,_⟩:=h.chB hk hc.o;exact⟨rfl,F',t',h1⟩
theorem Os.goC(h:Os Wb tB g R rb rc m2 m3 F2 U2 s p n q W t)(hk:Gk g R)(hm:Qp m3){x:Th}(hx:qh g x)(hv:Ls EC W v [x])(hl:m3.length+1<=200):
    Calls Tryz.prog 10 #[.pointer (some ⟨rc,0,none⟩),v] W fun e w'=>e= .returned (.int .i64 0)/\Hid (∃t',Os Wb tB g R rb rc m2 (m3++[x]) F2 U2 s p n q w' t'):=by
 obtain⟨F3,U3,h3⟩:=h.c;refine(h3.change hk hm [x] v hv (fun y hy=>by rw[vF.1 hy];exact hx) hl).mono ?_;rintro e w' ⟨rfl,hc⟩;obtain⟨t',h1,_⟩:=h.chC hk hc.o;exact⟨rfl,t',h1⟩
theorem Os.len(h:Os Wb tB g R rb rc m2 m3 F2 U2 s p n q W t)(hk:Gk g R)(z:Nat)(hz:z<aO g.nodes):(F2 z).Nodup/\(F2 z).length<=64*m2.length:=⟨h.b.nodup hz,h.b.len hk hz⟩
end
theorem XR(l:List Th):cI l.reverse=cI l:=by
 induction l with
 | nil => rfl
 | cons x l ih=>
  rw[List.reverse_cons,sU,ih,show x::l=[x]++l from rfl,sU]
  funext p t
  omega
theorem Rt(a b:List Th):zf (a++b)=zf a++zf b:=zV
theorem LH{κ:Type}[DecidableEq κ]{l:List (κ×Int)}(h:∀x∈l,x.2= -1\/x.2=1)(k:κ): -(l.length:Int)<=eP l k/\eP l k<=l.length:=by
 induction l with
 | nil => rw[jl];simp
 | cons x l ih=>
  have h1:=ih fun y hy=>h y (mO _ hy);have h2:=h x (by simp);rw[ek,lC];split<;>omega
end Rc
end Go.Proofs.YteekbpokkjjipaaGreat
