import Derived.Test.YtiiefcalkjeieaaGreatJ16
variable{ls:List (List Int)}{B n q M gb m j i k:Nat}{l:List Int}{w:Go.World}{vs:List Nat}
set_option maxHeartbeats 4000000
set_option maxRecDepth 100000
namespace Go.Proofs.YtiiefcalkjeieaaGreat
namespace Df
open Go.RowKit Go.Sort
attribute[local go_sem ↓]wp_at_zero wp_at_succ
theorem Kn(k i o:Int)(cq:Option Addr)(cm cc:Nat)(via:nY)(bd:Nat)(dq:Option Addr)(dm dc:Nat)(st:Bool)(w:World):Calls Tryz.prog 239 #[.agg (aN k i o (.slice cq cm cc) via bd (.slice dq dm dc) st)] w (Cp EC 205 w [⟨0,0,via⟩]):=by
 have h:=World.ownsRow_lit (base:=w.heap.size) (size:=5) (e:=205) (w.alloc (.cells (aN k i o (.slice cq cm cc) via bd (.slice dq dm dc) st) 149)) #[.int .i64 0, .int .i64 0, .int .u64 (via.1:Nat), .int .u64 (via.2.1:Nat), .int .u64 (via.2.2:Nat)] 1 (by simp) (by decide) rfl;have H:=hid h;clear h;go_enter Tryz.func239,Tryz.ntmps239;go_wp2_with fail;go_ret;refine⟨_,rfl,(((Gr.refl w).alloc _).alloc _).below, ?_⟩;have h:=H.o;rw[World.size_alloc]at h;exact h
theorem GQ(k i o:Int)(cq:Option Addr)(cm cc:Nat)(via:nY)(bd:Nat)(dq:Option Addr)(dm dc:Nat)(st:Bool)(l:List dL)(w:World)(hL:Lz EC M w (.slice dq dm dc) l)(hb:l.length*40<=140737488351232):Calls Tryz.prog 242 #[.agg (aN k i o (.slice cq cm cc) via bd (.slice dq dm dc) st)] w (Cp EC 205 w l):=by
 have B0:=hid ((Gr.refl w).alloc (.cells (aN k i o (.slice cq cm cc) via bd (.slice dq dm dc) st) 149)).below;have hc:=Aj (w.alloc (.cells (aN k i o (.slice cq cm cc) via bd (.slice dq dm dc) st) 149)) (hL.below B0.o) hb;clear hL;go_enter Tryz.func242,Tryz.ntmps242;go_wp2_with fail;refine hc.mono ?_;rintro r w1 ⟨d,rfl,b1,o1⟩;have H:Hid (Below w.heap.size w w1/\w1.ownsRow w.heap.size 205 5 d l.length (fl EC l)):=⟨B0.o.trans (b1.mono B0.o.size),aL o1 B0.o.size⟩;clear b1 o1;go_wp2_with fail;go_ret;exact⟨_,rfl,H.o⟩
def fQ(n:dx):List dL:=if n.kind=5 then[⟨0,0,n.via⟩]else if n.kind=8 then n.bT else kQ n.outs.toNat n.ins.toNat
def dh(ns:List dx)(i:Int):List dL:=match jv ns i with|some n=>fQ n|none=>[]
theorem PW{g:bD}{nv ev fv pv:Value}{ys:List NV}{ss:List SV}{y:NV}{F1 F2 fw ff fc:Nat}{pI pO:Bool}{l:List dL}(w:World)(h:Gp B w gb g nv ev fv pv ys ss)(hy:ys[j]? =some y)
    (hK:∀W,Calls Tryz.prog 173 #[.int .i64 y.n.kind] W (Ks F1 F2 fw ff fc y.n.ins y.n.outs pI pO W)) (e5:∀args w,(callFunc fc args).run Tryz.prog w= .ok (.enter fc args) w)
    (hC:∀W,Below w.heap.size w W->Calls Tryz.prog fc #[.agg y.cells] W (Cp EC 205 W l)):Calls Tryz.prog 121 #[.pointer (some ⟨gb,0,none⟩), .int .i64 (j:Nat)] w (Cp EC 205 w l):=by
 have hn:=fun W (hb:Below w.heap.size w W)=>jy W ⟨nv,ev,fv,pv,ys,ss,h.below hb⟩;have hjl:=(lG.1 hy).1;have hyl:ys.length=g.nodes.length:=by rw[<-h.KD,gK]
 have ha:=fun W=>fO (j:Int) (g.nodes.length:Nat) W;have hd:decide (0<=(j:Int)/\(j:Int)<((g.nodes.length:Nat):Int))=true:=by simp;omega
 rw[hd]at ha;have hn0:=hn w (Below.refl _ _);have cg:=(aa h.rows.blk).1;have lg:=ae h.rows.blk;obtain⟨b1,o1,c1,e1,z1,x0,x1,x2,x3,x4,x5,x6,x7,x8,x9⟩:=jY (aH (E:=EV) h.raw.nodes) hy;subst e1;generalize ys.length=nl at hjl hyl cg;have hjz:(j:Int)<(nl:Int):=by omega
 have hj0:(0:Int)<=(j:Int):=by omega
 generalize g.nodes.length=gl at hn0 ha;obtain⟨yb,hyb⟩:=aC (w.heap.size);obtain⟨W5,bU⟩:=aC (w.alloc (.cells y.cells 149));have P5:Hid (Below w.heap.size w W5/\W5.heap[yb]? =some (.cells y.cells 149 (0,0))):=by
  rw[bU,hyb];exact⟨((Gr.refl w).alloc _).below,ah _ _⟩
 have gZ:Hid (w.alloc (.cells #[.int .i64 y.n.kind, .int .i64 y.n.ins, .int .i64 y.n.outs, .slice y.cq y.cm y.cc, .int .u64 (y.n.via.1:Nat), .int .u64 (y.n.via.2.1:Nat), .int .u64 (y.n.via.2.2:Nat), .int .u64 (y.n.bound:Nat), .slice y.dq y.dm y.dc, .bool y.n.start] 149)=W5/\w.heap.size=yb):=⟨bU.symm,hyb.symm⟩;clear h hy hd hn hyb bU;go_enter Tryz.func121,Tryz.ntmps121;go_wp2_with fail;refine hn0.mono ?_;rintro r w1 ⟨rfl,rfl⟩;go_wp2_with fail;refine(ha _).mono ?_;rintro r w1 ⟨rfl,rfl⟩;go_upto_region 4 with fail;rw[gZ.o.1,gZ.o.2];have cy:=(aa P5.o.2).1;have ly:=ae P5.o.2;clear gZ x0 x1 x2 x3 x4 x5 x6 x7 x8 x9 cg lg z1 hn0 ha;go_wp2_with fail;refine(hK _).mono ?_;rintro r w2 ⟨b1,b2,rfl,b,-,-⟩;have B2:=hid (P5.o.1.trans (b.mono P5.o.1.size));have N2:=hid ((b.block _ ly).trans P5.o.2);obtain⟨kb,hkb⟩:=aC (w2.heap.size);obtain⟨W3,hW3⟩:=aC (w2.alloc (.cells #[JJ F1 b1,JJ F2 b2,yR fw,yR ff,yR fc] 275));have P3:Hid (Below w1.heap.size w1 W3/\W3.heap[yb]? =some (.cells y.cells 149 (0,0))/\W3.heap[kb]? =some (.cells #[JJ F1 b1,JJ F2 b2,yR fw,yR ff,yR fc] 275 (0,0))):=by
  have g3:=((Gr.refl w2).alloc (.cells #[JJ F1 b1,JJ F2 b2,yR fw,yR ff,yR fc] 275)).below;rw[hW3,hkb];exact⟨B2.o.trans (g3.mono B2.o.size),(g3.block _ (ae N2.o)).trans N2.o,ah _ _⟩
 have HW3:Hid (w2.alloc (.cells #[.func (.func F1) #[] #[.pointer (some ⟨b1,0,none⟩)], .func (.func F2) #[] #[.pointer (some ⟨b2,0,none⟩)], .func (.func fw) #[] #[], .func (.func ff) #[] #[], .func (.func fc) #[] #[]] 275)=W3/\w2.heap.size=kb):=⟨hW3.symm,hkb.symm⟩;clear cy ly b hK hW3 hkb;go_upto_region 5 with fail;rw[HW3.o.1,HW3.o.2];have c3:=(aa P3.o.2.1).1;have l3:=ae P3.o.2.1;have k3:=(aa P3.o.2.2).1;have m3:=ae P3.o.2.2;have q3:=hC W3 P3.o.1;clear HW3 hC;go_wp2_with fail;refine q3.mono ?_;rintro r w4 ⟨d,rfl,b4,o4⟩;have FIN:=hid (And.intro (P3.o.1.trans (b4.mono P3.o.1.size)) (aL o4 P3.o.1.size));clear b4 o4 q3 c3 l3 k3 m3;go_wp2_with fail;go_ret;exact⟨_,rfl,FIN.o⟩
theorem Ir{g:bD}(i:Int)(w:World)(h:Gm B w gb g)(hi:jv g.nodes i=none):Calls Tryz.prog 121 #[.pointer (some ⟨gb,0,none⟩), .int .i64 i] w (Cp EC 205 w []):=by
 have hn:=jy w h;have ha:=fun W=>fO i (g.nodes.length:Nat) W;have hd:decide (0<=i/\i<((g.nodes.length:Nat):Int))=false:=by
  rw[decide_eq_false_iff_not];intro h2;unfold jv at hi;rw[if_pos h2.1,List.getElem?_eq_none_iff]at hi;omega
 rw[hd]at ha;generalize g.nodes.length=gl at hn ha;clear h hi hd;go_enter Tryz.func121,Tryz.ntmps121;go_wp2_with fail;refine hn.mono ?_;rintro r w1 ⟨rfl,rfl⟩;go_wp2_with fail;refine(ha _).mono ?_;rintro r w1 ⟨rfl,rfl⟩;go_wp2_with fail;go_ret;exact⟨_,rfl,Below.refl _ _,oN _ _ _ _⟩
theorem GK{a:Int}{n:dx}(h:eH a n=0):1<=n.kind/\n.kind<=8:=by
 unfold eH at h;split at h
 ·cases h
 ·omega
theorem qp{g:bD}(i:Int)(w:World)(hm:Gm B w gb g):Calls Tryz.prog 121 #[.pointer (some ⟨gb,0,none⟩), .int .i64 i] w (Cp EC 205 w (dh g.nodes i)):=by
 cases e:jv g.nodes i with
 | none => unfold dh;rw[e];exact Ir i w hm e
 | some n=>
  unfold dh;rw[e];obtain⟨nv,ev,fv,pv,ys,ss,h⟩:=hm;have hi0:0<=i:=by
   unfold jv at e;by_cases h0:0<=i
   ·exact h0
   ·rw[if_neg h0]at e;cases e
  obtain⟨j,rfl⟩:∃j:Nat,i=(j:Int):=⟨i.toNat,by omega⟩;have hj:g.nodes[j]? =some n:=by
   unfold jv at e;rw[if_pos hi0,tN]at e;exact e
  rw[<-h.KD]at hj;obtain⟨y,hy,rfl⟩:=NN hj;have hym:y.n∈g.nodes:=by rw[<-h.KD];exact List.mem_map_of_mem (lM hy)
  obtain⟨q,hq,hqy⟩:=List.mem_iff_getElem.1 hym;have hfl:eH g.arity y.n=0:=h.ok.ng q _ hq (by rw[<-hqy];simp);have hkd:=GK hfl;have hpt:=jQ hfl;have hls:=nC hfl;have hown:=h.raw.each y (lM hy);have ea:=enters_of (P:=Tryz.prog) Tryz.func233 (by kernel_rfl) rfl;have er:=enters_of (P:=Tryz.prog) Tryz.func239 (by kernel_rfl) rfl;have el:=enters_of (P:=Tryz.prog) Tryz.func242 (by kernel_rfl) rfl;have Ee:=fun(fw ff fc:Nat) (uI uO:Bool) (i0 o0:Int) (l:List dL) (hk:∀W,Calls Tryz.prog 173 #[.int .i64 y.n.kind] W (Kd W uI i0 uO o0 fw ff fc)) e5 hC=>PW (fw:=fw) (ff:=ff) (fc:=fc) (l:=l) w h hy (fun W=>(hk W).mono fun _ _ h=>rf h) e5 hC;have hac:y.n.kind≠5->y.n.kind≠8->∀W,Below w.heap.size w W->Calls Tryz.prog 233 #[.agg y.cells] W (Cp EC 205 W (fQ y.n)):=fun h5 h8 W _=>by
   unfold fQ;rw[if_neg h5,if_neg h8];have hc:=IJ y.n.kind y.n.ins.toNat y.n.outs.toNat y.cq y.cm y.cc y.n.via y.n.bound y.dq y.dm y.dc y.n.start (by omega) (by omega) W;rw[show((y.n.ins.toNat:Nat):Int)=y.n.ins by omega,show((y.n.outs.toNat:Nat):Int)=y.n.outs by omega]at hc;exact hc
  have hro:y.n.kind=5->∀W,Below w.heap.size w W->Calls Tryz.prog 239 #[.agg y.cells] W (Cp EC 205 W (fQ y.n)):=fun h5 W _=>by
   unfold fQ;rw[if_pos h5];exact Kn y.n.kind y.n.ins y.n.outs y.cq y.cm y.cc y.n.via y.n.bound y.dq y.dm y.dc y.n.start W
  have Fz:y.n.kind=8->∀W,Below w.heap.size w W->Calls Tryz.prog 242 #[.agg y.cells] W (Cp EC 205 W (fQ y.n)):=fun h8 W hb=>by
   unfold fQ;rw[if_neg (by omega),if_pos h8];exact GQ y.n.kind y.n.ins y.n.outs y.cq y.cm y.cc y.n.via y.n.bound y.dq y.dm y.dc y.n.start y.n.bT W (iZ (E:=EC) (ag hown.2 hb)) (by omega)
  have KM:y.n.kind=1\/y.n.kind=2\/y.n.kind=3\/y.n.kind=4\/y.n.kind=5\/y.n.kind=6\/y.n.kind=7\/y.n.kind=8:=by omega
  rcases KM with hk|hk|hk|hk|hk|hk|hk|hk
  ·exact Ee _ _ _ _ _ _ _ _ (by rw[hk];exact zW) ea (hac (by omega) (by omega))
  ·exact Ee _ _ _ _ _ _ _ _ (by rw[hk];exact zV) ea (hac (by omega) (by omega))
  ·exact Ee _ _ _ _ _ _ _ _ (by rw[hk];exact zU) ea (hac (by omega) (by omega))
  ·exact Ee _ _ _ _ _ _ _ _ (by rw[hk];exact zT) ea (hac (by omega) (by omega))
  ·exact Ee _ _ _ _ _ _ _ _ (by rw[hk];exact zS) er (hro hk)
  ·exact Ee _ _ _ _ _ _ _ _ (by rw[hk];exact zR) ea (hac (by omega) (by omega))
  ·exact Ee _ _ _ _ _ _ _ _ (by rw[hk];exact zQ) ea (hac (by omega) (by omega))
  ·exact Ee _ _ _ _ _ _ _ _ (by rw[hk];exact zP) el (Fz hk)
theorem GX{v:Value}(x:Int)(w:World)(hL:Lz EI M w v l)(hl:l.length<=140737488351232):Calls Tryz.prog 180 #[v, .int .i64 x] w fun r w'=>w'=w/\((∃k:Nat,r= .returned (.int .i64 (k:Nat))/\l[k]? =some x/\∀j,j<k->l[j]?≠some x)\/(r= .returned (.int .i64 (-1))/\x∉l)):=by
 obtain⟨p,c,rfl⟩:=hL.form;have HL:=hid hL;clear hL;go_enter Tryz.func180,Tryz.ntmps180;go_wp2_with fail;go_loopw [8] (fun s8 wr=>∃i:Nat,i<=l.length/\s8= .int .i64 (i:Nat)/\wr=w/\Hid (∀j,j<i->l[j]?≠some x)) (fun s8 _=>l.length-(intOf s8).toNat);case atStart=>exact⟨0,zL _,rfl,rfl,fun j hj=>absurd hj (nW _)⟩
 case round=>
  obtain⟨i,hi,rfl,hw,HI⟩:=hrel;subst hw;by_cases hlt:i<l.length
  ·have hltz:(i:Int)<(l.length:Int):=(by omega);have hi0:(0:Int)<=(i:Int):=(by omega);obtain⟨y,hy⟩:∃y,l[i]? =some y:=⟨l[i],by simp⟩;obtain⟨b1,o1,c1,e1,z1,x0⟩:=xw (HL.o.ls hy) hy;simp only[vS]at e1;obtain⟨rfl,-,rfl⟩:=e1;have HY:=hid hy;clear hy;by_cases hxy:x=y
   ·subst hxy;go_wp2_with fail;go_ret;exact⟨rfl,Or.inl ⟨i,rfl,HY.o,HI.o⟩⟩
   ·have hz:(x==y)=false:=(by simpa using hxy);have FIN:Hid (∀j,j<i+1->l[j]?≠some x):=fun j hj h=>by
     by_cases e:j=i
     ·subst e;rw[HY.o]at h;exact hxy (oJ h).symm
     ·exact HI.o j (by omega) h
    go_wp2_with fail;go_roundw;case rel=>exact⟨i+1,by omega,by go_num,trivial,FIN.o⟩
    case measure=>simp[intOf];omega
  ·have hltz:¬(i:Int)<(l.length:Int):=(by omega);go_wp2_with fail;go_ret;refine⟨rfl,Or.inr ⟨rfl,fun hm=> ?_⟩⟩;obtain⟨j,hj⟩:=iG.1 hm;exact HI.o j (by have:=(lG.1 hj).1;omega) hj
end Df
namespace Df
open Go.RowKit Go.Sort
structure LV where
 q:Option Addr
 m:Nat
 c:Nat
abbrev LV.v(x:LV):Value:= .slice x.q x.m x.c
def EL:El LV where
 k:=1
 enc x:=[x.v]
 len _:=rfl
 one x u hu:=by
  simp at hu;subst hu;rfl
theorem qh{v:Value}{ts:List LV}(h:Ls EL w v ts){x:LV}(hj:ts[j]? =some x):∃b off c,v= .slice (some ⟨b,off,none⟩) ts.length c/\b<w.heap.size/\w.cell? ⟨b,off+j,none⟩=some x.v:=by
 obtain⟨b,off,c,hv,hb,hc⟩:=h.get hj;have h0:=hc 0 _ (by decide) rfl;simp only[show EL.k=1 from rfl,Nat.mul_one,nO]at h0;exact⟨b,off,c,hv,hb,h0⟩
def Ff(M:Nat)(w:World)(v:Value)(ls:List (List Int)):Prop:=∃vs:List LV,Lz EL M w v vs/\vs.length=ls.length/\∀(i:Nat) (x:LV) (l:List Int),vs[i]? =some x->ls[i]? =some l->Lz EI M w x.v l
section
variable {M:Nat} {w w':World} {v:Value} {ls:List (List Int)}
theorem Ff.form(h:Ff M w v ls):∃p c,v= .slice p ls.length c:=by
 obtain⟨vs,h1,h2,_⟩:=h;rw[<-h2];exact h1.form
theorem Ff.at(h:Ff M w v ls)(hl:ls[i]? =some l):∃b off c q c2,v= .slice (some ⟨b,off,none⟩) ls.length c/\b<w.heap.size/\w.cell? ⟨b,off+i,none⟩=some (.slice q l.length c2)/\Lz EI M w (.slice q l.length c2) l:=by
 obtain⟨vs,h1,h2,h3⟩:=h;have hi:=(lG.1 hl).1;obtain⟨x,hx⟩:∃x,vs[i]? =some x:=⟨vs[i]'(by omega),by simp⟩;have hz:=h3 i x l hx hl;obtain⟨b,off,c,hv,hb,hc⟩:=qh (h1.ls hx) hx;obtain⟨q,c2,hq⟩:=hz.form;rw[hq]at hc hz;exact⟨b,off,c,q,c2,by rw[hv,h2],hb,hc,hz⟩
end
def iJ(ls:List (List Int))(x:Int):Nat:=(ls.map fun l=>l.count x).sum
theorem EU(a b:List (List Int))(x:Int):iJ (a++b) x=iJ a x+iJ b x:=by simp[iJ]
def FC(n:Nat)(f:Nat->Int):List Int:=(List.range n).map f
theorem jd(n:Nat)(f:Nat->Int):(FC n f).length=n:=by simp[FC]
theorem jT(f:Nat->Int)(h:k<n):(FC n f)[k]? =some (f k):=by simp[FC,h]
def upd(f:Nat->Int)(k:Nat)(x:Int):Nat->Int:=fun j=>if j=k then x else f j
theorem TE(n:Nat)(f:Nat->Int)(k:Nat)(x:Int):(FC n f).set k x=FC n (upd f k x):=by
 refine List.ext_getElem? fun j=> ?_;rw[List.getElem?_set];by_cases hj:j<n
 ·by_cases e:k=j
  ·subst e;rw[if_pos rfl,if_pos (by rw[jd];exact hj),jT _ hj];simp[upd]
  ·rw[if_neg e,jT _ hj,jT _ hj];have:¬j=k:=fun h=>e h.symm;simp[upd,this]
 ·have h2:(FC n (upd f k x))[j]? =none:=lQ (by rw[jd];omega);rw[h2];split
  ·rw[if_neg (by rw[jd];omega)]
  ·exact lQ (by rw[jd];omega)
theorem TF{f g:Nat->Int}(h:∀k,k<n->f k=g k):FC n f=FC n g:=by
 unfold FC;exact List.map_congr_left fun k hk=>h k (mR.1 hk)
theorem Pz(n:Nat):List.replicate n (0:Int)=FC n (fun _=>0):=by
 refine List.ext_getElem? fun j=> ?_;by_cases hj:j<n
 ·rw[jT _ hj];simp[hj]
 ·rw[lQ (by simp;omega),lQ (by rw[jd];omega)]
def vM(n:Nat)(f:Nat->Int):Option Nat:=(List.range n).find? fun k=>f k==0
def tZ(ls:List (List Int))(f:Nat->Int)(p:Nat):Nat->Int:=fun k=>(if k=p then -1 else f k)-(((ls[p]?).getD []).count (k:Int):Nat)
def eQ(n:Nat)(ls:List (List Int)):Nat->Option (List Int×(Nat->Int))
 | 0 => some ([],fun k=>(iJ ls (k:Int):Nat))
 | t + 1 => match eQ n ls t with
  | none => none
  | some (o, f) => match vM n f with
   | none => none
   | some p => some (o++[(p:Int)],tZ ls f p)
theorem PH(l:List Int):fl EI l=l.map (Value.int .i64):=by
 induction l with
 | nil => rfl
 | cons x l ih => rw[aO,ih];rfl
theorem TH(S:List Int)(e:Nat)(x:Int):(fl EI S).set e (.int .i64 x)=fl EI (S.set e x):=by rw[PH,PH,List.map_set]
theorem TZ(h:∀l∈ls,l.length<=m)(x:Int):iJ ls x<=ls.length*m:=by
 induction ls with
 | nil => simp[iJ]
 | cons l ls ih=>
  have h1:=ih fun l hl=>h l (by simp[hl]);have h2:=h l (by simp);have h3:l.count x<=l.length:=List.count_le_length;have h4:iJ (l::ls) x=l.count x+iJ ls x:=by simp[iJ]
  rw[h4,lC,Nat.add_mul,Nat.one_mul];omega
theorem xU{x:Int}(hx:l[k]? =some x)(y:Int):(l.take (k+1)).count y=(l.take k).count y+if x=y then 1 else 0:=by
 rw[tO,hx,List.count_append];simp[List.count_singleton]
theorem Lj(hl:ls[i]? =some l)(y:Int):iJ (ls.take (i+1)) y=iJ (ls.take i) y+l.count y:=by
 rw[tO,hl,EU];simp[iJ]
structure Wt(w:World)(n g:Nat)(f:Nat->Int)(W:World):Prop where
 bl:Below w.heap.size w W
 row:W.ownsRow w.heap.size 3 1 (.slice (some ⟨g,0,none⟩) n n) n (fl EI (FC n f))
section
variable {w W W':World} {n g:Nat} {f:Nat->Int}
theorem Wt.set(h:Wt w n g f W)(k:Nat)(x:Int):Wt w n g (upd f k x) (W.setCell ⟨g,k,none⟩ (.int .i64 x))/\Kp (fun j=>j=g) W (W.setCell ⟨g,k,none⟩ (.int .i64 x)):=by
 obtain⟨h1,h2⟩:=jr h.row k (.int .i64 x);rw[TH,TE]at h1;exact⟨⟨h.bl.trans (h2.below h.bl.size (fun j e=>by rw[e];exact(aK h.row g rfl).1)),h1⟩,h2⟩
theorem Wt.cell(h:Wt w n g f W){k:Nat}(hk:k<n):W.cell? ⟨g,k,none⟩=some (.int .i64 (f k))/\g<W.heap.size:=by
 have hr:W.ownsRow w.heap.size 3 1 (.slice (some ⟨g,0,none⟩) n n) (FC n f).length (fl EI (FC n f)):=aS h.row (jd n f).symm rfl;obtain⟨b,o,c,hv,hb,hx⟩:=(aH (E:=EI) hr).get (jT f hk);simp only[vS,oI,aI]at hv;obtain⟨⟨rfl,rfl,-⟩,-,-⟩:=hv;have h0:=hx 0 _ (by decide) rfl;simp only[nZ,show EI.k=1 from rfl,Nat.mul_one,nO]at h0;exact⟨h0,hb⟩
theorem Wt.re{f':Nat->Int}(h:Wt w n g f W)(hf:∀k,k<n->f k=f' k):Wt w n g f' W:=⟨h.bl,by rw[<-TF hf];exact h.row⟩
end
attribute[local go_sem ↓]wp_at_zero wp_at_succ
theorem OH:(Tryz.prog.info? 3).map (fun i=>(i.zero,i.size,i.bytes))=some (some (.int .i64 0),1,8):=by kernel_rfl
theorem ZQ(n:Nat):(madeCells (Value.int .i64 0).cells (n*1)).toList=(List.replicate n (0:Int)).map (Value.int .i64):=by
 rw[Nat.mul_one];exact(toList_madeCells_one _ n).trans (by simp)
theorem Bo{e:TypeId}{size g:Nat}{c:Nat}{xs:List Value}(h:w.ownsRow B e size (.slice (some ⟨g,0,none⟩) m c) n xs):∀j,w.frozen? ⟨g,j,none⟩=false:=by
 rcases h.2 with⟨h0,_⟩|⟨g',cap,cur,hv,_,hh,_⟩
 ·cases h0
 ·simp only[vS,oI,aI]at hv;obtain⟨⟨rfl,-,-⟩,-,rfl⟩:=hv;exact(aa hh).2
def Od(w:World)(n:Nat)(ls:List (List Int))(r:Ending)(w':World):Prop:=Below w.heap.size w w'/\((eQ n ls n=none/\r= .returned (.tuple #[.slice none 0 0, .int .i64 27]))\/∃o f d,eQ n ls n=some (o,f)/\r= .returned (.tuple #[d, .int .i64 0])/\w'.ownsRow w.heap.size 3 1 d o.length (fl EI o))
theorem Kz{t:Nat}(h:t<=m)(ht:eQ n ls t=none):eQ n ls m=none:=by
 induction m with
 | zero=>
  obtain rfl:t=0:=by omega
  exact ht
 | succ m ih=>
  by_cases e:t=m+1
  ·subst e;exact ht
  ·rw[eQ,ih (by omega)]
def Os(w:World)(n g:Nat)(ls:List (List Int))(t:Nat)(vo:Value)(W:World):Prop:=∃o f,eQ n ls t=some (o,f)/\Wt w n g f W/\W.ownsRow w.heap.size 3 1 vo o.length (fl EI o)/\(∀k,vo.ownBlock=some k->k≠g)/\o.length=t/\∀k,-1000000-1001*(t:Int)<=f k/\f k<=1000000
theorem DD{v:Value}(w:World)(hF:Ff M w v ls)(hn:ls.length<=1000)(hx:∀l∈ls,l.length<=1000/\∀x∈l,0<=x/\x<(ls.length:Int)):Calls Tryz.prog 117 #[v] w (Od w ls.length ls):=by
 have hmx:Tryz.prog.follows .mixedOrders=true:=by kernel_rfl
 obtain⟨p,c,rfl⟩:=hF.form;have HF:=hid hF;have HX:=hid hx;obtain⟨n,hnn⟩:=aC (ls.length);rw[<-hnn]at hn⊢;have HN:=hid hnn;have YG:Hid (∀(i:Nat) (y:Int),iJ (ls.take i) y<=1000000):=fun i y=>by
  have h:=TZ (ls:=ls.take i) (m:=1000) (fun l hl=>(hx l (List.mem_of_mem_take hl)).1) y;have h2:(ls.take i).length<=1000:=by rw[lK];omega
  have:=nM 1000 h2;omega
 clear hF hx hnn;obtain⟨i0,hi0,hz0,hz1,hz2⟩:=info_parts OH;go_enter Tryz.func117,Tryz.ntmps117;go_upto_region 2 with(at_make;refine wpList_make_full _ rfl _ _ 97 rfl w.heap.size 3 i0 (.int .i64 0) 1 Tryz.underlying97 hi0 hz0 hz1 _ _ _ _ n rfl rfl rfl rfl (by rw[hz2];omega) (by unfold maxLen;omega) (nR _) ?_;intro w1 hrow hg1);obtain⟨g,hg⟩:=aC (w.heap.size);rw[<-hg];have W1:Hid (Wt w n g (fun k=>(iJ (ls.take 0) (k:Int):Nat)) w1):=by
  refine⟨(Kp.grownBy (S:=fun _=>False) hg1 (fun _ h=>by cases h)).below (nR _) (fun _ h=>h.elim), ?_⟩;rw[hg];refine aS hrow rfl ?_;rw[ZQ,Pz,PH];simp[iJ]
 clear hrow hg1 hg hi0 hz0 hz1 hz2;go_wp2_with fail;go_loopw [18] (fun VY wr=>∃i:Nat,i<=n/\VY= .int .i64 (i:Nat)/\Hid (Wt w n g (fun k=>(iJ (ls.take i) (k:Int):Nat)) wr)) (fun VY _=>n-(intOf VY).toNat);case atStart=>exact⟨0,zL _,rfl,W1.o⟩
 case round=>
  clear W1;obtain⟨i,hi,rfl,HI⟩:=hrel;by_cases hlt:i<n
  ·have hltz:(i:Int)<(n:Int):=(by omega);have hi1:(0:Int)<=(i:Int):=(by omega);obtain⟨l,hl⟩:∃l,ls[i]? =some l:=⟨ls[i]'(by have:=HN.o;omega),by simp⟩;obtain⟨b,off,c1,q,c2,e1,z0,x0,hz⟩:=HF.o.at hl;have x1:=(HI.o.bl.cell (p:=⟨b,off+i,none⟩) z0).trans x0;have z1:=nL z0 HI.o.bl.size;simp only[vS]at e1;obtain⟨rfl,-,rfl⟩:=e1;have HL:Hid (ls[i]? =some l/\l.length<=1000/\∀x∈l,0<=x/\x<(n:Int)):=⟨hl,(HX.o l (lM hl)).1,by have h:=(HX.o l (lM hl)).2;rw[<-HN.o]at h;exact h⟩;have HZ:=hid (fun(W:World) (hb:Below w.heap.size w W)=>hz.below hb);have hll:=HL.o.2.1;clear hz hl z0 x0;go_wp2_with fail;clear x1 z1;go_loopw [24] (fun s24 wr=>∃k:Nat,k<=l.length/\s24= .int .i64 (k:Nat)/\Hid (Wt w n g (fun y=>(iJ (ls.take i) (y:Int)+(l.take k).count (y:Int):Nat)) wr)) (fun s24 _=>l.length-(intOf s24).toNat);case atStart=>exact⟨0,zL _,rfl,HI.o.re (fun k _=>by simp)⟩
   case round=>
    clear HI;obtain⟨k,hk,rfl,HI⟩:=hrel;by_cases hlk:k<l.length
    ·have BQ:(k:Int)<(l.length:Int):=(by omega);have hk0:(0:Int)<=(k:Int):=(by omega);obtain⟨x,hx⟩:∃x,l[k]? =some x:=⟨l[k],by simp⟩;have hxb:=HL.o.2.2 x (lM hx);obtain⟨e,rfl⟩:∃e:Nat,x=(e:Int):=⟨x.toNat,by omega⟩;obtain⟨b2,o2,c3,e2,z2,y0⟩:=xw ((HZ.o wr HI.o.bl).ls hx) hx;simp only[vS]at e2;obtain⟨rfl,-,rfl⟩:=e2;obtain⟨m,hm⟩:∃m:Nat,m=iJ (ls.take i) (e:Int)+(l.take k).count (e:Int):=⟨_,rfl⟩;have hc:=(HI.o.cell (k:=e) (by omega)).1;rw[<-hm]at hc;have lg:=(HI.o.cell (k:=e) (by omega)).2;have fg:=Bo HI.o.row;have WX:m<=2000000:=by
      have h1:=YG.o i (e:Int);have h2:(l.take k).count (e:Int)<=(l.take k).length:=List.count_le_length;rw[lK]at h2;omega
     have FIN:Hid (Wt w n g (fun y=>(iJ (ls.take i) (y:Int)+(l.take (k+1)).count (y:Int):Nat)) (wr.setCell ⟨g,e,none⟩ (.int .i64 ((m:Int)+1)))):=by
      refine(HI.o.set e ((m:Int)+1)).1.re (fun y _=> ?_);rw[xU hx];unfold upd;by_cases hy:y=e
      ·subst hy;rw[if_pos rfl,if_pos rfl,hm];omega
      ·rw[if_neg hy,if_neg (by omega)];simp
     have he0:(0:Int)<=(e:Int):=(by omega);have hen:(e:Int)<(n:Int):=hxb.2;clear hx hm;go_wp2_with fail;go_roundw;case rel=>exact⟨k+1,by omega,by go_num,FIN.o⟩
     case measure=>simp[intOf];omega
    ·have BQ:¬(k:Int)<(l.length:Int):=(by omega);have FIN:Hid (Wt w n g (fun y=>(iJ (ls.take (i+1)) (y:Int):Nat)) wr):=HI.o.re (fun y _=>by have h:l.take k=l:=tL (by omega);rw[Lj HL.o.1,h]);go_wp2_with fail;go_roundw;case rel=>exact⟨i+1,by omega,by go_num,FIN.o⟩
     case measure=>simp[intOf];omega
  ·have hltz:¬(i:Int)<(n:Int):=(by omega);have A1:Hid (Wt w n g (fun k=>(iJ ls (k:Int):Nat)) wr):=HI.o.re (fun y _=>by have h:ls.take i=ls:=tL (by have:=HN.o;omega);rw[h]);have C1:Hid (∀y:Int,iJ ls y<=1000000):=fun y=>(by have h:=YG.o n y;rw[HN.o,tK]at h;exact h);clear HI;go_wp2_with fail;go_loopw [9,38] (fun s9 RO wr=>∃(t:Nat) (vo:Value),t<=n/\RO= .int .i64 (t:Nat)/\vo=s9/\Hid (Os w n g ls t vo wr)) (fun _ RO _=>n-(intOf RO).toNat);case atStart=>exact⟨0,_,zL _,rfl,rfl,[],_,rfl,A1.o,oN _ _ _ _,(fun k e=>by cases e),rfl,fun k=>by have:=C1.o (k:Int);omega⟩
   case round=>
    clear A1;obtain⟨t,vo,ht,rfl,rfl,HI⟩:=hrel;by_cases hlt2:t<n
    ·have nJ:(t:Int)<(n:Int):=(by omega);obtain⟨o,f,ho,hw,hro,hne,hol,hfb⟩:=HI.o;have hr:wr.ownsRow w.heap.size 3 1 (.slice (some ⟨g,0,none⟩) n n) (FC n f).length (fl EI (FC n f)):=aS hw.row (jd n f).symm rfl;have hidx:=GX 0 wr (iZ (E:=EI) hr) (by rw[jd];omega);have HO:=hid ho;have HW:=hid hw;have HR:Hid (wr.ownsRow w.heap.size 3 1 vo o.length (fl EI o)/\(∀k,vo.ownBlock=some k->k≠g)/\o.length=t/\∀k,-1000000-1001*(t:Int)<=f k/\f k<=1000000):=⟨hro,hne,hol,hfb⟩;clear ho hw hro hne hol hfb hr;go_wp2_with fail;refine hidx.mono ?_;rintro r w2 ⟨hw2,hr2⟩;subst hw2;rcases hr2 with⟨q,rfl,hq1,hq2⟩|⟨rfl,hq1⟩
     ·have WQ:q<n:=(by have h:=(lG.1 hq1).1;rw[jd]at h;exact h);have hfq:f q=0:=(by rw[jT f WQ]at hq1;exact oJ hq1);have HZN:Hid (vM n f=some q):=by
       show _=_;unfold vM;rw[List.find?_range_eq_some];refine⟨by simp[hfq],by simpa using WQ,fun j hj=> ?_⟩;have h:=hq2 j hj;rw[jT f (by omega)]at h;simp only[ne_eq,oI]at h;simpa using h
      have HOT:=hid HR.o.2.2.1;have hq0:(0:Int)<=(q:Int):=(by omega);have hqz:(q:Int)<(n:Int):=(by omega);obtain⟨l,hl⟩:∃l,ls[q]? =some l:=⟨ls[q]'(by have:=HN.o;omega),by simp⟩;have HL:Hid (ls[q]? =some l/\l.length<=1000/\∀x∈l,0<=x/\x<(n:Int)):=⟨hl,(HX.o l (lM hl)).1,by have h:=(HX.o l (lM hl)).2;rw[<-HN.o]at h;exact h⟩;have hll:=HL.o.2.1;clear hidx hq1 hq2 HI;go_wp2_with (at_builtin;refine gu EI Tryz.underlying97 OH rfl (by decide) rfl _ _ rfl w.heap.size _ o.length _ rfl HR.o.1 (q:Int) rfl (by have:=HOT.o;omega) (by have:=HOT.o;unfold maxLen;omega) HW.o.bl.size _ rfl _ ?_);intro g9 c9 w9 r1 r2 r3;have S9:Hid (Wt w n g f w9/\w9.ownsRow w.heap.size 3 1 (.slice (some ⟨g9,0,none⟩) (o.length+1) c9) (o++[(q:Int)]).length (fl EI (o++[(q:Int)]))/\g9≠g):=by
       have k2:=Kp.grownBy (S:=fun j=>vo.ownBlock=some j) r2 (fun _ h=>h);refine⟨⟨HW.o.bl.trans (k2.below HW.o.bl.size (fun j e=>(aK HR.o.1 j e).1)),av k2 HW.o.row (fun j e e2=>HR.o.2.1 j e2 (by simpa[Value.ownBlock]using e.symm))⟩,aS r1 (by simp) (by rw[aQ,dK]),fun e=> ?_⟩;rcases r3 with h|h
       ·exact HR.o.2.1 g9 h e
       ·have:=(aK HW.o.row g rfl).2;omega
      clear r1 r2 r3;have hc:=(S9.o.1.cell WQ).1;have lg:=(S9.o.1.cell WQ).2;have fg:=Bo S9.o.1.row;obtain⟨dP,BP⟩:=aC (w9.setCell ⟨g,q,none⟩ (.int .i64 (-1)));have JY:Hid (Wt w n g (fun y=>(if y=q then -1 else f y)-((l.take 0).count (y:Int):Nat)) dP/\dP.ownsRow w.heap.size 3 1 (.slice (some ⟨g9,0,none⟩) (o.length+1) c9) (o++[(q:Int)]).length (fl EI (o++[(q:Int)]))):=by
       obtain⟨h1,h2⟩:=S9.o.1.set q (-1);rw[BP];exact⟨h1.re (fun y _=>by simp[upd]),av h2 S9.o.2.1 (fun j e e2=>S9.o.2.2 (by simp[Value.ownBlock]at e;omega))⟩
      have aa5:Hid (w9.setCell ⟨g,q,none⟩ (.int .i64 (-1))=dP):=BP.symm;clear BP;generalize o.length+1=ol at JY S9⊢;go_upto_region 19 with fail;rw[aa5.o];clear aa5 hc lg fg;obtain⟨b,off,c1,q1,c2,e1,z0,x0,hz⟩:=HF.o.at hl;have x1:=(JY.o.1.bl.cell (p:=⟨b,off+q,none⟩) z0).trans x0;have z1:=nL z0 JY.o.1.bl.size;simp only[vS]at e1;obtain⟨rfl,-,rfl⟩:=e1;have HZ:=hid (fun(W:World) (hb:Below w.heap.size w W)=>hz.below hb);clear hz hl z0 x0;go_wp2_with fail;clear x1 z1;go_loopw [56] (fun s56 wr=>∃k:Nat,k<=l.length/\s56= .int .i64 (k:Nat)/\Hid (Wt w n g (fun y=>(if y=q then -1 else f y)-((l.take k).count (y:Int):Nat)) wr/\wr.ownsRow w.heap.size 3 1 (.slice (some ⟨g9,0,none⟩) ol c9) (o++[(q:Int)]).length (fl EI (o++[(q:Int)])))) (fun s56 _=>l.length-(intOf s56).toNat);case atStart=>exact⟨0,zL _,rfl,JY.o⟩
      case round=>
       clear JY;obtain⟨k,hk,rfl,HI⟩:=hrel;by_cases hlk:k<l.length
       ·have BQ:(k:Int)<(l.length:Int):=(by omega);have hk0:(0:Int)<=(k:Int):=(by omega);obtain⟨x,hx⟩:∃x,l[k]? =some x:=⟨l[k],by simp⟩;have hxb:=HL.o.2.2 x (lM hx);obtain⟨e,rfl⟩:∃e:Nat,x=(e:Int):=⟨x.toNat,by omega⟩;obtain⟨b2,o2,c3,e2,z2,y0⟩:=xw ((HZ.o wr HI.o.1.bl).ls hx) hx;simp only[vS]at e2;obtain⟨rfl,-,rfl⟩:=e2;obtain⟨m,hm⟩:∃m:Int,m=(if e=q then -1 else f e)-((l.take k).count (e:Int):Nat):=⟨_,rfl⟩;have hc:=(HI.o.1.cell (k:=e) (by omega)).1;rw[<-hm]at hc;have lg:=(HI.o.1.cell (k:=e) (by omega)).2;have fg:=Bo HI.o.1.row;have WX: -4000000<=m/\m<=2000000:=by
         have h1:=HR.o.2.2.2 e;have h2:(l.take k).count (e:Int)<=(l.take k).length:=List.count_le_length;rw[lK]at h2;rw[hm];split<;>omega
        have FIN:Hid (Wt w n g (fun y=>(if y=q then -1 else f y)-((l.take (k+1)).count (y:Int):Nat)) (wr.setCell ⟨g,e,none⟩ (.int .i64 (m-1)))/\(wr.setCell ⟨g,e,none⟩ (.int .i64 (m-1))).ownsRow w.heap.size 3 1 (.slice (some ⟨g9,0,none⟩) ol c9) (o++[(q:Int)]).length (fl EI (o++[(q:Int)]))):=by
         obtain⟨h1,h2⟩:=HI.o.1.set e (m-1);refine⟨h1.re (fun y _=> ?_),av h2 HI.o.2 (fun j e e2=>S9.o.2.2 (by simp[Value.ownBlock]at e;omega))⟩;rw[xU hx];unfold upd;by_cases hy:y=e
         ·subst hy;rw[if_pos rfl,if_pos rfl,hm];omega
         ·rw[if_neg hy,if_neg (show ¬((e:Nat):Int)=(y:Int)by omega)];simp
        have he0:(0:Int)<=(e:Int):=(by omega);have hen:(e:Int)<(n:Int):=hxb.2;obtain⟨hm1,hm2⟩:=WX;clear hx hm;go_wp2_with fail;go_roundw;case rel=>exact⟨k+1,by omega,by go_num,FIN.o⟩
        case measure=>simp[intOf];omega
       ·have BQ:¬(k:Int)<(l.length:Int):=(by omega);have FIN:Hid (Os w n g ls (t+1) (.slice (some ⟨g9,0,none⟩) ol c9) wr):=by
         have h:l.take k=l:=tL (by omega);refine⟨o++[(q:Int)],tZ ls f q, ?_,HI.o.1.re (fun y _=>by unfold tZ;rw[HL.o.1,h];rfl),HI.o.2,fun j e e2=>S9.o.2.2 (by simp[Value.ownBlock]at e;omega),by rw[dO,HOT.o];rfl,fun y=> ?_⟩
         ·rw[eQ,HO.o];simp only[HZN.o]
         ·have h1:=HR.o.2.2.2 y;have h2:l.count (y:Int)<=l.length:=List.count_le_length;unfold tZ;rw[HL.o.1,Option.getD_some];split<;>omega
        go_wp2_with fail;go_roundw;case rel=>exact⟨t+1,_,by omega,by go_num,rfl,FIN.o⟩
        case measure=>simp[intOf];omega
     ·have Us:Hid (eQ n ls n=none):=by
        refine Kz (t:=t+1) (by omega) ?_;rw[eQ,HO.o];have h:vM n f=none:=List.find?_eq_none.2 (fun k hk h=>hq1 (by
         have h1:=jT f (mR.1 hk);have h2:f k=0:=(by simpa using h);rw[h2]at h1;exact lM h1))
        simp only[h]
      go_wp2_with fail;refine bR (v:= .tuple #[.slice none 0 0, .int .i64 27]) (by simp[results,Tryz.results117,go_sem]) rfl ?_;exact⟨HW.o.bl,Or.inl ⟨Us.o,rfl⟩⟩
    ·have nJ:¬(t:Int)<(n:Int):=(by omega);obtain rfl:t=n:=(by omega);obtain⟨o,f,ho,hw,hro,hne,hol,hfb⟩:=HI.o;have FIN:Hid (Od w t ls (.returned (.tuple #[vo, .int .i64 0])) wr):=⟨hw.bl,Or.inr ⟨o,f,vo,ho,rfl,hro⟩⟩;obtain⟨qo,mo,co,hvo⟩:=aB hro;subst hvo;clear ho hw hro hne hol hfb;go_wp2_with fail;refine bR (v:= .tuple #[.slice qo mo co, .int .i64 0]) (by simp[results,Tryz.results117,go_sem]) rfl ?_;exact FIN.o
end Df
namespace Df
open Go.RowKit Go.Sort
def Sp(ls:List (List Int))(p q:Nat):Prop:=∃l,ls[p]? =some l/\((q:Nat):Int)∈l
def Wp(ls:List (List Int)):List Nat->Nat->Prop
 | [], _ => True
 | [v], q => Sp ls v q
 | v::u::vs, q => Sp ls v u/\Wp ls (u::vs) q
theorem Wp.tail{v:Nat}(h:Wp ls (v::vs) q):Wp ls vs q:=by
 cases vs with
 | nil => trivial
 | cons a vs => exact h.2
theorem Wp.next{v:Nat}(h:Wp ls (v::vs) q):∃u,Sp ls v u/\((vs=[]/\u=q)\/(vs.head? =some u/\Wp ls vs q)):=by
 cases vs with
 | nil => exact⟨q,h,Or.inl ⟨rfl,rfl⟩⟩
 | cons a vs => exact⟨a,h.1,Or.inr ⟨rfl,h.2⟩⟩
theorem Sp.lt{p:Nat}(h:Sp ls p q):p<ls.length:=by
 obtain⟨l,hl,_⟩:=h;exact(lG.1 hl).1
theorem Wp.lt(l:List Nat)(h:Wp ls l q):∀x∈l,x<ls.length:=by
 induction l with
 | nil => intro x hx;cases hx
 | cons v l ih=>
  intro x hx;rcases fU.1 hx with rfl|hx
  ·obtain⟨u,hu,_⟩:=h.next;exact hu.lt
  ·exact ih h.tail x hx
def Ry(ls:List (List Int))(q m p:Nat):Prop:=∃l:List Nat,l.head? =some p/\Wp ls l q/\l.length<=m
end Df
end Go.Proofs.YtiiefcalkjeieaaGreat
