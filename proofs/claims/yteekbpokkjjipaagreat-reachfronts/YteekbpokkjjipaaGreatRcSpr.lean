import Derived.Test.YteekbpokkjjipaaGreatJ31
variable{p x N:Nat}
set_option maxHeartbeats 16000000
set_option maxRecDepth 100000
namespace Go.Proofs.YteekbpokkjjipaaGreat.Rc
open Go.RowKit Go.Sort Go.Maps Pt Hc
attribute [local go_sem ↓] Go.wp_at_zero Go.wp_at_succ
structure Rv(N:Nat)(L:Nat->List (Nat×ah))(rs ms:List Nat)(O:Nat->List ah)(Co Cn:Nat->ah->Int)(Fo Fn S:Nat->List ah)(B:Nat)(Q0:List It)(Jm:Nat):Prop where
 hms:ms.length=N
 hrs:rs.length=N
 hr:∀x∈rs,x<=N
 hN:N<=1000000
 ord:qB N L (lX N (lu rs))
 xe:Dt N L O Cn Fn
 sup:∀q u,q<N->0<Co q u\/0<Cn q u->u∈S q
 wR:JZ N L (lX N (lu rs)) O Co Cn S B 0 Co Fo (wq Q0)
 vs:∀y∈Q0,Vq N y
 nb:Jm+pot N L (lX N (lu rs)) S Co Cn 0<=B
 hB:B<=549755813888
 bo:∀p t,p<N->0<=Co p t/\Co p t<=2147483647
 bn:∀p t,p<N->0<=Cn p t/\Cn p t<=2147483647
 sl:∀p,p<N->(S p).length<=1000000000
 st:(tC N S).length<=1099511627776
 ll:∀p,p<N->(L p).length<=1000000000
section
variable {N:Nat} {L:Nat->List (Nat×ah)} {rs ms:List Nat} {O:Nat->List ah} {Co Cn:Nat->ah->Int} {Fo Fn S:Nat->List ah} {B:Nat} {Q0:List It} {Jm:Nat}
theorem Rv.to(h:Rv N L rs ms O Co Cn Fo Fn S B Q0 Jm)(hp:p<N){q:Nat}{b:ah}(hb:(q,b)∈L p){u v:ah}(hv:bz b u=some v):q<N:=(h.ord.step p q u v b hp hb hv).1
theorem Rv.WV(h:Rv N L rs ms O Co Cn Fo Fn S B Q0 Jm){C:Nat->ah->Int}{F:Nat->List ah}{W:List (Nat×ah×Int)}(hs:JZ N L (lX N (lu rs)) O Co Cn S B x C F W)(hp:p<N){t:ah}(ht:t∈F p):t∈S p:=by
 have h1:=(((hs.Ki.fr p hp).mem t).1 ht).1;rw[hs.mx p t hp]at h1;unfold mix at h1;split at h1
 ·exact h.sup p t hp (.inr h1)
 ·exact h.sup p t hp (.inl h1)
theorem Rv.mem(h:Rv N L rs ms O Co Cn Fo Fn S B Q0 Jm){C:Nat->ah->Int}{F:Nat->List ah}{W:List (Nat×ah×Int)}(hs:JZ N L (lX N (lu rs)) O Co Cn S B x C F W)(hp:p<N){t:ah}(ht:C p t≠0):t∈S p/\0<=C p t/\C p t<=2147483647:=by
 rw[hs.mx p t hp]at ht⊢;unfold mix at ht⊢;have h1:=h.bo p t hp;have h2:=h.bn p t hp;split
 ·rename_i k;rw[if_pos k]at ht;exact⟨h.sup p t hp (.inr (by omega)),h2⟩
 ·rename_i k;rw[if_neg k]at ht;exact⟨h.sup p t hp (.inl (by omega)),h1⟩
structure Stp(N:Nat)(L:Nat->List (Nat×ah))(rs:List Nat)(O:Nat->List ah)(Co Cn:Nat->ah->Int)(S:Nat->List ah)(B x':Nat)(C:Nat->ah->Int)(F:Nat->List ah)(Q:List It)(np p:Nat)(f':ah->Int)(fr':List ah)(ds:List (ah×Int)):Prop where
 wR:JZ N L (lX N (lu rs)) O Co Cn S B x' (bG C p f') (bG F p fr') (wq Q++jA (L p) ds)
 nb:np+(jA (L p) ds).length+pot N L (lX N (lu rs)) S Co Cn x'<=B
 dif:yT (F p) fr' ds
 n1:(F p).Nodup
 n2:fr'.Nodup
 dl:ds.length<=2000000000
 d1:∀d∈ds,-1<=d.2/\d.2<=1
theorem Hd.stp(h:Rv N L rs ms O Co Cn Fo Fn S B Q0 Jm){M0:Nat}{C:Nat->ah->Int}{F:Nat->List ah}{c:Th}{Q:List It}{np gk:Nat}{Qa:List It}(hd:Hd N L rs O Co Cn S B M0 C F c true Q np gk x Qa){t:ah}{n:Int}(ha:Hat N rs c Q x Qa p t n){fr':List ah}(hf:fD (fun u=>if u=t then C p t+n else C p u) fr'):
    Stp N L rs O Co Cn S B (lX N (lu rs) (p,t)+1) C F Q np p (fun u=>if u=t then C p t+n else C p u) fr' (nI (F p) fr'):=by
 have n1:=(hd.wR.Ki.fr p ha.lt).nodup;have f2:=vG hf;have hdf:=qw n1 f2.nodup;obtain⟨k1,k2⟩:=hd.wR.pop h.ord h.xe h.sup ha.lt ha.min ha.lo (f':=fun u=>if u=t then C p t+n else C p u) (fun u=>by rw[ha.sum]) f2 hdf ha.w1 ha.w2 (by rw[lN,lN];exact ha.w3) (List.Perm.refl (wq Q++jA (L p) (nI (F p) fr')));have hin2:∀u∈fr',u∈S p:=fun u hu=>h.WV k1 ha.lt (by rw[bJ];exact hu);refine⟨k1,by have:=hd.nb;omega,hdf,n1,f2.nodup, ?_,fun d Fz=> ?_⟩
 ·have h1:=iL hdf.nd (m:=S p) fun u hu=>by
    obtain⟨d,hd1,rfl⟩:=mM.1 hu;rcases(hdf.mem d.1 d.2).1 hd1 with⟨k,_⟩|⟨k,_⟩
    ·exact h.WV hd.wR ha.lt k
    ·exact hin2 _ k
  rw[fG]at h1;have:=h.sl p ha.lt;omega
 ·rcases(hdf.mem d.1 d.2).1 Fz with⟨_,_,k⟩|⟨_,_,k⟩<;>omega
end
theorem Uj(N:Nat)(rs:List Nat)(hr:∀x∈rs,x<=N):∃M,∀p t,p<N->lX N (lu rs) (p,t)<M:=⟨_,fun p t hp=>by
    refine Uk hp ?_;unfold lu;rw[List.getD_eq_getElem?_getD];cases k:rs[p]? with
    | none => exact Nat.zero_le _
    | some z => exact hr z (lM k)⟩
def Spn(w:World)(aF:Nat->Nat)(rb:Nat)(ar:Int)(sv rv ov cv uv:Value)(N:Nat)(L:Nat->List (Nat×ah))(rs ms:List Nat)(S:Nat->List ah)(Fo:Nat->List ah)(Cn:Nat->ah->Int)(Fn:Nat->List ah)(e:Ending)(w':World):Prop:=
 ∃vl ks tag',e= .returned vl/\oU (gT N Fo Fn) ks/\w'.ownsRow w.heap.size 49 5 vl (Oa (gT N Fo Fn) ks).length (fl EC (Oa (gT N Fo Fn) ks))/\
  Rd w' tag' rb ar sv rv ov cv uv N L rs ms/\(∀p mb,ms[p]? =some mb->Ml w' tag' (3+p) mb (S p).length (Cn p) (Fn p))/\Kp (fun k=>aF k≠0) w w'/\(∀k,k<w.heap.size->tag' k=aF k)/\∀k,vl.ownBlock=some k->tag' k=0
theorem Nn{Fo F F':Nat->List ah}(h:∀p,p<N->F p=F' p):gT N Fo F=gT N Fo F':=by
 funext s
 unfold gT;split
 ·rename_i k;rw[h s.1.1.toNat (by omega)]
 ·rfl
theorem Eo(hlo:ZA){aF:Nat->Nat}{hb rb:Nat}{ar:Int}{sv rv ov cv uv:Value}{L:Nat->List (Nat×ah)}{rs ms:List Nat}{S O Fo Fn:Nat->List ah}{Co Cn:Nat->ah->Int}{B Jm:Nat}{Q0:List It}(w:World)(hP:Rv N L rs ms O Co Cn Fo Fn S B Q0 Jm)
    (hR:Rd w aF rb ar sv rv ov cv uv N L rs ms) (hH:Hm w aF hb (wv ar sv rv) (kC N rs) Q0 Jm) (hM:∀p mb,ms[p]? =some mb->Ml w aF (3+p) mb (S p).length (Co p) (Fo p)) :
    Calls Tryz.prog 38 #[.pointer (some ⟨rb,0,none⟩), .pointer (some ⟨hb,0,none⟩)] w fun e w'=>Hid (Spn w aF rb ar sv rv ov cv uv N L rs ms S Fo Cn Fn e w'):=by
 have hmx:Tryz.prog.follows .mixedOrders=true:=by kernel_rfl
 have HP:=hid hP;have J6:=hid hlo;have HF:=hid (CU (ar:=ar) (sv:=sv) (rv:=rv) hP.hr hP.hrs);have ZW:=hid (Rs.Tt.dB 78 w);have HR:=hid hR;have HH:=hid hH;have HM:=hid hM;clear hP hlo hR hH hM;go_enter Tryz.func38,Tryz.ntmps38;go_wp2_with fail;refine ZW.o.mono ?_;rintro e w1 ⟨rfl,hT1,hG1⟩;clear ZW;obtain⟨tb,htb⟩:=aB (w.heap.size+1);rw[<-htb]at hT1⊢;have ZP:Hid (Ss w aF w1 (tg aF w 2) hb tb rb ar sv rv ov cv uv N L rs ms S Q0 Jm (tC N S).length (gT N Fo Fo) Co Fo):=by
  have hB:=hG1.below;have hK:=Kp.of_below (S:=fun _=>False) hB;refine⟨HR.o.keep hK (fun _ _ h=>h.elim) (fun k hk=>ak hk),HH.o.keep hK (fun _ _ h=>h.elim) (fun k hk=>ak hk), ?_,fun p mb hp=>(HM.o p mb hp).keep hK (fun _ _ h=>h.elim) (fun k hk=>ak hk),hK.mono (fun _ h=>h.elim),fun k hk=>ak hk⟩;refine Tg.tight (nt:=0) ?_ (Iu HP.o.hN (fun p t hp ht=>HP.o.WV HP.o.wR hp ht) (fun p t hp ht=>HP.o.WV HP.o.wR hp ht));rw[QJ];exact⟨w.heap.size,hT1,aO (by omega),aO (nR _)⟩
 clear hT1 hG1 htb HR HH HM;obtain⟨I6,Sn⟩:=aB (tg aF w 2);rw[<-Sn]at ZP;clear Sn;have ZJ:=hid (ZP.o.hm.taken (by have h1:=HP.o.wR.bd;have h2:=HP.o.hB;rw[lN]at h1;omega) HP.o.hr HF.o (fun W hW=>(ZP.o.rd.keep hW (fun k _ e=>by rw[e];decide) (fun k _=>rfl)).rk) HP.o.vs);go_wp2_with fail;refine ZJ.o.mono ?_;rintro e w2 ⟨c,b,Q1,rfl,hm2,ht2⟩;clear ZJ;have HS2:=hid (ZP.o.heap hm2.o.1 hm2.o.2);have HT2:=hid ht2.o;clear hm2 ht2 ZP;obtain⟨Pj,Sl⟩:=aB (tg I6 w1 1);rw[<-Sl]at HS2;clear Sl;simp only[Hc.ans,Hc.tv];go_upto_region 3 with fail;obtain⟨W3,hW3⟩:=aB (w2.alloc (.cells (cc c) 49));obtain⟨b6,hb6⟩:=aB (w2.heap.size);have HS3:Hid (Ss w aF W3 (tg Pj w2 4294967296) hb tb rb ar sv rv ov cv uv N L rs ms S Q1 Jm (tC N S).length (gT N Fo Fo) Co Fo/\Bk W3 (tg Pj w2 4294967296) b6 (cc c) 49/\w.heap.size<=b6):=by
  rw[hW3,hb6];exact⟨HS2.o.grow 4294967296 ((Gr.refl w2).alloc _).below,Bk.new _ _,HS2.o.kp.size⟩
 obtain⟨M0,hM0⟩:=Uj N rs HP.o.hr;have Ox:=hid hM0;have HD3:Hid (∃x Qa,Hd N L rs O Co Cn S B M0 Co Fo c b Q1 Jm M0 x Qa):=⟨0,Q0,HP.o.wR,HT2.o,HP.o.vs,HP.o.nb,by omega⟩;clear hM0;simp only[cc]at hW3;rw[<-hW3,<-hb6];clear hW3 hb6 HS2 HT2;go_loopg [6,7,8,9,10,12,14,15,16] M0 (fun gk s6 s7 _ _ _ _ _ _ _ wr=>∃(tag:Nat->Nat) (Q:List It) (np:Nat) (C:Nat->ah->Int) (F:Nat->List ah) (c:Th) (b:Bool) (b6:Nat),s6= .pointer (some ⟨b6,0,none⟩)/\s7= .bool b/\Hid (Ss w aF wr tag hb tb rb ar sv rv ov cv uv N L rs ms S Q np (tC N S).length (gT N Fo F) C F/\Bk wr tag b6 (cc c) 49/\w.heap.size<=b6)/\Hid (∃x Qa,Hd N L rs O Co Cn S B M0 C F c b Q np gk x Qa));case atStart=>exact⟨_,Q1,Jm,Co,Fo,c,b,b6,rfl,rfl,HS3.o,HD3.o⟩
 case round=>
  clear HS3 HD3;obtain⟨tag,Q,np,C,F,c,b,b6,rfl,rfl,uf,HHD⟩:=hrel;obtain⟨x,Qa,hhd⟩:=HHD.o;have OZ:=hid hhd;clear hhd HHD;cases b with
  | false=>
   have hq:Qa=[]/\Q=[]:=by
    rcases OZ.o.tk with k|k
    ·exact k.2
    ·exact absurd k.1 (by simp)
   obtain⟨rfl,rfl⟩:=hq;have WH:Hid ((∀p,p<N->C p=Cn p/\F p=Fn p)/\gT N Fo F=gT N Fo Fn):=by
    have h1:∀p,p<N->C p=Cn p/\F p=Fn p:=fun p hp=>by
     obtain⟨h1,h2⟩:=OZ.o.wR.Ki.fin HP.o.ord HP.o.xe hp;exact⟨funext h1,h2⟩
    exact⟨h1,Nn fun p hp=>(h1 p hp).2⟩
   obtain⟨bb,htl,_⟩:=uf.o.1.tg;have HL:=hid (J6.o wr tb bb _ _ htl (by have:=HP.o.st;omega));clear htl;go_wp2_with fail;refine HL.o.mono ?_;rintro e w9 ⟨vl,ks,h1,rfl,h2,h3⟩;have HE:Hid (Spn w aF rb ar sv rv ov cv uv N L rs ms S Fo Cn Fn (.returned vl) w9):=by
    have hS:=uf.o.1.grow 0 h3;rw[WH.o.2]at h1 h2;refine⟨vl,ks,_,rfl,h1,aK h2 uf.o.1.kp.size,hS.rd,fun p mb hp=> ?_,hS.kp,hS.old,fun k hk=>aO (iN h2 hk)⟩;have Qv:p<N:=(by rw[<-HP.o.hms];exact(lG.1 hp).1);have:=hS.mm p mb hp;rw[(WH.o.1 p Qv).1,(WH.o.1 p Qv).2]at this;exact this
   clear h1 h2 h3;go_wp2_with fail;refine bodyPost_ret (v:=vl) (by simp[results,Tryz.results38,go_sem]) rfl HE
  | true=>
   obtain⟨p,t,n,hat⟩:=OZ.o.at;have HAT:=hid hat;obtain rfl:=hat.eq;clear hat;obtain⟨gk,rfl⟩:∃g',gk=g'+1:=⟨gk-1,by
    have h1:=OZ.o.gm;have h2:=HAT.o.lo;have h3:=Ox.o p t HAT.o.lt;omega⟩
   obtain⟨mb,hmb⟩:∃mb,ms[p]? =some mb:=⟨ms[p]'(by have:=HAT.o.lt;have:=HP.o.hms;omega),by rw[nY]⟩;have yQ:=hid hmb;clear hmb;obtain⟨bi,oi,ci,hcv,-,-⟩:=uf.o.1.rd.come yQ.o;rw[HP.o.hms]at hcv;have HCV:=hid hcv;clear hcv;have hpz:(0:Int)<=(p:Int):=(by omega);have Qv:(p:Int)<(N:Int):=(by have:=HAT.o.lt;omega);obtain⟨y0,y1,y2,y3,y4,yz⟩:=tY uf.o.2.1.1;simp only at y0 y1 y2 y3 y4;go_upto_region 6 with fail;clear y0 y1 y2 y3 y4 yz;have hS0:(fun W:World=>Kp (fun k=>tag k=3+p) wr W) wr.drew:=Kp.aU (Gr.refl wr).drew;have sS:Hid (∀W:World,Kp (fun k=>tag k=3+p) wr W->(W.cell? ⟨rb,4,none⟩=some (.slice (some ⟨bi,oi,none⟩) N ci)/\rb<W.heap.size/\W.cell? ⟨bi,oi+p,none⟩=some (.pointer (some ⟨mb,0,none⟩))/\bi<W.heap.size)/\W.heap[b6]? =some (.cells (cc ((p:Int),t,n)) 49 (0,0))):=fun W hW=>⟨(uf.o.1.rd.keep hW (fun k _ e=>by omega) (fun k _=>rfl)).come' yQ.o HCV.o,(uf.o.2.1.keep hW (fun k _ e=>by have h1:=HAT.o.lt;have h2:=HP.o.hN;omega) (fun k _=>rfl)).1⟩;have WK:Hid (0<=C p t/\C p t<=2147483647/\0<=C p t+n/\C p t+n<=2147483647/\-2147483647<=n/\n<=2147483647):=by
    have h1:=OZ.o.wR.Ki.first HP.o.ord HP.o.xe HAT.o.lt HAT.o.min;rw[HAT.o.sum]at h1;have h2:=HP.o.bn p t HAT.o.lt;have h3:0<=C p t/\C p t<=2147483647:=by
     by_cases k:C p t=0
     ·omega
     ·exact(HP.o.mem OZ.o.wR HAT.o.lt k).2
    have h4:0<=C p t/\C p t<=2147483647/\0<=C p t+n/\C p t+n<=2147483647/\-2147483647<=n/\n<=2147483647:=(by omega);exact h4
   have O0:Hid (∀W:World,Gr wr W->Calls Tryz.prog 80 #[.pointer (some ⟨mb,0,none⟩), .slice (some ⟨W.heap.size,0,none⟩) 1 1] (W.alloc (.cells #[.int .u64 t.1.1, .int .u64 t.1.2.1, .int .u64 t.1.2.2, .int .i64 n] 163)) fun e w'=>∃(vo:Value),e= .returned (.tuple #[vo, .int .i64 0])/\Hid (∃tag' fr',Ss w aF w' tag' hb tb rb ar sv rv ov cv uv N L rs ms S Q np (tC N S).length (gT N Fo F) (bG C p (fun u=>if u=t then C p t+n else C p u)) (bG F p fr')/\Bk w' tag' b6 (cc ((p:Int),t,n)) 49/\Lm ED w' tag' (3+p) vo (nI (F p) fr')/\fD (fun u=>if u=t then C p t+n else C p u) fr')/\Hid (Kp (fun k=>tag k=3+p) wr w')):=by
    intro W hW;have hg:Below wr.heap.size wr (W.alloc (.cells #[.int .u64 t.1.1, .int .u64 t.1.2.1, .int .u64 t.1.2.2, .int .i64 n] 163)):=(hW.alloc _).below;have hls:=UC W t n;generalize W.alloc (.cells #[.int .u64 t.1.1, .int .u64 t.1.2.1, .int .u64 t.1.2.2, .int .i64 n] 163)=W1 at hg hls⊢;have hS1:=uf.o.1.grow 0 hg;have hB1:=uf.o.2.1.keep (tag':=tg tag wr 0) (Kp.of_below (S:=fun _=>False) hg) (fun _ _ h=>h.elim) (fun k hk=>ak hk);have hlt:=HAT.o.lt;refine((hS1.mm p mb yQ.o).apply t n _ hls WK.o.2.2.2.2 (by have:=WK.o;omega) (by have:=HP.o.sl p hlt;omega)).mono ?_;rintro e w' ⟨vo,fr',rfl,h7⟩;obtain⟨h1,h2,h3⟩:=h7.o;have aas:∀u,(if u=t then C p t+n else C p u)≠0->u∈S p:=fun u hu=>by
     by_cases k:u=t
     ·subst k;rw[if_pos rfl]at hu;have e1:=OZ.o.wR.Ki.first HP.o.ord HP.o.xe hlt HAT.o.min;rw[HAT.o.sum]at e1;have e2:=WK.o;exact HP.o.sup p u hlt (.inr (by omega))
     ·rw[if_neg k]at hu;exact(HP.o.mem OZ.o.wR hlt hu).1
    have hf:=h1;obtain⟨_,_,_,_,_,hf,_⟩:=hf;refine⟨vo,rfl,⟨_,fr',hS1.Ma yQ.o (h1.tight aas) h3,hB1.keep h3 (fun k _ e=>by have:=HP.o.hN;omega) (fun k hk=>ak hk),⟨aJ (E:=ED) h2,fun k hk=>aO (iN h2 hk)⟩,hf⟩, ?_⟩;exact((Kp.of_below (S:=fun k=>tag k=3+p) hg).trans h3 fun k hk e=>by
     rw[ak hk]at e;exact e)
   refine av (S:=fun W:World=>Kp (fun k=>tag k=3+p) wr W) (D:=[]) hmx ?_;refine' au 0 hS0 ?_;refine' au 1 hS0 ?_;refine' au 2 hS0 ?_;refine' aR 3 hS0 ?h ?_;case h=>(intro W hSw;obtain⟨⟨c0,c1,c2,c3⟩,-⟩:=sS.o W hSw;go_simp;try(with_reducible rfl))
   refine' au 4 hS0 ?_;refine' au 5 hS0 ?_;refine' aR 6 hS0 ?h ?_;case h=>(intro W hSw;obtain⟨⟨c0,c1,c2,c3⟩,-⟩:=sS.o W hSw;go_simp;try(with_reducible rfl))
   refine' au 7 hS0 ?_;refine' au 8 hS0 ?_;refine' aR 9 hS0 ?h ?_;case h=>(intro W hSw;obtain⟨-,c4⟩:=sS.o W hSw;obtain⟨y0,y1,y2,y3,y4,yz⟩:=tY c4;simp only at y0 y1 y2 y3 y4;go_simp;try(with_reducible rfl))
   refine' au 10 hS0 ?_;refine' aR 11 hS0 ?h ?_;case h=>(intro W hSw;obtain⟨-,c4⟩:=sS.o W hSw;obtain⟨y0,y1,y2,y3,y4,yz⟩:=tY c4;simp only at y0 y1 y2 y3 y4;go_simp;try(with_reducible rfl))
   refine' au 12 hS0 ?_;refine bF 13 fun K hK=> ?_;go_simp;refine hK.o _ _ (fun hD=>(hS0.trans (Kp.of_below (S:=fun _=>False) ((Gr.refl _).alloc _).below) (fun _ _ h=>h.elim))) ?_;clear hK K;try simp only[Act.put,qI,q0,qS]
   refine bF 14 fun K hK=> ?_;go_simp;refine(O0.o wr.drew (Gr.refl wr).drew).mono ?_;rintro e w7 ⟨vo,rfl,Y6,yH⟩;go_wp2_with fail;refine hK.o _ _ (fun hD=>yH.o) ?_;clear hK K;try simp only[Act.put,qI,q0,qS]
   refine' au 15 yH.o ?_;refine' au 16 yH.o ?_;refine' au 17 yH.o ?_;refine' au 18 yH.o ?_;refine' au 19 yH.o ?_;refine aj (by kernel_rfl) ?_ _;clear hS0 sS O0 yH;obtain⟨uB,fr',Y8,h72,h73,h74⟩:=Y6.o;have HST:=hid (Hd.stp HP.o OZ.o HAT.o h74);obtain⟨ds,hds⟩:=aB (nI (F p) fr');rw[<-hds]at h73 HST;obtain⟨pv,cw,rfl⟩:=h73.1.form;have H70:Hid (Ss w aF w7 uB hb tb rb ar sv rv ov cv uv N L rs ms S Q np (tC N S).length (gT N Fo F) (bG C p (fun u=>if u=t then C p t+n else C p u)) (bG F p fr')/\Bk w7 uB b6 (cc ((p:Int),t,n)) 49/\Lm ED w7 uB (3+p) (.slice pv ds.length cw) ds):=⟨Y8,h72,h73⟩;have uh:Hid (Q.length+(jA (L p) ds).length<=B/\np+(jA (L p) ds).length<=B):=by
    have h1:=HST.o.wR.bd;have h2:=HST.o.nb;rw[dH,lN]at h1;exact⟨by omega,by omega⟩
   obtain⟨f',hf'⟩:∃f:ah->Int,f=fun u=>if u=t then C p t+n else C p u:=⟨_,rfl⟩
   rw[<-hf']at HST H70;clear Y8 h72 h73 h74 hds Y6 WK hf';have hdb:ds.length<=2000000000:=HST.o.dl;have hlb:(L p).length<=1000000000:=HP.o.ll p HAT.o.lt;have HL0:Hid (((Ss w aF w7 uB hb tb rb ar sv rv ov cv uv N L rs ms S Q np ((tC N S).length+0) (gJ (gT N Fo F) p (ds.take 0)) (bG C p f') (bG F p fr'))/\Bk w7 uB b6 (cc ((p:Int),t,n)) 49/\Lm ED w7 uB (3+p) (.slice pv ds.length cw) ds)/\nW N Q np (jA (L p) (ds.take 0)) Q np):=by
    rw[List.take_zero,Vz];exact⟨H70.o,nW.init HAT.o.vs⟩
   clear H70;go_wp2_with fail;go_loopw [12,14,15,16,52] (fun _ _ _ _ XN wx=>∃(j:Nat) (tag:Nat->Nat) (Qc:List It) (nc:Nat),j<=ds.length/\XN= .int .i64 j/\Hid ((Ss w aF wx tag hb tb rb ar sv rv ov cv uv N L rs ms S Qc nc ((tC N S).length+j) (gJ (gT N Fo F) p (ds.take j)) (bG C p f') (bG F p fr'))/\Bk wx tag b6 (cc ((p:Int),t,n)) 49/\Lm ED wx tag (3+p) (.slice pv ds.length cw) ds)/\Hid (nW N Q np (jA (L p) (ds.take j)) Qc nc)) (fun _ _ _ _ XN _=>ds.length-(RowKit.intOf XN).toNat);case atStart=>exact⟨0,uB,Q,np,Nat.zero_le _,rfl,HL0.o.1,HL0.o.2⟩
   case round=>
    clear HL0;obtain⟨j,pG,Qc,nc,hj,rfl,HJ,HI⟩:=hrel;by_cases hlt:j<ds.length
    ·have hjz:(j:Int)<(ds.length:Int):=(by omega);have hj0:(0:Int)<=(j:Int):=(by omega);obtain⟨⟨u,m⟩,hd⟩:∃d,ds[j]? =some d:=⟨ds[j],by simp⟩;have Tx:=hid hd;obtain⟨b1,o1,c1,hv1,hb1,u0,u1,u2,u3⟩:=HJ.o.2.2.1.at4 hd;simp only[vS]at hv1;obtain⟨hv1,-,-⟩:=hv1;subst hv1;simp only at u0 u1 u2 u3;clear hd;obtain⟨W9,Vj⟩:=aB (wr.alloc (.cells #[.int .u64 u.1.1, .int .u64 u.1.2.1, .int .u64 u.1.2.2, .int .i64 m] 163));obtain⟨b12,vL⟩:=aB (wr.heap.size);have H9:Hid (((Ss w aF W9 (tg pG wr 4294967296) hb tb rb ar sv rv ov cv uv N L rs ms S Qc nc ((tC N S).length+j) (gJ (gT N Fo F) p (ds.take j)) (bG C p f') (bG F p fr'))/\Bk W9 (tg pG wr 4294967296) b6 (cc ((p:Int),t,n)) 49/\Lm ED W9 (tg pG wr 4294967296) (3+p) (.slice (some ⟨b1,o1,none⟩) ds.length cw) ds)/\Bk W9 (tg pG wr 4294967296) b12 #[.int .u64 u.1.1, .int .u64 u.1.2.1, .int .u64 u.1.2.2, .int .i64 m] 163):=by
      rw[Vj,vL];have hg:=((Gr.refl wr).alloc (.cells #[.int .u64 u.1.1, .int .u64 u.1.2.1, .int .u64 u.1.2.2, .int .i64 m] 163)).below;have hK:=Kp.of_below (S:=fun _=>False) hg;exact⟨⟨HJ.o.1.grow _ hg,HJ.o.2.1.keep hK (fun _ _ h=>h.elim) (fun k hk=>ak hk),HJ.o.2.2.keep hK (fun _ _ h=>h.elim) (fun k hk=>ak hk)⟩,Bk.new _ _⟩
     go_upto_region 10 with fail;rw[<-Vj,<-vL];clear Vj vL u0 u1 u2 u3 hb1 HJ;generalize tg pG wr 4294967296=tag9 at H9;have HAD:Hid (Calls Tryz.prog 81 #[.pointer (some ⟨tb,0,none⟩), .agg #[.int .i64 (p:Int), .int .u64 u.1.1, .int .u64 u.1.2.1, .int .u64 u.1.2.2], .int .i64 m] W9 fun e w'=>e= .returned (.int .i64 0)/\Hid (Tg w' (tg tag9 W9 2) tb ((tC N S).length+j+1) (gJ (gT N Fo F) p (ds.take (j+1)))/\Kp (fun k=>tag9 k=2) W9 w')):=by
      have hpl:p<=1000000:=(by have h1:=HAT.o.lt;have h2:=HP.o.hN;omega);have Fz:=HST.o.d1 (u,m) (lM Tx.o);simp only at Fz;have hgb:=Zb (p:=p) (l:=ds.take j) (Za (N:=N) (Fo:=Fo) (F:=F)) (fun d hd=>HST.o.d1 d (List.mem_of_mem_take hd)) (sk p u);have hlen:(ds.take j).length<=2000000000:=(by rw[lK];have:=HST.o.dl;omega);have h:=H9.o.1.1.tg.add (sk p u) m (by have h1:=HP.o.st;have h2:=HST.o.dl;unfold maxLen;omega) (by omega) (by omega);have e1:Rs.mv (sk p u)= .agg #[.int .i64 (p:Int), .int .u64 u.1.1, .int .u64 u.1.2.1, .int .u64 u.1.2.2]:=(by unfold Rs.mv;rw[jT hpl]);have e2:=QK (gT N Fo F) p (ds.take j) (u,m);rw[show ds.take j++[(u,m)]=ds.take (j+1)by rw[List.take_add_one,Tx.o];rfl]at e2;rw[<-e1,<-e2];exact h
     have c12:=(aa H9.o.2.1).1;have Qn:=ae H9.o.2.1;go_wp2_with fail;refine HAD.o.mono ?_;rintro e fH ⟨rfl,JA⟩;have H10:Hid (((Ss w aF fH (tg tag9 W9 2) hb tb rb ar sv rv ov cv uv N L rs ms S Qc nc ((tC N S).length+j+1) (gJ (gT N Fo F) p (ds.take (j+1))) (bG C p f') (bG F p fr'))/\Bk fH (tg tag9 W9 2) b6 (cc ((p:Int),t,n)) 49/\Lm ED fH (tg tag9 W9 2) (3+p) (.slice (some ⟨b1,o1,none⟩) ds.length cw) ds)/\Bk fH (tg tag9 W9 2) b12 #[.int .u64 u.1.1, .int .u64 u.1.2.1, .int .u64 u.1.2.2, .int .i64 m] 163):=⟨⟨H9.o.1.1.tally JA.o.1 JA.o.2,H9.o.1.2.1.keep JA.o.2 (fun k _ e=>by omega) (fun k hk=>ak hk),H9.o.1.2.2.keep JA.o.2 (fun k _ e=>by omega) (fun k hk=>ak hk)⟩,H9.o.2.keep JA.o.2 (fun k _ e=>by omega) (fun k hk=>ak hk)⟩;clear JA HAD H9 c12 Qn;generalize tg tag9 W9 2=xM at H10;obtain⟨bs,os,cs,px,cx,-,OM,s0,s1,s2,s3⟩:=H10.o.1.1.rd.step HAT.o.lt;have HI0:Hid (((((Ss w aF fH xM hb tb rb ar sv rv ov cv uv N L rs ms S Qc nc ((tC N S).length+j+1) (gJ (gT N Fo F) p (ds.take (j+1))) (bG C p f') (bG F p fr'))/\Bk fH xM b6 (cc ((p:Int),t,n)) 49/\Lm ED fH xM (3+p) (.slice (some ⟨b1,o1,none⟩) ds.length cw) ds))/\Bk fH xM b12 #[.int .u64 u.1.1, .int .u64 u.1.2.1, .int .u64 u.1.2.2, .int .i64 m] 163/\Lm EP fH xM 0 (.slice px (L p).length cx) (L p))/\nW N Q np (jA (L p) (ds.take j)++jA ((L p).take 0) [(u,m)]) Qc nc):=by
      refine⟨⟨H10.o.1,H10.o.2,OM⟩, ?_⟩;rw[List.take_zero,nC,show DN [] u=[]from rfl,List.map_nil,DF];exact HI.o
     have hsN:(p:Int)<(N:Int):=Qv;clear OM H10 HI;go_wp2_with fail;clear s0 s1 s2 s3;go_loopw [14,15,16,73] (fun _ _ _ s73 wx=>∃(i:Nat) (tag:Nat->Nat) (Qc:List It) (nc:Nat),i<=(L p).length/\s73= .int .i64 i/\Hid ((((Ss w aF wx tag hb tb rb ar sv rv ov cv uv N L rs ms S Qc nc ((tC N S).length+j+1) (gJ (gT N Fo F) p (ds.take (j+1))) (bG C p f') (bG F p fr'))/\Bk wx tag b6 (cc ((p:Int),t,n)) 49/\Lm ED wx tag (3+p) (.slice (some ⟨b1,o1,none⟩) ds.length cw) ds))/\Bk wx tag b12 #[.int .u64 u.1.1, .int .u64 u.1.2.1, .int .u64 u.1.2.2, .int .i64 m] 163/\Lm EP wx tag 0 (.slice px (L p).length cx) (L p))/\Hid (nW N Q np (jA (L p) (ds.take j)++jA ((L p).take i) [(u,m)]) Qc nc)) (fun _ _ _ s73 _=>(L p).length-(RowKit.intOf s73).toNat);case atStart=>exact⟨0,xM,Qc,nc,Nat.zero_le _,rfl,HI0.o.1,HI0.o.2⟩
     case round=>
      clear HI0;obtain⟨i,Bq,Qi,ni,hi,rfl,HK,HI⟩:=hrel;by_cases hil:i<(L p).length
      ·have hiz:(i:Int)<((L p).length:Int):=(by omega);have hi0:(0:Int)<=(i:Int):=(by omega);obtain⟨⟨q,y⟩,hs⟩:∃d,(L p)[i]? =some d:=⟨(L p)[i],by simp⟩;have HSI:=hid hs;obtain⟨b2,o2,c2,hv2,hb2,v0,v1,v2,v3⟩:=aao HK.o.2.2.1 hs;simp only[vS]at hv2;obtain⟨hv2,-,-⟩:=hv2;subst hv2;simp only at v0 v1 v2 v3;clear hs;obtain⟨IK,Vo⟩:=aB (wr.alloc (.cells #[.int .i64 (q:Nat), .int .u64 y.1.1, .int .u64 y.1.2.1, .int .u64 y.1.2.2] 167));obtain⟨b14,xx⟩:=aB (wr.heap.size);have Kq:Hid ((((Ss w aF IK (tg Bq wr 4294967296) hb tb rb ar sv rv ov cv uv N L rs ms S Qi ni ((tC N S).length+j+1) (gJ (gT N Fo F) p (ds.take (j+1))) (bG C p f') (bG F p fr'))/\Bk IK (tg Bq wr 4294967296) b6 (cc ((p:Int),t,n)) 49/\Lm ED IK (tg Bq wr 4294967296) (3+p) (.slice (some ⟨b1,o1,none⟩) ds.length cw) ds))/\Bk IK (tg Bq wr 4294967296) b12 #[.int .u64 u.1.1, .int .u64 u.1.2.1, .int .u64 u.1.2.2, .int .i64 m] 163/\Lm EP IK (tg Bq wr 4294967296) 0 (.slice (some ⟨b2,o2,none⟩) (L p).length cx) (L p)/\Bk IK (tg Bq wr 4294967296) b14 #[.int .i64 (q:Nat), .int .u64 y.1.1, .int .u64 y.1.2.1, .int .u64 y.1.2.2] 167):=by
        rw[Vo,xx];have hg:=((Gr.refl wr).alloc (.cells #[.int .i64 (q:Nat), .int .u64 y.1.1, .int .u64 y.1.2.1, .int .u64 y.1.2.2] 167)).below;have hK:=Kp.of_below (S:=fun _=>False) hg;exact⟨⟨HK.o.1.1.grow _ hg,HK.o.1.2.1.keep hK (fun _ _ h=>h.elim) (fun k hk=>ak hk),HK.o.1.2.2.keep hK (fun _ _ h=>h.elim) (fun k hk=>ak hk)⟩,HK.o.2.1.keep hK (fun _ _ h=>h.elim) (fun k hk=>ak hk),HK.o.2.2.keep hK (fun _ _ h=>h.elim) (fun k hk=>ak hk),Bk.new _ _⟩
       go_upto_region 14 with fail;rw[<-Vo,<-xx];clear Vo xx v0 v1 v2 v3 hb2 HK;generalize tg Bq wr 4294967296=tag13 at Kq;obtain⟨v,hv⟩:=aB (Lf.qG y u);obtain⟨ok,hok⟩:=aB ((bz y u).isSome);have hon:=LW y u IK;rw[<-hv,<-hok]at hon;have HON:=hid hon;have HV:Hid (v=Lf.qG y u/\ok=(bz y u).isSome):=⟨hv,hok⟩;clear hv hok hon;have c12:=(aa Kq.o.2.1.1).1;have Qn:=ae Kq.o.2.1.1;have c14:=(aa Kq.o.2.2.2.1).1;have l14:=ae Kq.o.2.2.2.1;go_wp2_with fail;refine HON.o.mono ?_;rintro e DJ ⟨rfl,xx⟩;clear HON c12 Qn c14 l14;have WM:=hid xx;clear xx;obtain⟨IJ,Vn⟩:=aB (DJ.alloc (.cells #[.int .u64 v.1.1, .int .u64 v.1.2.1, .int .u64 v.1.2.2] 45));obtain⟨b15,xw⟩:=aB (DJ.heap.size);have D7:Hid ((((Ss w aF IJ (tg tag13 IK 4294967296) hb tb rb ar sv rv ov cv uv N L rs ms S Qi ni ((tC N S).length+j+1) (gJ (gT N Fo F) p (ds.take (j+1))) (bG C p f') (bG F p fr'))/\Bk IJ (tg tag13 IK 4294967296) b6 (cc ((p:Int),t,n)) 49/\Lm ED IJ (tg tag13 IK 4294967296) (3+p) (.slice (some ⟨b1,o1,none⟩) ds.length cw) ds))/\Bk IJ (tg tag13 IK 4294967296) b12 #[.int .u64 u.1.1, .int .u64 u.1.2.1, .int .u64 u.1.2.2, .int .i64 m] 163/\Lm EP IJ (tg tag13 IK 4294967296) 0 (.slice (some ⟨b2,o2,none⟩) (L p).length cx) (L p)/\Bk IJ (tg tag13 IK 4294967296) b14 #[.int .i64 (q:Nat), .int .u64 y.1.1, .int .u64 y.1.2.1, .int .u64 y.1.2.2] 167/\IJ.heap[b15]? =some (.cells #[.int .u64 v.1.1, .int .u64 v.1.2.1, .int .u64 v.1.2.2] 45 (0,0))):=by
        rw[Vn,xw];have hg:=WM.o.trans (((Gr.refl DJ).alloc (.cells #[.int .u64 v.1.1, .int .u64 v.1.2.1, .int .u64 v.1.2.2] 45)).below.mono WM.o.size);have hK:=Kp.of_below (S:=fun _=>False) hg;exact⟨⟨Kq.o.1.1.grow _ hg,Kq.o.1.2.1.keep hK (fun _ _ h=>h.elim) (fun k hk=>ak hk),Kq.o.1.2.2.keep hK (fun _ _ h=>h.elim) (fun k hk=>ak hk)⟩,Kq.o.2.1.keep hK (fun _ _ h=>h.elim) (fun k hk=>ak hk),Kq.o.2.2.1.keep hK (fun _ _ h=>h.elim) (fun k hk=>ak hk),Kq.o.2.2.2.keep hK (fun _ _ h=>h.elim) (fun k hk=>ak hk),ai _ _⟩
       go_upto_region 15 with fail;rw[<-Vn,<-xw];clear Vn xw Kq WM;generalize tg tag13 IK 4294967296=tag15 at D7;cases ok with
       | false=>
        have si:Hid (nW N Q np (jA (L p) (ds.take j)++jA ((L p).take (i+1)) [(u,m)]) Qi ni):=by
         rw[BJ HSI.o];have e1:bz y u=none:=by
          cases k:bz y u with
          | none => rfl
          | some z => have:=HV.o.2;rw[k]at this;cases this
         simp only[e1,DF];exact HI.o
        go_wp2_with fail;go_roundw;case rel=>exact⟨i+1,tag15,Qi,ni,by omega,by first|rfl|go_num,⟨D7.o.1,D7.o.2.1,D7.o.2.2.1⟩,si.o⟩
        case measure=>simp[RowKit.intOf];omega
       | true=>
        have HSO:Hid (bz y u=some v):=by
         cases k:bz y u with
         | none => have:=HV.o.2;rw[k]at this;cases this
         | some z=>
          have h1:=HV.o.1;unfold Lf.qG at h1;rw[k]at h1;rw[h1];rfl
        have c12:=(aa D7.o.2.1.1).1;have Qn:=ae D7.o.2.1.1;have c14:=(aa D7.o.2.2.2.1.1).1;have l14:=ae D7.o.2.2.2.1.1;have c15:=(aa D7.o.2.2.2.2).1;have l15:=ae D7.o.2.2.2.2;have wO:=hid (qA (q:Nat) v.1.1 v.1.2.1 v.1.2.2 m IJ);go_wp2_with fail;refine wO.o.mono ?_;rintro e w16 ⟨rfl,FD⟩;clear wO c12 Qn c14 l14 c15 l15;have wX:Hid ((((Ss w aF w16 (tg tag15 IJ 4294967296) hb tb rb ar sv rv ov cv uv N L rs ms S Qi ni ((tC N S).length+j+1) (gJ (gT N Fo F) p (ds.take (j+1))) (bG C p f') (bG F p fr'))/\Bk w16 (tg tag15 IJ 4294967296) b6 (cc ((p:Int),t,n)) 49/\Lm ED w16 (tg tag15 IJ 4294967296) (3+p) (.slice (some ⟨b1,o1,none⟩) ds.length cw) ds))/\Bk w16 (tg tag15 IJ 4294967296) b12 #[.int .u64 u.1.1, .int .u64 u.1.2.1, .int .u64 u.1.2.2, .int .i64 m] 163/\Lm EP w16 (tg tag15 IJ 4294967296) 0 (.slice (some ⟨b2,o2,none⟩) (L p).length cx) (L p)):=by
         have hK:=Kp.of_below (S:=fun _=>False) FD;exact⟨⟨D7.o.1.1.grow _ FD,D7.o.1.2.1.keep hK (fun _ _ h=>h.elim) (fun k hk=>ak hk),D7.o.1.2.2.keep hK (fun _ _ h=>h.elim) (fun k hk=>ak hk)⟩,D7.o.2.1.keep hK (fun _ _ h=>h.elim) (fun k hk=>ak hk),D7.o.2.2.1.keep hK (fun _ _ h=>h.elim) (fun k hk=>ak hk)⟩
        clear FD D7;generalize tg tag15 IJ 4294967296=tag16 at wX;have RI:Hid (q<N/\(-1<=m/\m<=1)/\Qi.length<=B/\ni<=B):=by
         have h1:=HI.o.len;have h2:=Uq (l:=L p) (i:=i) Tx.o;have h3:=uh.o;have h4:=HST.o.d1 (u,m) (lM Tx.o);exact⟨HP.o.to HAT.o.lt (lM HSI.o) HSO.o,h4,by omega,by omega⟩
        have Ot:=hid (wX.o.1.1.hm.push ((q:Int),v,m) (by have h1:=RI.o.2.2.1;have h2:=HP.o.hB;omega) (by have h1:=RI.o.2.2.2;have h2:=HP.o.hB;omega) HF.o wX.o.1.1.rd.rk (fun y hy=>(HI.o.vs y hy).1) ⟨q,rfl,RI.o.1⟩);go_wp2_with fail;refine Ot.o.mono ?_;rintro e RV ⟨Wn,rfl,Kh,M3⟩;have H17:Hid ((((Ss w aF RV (tg tag16 w16 1) hb tb rb ar sv rv ov cv uv N L rs ms S Wn (ni+1) ((tC N S).length+j+1) (gJ (gT N Fo F) p (ds.take (j+1))) (bG C p f') (bG F p fr'))/\Bk RV (tg tag16 w16 1) b6 (cc ((p:Int),t,n)) 49/\Lm ED RV (tg tag16 w16 1) (3+p) (.slice (some ⟨b1,o1,none⟩) ds.length cw) ds))/\Bk RV (tg tag16 w16 1) b12 #[.int .u64 u.1.1, .int .u64 u.1.2.1, .int .u64 u.1.2.2, .int .i64 m] 163/\Lm EP RV (tg tag16 w16 1) 0 (.slice (some ⟨b2,o2,none⟩) (L p).length cx) (L p)):=
         ⟨⟨wX.o.1.1.heap Kh.o.1 Kh.o.2,wX.o.1.2.1.keep Kh.o.2 (fun k _ e=>by omega) (fun k hk=>ak hk),wX.o.1.2.2.keep Kh.o.2 (fun k _ e=>by omega) (fun k hk=>ak hk)⟩,wX.o.2.1.keep Kh.o.2 (fun k _ e=>by omega) (fun k hk=>ak hk),wX.o.2.2.keep Kh.o.2 (fun k _ e=>by omega) (fun k hk=>ak hk)⟩
        have si:Hid (nW N Q np (jA (L p) (ds.take j)++jA ((L p).take (i+1)) [(u,m)]) Wn (ni+1)):=by
         rw[BJ HSI.o];simp only[HSO.o];rw[<-aA];exact HI.o.push RI.o.1 RI.o.2.1 M3.o
        clear Ot Kh M3 wX;generalize tg tag16 w16 1=KN at H17;go_wp2_with fail;go_roundw;case rel=>exact⟨i+1,KN,Wn,ni+1,by omega,by first|rfl|go_num,H17.o,si.o⟩
        case measure=>simp[RowKit.intOf];omega
      ·have hiz:¬(i:Int)<((L p).length:Int):=(by omega);have si:Hid (nW N Q np (jA (L p) (ds.take (j+1))) Qi ni):=by
        rw[BK Tx.o];have h1:=HI.o;rw[show(L p).take i=L p from List.take_of_length_le (by omega)]at h1;exact h1
       go_wp2_with fail;go_roundw;case rel=>exact⟨j+1,Bq,Qi,ni,by omega,by first|rfl|go_num,HK.o.1,si.o⟩
       case measure=>simp[RowKit.intOf];omega
    ·have hjz:¬(j:Int)<(ds.length:Int):=(by omega);obtain rfl:j=ds.length:=(by omega);have rZ:Hid (JZ N L (lX N (lu rs)) O Co Cn S B (lX N (lu rs) (p,t)+1) (bG C p f') (bG F p fr') (wq Qc)/\nc+pot N L (lX N (lu rs)) S Co Cn (lX N (lu rs) (p,t)+1)<=B/\(∀y∈Qc,Vq N y)/\Qc.length<=B/\gJ (gT N Fo F) p ds=gT N Fo (bG F p fr')):=by
      have h1:=HI.o;rw[List.take_length]at h1;have h2:=h1.len;have h3:=HST.o.nb;have h4:=uh.o;exact⟨Dr HST.o.wR h1.perm,by omega,h1.vs,by omega,VA HAT.o.lt HP.o.hN HST.o.dif HST.o.n1 HST.o.n2⟩
     obtain⟨Zp,QC⟩:=aB (wr.alloc (.cells (cc ((p:Int),t,n)) 49));obtain⟨b20,Ag⟩:=aB (wr.heap.size);have WO:Hid ((Ss w aF Zp (tg pG wr 4294967296) hb tb rb ar sv rv ov cv uv N L rs ms S Qc nc (tC N S).length (gT N Fo (bG F p fr')) (bG C p f') (bG F p fr'))/\Bk Zp (tg pG wr 4294967296) b20 (cc ((p:Int),t,n)) 49/\w.heap.size<=b20):=by
      rw[QC,Ag];have hg:=((Gr.refl wr).alloc (.cells (cc ((p:Int),t,n)) 49)).below;have h1:=HJ.o.1.grow 4294967296 hg;rw[List.take_length,rZ.o.2.2.2.2]at h1;refine⟨⟨h1.rd,h1.hm,h1.tg.tight ?_,h1.mm,h1.kp,h1.old⟩,Bk.new _ _,HJ.o.1.kp.size⟩;exact Iu HP.o.hN (fun q t hq ht=>HP.o.WV rZ.o.1 hq ht) (fun q t hq ht=>HP.o.WV HP.o.wR hq ht)
     obtain⟨y0,y1,y2,y3,y4,yz⟩:=tY HJ.o.2.1.1;simp only at y0 y1 y2 y3 y4;go_upto_region 4 with fail;simp only[cc]at QC;rw[<-QC,<-Ag];clear QC Ag y0 y1 y2 y3 y4 yz HJ HI;generalize tg pG wr 4294967296=tag20 at WO;have ZJ:=hid (WO.o.1.hm.taken (by have h1:=rZ.o.2.2.2.1;have h2:=HP.o.hB;omega) HP.o.hr HF.o (fun W hW=>(WO.o.1.rd.keep hW (fun k _ e=>by rw[e];decide) (fun k _=>rfl)).rk) rZ.o.2.2.1);go_wp2_with fail;refine ZJ.o.mono ?_;rintro e w21 ⟨c',b',Q',rfl,Qz,Yk⟩;have RP:Hid ((Ss w aF w21 (tg tag20 Zp 1) hb tb rb ar sv rv ov cv uv N L rs ms S Q' nc (tC N S).length (gT N Fo (bG F p fr')) (bG C p f') (bG F p fr'))/\Bk w21 (tg tag20 Zp 1) b20 (cc ((p:Int),t,n)) 49/\w.heap.size<=b20):=⟨WO.o.1.heap Qz.o.1 Qz.o.2,WO.o.2.1.keep Qz.o.2 (fun k _ e=>by omega) (fun k hk=>ak hk),WO.o.2.2⟩;have aa4:Hid (∃x Qa,Hd N L rs O Co Cn S B M0 (bG C p f') (bG F p fr') c' b' Q' nc gk x Qa):=⟨_,Qc,rZ.o.1,Yk.o,rZ.o.2.2.1,rZ.o.2.1,by
      have h1:=OZ.o.gm;have h2:=HAT.o.lo;omega⟩
     clear ZJ Qz Yk WO;generalize tg tag20 Zp 1=KM at RP;obtain⟨q21,k21⟩:=pQ RP.o.2.1.1 c';have H22:Hid ((Ss w aF (sG w21 b20 c') KM hb tb rb ar sv rv ov cv uv N L rs ms S Q' nc (tC N S).length (gT N Fo (bG F p fr')) (bG C p f') (bG F p fr'))/\Bk (sG w21 b20 c') KM b20 (cc c') 49/\w.heap.size<=b20):=⟨RP.o.1.set RP.o.2.2 RP.o.2.1.2 k21 (by have h1:=HP.o.hN;have h2:=HP.o.hms;omega),⟨q21,RP.o.2.1.2⟩,RP.o.2.2⟩;clear q21 k21;obtain⟨y0,y1,y2,y3,y4,yz⟩:=tY RP.o.2.1.1;have fz:=(aa RP.o.2.1.1).2;simp only[Hc.ans,Hc.tv];simp only[sG]at H22;go_wp2_with fail;go_roundg gk;case measure=>omega
     case rel=>exact⟨KM,Q',nc,_,_,c',b',b20,rfl,rfl,H22.o,aa4.o⟩
end Go.Proofs.YteekbpokkjjipaaGreat.Rc
