import Derived.Test.YteekbpokkjjipaaGreatJ27
variable{p x N:Nat}
set_option maxHeartbeats 16000000
set_option maxRecDepth 100000
namespace Go.Proofs.YteekbpokkjjipaaGreat.Rc
open Go.RowKit Go.Sort Go.Maps Pt Hc
attribute[local go_sem ↓]wp_at_zero wp_at_succ
structure TB(N:Nat)(L:Nat->List (Nat×ah))(rs ms:List Nat)(O:Nat->List ah)(Co Cn:Nat->ah->Int)(Fo Fn S:Nat->List ah)(B:Nat)(Q0:List It)(Ka:Nat):Prop where
 hms:ms.length=N
 hrs:rs.length=N
 hr:∀x∈rs,x<=N
 hN:N<=1000000
 ord:rJ N L (mI N (lT rs))
 yc:Ew N L O Cn Fn
 sup:∀q u,q<N->0<Co q u\/0<Cn q u->u∈S q
 xZ:KS N L (mI N (lT rs)) O Co Cn S B 0 Co Fo (wq Q0)
 vs:∀y∈Q0,Vq N y
 nb:Ka+pot N L (mI N (lT rs)) S Co Cn 0<=B
 hB:B<=549755813888
 bo:∀p t,p<N->0<=Co p t/\Co p t<=2147483647
 bn:∀p t,p<N->0<=Cn p t/\Cn p t<=2147483647
 sl:∀p,p<N->(S p).length<=1000000000
 st:(uR N S).length<=1099511627776
 ll:∀p,p<N->(L p).length<=1000000000
section
variable {N:Nat} {L:Nat->List (Nat×ah)} {rs ms:List Nat} {O:Nat->List ah} {Co Cn:Nat->ah->Int} {Fo Fn S:Nat->List ah} {B:Nat} {Q0:List It} {Ka:Nat}
theorem TB.to(h:TB N L rs ms O Co Cn Fo Fn S B Q0 Ka)(hp:p<N){q:Nat}{b:ah}(hb:(q,b)∈L p){u v:ah}(hv:bF b u=some v):q<N:=(h.ord.step p q u v b hp hb hv).1
theorem TB.Yx(h:TB N L rs ms O Co Cn Fo Fn S B Q0 Ka){C:Nat->ah->Int}{F:Nat->List ah}{W:List (Nat×ah×Int)}(hs:KS N L (mI N (lT rs)) O Co Cn S B x C F W)(hp:p<N){t:ah}(ht:t∈F p):t∈S p:=by
 have h1:=(((hs.Le.fr p hp).mem t).1 ht).1;rw[hs.mx p t hp]at h1;unfold mix at h1;split at h1
 ·exact h.sup p t hp (.inr h1)
 ·exact h.sup p t hp (.inl h1)
theorem TB.mem(h:TB N L rs ms O Co Cn Fo Fn S B Q0 Ka){C:Nat->ah->Int}{F:Nat->List ah}{W:List (Nat×ah×Int)}(hs:KS N L (mI N (lT rs)) O Co Cn S B x C F W)(hp:p<N){t:ah}(ht:C p t≠0):t∈S p/\0<=C p t/\C p t<=2147483647:=by
 rw[hs.mx p t hp]at ht⊢;unfold mix at ht⊢;have h1:=h.bo p t hp;have h2:=h.bn p t hp;split
 ·rename_i k;rw[if_pos k]at ht;exact⟨h.sup p t hp (.inr (by omega)),h2⟩
 ·rename_i k;rw[if_neg k]at ht;exact⟨h.sup p t hp (.inl (by omega)),h1⟩
structure Stp(N:Nat)(L:Nat->List (Nat×ah))(rs:List Nat)(O:Nat->List ah)(Co Cn:Nat->ah->Int)(S:Nat->List ah)(B x':Nat)(C:Nat->ah->Int)(F:Nat->List ah)(Q:List It)(np p:Nat)(f':ah->Int)(fr':List ah)(ds:List (ah×Int)):Prop where
 xZ:KS N L (mI N (lT rs)) O Co Cn S B x' (bI C p f') (bI F p fr') (wq Q++jN (L p) ds)
 nb:np+(jN (L p) ds).length+pot N L (mI N (lT rs)) S Co Cn x'<=B
 dif:yn (F p) fr' ds
 n1:(F p).Nodup
 n2:fr'.Nodup
 dl:ds.length<=2000000000
 d1:∀d∈ds,-1<=d.2/\d.2<=1
theorem Hd.stp(h:TB N L rs ms O Co Cn Fo Fn S B Q0 Ka){M0:Nat}{C:Nat->ah->Int}{F:Nat->List ah}{c:Th}{Q:List It}{np gk:Nat}{Qa:List It}(hd:Hd N L rs O Co Cn S B M0 C F c true Q np gk x Qa){t:ah}{n:Int}(ha:Hat N rs c Q x Qa p t n){fr':List ah}(hf:fJ (fun u=>if u=t then C p t+n else C p u) fr'):
    Stp N L rs O Co Cn S B (mI N (lT rs) (p,t)+1) C F Q np p (fun u=>if u=t then C p t+n else C p u) fr' (mh (F p) fr'):=by
 have n1:=(hd.xZ.Le.fr p ha.lt).nodup;have f2:=NU hf;have hdf:=jT n1 f2.nodup;obtain⟨k1,k2⟩:=hd.xZ.pop h.ord h.yc h.sup ha.lt ha.min ha.lo (f':=fun u=>if u=t then C p t+n else C p u) (fun u=>by rw[ha.sum]) f2 hdf ha.w1 ha.w2 (by rw[mi,mi];exact ha.w3) (List.Perm.refl (wq Q++jN (L p) (mh (F p) fr')));have hin2:∀u∈fr',u∈S p:=fun u hu=>h.Yx k1 ha.lt (by rw[bK];exact hu);refine⟨k1,by have:=hd.nb;omega,hdf,n1,f2.nodup, ?_,fun d GD=> ?_⟩
 ·have h1:=iT hdf.nd (m:=S p) fun u hu=>by
    obtain⟨d,hd1,rfl⟩:=mM.1 hu;rcases(hdf.mem d.1 d.2).1 hd1 with⟨k,_⟩|⟨k,_⟩
    ·exact h.Yx hd.xZ ha.lt k
    ·exact hin2 _ k
  rw[fQ]at h1;have:=h.sl p ha.lt;omega
 ·rcases(hdf.mem d.1 d.2).1 GD with⟨_,_,k⟩|⟨_,_,k⟩<;>omega
end
theorem VD(N:Nat)(rs:List Nat)(hr:∀x∈rs,x<=N):∃M,∀p t,p<N->mI N (lT rs) (p,t)<M:=⟨_,fun p t hp=>by
    refine VE hp ?_;unfold lT;rw[List.getD_eq_getElem?_getD];cases k:rs[p]? with
    | none => exact zL _
    | some z => exact hr z (lM k)⟩
def Spn(w:World)(aK:Nat->Nat)(rb:Nat)(ar:Int)(sv rv ov cv uv:Value)(N:Nat)(L:Nat->List (Nat×ah))(rs ms:List Nat)(S:Nat->List ah)(Fo:Nat->List ah)(Cn:Nat->ah->Int)(Fn:Nat->List ah)(e:Ending)(w':World):Prop:=
 ∃vl ks tag',e= .returned vl/\qj (gT N Fo Fn) ks/\w'.ownsRow w.heap.size 49 5 vl (Pw (gT N Fo Fn) ks).length (fl EC (Pw (gT N Fo Fn) ks))/\
  Rd w' tag' rb ar sv rv ov cv uv N L rs ms/\(∀p mb,ms[p]? =some mb->Ml w' tag' (3+p) mb (S p).length (Cn p) (Fn p))/\Kp (fun k=>aK k≠0) w w'/\(∀k,k<w.heap.size->tag' k=aK k)/\∀k,vl.ownBlock=some k->tag' k=0
theorem OU{Fo F F':Nat->List ah}(h:∀p,p<N->F p=F' p):gT N Fo F=gT N Fo F':=by
 funext s
 unfold gT;split
 ·rename_i k;rw[h s.1.1.toNat (by omega)]
 ·rfl
theorem FN(hlo:aaH){aK:Nat->Nat}{hb rb:Nat}{ar:Int}{sv rv ov cv uv:Value}{L:Nat->List (Nat×ah)}{rs ms:List Nat}{S O Fo Fn:Nat->List ah}{Co Cn:Nat->ah->Int}{B Ka:Nat}{Q0:List It}(w:World)(hP:TB N L rs ms O Co Cn Fo Fn S B Q0 Ka)
    (hR:Rd w aK rb ar sv rv ov cv uv N L rs ms) (hH:Hm w aK hb (wv ar sv rv) (kL N rs) Q0 Ka) (hM:∀p mb,ms[p]? =some mb->Ml w aK (3+p) mb (S p).length (Co p) (Fo p)) :
    Calls Tryz.prog 38 #[.pointer (some ⟨rb,0,none⟩), .pointer (some ⟨hb,0,none⟩)] w fun e w'=>Hid (Spn w aK rb ar sv rv ov cv uv N L rs ms S Fo Cn Fn e w'):=by
 have hmx:Tryz.prog.follows .mixedOrders=true:=by kernel_rfl
 have HP:=hid hP;have KX:=hid hlo;have HF:=hid (D8 (ar:=ar) (sv:=sv) (rv:=rv) hP.hr hP.hrs);have aaP:=hid (Rs.Tt.dD 78 w);have HR:=hid hR;have HH:=hid hH;have HM:=hid hM;clear hP hlo hR hH hM;go_enter Tryz.func38,Tryz.ntmps38;go_wp2_with fail;refine aaP.o.mono ?_;rintro e w1 ⟨rfl,hT1,hG1⟩;clear aaP;obtain⟨tb,htb⟩:=aD (w.heap.size+1);rw[<-htb]at hT1⊢;have TJ:Hid (Ss w aK w1 (tg aK w 2) hb tb rb ar sv rv ov cv uv N L rs ms S Q0 Ka (uR N S).length (gT N Fo Fo) Co Fo):=by
  have hB:=hG1.below;have hK:=Kp.of_below (S:=fun _=>False) hB;refine⟨HR.o.keep hK (fun _ _ h=>h.elim) (fun k hk=>aj hk),HH.o.keep hK (fun _ _ h=>h.elim) (fun k hk=>aj hk), ?_,fun p mb hp=>(HM.o p mb hp).keep hK (fun _ _ h=>h.elim) (fun k hk=>aj hk),hK.mono (fun _ h=>h.elim),fun k hk=>aj hk⟩;refine Tg.tight (nt:=0) ?_ (Jp HP.o.hN (fun p t hp ht=>HP.o.Yx HP.o.xZ hp ht) (fun p t hp ht=>HP.o.Yx HP.o.xZ hp ht));rw[Su];exact⟨w.heap.size,hT1,aR (by omega),aR (nR _)⟩
 clear hT1 hG1 htb HR HH HM;obtain⟨CP,Um⟩:=aD (tg aK w 2);rw[<-Um]at TJ;clear Um;have HTA:=hid (TJ.o.hm.taken (by have h1:=HP.o.xZ.bd;have h2:=HP.o.hB;rw[mi]at h1;omega) HP.o.hr HF.o (fun W hW=>(TJ.o.rd.keep hW (fun k _ e=>by rw[e];decide) (fun k _=>rfl)).rk) HP.o.vs);go_wp2_with fail;refine HTA.o.mono ?_;rintro e w2 ⟨c,b,Q1,rfl,hm2,ht2⟩;clear HTA;have HS2:=hid (TJ.o.heap hm2.o.1 hm2.o.2);have HT2:=hid ht2.o;clear hm2 ht2 TJ;obtain⟨Aj,Ul⟩:=aD (tg CP w1 1);rw[<-Ul]at HS2;clear Ul;simp only[Hc.ans,Hc.tv];go_upto_region 3 with fail;obtain⟨W3,hW3⟩:=aD (w2.alloc (.cells (cc c) 49));obtain⟨b6,hb6⟩:=aD (w2.heap.size);have HS3:Hid (Ss w aK W3 (tg Aj w2 4294967296) hb tb rb ar sv rv ov cv uv N L rs ms S Q1 Ka (uR N S).length (gT N Fo Fo) Co Fo/\Bk W3 (tg Aj w2 4294967296) b6 (cc c) 49/\w.heap.size<=b6):=by
  rw[hW3,hb6];exact⟨HS2.o.grow 4294967296 ((Gr.refl w2).alloc _).below,Bk.new _ _,HS2.o.kp.size⟩
 obtain⟨M0,hM0⟩:=VD N rs HP.o.hr;have PR:=hid hM0;have HD3:Hid (∃x Qa,Hd N L rs O Co Cn S B M0 Co Fo c b Q1 Ka M0 x Qa):=⟨0,Q0,HP.o.xZ,HT2.o,HP.o.vs,HP.o.nb,by omega⟩;clear hM0;simp only[cc]at hW3;rw[<-hW3,<-hb6];clear hW3 hb6 HS2 HT2;go_loopg [6,7,8,9,10,12,14,15,16] M0 (fun gk s6 s7 _ _ _ _ _ _ _ wr=>∃(tag:Nat->Nat) (Q:List It) (np:Nat) (C:Nat->ah->Int) (F:Nat->List ah) (c:Th) (b:Bool) (b6:Nat),s6= .pointer (some ⟨b6,0,none⟩)/\s7= .bool b/\Hid (Ss w aK wr tag hb tb rb ar sv rv ov cv uv N L rs ms S Q np (uR N S).length (gT N Fo F) C F/\Bk wr tag b6 (cc c) 49/\w.heap.size<=b6)/\Hid (∃x Qa,Hd N L rs O Co Cn S B M0 C F c b Q np gk x Qa));case atStart=>exact⟨_,Q1,Ka,Co,Fo,c,b,b6,rfl,rfl,HS3.o,HD3.o⟩
 case round=>
  clear HS3 HD3;obtain⟨tag,Q,np,C,F,c,b,b6,rfl,rfl,vC,HHD⟩:=hrel;obtain⟨x,Qa,hhd⟩:=HHD.o;have Qs:=hid hhd;clear hhd HHD;cases b with
  | false=>
   have hq:Qa=[]/\Q=[]:=by
    rcases Qs.o.tk with k|k
    ·exact k.2
    ·exact absurd k.1 (by simp)
   obtain⟨rfl,rfl⟩:=hq;have Yj:Hid ((∀p,p<N->C p=Cn p/\F p=Fn p)/\gT N Fo F=gT N Fo Fn):=by
    have h1:∀p,p<N->C p=Cn p/\F p=Fn p:=fun p hp=>by
     obtain⟨h1,h2⟩:=Qs.o.xZ.Le.fin HP.o.ord HP.o.yc hp;exact⟨funext h1,h2⟩
    exact⟨h1,OU fun p hp=>(h1 p hp).2⟩
   obtain⟨bb,htl,_⟩:=vC.o.1.tg;have HL:=hid (KX.o wr tb bb _ _ htl (by have:=HP.o.st;omega));clear htl;go_wp2_with fail;refine HL.o.mono ?_;rintro e w9 ⟨vl,ks,h1,rfl,h2,h3⟩;have HE:Hid (Spn w aK rb ar sv rv ov cv uv N L rs ms S Fo Cn Fn (.returned vl) w9):=by
    have hS:=vC.o.1.grow 0 h3;rw[Yj.o.2]at h1 h2;refine⟨vl,ks,_,rfl,h1,aM h2 vC.o.1.kp.size,hS.rd,fun p mb hp=> ?_,hS.kp,hS.old,fun k hk=>aR (iX h2 hk)⟩;have R4:p<N:=(by rw[<-HP.o.hms];exact(lG.1 hp).1);have:=hS.mm p mb hp;rw[(Yj.o.1 p R4).1,(Yj.o.1 p R4).2]at this;exact this
   clear h1 h2 h3;go_wp2_with fail;refine bR (v:=vl) (by simp[results,Tryz.results38,go_sem]) rfl HE
  | true=>
   obtain⟨p,t,n,hat⟩:=Qs.o.at;have HAT:=hid hat;obtain rfl:=hat.eq;clear hat;obtain⟨gk,rfl⟩:∃g',gk=g'+1:=⟨gk-1,by
    have h1:=Qs.o.gm;have h2:=HAT.o.lo;have h3:=PR.o p t HAT.o.lt;omega⟩
   obtain⟨mb,hmb⟩:∃mb,ms[p]? =some mb:=⟨ms[p]'(by have:=HAT.o.lt;have:=HP.o.hms;omega),by rw[qw]⟩;have zT:=hid hmb;clear hmb;obtain⟨bi,oi,ci,hcv,-,-⟩:=vC.o.1.rd.come zT.o;rw[HP.o.hms]at hcv;have HCV:=hid hcv;clear hcv;have hpz:(0:Int)<=(p:Int):=(by omega);have R4:(p:Int)<(N:Int):=(by have:=HAT.o.lt;omega);obtain⟨y0,y1,y2,y3,y4,yz⟩:=vz vC.o.2.1.1;simp only at y0 y1 y2 y3 y4;go_upto_region 6 with fail;clear y0 y1 y2 y3 y4 yz;have hS0:(fun W:World=>Kp (fun k=>tag k=3+p) wr W) wr.drew:=Kp.aZ (Gr.refl wr).drew;have uN:Hid (∀W:World,Kp (fun k=>tag k=3+p) wr W->(W.cell? ⟨rb,4,none⟩=some (.slice (some ⟨bi,oi,none⟩) N ci)/\rb<W.heap.size/\W.cell? ⟨bi,oi+p,none⟩=some (.pointer (some ⟨mb,0,none⟩))/\bi<W.heap.size)/\W.heap[b6]? =some (.cells (cc ((p:Int),t,n)) 49 (0,0))):=fun W hW=>⟨(vC.o.1.rd.keep hW (fun k _ e=>by omega) (fun k _=>rfl)).come' zT.o HCV.o,(vC.o.2.1.keep hW (fun k _ e=>by have h1:=HAT.o.lt;have h2:=HP.o.hN;omega) (fun k _=>rfl)).1⟩;have Qt:Hid (0<=C p t/\C p t<=2147483647/\0<=C p t+n/\C p t+n<=2147483647/\-2147483647<=n/\n<=2147483647):=by
    have h1:=Qs.o.xZ.Le.first HP.o.ord HP.o.yc HAT.o.lt HAT.o.min;rw[HAT.o.sum]at h1;have h2:=HP.o.bn p t HAT.o.lt;have h3:0<=C p t/\C p t<=2147483647:=by
     by_cases k:C p t=0
     ·omega
     ·exact(HP.o.mem Qs.o.xZ HAT.o.lt k).2
    have h4:0<=C p t/\C p t<=2147483647/\0<=C p t+n/\C p t+n<=2147483647/\-2147483647<=n/\n<=2147483647:=(by omega);exact h4
   have Qu:Hid (∀W:World,Gr wr W->Calls Tryz.prog 80 #[.pointer (some ⟨mb,0,none⟩), .slice (some ⟨W.heap.size,0,none⟩) 1 1] (W.alloc (.cells #[.int .u64 t.1.1, .int .u64 t.1.2.1, .int .u64 t.1.2.2, .int .i64 n] 163)) fun e w'=>∃(vo:Value),e= .returned (.tuple #[vo, .int .i64 0])/\Hid (∃tag' fr',Ss w aK w' tag' hb tb rb ar sv rv ov cv uv N L rs ms S Q np (uR N S).length (gT N Fo F) (bI C p (fun u=>if u=t then C p t+n else C p u)) (bI F p fr')/\Bk w' tag' b6 (cc ((p:Int),t,n)) 49/\Lm ED w' tag' (3+p) vo (mh (F p) fr')/\fJ (fun u=>if u=t then C p t+n else C p u) fr')/\Hid (Kp (fun k=>tag k=3+p) wr w')):=by
    intro W hW;have hg:Below wr.heap.size wr (W.alloc (.cells #[.int .u64 t.1.1, .int .u64 t.1.2.1, .int .u64 t.1.2.2, .int .i64 n] 163)):=(hW.alloc _).below;have hls:=VV W t n;generalize W.alloc (.cells #[.int .u64 t.1.1, .int .u64 t.1.2.1, .int .u64 t.1.2.2, .int .i64 n] 163)=W1 at hg hls⊢;have hS1:=vC.o.1.grow 0 hg;have hB1:=vC.o.2.1.keep (tag':=tg tag wr 0) (Kp.of_below (S:=fun _=>False) hg) (fun _ _ h=>h.elim) (fun k hk=>aj hk);have hlt:=HAT.o.lt;refine((hS1.mm p mb zT.o).apply t n _ hls Qt.o.2.2.2.2 (by have:=Qt.o;omega) (by have:=HP.o.sl p hlt;omega)).mono ?_;rintro e w' ⟨vo,fr',rfl,h7⟩;obtain⟨h1,h2,h3⟩:=h7.o;have aba:∀u,(if u=t then C p t+n else C p u)≠0->u∈S p:=fun u hu=>by
     by_cases k:u=t
     ·subst k;rw[if_pos rfl]at hu;have e1:=Qs.o.xZ.Le.first HP.o.ord HP.o.yc hlt HAT.o.min;rw[HAT.o.sum]at e1;have e2:=Qt.o;exact HP.o.sup p u hlt (.inr (by omega))
     ·rw[if_neg k]at hu;exact(HP.o.mem Qs.o.xZ hlt hu).1
    have hf:=h1;obtain⟨_,_,_,_,_,hf,_⟩:=hf;refine⟨vo,rfl,⟨_,fr',hS1.Nj zT.o (h1.tight aba) h3,hB1.keep h3 (fun k _ e=>by have:=HP.o.hN;omega) (fun k hk=>aj hk),⟨aJ (E:=ED) h2,fun k hk=>aR (iX h2 hk)⟩,hf⟩, ?_⟩;exact((Kp.of_below (S:=fun k=>tag k=3+p) hg).trans h3 fun k hk e=>by
     rw[aj hk]at e;exact e)
   refine ay (S:=fun W:World=>Kp (fun k=>tag k=3+p) wr W) (D:=[]) hmx ?_;refine' av 0 hS0 ?_;refine' av 1 hS0 ?_;refine' av 2 hS0 ?_;refine' bB 3 hS0 ?h ?_;case h=>(intro W hSw;obtain⟨⟨c0,c1,c2,c3⟩,-⟩:=uN.o W hSw;go_simp;try(with_reducible rfl))
   refine' av 4 hS0 ?_;refine' av 5 hS0 ?_;refine' bB 6 hS0 ?h ?_;case h=>(intro W hSw;obtain⟨⟨c0,c1,c2,c3⟩,-⟩:=uN.o W hSw;go_simp;try(with_reducible rfl))
   refine' av 7 hS0 ?_;refine' av 8 hS0 ?_;refine' bB 9 hS0 ?h ?_;case h=>(intro W hSw;obtain⟨-,c4⟩:=uN.o W hSw;obtain⟨y0,y1,y2,y3,y4,yz⟩:=vz c4;simp only at y0 y1 y2 y3 y4;go_simp;try(with_reducible rfl))
   refine' av 10 hS0 ?_;refine' bB 11 hS0 ?h ?_;case h=>(intro W hSw;obtain⟨-,c4⟩:=uN.o W hSw;obtain⟨y0,y1,y2,y3,y4,yz⟩:=vz c4;simp only at y0 y1 y2 y3 y4;go_simp;try(with_reducible rfl))
   refine' av 12 hS0 ?_;refine bN 13 fun K hK=> ?_;go_simp;refine hK.o _ _ (fun hD=>(hS0.trans (Kp.of_below (S:=fun _=>False) ((Gr.refl _).alloc _).below) (fun _ _ h=>h.elim))) ?_;clear hK K;try simp only[Act.put,qI,q0,qS]
   refine bN 14 fun K hK=> ?_;go_simp;refine(Qu.o wr.drew (Gr.refl wr).drew).mono ?_;rintro e w7 ⟨vo,rfl,hA7,zJ⟩;go_wp2_with fail;refine hK.o _ _ (fun hD=>zJ.o) ?_;clear hK K;try simp only[Act.put,qI,q0,qS]
   refine' av 15 zJ.o ?_;refine' av 16 zJ.o ?_;refine' av 17 zJ.o ?_;refine' av 18 zJ.o ?_;refine' av 19 zJ.o ?_;refine ak (by kernel_rfl) ?_ _;clear hS0 uN Qu zJ;obtain⟨vQ,fr',h71,h72,h73,h74⟩:=hA7.o;have HST:=hid (Hd.stp HP.o Qs.o HAT.o h74);obtain⟨ds,hds⟩:=aD (mh (F p) fr');rw[<-hds]at h73 HST;obtain⟨pv,cw,rfl⟩:=h73.1.form;have H70:Hid (Ss w aK w7 vQ hb tb rb ar sv rv ov cv uv N L rs ms S Q np (uR N S).length (gT N Fo F) (bI C p (fun u=>if u=t then C p t+n else C p u)) (bI F p fr')/\Bk w7 vQ b6 (cc ((p:Int),t,n)) 49/\Lm ED w7 vQ (3+p) (.slice pv ds.length cw) ds):=⟨h71,h72,h73⟩;have vE:Hid (Q.length+(jN (L p) ds).length<=B/\np+(jN (L p) ds).length<=B):=by
    have h1:=HST.o.xZ.bd;have h2:=HST.o.nb;rw[dK,mi]at h1;exact⟨by omega,by omega⟩
   obtain⟨f',hf'⟩:∃f:ah->Int,f=fun u=>if u=t then C p t+n else C p u:=⟨_,rfl⟩
   rw[<-hf']at HST H70;clear h71 h72 h73 h74 hds hA7 Qt hf';have hdb:ds.length<=2000000000:=HST.o.dl;have hlb:(L p).length<=1000000000:=HP.o.ll p HAT.o.lt;have HL0:Hid (((Ss w aK w7 vQ hb tb rb ar sv rv ov cv uv N L rs ms S Q np ((uR N S).length+0) (gJ (gT N Fo F) p (ds.take 0)) (bI C p f') (bI F p fr'))/\Bk w7 vQ b6 (cc ((p:Int),t,n)) 49/\Lm ED w7 vQ (3+p) (.slice pv ds.length cw) ds)/\o5 N Q np (jN (L p) (ds.take 0)) Q np):=by
    rw[tZ,Xi];exact⟨H70.o,o5.init HAT.o.vs⟩
   clear H70;go_wp2_with fail;go_loopw [12,14,15,16,52] (fun _ _ _ _ Zg wx=>∃(j:Nat) (tag:Nat->Nat) (Qc:List It) (nc:Nat),j<=ds.length/\Zg= .int .i64 j/\Hid ((Ss w aK wx tag hb tb rb ar sv rv ov cv uv N L rs ms S Qc nc ((uR N S).length+j) (gJ (gT N Fo F) p (ds.take j)) (bI C p f') (bI F p fr'))/\Bk wx tag b6 (cc ((p:Int),t,n)) 49/\Lm ED wx tag (3+p) (.slice pv ds.length cw) ds)/\Hid (o5 N Q np (jN (L p) (ds.take j)) Qc nc)) (fun _ _ _ _ Zg _=>ds.length-(intOf Zg).toNat);case atStart=>exact⟨0,vQ,Q,np,zL _,rfl,HL0.o.1,HL0.o.2⟩
   case round=>
    clear HL0;obtain⟨j,qG,Qc,nc,hj,rfl,HJ,HI⟩:=hrel;by_cases hlt:j<ds.length
    ·have hjz:(j:Int)<(ds.length:Int):=(by omega);have hj0:(0:Int)<=(j:Int):=(by omega);obtain⟨⟨u,m⟩,hd⟩:∃d,ds[j]? =some d:=⟨ds[j],by simp⟩;have UZ:=hid hd;obtain⟨b1,o1,c1,hv1,hb1,u0,u1,u2,u3⟩:=HJ.o.2.2.1.at4 hd;simp only[vS]at hv1;obtain⟨hv1,-,-⟩:=hv1;subst hv1;simp only at u0 u1 u2 u3;clear hd;obtain⟨W9,OJ⟩:=aD (wr.alloc (.cells #[.int .u64 u.1.1, .int .u64 u.1.2.1, .int .u64 u.1.2.2, .int .i64 m] 163));obtain⟨b12,jv⟩:=aD (wr.heap.size);have H9:Hid (((Ss w aK W9 (tg qG wr 4294967296) hb tb rb ar sv rv ov cv uv N L rs ms S Qc nc ((uR N S).length+j) (gJ (gT N Fo F) p (ds.take j)) (bI C p f') (bI F p fr'))/\Bk W9 (tg qG wr 4294967296) b6 (cc ((p:Int),t,n)) 49/\Lm ED W9 (tg qG wr 4294967296) (3+p) (.slice (some ⟨b1,o1,none⟩) ds.length cw) ds)/\Bk W9 (tg qG wr 4294967296) b12 #[.int .u64 u.1.1, .int .u64 u.1.2.1, .int .u64 u.1.2.2, .int .i64 m] 163):=by
      rw[OJ,jv];have hg:=((Gr.refl wr).alloc (.cells #[.int .u64 u.1.1, .int .u64 u.1.2.1, .int .u64 u.1.2.2, .int .i64 m] 163)).below;have hK:=Kp.of_below (S:=fun _=>False) hg;exact⟨⟨HJ.o.1.grow _ hg,HJ.o.2.1.keep hK (fun _ _ h=>h.elim) (fun k hk=>aj hk),HJ.o.2.2.keep hK (fun _ _ h=>h.elim) (fun k hk=>aj hk)⟩,Bk.new _ _⟩
     go_upto_region 10 with fail;rw[<-OJ,<-jv];clear OJ jv u0 u1 u2 u3 hb1 HJ;generalize tg qG wr 4294967296=tag9 at H9;have HAD:Hid (Calls Tryz.prog 81 #[.pointer (some ⟨tb,0,none⟩), .agg #[.int .i64 (p:Int), .int .u64 u.1.1, .int .u64 u.1.2.1, .int .u64 u.1.2.2], .int .i64 m] W9 fun e w'=>e= .returned (.int .i64 0)/\Hid (Tg w' (tg tag9 W9 2) tb ((uR N S).length+j+1) (gJ (gT N Fo F) p (ds.take (j+1)))/\Kp (fun k=>tag9 k=2) W9 w')):=by
      have hpl:p<=1000000:=(by have h1:=HAT.o.lt;have h2:=HP.o.hN;omega);have GD:=HST.o.d1 (u,m) (lM UZ.o);simp only at GD;have hgb:=aar (p:=p) (l:=ds.take j) (aaq (N:=N) (Fo:=Fo) (F:=F)) (fun d hd=>HST.o.d1 d (List.mem_of_mem_take hd)) (sk p u);have hlen:(ds.take j).length<=2000000000:=(by rw[lK];have:=HST.o.dl;omega);have h:=H9.o.1.1.tg.add (sk p u) m (by have h1:=HP.o.st;have h2:=HST.o.dl;unfold maxLen;omega) (by omega) (by omega);have e1:Rs.mv (sk p u)= .agg #[.int .i64 (p:Int), .int .u64 u.1.1, .int .u64 u.1.2.1, .int .u64 u.1.2.2]:=(by unfold Rs.mv;rw[j6 hpl]);have e2:=Sw (gT N Fo F) p (ds.take j) (u,m);rw[show ds.take j++[(u,m)]=ds.take (j+1)by rw[tO,UZ.o];rfl]at e2;rw[<-e1,<-e2];exact h
     have c12:=(aa H9.o.2.1).1;have Je:=ae H9.o.2.1;go_wp2_with fail;refine HAD.o.mono ?_;rintro e fE ⟨rfl,Kn⟩;have H10:Hid (((Ss w aK fE (tg tag9 W9 2) hb tb rb ar sv rv ov cv uv N L rs ms S Qc nc ((uR N S).length+j+1) (gJ (gT N Fo F) p (ds.take (j+1))) (bI C p f') (bI F p fr'))/\Bk fE (tg tag9 W9 2) b6 (cc ((p:Int),t,n)) 49/\Lm ED fE (tg tag9 W9 2) (3+p) (.slice (some ⟨b1,o1,none⟩) ds.length cw) ds)/\Bk fE (tg tag9 W9 2) b12 #[.int .u64 u.1.1, .int .u64 u.1.2.1, .int .u64 u.1.2.2, .int .i64 m] 163):=⟨⟨H9.o.1.1.tally Kn.o.1 Kn.o.2,H9.o.1.2.1.keep Kn.o.2 (fun k _ e=>by omega) (fun k hk=>aj hk),H9.o.1.2.2.keep Kn.o.2 (fun k _ e=>by omega) (fun k hk=>aj hk)⟩,H9.o.2.keep Kn.o.2 (fun k _ e=>by omega) (fun k hk=>aj hk)⟩;clear Kn HAD H9 c12 Je;generalize tg tag9 W9 2=yO at H10;obtain⟨bs,os,cs,px,cx,-,Qh,s0,s1,s2,s3⟩:=H10.o.1.1.rd.step HAT.o.lt;have HI0:Hid (((((Ss w aK fE yO hb tb rb ar sv rv ov cv uv N L rs ms S Qc nc ((uR N S).length+j+1) (gJ (gT N Fo F) p (ds.take (j+1))) (bI C p f') (bI F p fr'))/\Bk fE yO b6 (cc ((p:Int),t,n)) 49/\Lm ED fE yO (3+p) (.slice (some ⟨b1,o1,none⟩) ds.length cw) ds))/\Bk fE yO b12 #[.int .u64 u.1.1, .int .u64 u.1.2.1, .int .u64 u.1.2.2, .int .i64 m] 163/\Lm EP fE yO 0 (.slice px (L p).length cx) (L p))/\o5 N Q np (jN (L p) (ds.take j)++jN ((L p).take 0) [(u,m)]) Qc nc):=by
      refine⟨⟨H10.o.1,H10.o.2,Qh⟩, ?_⟩;rw[tZ,ou,show EW [] u=[]from rfl,List.map_nil,EN];exact HI.o
     have hsN:(p:Int)<(N:Int):=R4;clear Qh H10 HI;go_wp2_with fail;clear s0 s1 s2 s3;go_loopw [14,15,16,73] (fun _ _ _ s73 wx=>∃(i:Nat) (tag:Nat->Nat) (Qc:List It) (nc:Nat),i<=(L p).length/\s73= .int .i64 i/\Hid ((((Ss w aK wx tag hb tb rb ar sv rv ov cv uv N L rs ms S Qc nc ((uR N S).length+j+1) (gJ (gT N Fo F) p (ds.take (j+1))) (bI C p f') (bI F p fr'))/\Bk wx tag b6 (cc ((p:Int),t,n)) 49/\Lm ED wx tag (3+p) (.slice (some ⟨b1,o1,none⟩) ds.length cw) ds))/\Bk wx tag b12 #[.int .u64 u.1.1, .int .u64 u.1.2.1, .int .u64 u.1.2.2, .int .i64 m] 163/\Lm EP wx tag 0 (.slice px (L p).length cx) (L p))/\Hid (o5 N Q np (jN (L p) (ds.take j)++jN ((L p).take i) [(u,m)]) Qc nc)) (fun _ _ _ s73 _=>(L p).length-(intOf s73).toNat);case atStart=>exact⟨0,yO,Qc,nc,zL _,rfl,HI0.o.1,HI0.o.2⟩
     case round=>
      clear HI0;obtain⟨i,CO,Qi,ni,hi,rfl,HK,HI⟩:=hrel;by_cases hil:i<(L p).length
      ·have hiz:(i:Int)<((L p).length:Int):=(by omega);have hi0:(0:Int)<=(i:Int):=(by omega);obtain⟨⟨q,y⟩,hs⟩:∃d,(L p)[i]? =some d:=⟨(L p)[i],by simp⟩;have HSI:=hid hs;obtain⟨b2,o2,c2,hv2,hb2,v0,v1,v2,v3⟩:=aa4 HK.o.2.2.1 hs;simp only[vS]at hv2;obtain⟨hv2,-,-⟩:=hv2;subst hv2;simp only at v0 v1 v2 v3;clear hs;obtain⟨JC,Xa⟩:=aD (wr.alloc (.cells #[.int .i64 (q:Nat), .int .u64 y.1.1, .int .u64 y.1.2.1, .int .u64 y.1.2.2] 167));obtain⟨b14,Km⟩:=aD (wr.heap.size);have Lr:Hid ((((Ss w aK JC (tg CO wr 4294967296) hb tb rb ar sv rv ov cv uv N L rs ms S Qi ni ((uR N S).length+j+1) (gJ (gT N Fo F) p (ds.take (j+1))) (bI C p f') (bI F p fr'))/\Bk JC (tg CO wr 4294967296) b6 (cc ((p:Int),t,n)) 49/\Lm ED JC (tg CO wr 4294967296) (3+p) (.slice (some ⟨b1,o1,none⟩) ds.length cw) ds))/\Bk JC (tg CO wr 4294967296) b12 #[.int .u64 u.1.1, .int .u64 u.1.2.1, .int .u64 u.1.2.2, .int .i64 m] 163/\Lm EP JC (tg CO wr 4294967296) 0 (.slice (some ⟨b2,o2,none⟩) (L p).length cx) (L p)/\Bk JC (tg CO wr 4294967296) b14 #[.int .i64 (q:Nat), .int .u64 y.1.1, .int .u64 y.1.2.1, .int .u64 y.1.2.2] 167):=by
        rw[Xa,Km];have hg:=((Gr.refl wr).alloc (.cells #[.int .i64 (q:Nat), .int .u64 y.1.1, .int .u64 y.1.2.1, .int .u64 y.1.2.2] 167)).below;have hK:=Kp.of_below (S:=fun _=>False) hg;exact⟨⟨HK.o.1.1.grow _ hg,HK.o.1.2.1.keep hK (fun _ _ h=>h.elim) (fun k hk=>aj hk),HK.o.1.2.2.keep hK (fun _ _ h=>h.elim) (fun k hk=>aj hk)⟩,HK.o.2.1.keep hK (fun _ _ h=>h.elim) (fun k hk=>aj hk),HK.o.2.2.keep hK (fun _ _ h=>h.elim) (fun k hk=>aj hk),Bk.new _ _⟩
       go_upto_region 14 with fail;rw[<-Xa,<-Km];clear Xa Km v0 v1 v2 v3 hb2 HK;generalize tg CO wr 4294967296=tag13 at Lr;obtain⟨v,hv⟩:=aD (Lf.tH y u);obtain⟨ok,hok⟩:=aD ((bF y u).isSome);have hon:=VO y u JC;rw[<-hv,<-hok]at hon;have HON:=hid hon;have HV:Hid (v=Lf.tH y u/\ok=(bF y u).isSome):=⟨hv,hok⟩;clear hv hok hon;have c12:=(aa Lr.o.2.1.1).1;have Je:=ae Lr.o.2.1.1;have c14:=(aa Lr.o.2.2.2.1).1;have l14:=ae Lr.o.2.2.2.1;go_wp2_with fail;refine HON.o.mono ?_;rintro e w14 ⟨rfl,Km⟩;clear HON c12 Je c14 l14;have Yn:=hid Km;clear Km;obtain⟨JB,WZ⟩:=aD (w14.alloc (.cells #[.int .u64 v.1.1, .int .u64 v.1.2.1, .int .u64 v.1.2.2] 45));obtain⟨b15,WV⟩:=aD (w14.heap.size);have Fe:Hid ((((Ss w aK JB (tg tag13 JC 4294967296) hb tb rb ar sv rv ov cv uv N L rs ms S Qi ni ((uR N S).length+j+1) (gJ (gT N Fo F) p (ds.take (j+1))) (bI C p f') (bI F p fr'))/\Bk JB (tg tag13 JC 4294967296) b6 (cc ((p:Int),t,n)) 49/\Lm ED JB (tg tag13 JC 4294967296) (3+p) (.slice (some ⟨b1,o1,none⟩) ds.length cw) ds))/\Bk JB (tg tag13 JC 4294967296) b12 #[.int .u64 u.1.1, .int .u64 u.1.2.1, .int .u64 u.1.2.2, .int .i64 m] 163/\Lm EP JB (tg tag13 JC 4294967296) 0 (.slice (some ⟨b2,o2,none⟩) (L p).length cx) (L p)/\Bk JB (tg tag13 JC 4294967296) b14 #[.int .i64 (q:Nat), .int .u64 y.1.1, .int .u64 y.1.2.1, .int .u64 y.1.2.2] 167/\JB.heap[b15]? =some (.cells #[.int .u64 v.1.1, .int .u64 v.1.2.1, .int .u64 v.1.2.2] 45 (0,0))):=by
        rw[WZ,WV];have hg:=Yn.o.trans (((Gr.refl w14).alloc (.cells #[.int .u64 v.1.1, .int .u64 v.1.2.1, .int .u64 v.1.2.2] 45)).below.mono Yn.o.size);have hK:=Kp.of_below (S:=fun _=>False) hg;exact⟨⟨Lr.o.1.1.grow _ hg,Lr.o.1.2.1.keep hK (fun _ _ h=>h.elim) (fun k hk=>aj hk),Lr.o.1.2.2.keep hK (fun _ _ h=>h.elim) (fun k hk=>aj hk)⟩,Lr.o.2.1.keep hK (fun _ _ h=>h.elim) (fun k hk=>aj hk),Lr.o.2.2.1.keep hK (fun _ _ h=>h.elim) (fun k hk=>aj hk),Lr.o.2.2.2.keep hK (fun _ _ h=>h.elim) (fun k hk=>aj hk),ai _ _⟩
       go_upto_region 15 with fail;rw[<-WZ,<-WV];clear WZ WV Lr Yn;generalize tg tag13 JC 4294967296=tag15 at Fe;cases ok with
       | false=>
        have uy:Hid (o5 N Q np (jN (L p) (ds.take j)++jN ((L p).take (i+1)) [(u,m)]) Qi ni):=by
         rw[Da HSI.o];have e1:bF y u=none:=by
          cases k:bF y u with
          | none => rfl
          | some z => have:=HV.o.2;rw[k]at this;cases this
         simp only[e1,EN];exact HI.o
        go_wp2_with fail;go_roundw;case rel=>exact⟨i+1,tag15,Qi,ni,by omega,by first|rfl|go_num,⟨Fe.o.1,Fe.o.2.1,Fe.o.2.2.1⟩,uy.o⟩
        case measure=>simp[intOf];omega
       | true=>
        have HSO:Hid (bF y u=some v):=by
         cases k:bF y u with
         | none => have:=HV.o.2;rw[k]at this;cases this
         | some z=>
          have h1:=HV.o.1;unfold Lf.tH at h1;rw[k]at h1;rw[h1];rfl
        have c12:=(aa Fe.o.2.1.1).1;have Je:=ae Fe.o.2.1.1;have c14:=(aa Fe.o.2.2.2.1.1).1;have l14:=ae Fe.o.2.2.2.1.1;have c15:=(aa Fe.o.2.2.2.2).1;have l15:=ae Fe.o.2.2.2.2;have uA:=hid (rG (q:Nat) v.1.1 v.1.2.1 v.1.2.2 m JB);go_wp2_with fail;refine uA.o.mono ?_;rintro e w16 ⟨rfl,GI⟩;clear uA c12 Je c14 l14 c15 l15;have ym:Hid ((((Ss w aK w16 (tg tag15 JB 4294967296) hb tb rb ar sv rv ov cv uv N L rs ms S Qi ni ((uR N S).length+j+1) (gJ (gT N Fo F) p (ds.take (j+1))) (bI C p f') (bI F p fr'))/\Bk w16 (tg tag15 JB 4294967296) b6 (cc ((p:Int),t,n)) 49/\Lm ED w16 (tg tag15 JB 4294967296) (3+p) (.slice (some ⟨b1,o1,none⟩) ds.length cw) ds))/\Bk w16 (tg tag15 JB 4294967296) b12 #[.int .u64 u.1.1, .int .u64 u.1.2.1, .int .u64 u.1.2.2, .int .i64 m] 163/\Lm EP w16 (tg tag15 JB 4294967296) 0 (.slice (some ⟨b2,o2,none⟩) (L p).length cx) (L p)):=by
         have hK:=Kp.of_below (S:=fun _=>False) GI;exact⟨⟨Fe.o.1.1.grow _ GI,Fe.o.1.2.1.keep hK (fun _ _ h=>h.elim) (fun k hk=>aj hk),Fe.o.1.2.2.keep hK (fun _ _ h=>h.elim) (fun k hk=>aj hk)⟩,Fe.o.2.1.keep hK (fun _ _ h=>h.elim) (fun k hk=>aj hk),Fe.o.2.2.1.keep hK (fun _ _ h=>h.elim) (fun k hk=>aj hk)⟩
        clear GI Fe;generalize tg tag15 JB 4294967296=tag16 at ym;have TK:Hid (q<N/\(-1<=m/\m<=1)/\Qi.length<=B/\ni<=B):=by
         have h1:=HI.o.len;have h2:=VK (l:=L p) (i:=i) UZ.o;have h3:=vE.o;have h4:=HST.o.d1 (u,m) (lM UZ.o);exact⟨HP.o.to HAT.o.lt (lM HSI.o) HSO.o,h4,by omega,by omega⟩
        have PM:=hid (ym.o.1.1.hm.push ((q:Int),v,m) (by have h1:=TK.o.2.2.1;have h2:=HP.o.hB;omega) (by have h1:=TK.o.2.2.2;have h2:=HP.o.hB;omega) HF.o ym.o.1.1.rd.rk (fun y hy=>(HI.o.vs y hy).1) ⟨q,rfl,TK.o.1⟩);go_wp2_with fail;refine PM.o.mono ?_;rintro e TW ⟨X4,rfl,Ld,Oq⟩;have H17:Hid ((((Ss w aK TW (tg tag16 w16 1) hb tb rb ar sv rv ov cv uv N L rs ms S X4 (ni+1) ((uR N S).length+j+1) (gJ (gT N Fo F) p (ds.take (j+1))) (bI C p f') (bI F p fr'))/\Bk TW (tg tag16 w16 1) b6 (cc ((p:Int),t,n)) 49/\Lm ED TW (tg tag16 w16 1) (3+p) (.slice (some ⟨b1,o1,none⟩) ds.length cw) ds))/\Bk TW (tg tag16 w16 1) b12 #[.int .u64 u.1.1, .int .u64 u.1.2.1, .int .u64 u.1.2.2, .int .i64 m] 163/\Lm EP TW (tg tag16 w16 1) 0 (.slice (some ⟨b2,o2,none⟩) (L p).length cx) (L p)):=
         ⟨⟨ym.o.1.1.heap Ld.o.1 Ld.o.2,ym.o.1.2.1.keep Ld.o.2 (fun k _ e=>by omega) (fun k hk=>aj hk),ym.o.1.2.2.keep Ld.o.2 (fun k _ e=>by omega) (fun k hk=>aj hk)⟩,ym.o.2.1.keep Ld.o.2 (fun k _ e=>by omega) (fun k hk=>aj hk),ym.o.2.2.keep Ld.o.2 (fun k _ e=>by omega) (fun k hk=>aj hk)⟩
        have uy:Hid (o5 N Q np (jN (L p) (ds.take j)++jN ((L p).take (i+1)) [(u,m)]) X4 (ni+1)):=by
         rw[Da HSI.o];simp only[HSO.o];rw[<-aA];exact HI.o.push TK.o.1 TK.o.2.1 Oq.o
        clear PM Ld Oq ym;generalize tg tag16 w16 1=Mi at H17;go_wp2_with fail;go_roundw;case rel=>exact⟨i+1,Mi,X4,ni+1,by omega,by first|rfl|go_num,H17.o,uy.o⟩
        case measure=>simp[intOf];omega
      ·have hiz:¬(i:Int)<((L p).length:Int):=(by omega);have uy:Hid (o5 N Q np (jN (L p) (ds.take (j+1))) Qi ni):=by
        rw[Db UZ.o];have h1:=HI.o;rw[show(L p).take i=L p from tL (by omega)]at h1;exact h1
       go_wp2_with fail;go_roundw;case rel=>exact⟨j+1,CO,Qi,ni,by omega,by first|rfl|go_num,HK.o.1,uy.o⟩
       case measure=>simp[intOf];omega
    ·have hjz:¬(j:Int)<(ds.length:Int):=(by omega);obtain rfl:j=ds.length:=(by omega);have uu:Hid (KS N L (mI N (lT rs)) O Co Cn S B (mI N (lT rs) (p,t)+1) (bI C p f') (bI F p fr') (wq Qc)/\nc+pot N L (mI N (lT rs)) S Co Cn (mI N (lT rs) (p,t)+1)<=B/\(∀y∈Qc,Vq N y)/\Qc.length<=B/\gJ (gT N Fo F) p ds=gT N Fo (bI F p fr')):=by
      have h1:=HI.o;rw[tK]at h1;have h2:=h1.len;have h3:=HST.o.nb;have h4:=vE.o;exact⟨Eu HST.o.xZ h1.perm,by omega,h1.vs,by omega,Xj HAT.o.lt HP.o.hN HST.o.dif HST.o.n1 HST.o.n2⟩
     obtain⟨W20,Sj⟩:=aD (wr.alloc (.cells (cc ((p:Int),t,n)) 49));obtain⟨b20,Bt⟩:=aD (wr.heap.size);have Yp:Hid ((Ss w aK W20 (tg qG wr 4294967296) hb tb rb ar sv rv ov cv uv N L rs ms S Qc nc (uR N S).length (gT N Fo (bI F p fr')) (bI C p f') (bI F p fr'))/\Bk W20 (tg qG wr 4294967296) b20 (cc ((p:Int),t,n)) 49/\w.heap.size<=b20):=by
      rw[Sj,Bt];have hg:=((Gr.refl wr).alloc (.cells (cc ((p:Int),t,n)) 49)).below;have h1:=HJ.o.1.grow 4294967296 hg;rw[tK,uu.o.2.2.2.2]at h1;refine⟨⟨h1.rd,h1.hm,h1.tg.tight ?_,h1.mm,h1.kp,h1.old⟩,Bk.new _ _,HJ.o.1.kp.size⟩;exact Jp HP.o.hN (fun q t hq ht=>HP.o.Yx uu.o.1 hq ht) (fun q t hq ht=>HP.o.Yx HP.o.xZ hq ht)
     obtain⟨y0,y1,y2,y3,y4,yz⟩:=vz HJ.o.2.1.1;simp only at y0 y1 y2 y3 y4;go_upto_region 4 with fail;simp only[cc]at Sj;rw[<-Sj,<-Bt];clear Sj Bt y0 y1 y2 y3 y4 yz HJ HI;generalize tg qG wr 4294967296=tag20 at Yp;have HTA:=hid (Yp.o.1.hm.taken (by have h1:=uu.o.2.2.2.1;have h2:=HP.o.hB;omega) HP.o.hr HF.o (fun W hW=>(Yp.o.1.rd.keep hW (fun k _ e=>by rw[e];decide) (fun k _=>rfl)).rk) uu.o.2.2.1);go_wp2_with fail;refine HTA.o.mono ?_;rintro e LF ⟨c',b',Q',rfl,Sc,ZO⟩;have TR:Hid ((Ss w aK LF (tg tag20 W20 1) hb tb rb ar sv rv ov cv uv N L rs ms S Q' nc (uR N S).length (gT N Fo (bI F p fr')) (bI C p f') (bI F p fr'))/\Bk LF (tg tag20 W20 1) b20 (cc ((p:Int),t,n)) 49/\w.heap.size<=b20):=⟨Yp.o.1.heap Sc.o.1 Sc.o.2,Yp.o.2.1.keep Sc.o.2 (fun k _ e=>by omega) (fun k hk=>aj hk),Yp.o.2.2⟩;have abS:Hid (∃x Qa,Hd N L rs O Co Cn S B M0 (bI C p f') (bI F p fr') c' b' Q' nc gk x Qa):=⟨_,Qc,uu.o.1,ZO.o,uu.o.2.2.1,uu.o.2.1,by
      have h1:=Qs.o.gm;have h2:=HAT.o.lo;omega⟩
     clear HTA Sc ZO Yp;generalize tg tag20 W20 1=Mh at TR;obtain⟨q21,k21⟩:=qL TR.o.2.1.1 c';have H22:Hid ((Ss w aK (uD LF b20 c') Mh hb tb rb ar sv rv ov cv uv N L rs ms S Q' nc (uR N S).length (gT N Fo (bI F p fr')) (bI C p f') (bI F p fr'))/\Bk (uD LF b20 c') Mh b20 (cc c') 49/\w.heap.size<=b20):=⟨TR.o.1.set TR.o.2.2 TR.o.2.1.2 k21 (by have h1:=HP.o.hN;have h2:=HP.o.hms;omega),⟨q21,TR.o.2.1.2⟩,TR.o.2.2⟩;clear q21 k21;obtain⟨y0,y1,y2,y3,y4,yz⟩:=vz TR.o.2.1.1;have fz:=(aa TR.o.2.1.1).2;simp only[Hc.ans,Hc.tv];simp only[uD]at H22;go_wp2_with fail;go_roundg gk;case measure=>omega
     case rel=>exact⟨Mh,Q',nc,_,_,c',b',b20,rfl,rfl,H22.o,abS.o⟩
end Go.Proofs.YteekbpokkjjipaaGreat.Rc
