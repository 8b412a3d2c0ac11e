import Derived.Test.YtiiefcalkjeieaaGreatJ26
variable{p x N:Nat}
set_option maxHeartbeats 16000000
set_option maxRecDepth 100000
namespace Go.Proofs.YtiiefcalkjeieaaGreat.Rc
open Go.RowKit Go.Sort Go.Maps Pt Hc
attribute[local go_sem ↓]wp_at_zero wp_at_succ
structure Uk(N:Nat)(L:Nat->List (Nat×ai))(rs ms:List Nat)(O:Nat->List ai)(Co Cn:Nat->ai->Int)(Fo Fn S:Nat->List ai)(B:Nat)(Q0:List It)(KC:Nat):Prop where
 hms:ms.length=N
 hrs:rs.length=N
 hr:∀x∈rs,x<=N
 hN:N<=1000000
 ord:rQ N L (mW N (mf rs))
 yI:Fb N L O Cn Fn
 sup:∀q u,q<N->0<Co q u\/0<Cn q u->u∈S q
 yu:LJ N L (mW N (mf rs)) O Co Cn S B 0 Co Fo (wq Q0)
 vs:∀y∈Q0,Vq N y
 nb:KC+pot N L (mW N (mf rs)) S Co Cn 0<=B
 hB:B<=549755813888
 bo:∀p t,p<N->0<=Co p t/\Co p t<=2147483647
 bn:∀p t,p<N->0<=Cn p t/\Cn p t<=2147483647
 sl:∀p,p<N->(S p).length<=1000000000
 st:(uW N S).length<=1099511627776
 ll:∀p,p<N->(L p).length<=1000000000
section
variable {N:Nat} {L:Nat->List (Nat×ai)} {rs ms:List Nat} {O:Nat->List ai} {Co Cn:Nat->ai->Int} {Fo Fn S:Nat->List ai} {B:Nat} {Q0:List It} {KC:Nat}
theorem Uk.to(h:Uk N L rs ms O Co Cn Fo Fn S B Q0 KC)(hp:p<N){q:Nat}{b:ai}(hb:(q,b)∈L p){u v:ai}(hv:bH b u=some v):q<N:=(h.ord.step p q u v b hp hb hv).1
theorem Uk.YT(h:Uk N L rs ms O Co Cn Fo Fn S B Q0 KC){C:Nat->ai->Int}{F:Nat->List ai}{W:List (Nat×ai×Int)}(hs:LJ N L (mW N (mf rs)) O Co Cn S B x C F W)(hp:p<N){t:ai}(ht:t∈F p):t∈S p:=by
 have h1:=(((hs.Mg.fr p hp).mem t).1 ht).1;rw[hs.mx p t hp]at h1;unfold mix at h1;split at h1
 ·exact h.sup p t hp (.inr h1)
 ·exact h.sup p t hp (.inl h1)
theorem Uk.mem(h:Uk N L rs ms O Co Cn Fo Fn S B Q0 KC){C:Nat->ai->Int}{F:Nat->List ai}{W:List (Nat×ai×Int)}(hs:LJ N L (mW N (mf rs)) O Co Cn S B x C F W)(hp:p<N){t:ai}(ht:C p t≠0):t∈S p/\0<=C p t/\C p t<=2147483647:=by
 rw[hs.mx p t hp]at ht⊢;unfold mix at ht⊢;have h1:=h.bo p t hp;have h2:=h.bn p t hp;split
 ·rename_i k;rw[if_pos k]at ht;exact⟨h.sup p t hp (.inr (by omega)),h2⟩
 ·rename_i k;rw[if_neg k]at ht;exact⟨h.sup p t hp (.inl (by omega)),h1⟩
structure Stp(N:Nat)(L:Nat->List (Nat×ai))(rs:List Nat)(O:Nat->List ai)(Co Cn:Nat->ai->Int)(S:Nat->List ai)(B x':Nat)(C:Nat->ai->Int)(F:Nat->List ai)(Q:List It)(np p:Nat)(f':ai->Int)(fr':List ai)(ds:List (ai×Int)):Prop where
 yu:LJ N L (mW N (mf rs)) O Co Cn S B x' (bG C p f') (bG F p fr') (wq Q++jN (L p) ds)
 nb:np+(jN (L p) ds).length+pot N L (mW N (mf rs)) S Co Cn x'<=B
 dif:Aq (F p) fr' ds
 n1:(F p).Nodup
 n2:fr'.Nodup
 dl:ds.length<=2000000000
 d1:∀d∈ds,-1<=d.2/\d.2<=1
theorem Hd.stp(h:Uk N L rs ms O Co Cn Fo Fn S B Q0 KC){M0:Nat}{C:Nat->ai->Int}{F:Nat->List ai}{c:Th}{Q:List It}{np gk:Nat}{Qa:List It}(hd:Hd N L rs O Co Cn S B M0 C F c true Q np gk x Qa){t:ai}{n:Int}(ha:Hat N rs c Q x Qa p t n){fr':List ai}(hf:fP (fun u=>if u=t then C p t+n else C p u) fr'):
    Stp N L rs O Co Cn S B (mW N (mf rs) (p,t)+1) C F Q np p (fun u=>if u=t then C p t+n else C p u) fr' (oQ (F p) fr'):=by
 have n1:=(hd.yu.Mg.fr p ha.lt).nodup;have f2:=OD hf;have hdf:=rH n1 f2.nodup;obtain⟨k1,k2⟩:=hd.yu.pop h.ord h.yI h.sup ha.lt ha.min ha.lo (f':=fun u=>if u=t then C p t+n else C p u) (fun u=>by rw[ha.sum]) f2 hdf ha.w1 ha.w2 (by rw[mP,mP];exact ha.w3) (List.Perm.refl (wq Q++jN (L p) (oQ (F p) fr')));have hin2:∀u∈fr',u∈S p:=fun u hu=>h.YT k1 ha.lt (by rw[bK];exact hu);refine⟨k1,by have:=hd.nb;omega,hdf,n1,f2.nodup, ?_,fun d Hr=> ?_⟩
 ·have h1:=iX hdf.nd (m:=S p) fun u hu=>by
    obtain⟨d,hd1,rfl⟩:=mM.1 hu;rcases(hdf.mem d.1 d.2).1 hd1 with⟨k,_⟩|⟨k,_⟩
    ·exact h.YT hd.yu ha.lt k
    ·exact hin2 _ k
  rw[gK]at h1;have:=h.sl p ha.lt;omega
 ·rcases(hdf.mem d.1 d.2).1 Hr with⟨_,_,k⟩|⟨_,_,k⟩<;>omega
end
theorem VZ(N:Nat)(rs:List Nat)(hr:∀x∈rs,x<=N):∃M,∀p t,p<N->mW N (mf rs) (p,t)<M:=⟨_,fun p t hp=>by
    refine V3 hp ?_;unfold mf;rw[List.getD_eq_getElem?_getD];cases k:rs[p]? with
    | none => exact zL _
    | some z => exact hr z (lM k)⟩
def Spn(w:World)(aJ:Nat->Nat)(rb:Nat)(ar:Int)(sv rv ov cv uv:Value)(N:Nat)(L:Nat->List (Nat×ai))(rs ms:List Nat)(S:Nat->List ai)(Fo:Nat->List ai)(Cn:Nat->ai->Int)(Fn:Nat->List ai)(e:Ending)(w':World):Prop:=
 ∃vl ks tag',e= .returned vl/\qz (gT N Fo Fn) ks/\w'.ownsRow w.heap.size 49 5 vl (Qd (gT N Fo Fn) ks).length (fl EC (Qd (gT N Fo Fn) ks))/\
  Rd w' tag' rb ar sv rv ov cv uv N L rs ms/\(∀p mb,ms[p]? =some mb->Ml w' tag' (3+p) mb (S p).length (Cn p) (Fn p))/\Kp (fun k=>aJ k≠0) w w'/\(∀k,k<w.heap.size->tag' k=aJ k)/\∀k,vl.ownBlock=some k->tag' k=0
theorem Pv{Fo F F':Nat->List ai}(h:∀p,p<N->F p=F' p):gT N Fo F=gT N Fo F':=by
 funext s
 unfold gT;split
 ·rename_i k;rw[h s.1.1.toNat (by omega)]
 ·rfl
theorem Gf(hlo:aa0){aJ:Nat->Nat}{hb rb:Nat}{ar:Int}{sv rv ov cv uv:Value}{L:Nat->List (Nat×ai)}{rs ms:List Nat}{S O Fo Fn:Nat->List ai}{Co Cn:Nat->ai->Int}{B KC:Nat}{Q0:List It}(w:World)(hP:Uk N L rs ms O Co Cn Fo Fn S B Q0 KC)
    (hR:Rd w aJ rb ar sv rv ov cv uv N L rs ms) (hH:Hm w aJ hb (wv ar sv rv) (kR N rs) Q0 KC) (hM:∀p mb,ms[p]? =some mb->Ml w aJ (3+p) mb (S p).length (Co p) (Fo p)) :
    Calls Tryz.prog 38 #[.pointer (some ⟨rb,0,none⟩), .pointer (some ⟨hb,0,none⟩)] w fun e w'=>Hid (Spn w aJ rb ar sv rv ov cv uv N L rs ms S Fo Cn Fn e w'):=by
 have hmx:Tryz.prog.follows .mixedOrders=true:=by kernel_rfl
 have HP:=hid hP;have LU:=hid hlo;have HF:=hid (Ew (ar:=ar) (sv:=sv) (rv:=rv) hP.hr hP.hrs);have aa9:=hid (Rs.Tt.dF 78 w);have HR:=hid hR;have HH:=hid hH;have HM:=hid hM;clear hP hlo hR hH hM;go_enter Tryz.func38,Tryz.ntmps38;go_wp2_with fail;refine aa9.o.mono ?_;rintro e w1 ⟨rfl,hT1,hG1⟩;clear aa9;obtain⟨tb,htb⟩:=aC (w.heap.size+1);rw[<-htb]at hT1⊢;have HS1:Hid (Ss w aJ w1 (tg aJ w 2) hb tb rb ar sv rv ov cv uv N L rs ms S Q0 KC (uW N S).length (gT N Fo Fo) Co Fo):=by
  have hB:=hG1.below;have hK:=Kp.of_below (S:=fun _=>False) hB;refine⟨HR.o.keep hK (fun _ _ h=>h.elim) (fun k hk=>ak hk),HH.o.keep hK (fun _ _ h=>h.elim) (fun k hk=>ak hk), ?_,fun p mb hp=>(HM.o p mb hp).keep hK (fun _ _ h=>h.elim) (fun k hk=>ak hk),hK.mono (fun _ h=>h.elim),fun k hk=>ak hk⟩;refine Tg.tight (nt:=0) ?_ (JI HP.o.hN (fun p t hp ht=>HP.o.YT HP.o.yu hp ht) (fun p t hp ht=>HP.o.YT HP.o.yu hp ht));rw[TC];exact⟨w.heap.size,hT1,aR (by omega),aR (nR _)⟩
 clear hT1 hG1 htb HR HH HM;obtain⟨AV,UW⟩:=aC (tg aJ w 2);rw[<-UW]at HS1;clear UW;have HTA:=hid (HS1.o.hm.taken (by have h1:=HP.o.yu.bd;have h2:=HP.o.hB;rw[mP]at h1;omega) HP.o.hr HF.o (fun W hW=>(HS1.o.rd.keep hW (fun k _ e=>by rw[e];decide) (fun k _=>rfl)).rk) HP.o.vs);go_wp2_with fail;refine HTA.o.mono ?_;rintro e w2 ⟨c,b,Q1,rfl,hm2,ht2⟩;clear HTA;have HS2:=hid (HS1.o.heap hm2.o.1 hm2.o.2);have HT2:=hid ht2.o;clear hm2 ht2 HS1;obtain⟨Rt,UU⟩:=aC (tg AV w1 1);rw[<-UU]at HS2;clear UU;simp only[Hc.ans,Hc.tv];go_upto_region 3 with fail;obtain⟨W3,hW3⟩:=aC (w2.alloc (.cells (cc c) 49));obtain⟨b6,hb6⟩:=aC (w2.heap.size);have HS3:Hid (Ss w aJ W3 (tg Rt w2 4294967296) hb tb rb ar sv rv ov cv uv N L rs ms S Q1 KC (uW N S).length (gT N Fo Fo) Co Fo/\Bk W3 (tg Rt w2 4294967296) b6 (cc c) 49/\w.heap.size<=b6):=by
  rw[hW3,hb6];exact⟨HS2.o.grow 4294967296 ((Gr.refl w2).alloc _).below,Bk.new _ _,HS2.o.kp.size⟩
 obtain⟨M0,hM0⟩:=VZ N rs HP.o.hr;have Qu:=hid hM0;have HD3:Hid (∃x Qa,Hd N L rs O Co Cn S B M0 Co Fo c b Q1 KC M0 x Qa):=⟨0,Q0,HP.o.yu,HT2.o,HP.o.vs,HP.o.nb,by omega⟩;clear hM0;simp only[cc]at hW3;rw[<-hW3,<-hb6];clear hW3 hb6 HS2 HT2;go_loopg [6,7,8,9,10,12,14,15,16] M0 (fun gk s6 s7 _ _ _ _ _ _ _ wr=>∃(tag:Nat->Nat) (Q:List It) (np:Nat) (C:Nat->ai->Int) (F:Nat->List ai) (c:Th) (b:Bool) (b6:Nat),s6= .pointer (some ⟨b6,0,none⟩)/\s7= .bool b/\Hid (Ss w aJ wr tag hb tb rb ar sv rv ov cv uv N L rs ms S Q np (uW N S).length (gT N Fo F) C F/\Bk wr tag b6 (cc c) 49/\w.heap.size<=b6)/\Hid (∃x Qa,Hd N L rs O Co Cn S B M0 C F c b Q np gk x Qa));case atStart=>exact⟨_,Q1,KC,Co,Fo,c,b,b6,rfl,rfl,HS3.o,HD3.o⟩
 case round=>
  clear HS3 HD3;obtain⟨tag,Q,np,C,F,c,b,b6,rfl,rfl,rY,HHD⟩:=hrel;obtain⟨x,Qa,hhd⟩:=HHD.o;have QW:=hid hhd;clear hhd HHD;cases b with
  | false=>
   have hq:Qa=[]/\Q=[]:=by
    rcases QW.o.tk with k|k
    ·exact k.2
    ·exact absurd k.1 (by simp)
   obtain⟨rfl,rfl⟩:=hq;have YC:Hid ((∀p,p<N->C p=Cn p/\F p=Fn p)/\gT N Fo F=gT N Fo Fn):=by
    have h1:∀p,p<N->C p=Cn p/\F p=Fn p:=fun p hp=>by
     obtain⟨h1,h2⟩:=QW.o.yu.Mg.fin HP.o.ord HP.o.yI hp;exact⟨funext h1,h2⟩
    exact⟨h1,Pv fun p hp=>(h1 p hp).2⟩
   obtain⟨bb,htl,_⟩:=rY.o.1.tg;have HL:=hid (LU.o wr tb bb _ _ htl (by have:=HP.o.st;omega));clear htl;go_wp2_with fail;refine HL.o.mono ?_;rintro e w9 ⟨vl,ks,h1,rfl,h2,h3⟩;have HE:Hid (Spn w aJ rb ar sv rv ov cv uv N L rs ms S Fo Cn Fn (.returned vl) w9):=by
    have hS:=rY.o.1.grow 0 h3;rw[YC.o.2]at h1 h2;refine⟨vl,ks,_,rfl,h1,aL h2 rY.o.1.kp.size,hS.rd,fun p mb hp=> ?_,hS.kp,hS.old,fun k hk=>aR (ja h2 hk)⟩;have Tc:p<N:=(by rw[<-HP.o.hms];exact(lG.1 hp).1);have:=hS.mm p mb hp;rw[(YC.o.1 p Tc).1,(YC.o.1 p Tc).2]at this;exact this
   clear h1 h2 h3;go_wp2_with fail;refine bR (v:=vl) (by simp[results,Tryz.results38,go_sem]) rfl HE
  | true=>
   obtain⟨p,t,n,hat⟩:=QW.o.at;have HAT:=hid hat;obtain rfl:=hat.eq;clear hat;obtain⟨gk,rfl⟩:∃g',gk=g'+1:=⟨gk-1,by
    have h1:=QW.o.gm;have h2:=HAT.o.lo;have h3:=Qu.o p t HAT.o.lt;omega⟩
   obtain⟨mb,hmb⟩:∃mb,ms[p]? =some mb:=⟨ms[p]'(by have:=HAT.o.lt;have:=HP.o.hms;omega),by rw[pW]⟩;have Ao:=hid hmb;clear hmb;obtain⟨bi,oi,ci,hcv,-,-⟩:=rY.o.1.rd.come Ao.o;rw[HP.o.hms]at hcv;have HCV:=hid hcv;clear hcv;have hpz:(0:Int)<=(p:Int):=(by omega);have Tc:(p:Int)<(N:Int):=(by have:=HAT.o.lt;omega);obtain⟨y0,y1,y2,y3,y4,yz⟩:=vH rY.o.2.1.1;simp only at y0 y1 y2 y3 y4;go_upto_region 6 with fail;clear y0 y1 y2 y3 y4 yz;have hS0:(fun W:World=>Kp (fun k=>tag k=3+p) wr W) wr.drew:=Kp.aX (Gr.refl wr).drew;have uT:Hid (∀W:World,Kp (fun k=>tag k=3+p) wr W->(W.cell? ⟨rb,4,none⟩=some (.slice (some ⟨bi,oi,none⟩) N ci)/\rb<W.heap.size/\W.cell? ⟨bi,oi+p,none⟩=some (.pointer (some ⟨mb,0,none⟩))/\bi<W.heap.size)/\W.heap[b6]? =some (.cells (cc ((p:Int),t,n)) 49 (0,0))):=fun W hW=>⟨(rY.o.1.rd.keep hW (fun k _ e=>by omega) (fun k _=>rfl)).come' Ao.o HCV.o,(rY.o.2.1.keep hW (fun k _ e=>by have h1:=HAT.o.lt;have h2:=HP.o.hN;omega) (fun k _=>rfl)).1⟩;have YG:Hid (0<=C p t/\C p t<=2147483647/\0<=C p t+n/\C p t+n<=2147483647/\-2147483647<=n/\n<=2147483647):=by
    have h1:=QW.o.yu.Mg.first HP.o.ord HP.o.yI HAT.o.lt HAT.o.min;rw[HAT.o.sum]at h1;have h2:=HP.o.bn p t HAT.o.lt;have h3:0<=C p t/\C p t<=2147483647:=by
     by_cases k:C p t=0
     ·omega
     ·exact(HP.o.mem QW.o.yu HAT.o.lt k).2
    have h4:0<=C p t/\C p t<=2147483647/\0<=C p t+n/\C p t+n<=2147483647/\-2147483647<=n/\n<=2147483647:=(by omega);exact h4
   have QY:Hid (∀W:World,Gr wr W->Calls Tryz.prog 80 #[.pointer (some ⟨mb,0,none⟩), .slice (some ⟨W.heap.size,0,none⟩) 1 1] (W.alloc (.cells #[.int .u64 t.1.1, .int .u64 t.1.2.1, .int .u64 t.1.2.2, .int .i64 n] 163)) fun e w'=>∃(vo:Value),e= .returned (.tuple #[vo, .int .i64 0])/\Hid (∃tag' fr',Ss w aJ w' tag' hb tb rb ar sv rv ov cv uv N L rs ms S Q np (uW N S).length (gT N Fo F) (bG C p (fun u=>if u=t then C p t+n else C p u)) (bG F p fr')/\Bk w' tag' b6 (cc ((p:Int),t,n)) 49/\Lm ED w' tag' (3+p) vo (oQ (F p) fr')/\fP (fun u=>if u=t then C p t+n else C p u) fr')/\Hid (Kp (fun k=>tag k=3+p) wr w')):=by
    intro W hW;have hg:Below wr.heap.size wr (W.alloc (.cells #[.int .u64 t.1.1, .int .u64 t.1.2.1, .int .u64 t.1.2.2, .int .i64 n] 163)):=(hW.alloc _).below;have hls:=Wu W t n;generalize W.alloc (.cells #[.int .u64 t.1.1, .int .u64 t.1.2.1, .int .u64 t.1.2.2, .int .i64 n] 163)=W1 at hg hls⊢;have hS1:=rY.o.1.grow 0 hg;have hB1:=rY.o.2.1.keep (tag':=tg tag wr 0) (Kp.of_below (S:=fun _=>False) hg) (fun _ _ h=>h.elim) (fun k hk=>ak hk);have hlt:=HAT.o.lt;refine((hS1.mm p mb Ao.o).apply t n _ hls YG.o.2.2.2.2 (by have:=YG.o;omega) (by have:=HP.o.sl p hlt;omega)).mono ?_;rintro e w' ⟨vo,fr',rfl,h7⟩;obtain⟨h1,h2,h3⟩:=h7.o;have abw:∀u,(if u=t then C p t+n else C p u)≠0->u∈S p:=fun u hu=>by
     by_cases k:u=t
     ·subst k;rw[if_pos rfl]at hu;have e1:=QW.o.yu.Mg.first HP.o.ord HP.o.yI hlt HAT.o.min;rw[HAT.o.sum]at e1;have e2:=YG.o;exact HP.o.sup p u hlt (.inr (by omega))
     ·rw[if_neg k]at hu;exact(HP.o.mem QW.o.yu hlt hu).1
    have hf:=h1;obtain⟨_,_,_,_,_,hf,_⟩:=hf;refine⟨vo,rfl,⟨_,fr',hS1.NP Ao.o (h1.tight abw) h3,hB1.keep h3 (fun k _ e=>by have:=HP.o.hN;omega) (fun k hk=>ak hk),⟨aH (E:=ED) h2,fun k hk=>aR (ja h2 hk)⟩,hf⟩, ?_⟩;exact((Kp.of_below (S:=fun k=>tag k=3+p) hg).trans h3 fun k hk e=>by
     rw[ak hk]at e;exact e)
   refine ax (S:=fun W:World=>Kp (fun k=>tag k=3+p) wr W) (D:=[]) hmx ?_;refine' aj 0 hS0 ?_;refine' aj 1 hS0 ?_;refine' aj 2 hS0 ?_;refine' bu 3 hS0 ?h ?_;case h=>(intro W hSw;obtain⟨⟨c0,c1,c2,c3⟩,-⟩:=uT.o W hSw;go_simp;try(with_reducible rfl))
   refine' aj 4 hS0 ?_;refine' aj 5 hS0 ?_;refine' bu 6 hS0 ?h ?_;case h=>(intro W hSw;obtain⟨⟨c0,c1,c2,c3⟩,-⟩:=uT.o W hSw;go_simp;try(with_reducible rfl))
   refine' aj 7 hS0 ?_;refine' aj 8 hS0 ?_;refine' bu 9 hS0 ?h ?_;case h=>(intro W hSw;obtain⟨-,c4⟩:=uT.o W hSw;obtain⟨y0,y1,y2,y3,y4,yz⟩:=vH c4;simp only at y0 y1 y2 y3 y4;go_simp;try(with_reducible rfl))
   refine' aj 10 hS0 ?_;refine' bu 11 hS0 ?h ?_;case h=>(intro W hSw;obtain⟨-,c4⟩:=uT.o W hSw;obtain⟨y0,y1,y2,y3,y4,yz⟩:=vH c4;simp only at y0 y1 y2 y3 y4;go_simp;try(with_reducible rfl))
   refine' aj 12 hS0 ?_;refine bF 13 fun K hK=> ?_;go_simp;refine hK.o _ _ (fun hD=>(hS0.trans (Kp.of_below (S:=fun _=>False) ((Gr.refl _).alloc _).below) (fun _ _ h=>h.elim))) ?_;clear hK K;try simp only[Act.put,qI,q0,qS]
   refine bF 14 fun K hK=> ?_;go_simp;refine(QY.o wr.drew (Gr.refl wr).drew).mono ?_;rintro e w7 ⟨vo,rfl,hA7,Ae⟩;go_wp2_with fail;refine hK.o _ _ (fun hD=>Ae.o) ?_;clear hK K;try simp only[Act.put,qI,q0,qS]
   refine' aj 15 Ae.o ?_;refine' aj 16 Ae.o ?_;refine' aj 17 Ae.o ?_;refine' aj 18 Ae.o ?_;refine' aj 19 Ae.o ?_;refine au (by kernel_rfl) ?_ _;clear hS0 uT QY Ae;obtain⟨vY,fr',h71,h72,h73,h74⟩:=hA7.o;have HST:=hid (Hd.stp HP.o QW.o HAT.o h74);obtain⟨ds,hds⟩:=aC (oQ (F p) fr');rw[<-hds]at h73 HST;obtain⟨pv,cw,rfl⟩:=h73.1.form;have H70:Hid (Ss w aJ w7 vY hb tb rb ar sv rv ov cv uv N L rs ms S Q np (uW N S).length (gT N Fo F) (bG C p (fun u=>if u=t then C p t+n else C p u)) (bG F p fr')/\Bk w7 vY b6 (cc ((p:Int),t,n)) 49/\Lm ED w7 vY (3+p) (.slice pv ds.length cw) ds):=⟨h71,h72,h73⟩;have vK:Hid (Q.length+(jN (L p) ds).length<=B/\np+(jN (L p) ds).length<=B):=by
    have h1:=HST.o.yu.bd;have h2:=HST.o.nb;rw[dO,mP]at h1;exact⟨by omega,by omega⟩
   obtain⟨f',hf'⟩:∃f:ai->Int,f=fun u=>if u=t then C p t+n else C p u:=⟨_,rfl⟩
   rw[<-hf']at HST H70;clear h71 h72 h73 h74 hds hA7 YG hf';have hdb:ds.length<=2000000000:=HST.o.dl;have hlb:(L p).length<=1000000000:=HP.o.ll p HAT.o.lt;have HL0:Hid (((Ss w aJ w7 vY hb tb rb ar sv rv ov cv uv N L rs ms S Q np ((uW N S).length+0) (gJ (gT N Fo F) p (ds.take 0)) (bG C p f') (bG F p fr'))/\Bk w7 vY b6 (cc ((p:Int),t,n)) 49/\Lm ED w7 vY (3+p) (.slice pv ds.length cw) ds)/\pK N Q np (jN (L p) (ds.take 0)) Q np):=by
    rw[List.take_zero,XB];exact⟨H70.o,pK.init HAT.o.vs⟩
   clear H70;go_wp2_with fail;go_loopw [12,14,15,16,52] (fun _ _ _ _ ZG wx=>∃(j:Nat) (tag:Nat->Nat) (Qc:List It) (nc:Nat),j<=ds.length/\ZG= .int .i64 j/\Hid ((Ss w aJ wx tag hb tb rb ar sv rv ov cv uv N L rs ms S Qc nc ((uW N S).length+j) (gJ (gT N Fo F) p (ds.take j)) (bG C p f') (bG F p fr'))/\Bk wx tag b6 (cc ((p:Int),t,n)) 49/\Lm ED wx tag (3+p) (.slice pv ds.length cw) ds)/\Hid (pK N Q np (jN (L p) (ds.take j)) Qc nc)) (fun _ _ _ _ ZG _=>ds.length-(intOf ZG).toNat);case atStart=>exact⟨0,vY,Q,np,zL _,rfl,HL0.o.1,HL0.o.2⟩
   case round=>
    clear HL0;obtain⟨j,qK,Qc,nc,hj,rfl,HJ,HI⟩:=hrel;by_cases hlt:j<ds.length
    ·have hjz:(j:Int)<(ds.length:Int):=(by omega);have hj0:(0:Int)<=(j:Int):=(by omega);obtain⟨⟨u,m⟩,hd⟩:∃d,ds[j]? =some d:=⟨ds[j],by simp⟩;have Vs:=hid hd;obtain⟨b1,o1,c1,hv1,hb1,u0,u1,u2,u3⟩:=HJ.o.2.2.1.at4 hd;simp only[vS]at hv1;obtain⟨hv1,-,-⟩:=hv1;subst hv1;simp only at u0 u1 u2 u3;clear hd;obtain⟨W9,Xo⟩:=aC (wr.alloc (.cells #[.int .u64 u.1.1, .int .u64 u.1.2.1, .int .u64 u.1.2.2, .int .i64 m] 163));obtain⟨b12,Hw⟩:=aC (wr.heap.size);have H9:Hid (((Ss w aJ W9 (tg qK wr 4294967296) hb tb rb ar sv rv ov cv uv N L rs ms S Qc nc ((uW N S).length+j) (gJ (gT N Fo F) p (ds.take j)) (bG C p f') (bG F p fr'))/\Bk W9 (tg qK wr 4294967296) b6 (cc ((p:Int),t,n)) 49/\Lm ED W9 (tg qK wr 4294967296) (3+p) (.slice (some ⟨b1,o1,none⟩) ds.length cw) ds)/\Bk W9 (tg qK wr 4294967296) b12 #[.int .u64 u.1.1, .int .u64 u.1.2.1, .int .u64 u.1.2.2, .int .i64 m] 163):=by
      rw[Xo,Hw];have hg:=((Gr.refl wr).alloc (.cells #[.int .u64 u.1.1, .int .u64 u.1.2.1, .int .u64 u.1.2.2, .int .i64 m] 163)).below;have hK:=Kp.of_below (S:=fun _=>False) hg;exact⟨⟨HJ.o.1.grow _ hg,HJ.o.2.1.keep hK (fun _ _ h=>h.elim) (fun k hk=>ak hk),HJ.o.2.2.keep hK (fun _ _ h=>h.elim) (fun k hk=>ak hk)⟩,Bk.new _ _⟩
     go_upto_region 10 with fail;rw[<-Xo,<-Hw];clear Xo Hw u0 u1 u2 u3 hb1 HJ;generalize tg qK wr 4294967296=tag9 at H9;have HAD:Hid (Calls Tryz.prog 81 #[.pointer (some ⟨tb,0,none⟩), .agg #[.int .i64 (p:Int), .int .u64 u.1.1, .int .u64 u.1.2.1, .int .u64 u.1.2.2], .int .i64 m] W9 fun e w'=>e= .returned (.int .i64 0)/\Hid (Tg w' (tg tag9 W9 2) tb ((uW N S).length+j+1) (gJ (gT N Fo F) p (ds.take (j+1)))/\Kp (fun k=>tag9 k=2) W9 w')):=by
      have hpl:p<=1000000:=(by have h1:=HAT.o.lt;have h2:=HP.o.hN;omega);have Hr:=HST.o.d1 (u,m) (lM Vs.o);simp only at Hr;have hgb:=aaG (p:=p) (l:=ds.take j) (aaF (N:=N) (Fo:=Fo) (F:=F)) (fun d hd=>HST.o.d1 d (List.mem_of_mem_take hd)) (sk p u);have hlen:(ds.take j).length<=2000000000:=(by rw[lK];have:=HST.o.dl;omega);have h:=H9.o.1.1.tg.add (sk p u) m (by have h1:=HP.o.st;have h2:=HST.o.dl;unfold maxLen;omega) (by omega) (by omega);have e1:Rs.mv (sk p u)= .agg #[.int .i64 (p:Int), .int .u64 u.1.1, .int .u64 u.1.2.1, .int .u64 u.1.2.2]:=(by unfold Rs.mv;rw[kv hpl]);have e2:=TD (gT N Fo F) p (ds.take j) (u,m);rw[show ds.take j++[(u,m)]=ds.take (j+1)by rw[tO,Vs.o];rfl]at e2;rw[<-e1,<-e2];exact h
     have c12:=(aa H9.o.2.1).1;have Ww:=ae H9.o.2.1;go_wp2_with fail;refine HAD.o.mono ?_;rintro e dP ⟨rfl,KN⟩;have QC:Hid (((Ss w aJ dP (tg tag9 W9 2) hb tb rb ar sv rv ov cv uv N L rs ms S Qc nc ((uW N S).length+j+1) (gJ (gT N Fo F) p (ds.take (j+1))) (bG C p f') (bG F p fr'))/\Bk dP (tg tag9 W9 2) b6 (cc ((p:Int),t,n)) 49/\Lm ED dP (tg tag9 W9 2) (3+p) (.slice (some ⟨b1,o1,none⟩) ds.length cw) ds)/\Bk dP (tg tag9 W9 2) b12 #[.int .u64 u.1.1, .int .u64 u.1.2.1, .int .u64 u.1.2.2, .int .i64 m] 163):=⟨⟨H9.o.1.1.tally KN.o.1 KN.o.2,H9.o.1.2.1.keep KN.o.2 (fun k _ e=>by omega) (fun k hk=>ak hk),H9.o.1.2.2.keep KN.o.2 (fun k _ e=>by omega) (fun k hk=>ak hk)⟩,H9.o.2.keep KN.o.2 (fun k _ e=>by omega) (fun k hk=>ak hk)⟩;clear KN HAD H9 c12 Ww;generalize tg tag9 W9 2=zf at QC;obtain⟨bs,os,cs,px,cx,-,QL,s0,s1,s2,s3⟩:=QC.o.1.1.rd.step HAT.o.lt;have HI0:Hid (((((Ss w aJ dP zf hb tb rb ar sv rv ov cv uv N L rs ms S Qc nc ((uW N S).length+j+1) (gJ (gT N Fo F) p (ds.take (j+1))) (bG C p f') (bG F p fr'))/\Bk dP zf b6 (cc ((p:Int),t,n)) 49/\Lm ED dP zf (3+p) (.slice (some ⟨b1,o1,none⟩) ds.length cw) ds))/\Bk dP zf b12 #[.int .u64 u.1.1, .int .u64 u.1.2.1, .int .u64 u.1.2.2, .int .i64 m] 163/\Lm EP dP zf 0 (.slice px (L p).length cx) (L p))/\pK N Q np (jN (L p) (ds.take j)++jN ((L p).take 0) [(u,m)]) Qc nc):=by
      refine⟨⟨QC.o.1,QC.o.2,QL⟩, ?_⟩;rw[List.take_zero,oH,show Fv [] u=[]from rfl,List.map_nil,FP];exact HI.o
     have hsN:(p:Int)<(N:Int):=Tc;clear QL QC HI;go_wp2_with fail;clear s0 s1 s2 s3;go_loopw [14,15,16,73] (fun _ _ _ s73 wx=>∃(i:Nat) (tag:Nat->Nat) (Qc:List It) (nc:Nat),i<=(L p).length/\s73= .int .i64 i/\Hid ((((Ss w aJ wx tag hb tb rb ar sv rv ov cv uv N L rs ms S Qc nc ((uW N S).length+j+1) (gJ (gT N Fo F) p (ds.take (j+1))) (bG C p f') (bG F p fr'))/\Bk wx tag b6 (cc ((p:Int),t,n)) 49/\Lm ED wx tag (3+p) (.slice (some ⟨b1,o1,none⟩) ds.length cw) ds))/\Bk wx tag b12 #[.int .u64 u.1.1, .int .u64 u.1.2.1, .int .u64 u.1.2.2, .int .i64 m] 163/\Lm EP wx tag 0 (.slice px (L p).length cx) (L p))/\Hid (pK N Q np (jN (L p) (ds.take j)++jN ((L p).take i) [(u,m)]) Qc nc)) (fun _ _ _ s73 _=>(L p).length-(intOf s73).toNat);case atStart=>exact⟨0,zf,Qc,nc,zL _,rfl,HI0.o.1,HI0.o.2⟩
     case round=>
      clear HI0;obtain⟨i,Dh,Qi,ni,hi,rfl,HK,HI⟩:=hrel;by_cases hil:i<(L p).length
      ·have hiz:(i:Int)<((L p).length:Int):=(by omega);have hi0:(0:Int)<=(i:Int):=(by omega);obtain⟨⟨q,y⟩,hs⟩:∃d,(L p)[i]? =some d:=⟨(L p)[i],by simp⟩;have HSI:=hid hs;obtain⟨b2,o2,c2,hv2,hb2,v0,v1,v2,v3⟩:=abr HK.o.2.2.1 hs;simp only[vS]at hv2;obtain⟨hv2,-,-⟩:=hv2;subst hv2;simp only at v0 v1 v2 v3;clear hs;obtain⟨JW,Xt⟩:=aC (wr.alloc (.cells #[.int .i64 (q:Nat), .int .u64 y.1.1, .int .u64 y.1.2.1, .int .u64 y.1.2.2] 167));obtain⟨b14,yO⟩:=aC (wr.heap.size);have CU:Hid ((((Ss w aJ JW (tg Dh wr 4294967296) hb tb rb ar sv rv ov cv uv N L rs ms S Qi ni ((uW N S).length+j+1) (gJ (gT N Fo F) p (ds.take (j+1))) (bG C p f') (bG F p fr'))/\Bk JW (tg Dh wr 4294967296) b6 (cc ((p:Int),t,n)) 49/\Lm ED JW (tg Dh wr 4294967296) (3+p) (.slice (some ⟨b1,o1,none⟩) ds.length cw) ds))/\Bk JW (tg Dh wr 4294967296) b12 #[.int .u64 u.1.1, .int .u64 u.1.2.1, .int .u64 u.1.2.2, .int .i64 m] 163/\Lm EP JW (tg Dh wr 4294967296) 0 (.slice (some ⟨b2,o2,none⟩) (L p).length cx) (L p)/\Bk JW (tg Dh wr 4294967296) b14 #[.int .i64 (q:Nat), .int .u64 y.1.1, .int .u64 y.1.2.1, .int .u64 y.1.2.2] 167):=by
        rw[Xt,yO];have hg:=((Gr.refl wr).alloc (.cells #[.int .i64 (q:Nat), .int .u64 y.1.1, .int .u64 y.1.2.1, .int .u64 y.1.2.2] 167)).below;have hK:=Kp.of_below (S:=fun _=>False) hg;exact⟨⟨HK.o.1.1.grow _ hg,HK.o.1.2.1.keep hK (fun _ _ h=>h.elim) (fun k hk=>ak hk),HK.o.1.2.2.keep hK (fun _ _ h=>h.elim) (fun k hk=>ak hk)⟩,HK.o.2.1.keep hK (fun _ _ h=>h.elim) (fun k hk=>ak hk),HK.o.2.2.keep hK (fun _ _ h=>h.elim) (fun k hk=>ak hk),Bk.new _ _⟩
       go_upto_region 14 with fail;rw[<-Xt,<-yO];clear Xt yO v0 v1 v2 v3 hb2 HK;generalize tg Dh wr 4294967296=tag13 at CU;obtain⟨v,hv⟩:=aC (Lf.tY y u);obtain⟨ok,hok⟩:=aC ((bH y u).isSome);have hon:=Wj y u JW;rw[<-hv,<-hok]at hon;have HON:=hid hon;have HV:Hid (v=Lf.tY y u/\ok=(bH y u).isSome):=⟨hv,hok⟩;clear hv hok hon;have c12:=(aa CU.o.2.1.1).1;have Ww:=ae CU.o.2.1.1;have c14:=(aa CU.o.2.2.2.1).1;have l14:=ae CU.o.2.2.2.1;go_wp2_with fail;refine HON.o.mono ?_;rintro e QG ⟨rfl,yO⟩;clear HON c12 Ww c14 l14;have YI:=hid yO;clear yO;obtain⟨JV,Xr⟩:=aC (QG.alloc (.cells #[.int .u64 v.1.1, .int .u64 v.1.2.1, .int .u64 v.1.2.2] 45));obtain⟨b15,Xn⟩:=aC (QG.heap.size);have FN:Hid ((((Ss w aJ JV (tg tag13 JW 4294967296) hb tb rb ar sv rv ov cv uv N L rs ms S Qi ni ((uW N S).length+j+1) (gJ (gT N Fo F) p (ds.take (j+1))) (bG C p f') (bG F p fr'))/\Bk JV (tg tag13 JW 4294967296) b6 (cc ((p:Int),t,n)) 49/\Lm ED JV (tg tag13 JW 4294967296) (3+p) (.slice (some ⟨b1,o1,none⟩) ds.length cw) ds))/\Bk JV (tg tag13 JW 4294967296) b12 #[.int .u64 u.1.1, .int .u64 u.1.2.1, .int .u64 u.1.2.2, .int .i64 m] 163/\Lm EP JV (tg tag13 JW 4294967296) 0 (.slice (some ⟨b2,o2,none⟩) (L p).length cx) (L p)/\Bk JV (tg tag13 JW 4294967296) b14 #[.int .i64 (q:Nat), .int .u64 y.1.1, .int .u64 y.1.2.1, .int .u64 y.1.2.2] 167/\JV.heap[b15]? =some (.cells #[.int .u64 v.1.1, .int .u64 v.1.2.1, .int .u64 v.1.2.2] 45 (0,0))):=by
        rw[Xr,Xn];have hg:=YI.o.trans (((Gr.refl QG).alloc (.cells #[.int .u64 v.1.1, .int .u64 v.1.2.1, .int .u64 v.1.2.2] 45)).below.mono YI.o.size);have hK:=Kp.of_below (S:=fun _=>False) hg;exact⟨⟨CU.o.1.1.grow _ hg,CU.o.1.2.1.keep hK (fun _ _ h=>h.elim) (fun k hk=>ak hk),CU.o.1.2.2.keep hK (fun _ _ h=>h.elim) (fun k hk=>ak hk)⟩,CU.o.2.1.keep hK (fun _ _ h=>h.elim) (fun k hk=>ak hk),CU.o.2.2.1.keep hK (fun _ _ h=>h.elim) (fun k hk=>ak hk),CU.o.2.2.2.keep hK (fun _ _ h=>h.elim) (fun k hk=>ak hk),ah _ _⟩
       go_upto_region 15 with fail;rw[<-Xr,<-Xn];clear Xr Xn CU YI;generalize tg tag13 JW 4294967296=tag15 at FN;cases ok with
       | false=>
        have uD:Hid (pK N Q np (jN (L p) (ds.take j)++jN ((L p).take (i+1)) [(u,m)]) Qi ni):=by
         rw[Dx HSI.o];have e1:bH y u=none:=by
          cases k:bH y u with
          | none => rfl
          | some z => have:=HV.o.2;rw[k]at this;cases this
         simp only[e1,FP];exact HI.o
        go_wp2_with fail;go_roundw;case rel=>exact⟨i+1,tag15,Qi,ni,by omega,by first|rfl|go_num,⟨FN.o.1,FN.o.2.1,FN.o.2.2.1⟩,uD.o⟩
        case measure=>simp[intOf];omega
       | true=>
        have HSO:Hid (bH y u=some v):=by
         cases k:bH y u with
         | none => have:=HV.o.2;rw[k]at this;cases this
         | some z=>
          have h1:=HV.o.1;unfold Lf.tY at h1;rw[k]at h1;rw[h1];rfl
        have c12:=(aa FN.o.2.1.1).1;have Ww:=ae FN.o.2.1.1;have c14:=(aa FN.o.2.2.2.1.1).1;have l14:=ae FN.o.2.2.2.1.1;have c15:=(aa FN.o.2.2.2.2).1;have l15:=ae FN.o.2.2.2.2;have yn:=hid (rO (q:Nat) v.1.1 v.1.2.1 v.1.2.2 m JV);go_wp2_with fail;refine yn.o.mono ?_;rintro e w16 ⟨rfl,Hu⟩;clear yn c12 Ww c14 l14 c15 l15;have yE:Hid ((((Ss w aJ w16 (tg tag15 JV 4294967296) hb tb rb ar sv rv ov cv uv N L rs ms S Qi ni ((uW N S).length+j+1) (gJ (gT N Fo F) p (ds.take (j+1))) (bG C p f') (bG F p fr'))/\Bk w16 (tg tag15 JV 4294967296) b6 (cc ((p:Int),t,n)) 49/\Lm ED w16 (tg tag15 JV 4294967296) (3+p) (.slice (some ⟨b1,o1,none⟩) ds.length cw) ds))/\Bk w16 (tg tag15 JV 4294967296) b12 #[.int .u64 u.1.1, .int .u64 u.1.2.1, .int .u64 u.1.2.2, .int .i64 m] 163/\Lm EP w16 (tg tag15 JV 4294967296) 0 (.slice (some ⟨b2,o2,none⟩) (L p).length cx) (L p)):=by
         have hK:=Kp.of_below (S:=fun _=>False) Hu;exact⟨⟨FN.o.1.1.grow _ Hu,FN.o.1.2.1.keep hK (fun _ _ h=>h.elim) (fun k hk=>ak hk),FN.o.1.2.2.keep hK (fun _ _ h=>h.elim) (fun k hk=>ak hk)⟩,FN.o.2.1.keep hK (fun _ _ h=>h.elim) (fun k hk=>ak hk),FN.o.2.2.1.keep hK (fun _ _ h=>h.elim) (fun k hk=>ak hk)⟩
        clear Hu FN;generalize tg tag15 JV 4294967296=tag16 at yE;have Ur:Hid (q<N/\(-1<=m/\m<=1)/\Qi.length<=B/\ni<=B):=by
         have h1:=HI.o.len;have h2:=V9 (l:=L p) (i:=i) Vs.o;have h3:=vK.o;have h4:=HST.o.d1 (u,m) (lM Vs.o);exact⟨HP.o.to HAT.o.lt (lM HSI.o) HSO.o,h4,by omega,by omega⟩
        have Qp:=hid (yE.o.1.1.hm.push ((q:Int),v,m) (by have h1:=Ur.o.2.2.1;have h2:=HP.o.hB;omega) (by have h1:=Ur.o.2.2.2;have h2:=HP.o.hB;omega) HF.o yE.o.1.1.rd.rk (fun y hy=>(HI.o.vs y hy).1) ⟨q,rfl,Ur.o.1⟩);go_wp2_with fail;refine Qp.o.mono ?_;rintro e Mw ⟨Ym,rfl,Me,O0⟩;have H17:Hid ((((Ss w aJ Mw (tg tag16 w16 1) hb tb rb ar sv rv ov cv uv N L rs ms S Ym (ni+1) ((uW N S).length+j+1) (gJ (gT N Fo F) p (ds.take (j+1))) (bG C p f') (bG F p fr'))/\Bk Mw (tg tag16 w16 1) b6 (cc ((p:Int),t,n)) 49/\Lm ED Mw (tg tag16 w16 1) (3+p) (.slice (some ⟨b1,o1,none⟩) ds.length cw) ds))/\Bk Mw (tg tag16 w16 1) b12 #[.int .u64 u.1.1, .int .u64 u.1.2.1, .int .u64 u.1.2.2, .int .i64 m] 163/\Lm EP Mw (tg tag16 w16 1) 0 (.slice (some ⟨b2,o2,none⟩) (L p).length cx) (L p)):=
         ⟨⟨yE.o.1.1.heap Me.o.1 Me.o.2,yE.o.1.2.1.keep Me.o.2 (fun k _ e=>by omega) (fun k hk=>ak hk),yE.o.1.2.2.keep Me.o.2 (fun k _ e=>by omega) (fun k hk=>ak hk)⟩,yE.o.2.1.keep Me.o.2 (fun k _ e=>by omega) (fun k hk=>ak hk),yE.o.2.2.keep Me.o.2 (fun k _ e=>by omega) (fun k hk=>ak hk)⟩
        have uD:Hid (pK N Q np (jN (L p) (ds.take j)++jN ((L p).take (i+1)) [(u,m)]) Ym (ni+1)):=by
         rw[Dx HSI.o];simp only[HSO.o];rw[<-aA];exact HI.o.push Ur.o.1 Ur.o.2.1 O0.o
        clear Qp Me O0 yE;generalize tg tag16 w16 1=MO at H17;go_wp2_with fail;go_roundw;case rel=>exact⟨i+1,MO,Ym,ni+1,by omega,by first|rfl|go_num,H17.o,uD.o⟩
        case measure=>simp[intOf];omega
      ·have hiz:¬(i:Int)<((L p).length:Int):=(by omega);have uD:Hid (pK N Q np (jN (L p) (ds.take (j+1))) Qi ni):=by
        rw[Dy Vs.o];have h1:=HI.o;rw[show(L p).take i=L p from tL (by omega)]at h1;exact h1
       go_wp2_with fail;go_roundw;case rel=>exact⟨j+1,Dh,Qi,ni,by omega,by first|rfl|go_num,HK.o.1,uD.o⟩
       case measure=>simp[intOf];omega
    ·have hjz:¬(j:Int)<(ds.length:Int):=(by omega);obtain rfl:j=ds.length:=(by omega);have uB:Hid (LJ N L (mW N (mf rs)) O Co Cn S B (mW N (mf rs) (p,t)+1) (bG C p f') (bG F p fr') (wq Qc)/\nc+pot N L (mW N (mf rs)) S Co Cn (mW N (mf rs) (p,t)+1)<=B/\(∀y∈Qc,Vq N y)/\Qc.length<=B/\gJ (gT N Fo F) p ds=gT N Fo (bG F p fr')):=by
      have h1:=HI.o;rw[tK]at h1;have h2:=h1.len;have h3:=HST.o.nb;have h4:=vK.o;exact⟨Fa HST.o.yu h1.perm,by omega,h1.vs,by omega,XE HAT.o.lt HP.o.hN HST.o.dif HST.o.n1 HST.o.n2⟩
     obtain⟨W20,Tu⟩:=aC (wr.alloc (.cells (cc ((p:Int),t,n)) 49));obtain⟨b20,BS⟩:=aC (wr.heap.size);have YK:Hid ((Ss w aJ W20 (tg qK wr 4294967296) hb tb rb ar sv rv ov cv uv N L rs ms S Qc nc (uW N S).length (gT N Fo (bG F p fr')) (bG C p f') (bG F p fr'))/\Bk W20 (tg qK wr 4294967296) b20 (cc ((p:Int),t,n)) 49/\w.heap.size<=b20):=by
      rw[Tu,BS];have hg:=((Gr.refl wr).alloc (.cells (cc ((p:Int),t,n)) 49)).below;have h1:=HJ.o.1.grow 4294967296 hg;rw[tK,uB.o.2.2.2.2]at h1;refine⟨⟨h1.rd,h1.hm,h1.tg.tight ?_,h1.mm,h1.kp,h1.old⟩,Bk.new _ _,HJ.o.1.kp.size⟩;exact JI HP.o.hN (fun q t hq ht=>HP.o.YT uB.o.1 hq ht) (fun q t hq ht=>HP.o.YT HP.o.yu hq ht)
     obtain⟨y0,y1,y2,y3,y4,yz⟩:=vH HJ.o.2.1.1;simp only at y0 y1 y2 y3 y4;go_upto_region 4 with fail;simp only[cc]at Tu;rw[<-Tu,<-BS];clear Tu BS y0 y1 y2 y3 y4 yz HJ HI;generalize tg qK wr 4294967296=tag20 at YK;have HTA:=hid (YK.o.1.hm.taken (by have h1:=uB.o.2.2.2.1;have h2:=HP.o.hB;omega) HP.o.hr HF.o (fun W hW=>(YK.o.1.rd.keep hW (fun k _ e=>by rw[e];decide) (fun k _=>rfl)).rk) uB.o.2.2.1);go_wp2_with fail;refine HTA.o.mono ?_;rintro e YP ⟨c',b',Q',rfl,Ti,aac⟩;have Uy:Hid ((Ss w aJ YP (tg tag20 W20 1) hb tb rb ar sv rv ov cv uv N L rs ms S Q' nc (uW N S).length (gT N Fo (bG F p fr')) (bG C p f') (bG F p fr'))/\Bk YP (tg tag20 W20 1) b20 (cc ((p:Int),t,n)) 49/\w.heap.size<=b20):=⟨YK.o.1.heap Ti.o.1 Ti.o.2,YK.o.2.1.keep Ti.o.2 (fun k _ e=>by omega) (fun k hk=>ak hk),YK.o.2.2⟩;have ab8:Hid (∃x Qa,Hd N L rs O Co Cn S B M0 (bG C p f') (bG F p fr') c' b' Q' nc gk x Qa):=⟨_,Qc,uB.o.1,aac.o,uB.o.2.2.1,uB.o.2.1,by
      have h1:=QW.o.gm;have h2:=HAT.o.lo;omega⟩
     clear HTA Ti aac YK;generalize tg tag20 W20 1=MN at Uy;obtain⟨q21,k21⟩:=qO Uy.o.2.1.1 c';have H22:Hid ((Ss w aJ (uJ YP b20 c') MN hb tb rb ar sv rv ov cv uv N L rs ms S Q' nc (uW N S).length (gT N Fo (bG F p fr')) (bG C p f') (bG F p fr'))/\Bk (uJ YP b20 c') MN b20 (cc c') 49/\w.heap.size<=b20):=⟨Uy.o.1.set Uy.o.2.2 Uy.o.2.1.2 k21 (by have h1:=HP.o.hN;have h2:=HP.o.hms;omega),⟨q21,Uy.o.2.1.2⟩,Uy.o.2.2⟩;clear q21 k21;obtain⟨y0,y1,y2,y3,y4,yz⟩:=vH Uy.o.2.1.1;have fz:=(aa Uy.o.2.1.1).2;simp only[Hc.ans,Hc.tv];simp only[uJ]at H22;go_wp2_with fail;go_roundg gk;case measure=>omega
     case rel=>exact⟨MN,Q',nc,_,_,c',b',b20,rfl,rfl,H22.o,ab8.o⟩
end Go.Proofs.YtiiefcalkjeieaaGreat.Rc
