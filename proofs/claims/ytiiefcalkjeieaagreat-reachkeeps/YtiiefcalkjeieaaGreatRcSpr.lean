import Derived.Test.YtiiefcalkjeieaaGreatJ26
variable{p x N:Nat}
set_option maxHeartbeats 16000000
set_option maxRecDepth 100000
namespace Go.Proofs.YtiiefcalkjeieaaGreat.Rc
open Go.RowKit Go.Sort Go.Maps Pt Hc
attribute[local go_sem ↓]wp_at_zero wp_at_succ
structure Ut(N:Nat)(L:Nat->List (Nat×ai))(rs ms:List Nat)(O:Nat->List ai)(Co Cn:Nat->ai->Int)(Fo Fn S:Nat->List ai)(B:Nat)(Q0:List It)(KI:Nat):Prop where
 hms:ms.length=N
 hrs:rs.length=N
 hr:∀x∈rs,x<=N
 hN:N<=1000000
 ord:rV N L (nk N (mi rs))
 yO:Fv N L O Cn Fn
 sup:∀q u,q<N->0<Co q u\/0<Cn q u->u∈S q
 yE:LW N L (nk N (mi rs)) O Co Cn S B 0 Co Fo (wq Q0)
 vs:∀y∈Q0,Vq N y
 nb:KI+pot N L (nk N (mi rs)) S Co Cn 0<=B
 hB:B<=549755813888
 bo:∀p t,p<N->0<=Co p t/\Co p t<=2147483647
 bn:∀p t,p<N->0<=Cn p t/\Cn p t<=2147483647
 sl:∀p,p<N->(S p).length<=1000000000
 st:(vv N S).length<=1099511627776
 ll:∀p,p<N->(L p).length<=1000000000
section
variable {N:Nat} {L:Nat->List (Nat×ai)} {rs ms:List Nat} {O:Nat->List ai} {Co Cn:Nat->ai->Int} {Fo Fn S:Nat->List ai} {B:Nat} {Q0:List It} {KI:Nat}
theorem Ut.to(h:Ut N L rs ms O Co Cn Fo Fn S B Q0 KI)(hp:p<N){q:Nat}{b:ai}(hb:(q,b)∈L p){u v:ai}(hv:bJ b u=some v):q<N:=(h.ord.step p q u v b hp hb hv).1
theorem Ut.Y4(h:Ut N L rs ms O Co Cn Fo Fn S B Q0 KI){C:Nat->ai->Int}{F:Nat->List ai}{W:List (Nat×ai×Int)}(hs:LW N L (nk N (mi rs)) O Co Cn S B x C F W)(hp:p<N){t:ai}(ht:t∈F p):t∈S p:=by
 have h1:=(((hs.Mo.fr p hp).mem t).1 ht).1;rw[hs.mx p t hp]at h1;unfold mix at h1;split at h1
 ·exact h.sup p t hp (.inr h1)
 ·exact h.sup p t hp (.inl h1)
theorem Ut.mem(h:Ut N L rs ms O Co Cn Fo Fn S B Q0 KI){C:Nat->ai->Int}{F:Nat->List ai}{W:List (Nat×ai×Int)}(hs:LW N L (nk N (mi rs)) O Co Cn S B x C F W)(hp:p<N){t:ai}(ht:C p t≠0):t∈S p/\0<=C p t/\C p t<=2147483647:=by
 rw[hs.mx p t hp]at ht⊢;unfold mix at ht⊢;have h1:=h.bo p t hp;have h2:=h.bn p t hp;split
 ·rename_i k;rw[if_pos k]at ht;exact⟨h.sup p t hp (.inr (by omega)),h2⟩
 ·rename_i k;rw[if_neg k]at ht;exact⟨h.sup p t hp (.inl (by omega)),h1⟩
structure Stp(N:Nat)(L:Nat->List (Nat×ai))(rs:List Nat)(O:Nat->List ai)(Co Cn:Nat->ai->Int)(S:Nat->List ai)(B x':Nat)(C:Nat->ai->Int)(F:Nat->List ai)(Q:List It)(np p:Nat)(f':ai->Int)(fr':List ai)(ds:List (ai×Int)):Prop where
 yE:LW N L (nk N (mi rs)) O Co Cn S B x' (bI C p f') (bI F p fr') (wq Q++jR (L p) ds)
 nb:np+(jR (L p) ds).length+pot N L (nk N (mi rs)) S Co Cn x'<=B
 dif:Az (F p) fr' ds
 n1:(F p).Nodup
 n2:fr'.Nodup
 dl:ds.length<=2000000000
 d1:∀d∈ds,-1<=d.2/\d.2<=1
theorem Hd.stp(h:Ut N L rs ms O Co Cn Fo Fn S B Q0 KI){M0:Nat}{C:Nat->ai->Int}{F:Nat->List ai}{c:Th}{Q:List It}{np gk:Nat}{Qa:List It}(hd:Hd N L rs O Co Cn S B M0 C F c true Q np gk x Qa){t:ai}{n:Int}(ha:Hat N rs c Q x Qa p t n){fr':List ai}(hf:fU (fun u=>if u=t then C p t+n else C p u) fr'):
    Stp N L rs O Co Cn S B (nk N (mi rs) (p,t)+1) C F Q np p (fun u=>if u=t then C p t+n else C p u) fr' (oW (F p) fr'):=by
 have n1:=(hd.yE.Mo.fr p ha.lt).nodup;have f2:=OM hf;have hdf:=rP n1 f2.nodup;obtain⟨k1,k2⟩:=hd.yE.pop h.ord h.yO h.sup ha.lt ha.min ha.lo (f':=fun u=>if u=t then C p t+n else C p u) (fun u=>by rw[ha.sum]) f2 hdf ha.w1 ha.w2 (by rw[mV,mV];exact ha.w3) (List.Perm.refl (wq Q++jR (L p) (oW (F p) fr')));have hin2:∀u∈fr',u∈S p:=fun u hu=>h.Y4 k1 ha.lt (by rw[bM];exact hu);refine⟨k1,by have:=hd.nb;omega,hdf,n1,f2.nodup, ?_,fun d Ia=> ?_⟩
 ·have h1:=jb hdf.nd (m:=S p) fun u hu=>by
    obtain⟨d,hd1,rfl⟩:=mM.1 hu;rcases(hdf.mem d.1 d.2).1 hd1 with⟨k,_⟩|⟨k,_⟩
    ·exact h.Y4 hd.yE ha.lt k
    ·exact hin2 _ k
  rw[gQ]at h1;have:=h.sl p ha.lt;omega
 ·rcases(hdf.mem d.1 d.2).1 Ia with⟨_,_,k⟩|⟨_,_,k⟩<;>omega
end
theorem We(N:Nat)(rs:List Nat)(hr:∀x∈rs,x<=N):∃M,∀p t,p<N->nk N (mi rs) (p,t)<M:=⟨_,fun p t hp=>by
    refine Wh hp ?_;unfold mi;rw[List.getD_eq_getElem?_getD];cases k:rs[p]? with
    | none => exact zL _
    | some z => exact hr z (lM k)⟩
def Spn(w:World)(aL:Nat->Nat)(rb:Nat)(ar:Int)(sv rv ov cv uv:Value)(N:Nat)(L:Nat->List (Nat×ai))(rs ms:List Nat)(S:Nat->List ai)(Fo:Nat->List ai)(Cn:Nat->ai->Int)(Fn:Nat->List ai)(e:Ending)(w':World):Prop:=
 ∃vl ks tag',e= .returned vl/\qC (gT N Fo Fn) ks/\w'.ownsRow w.heap.size 49 5 vl (Qm (gT N Fo Fn) ks).length (fl EC (Qm (gT N Fo Fn) ks))/\
  Rd w' tag' rb ar sv rv ov cv uv N L rs ms/\(∀p mb,ms[p]? =some mb->Ml w' tag' (3+p) mb (S p).length (Cn p) (Fn p))/\Kp (fun k=>aL k≠0) w w'/\(∀k,k<w.heap.size->tag' k=aL k)/\∀k,vl.ownBlock=some k->tag' k=0
theorem PI{Fo F F':Nat->List ai}(h:∀p,p<N->F p=F' p):gT N Fo F=gT N Fo F':=by
 funext s
 unfold gT;split
 ·rename_i k;rw[h s.1.1.toNat (by omega)]
 ·rfl
theorem Gn(hlo:aa4){aL:Nat->Nat}{hb rb:Nat}{ar:Int}{sv rv ov cv uv:Value}{L:Nat->List (Nat×ai)}{rs ms:List Nat}{S O Fo Fn:Nat->List ai}{Co Cn:Nat->ai->Int}{B KI:Nat}{Q0:List It}(w:World)(hP:Ut N L rs ms O Co Cn Fo Fn S B Q0 KI)
    (hR:Rd w aL rb ar sv rv ov cv uv N L rs ms) (hH:Hm w aL hb (wv ar sv rv) (kU N rs) Q0 KI) (hM:∀p mb,ms[p]? =some mb->Ml w aL (3+p) mb (S p).length (Co p) (Fo p)) :
    CL 38 #[aB rb,aB hb] w fun e w'=>Hid (Spn w aL rb ar sv rv ov cv uv N L rs ms S Fo Cn Fn e w'):=by
 have hmx:Tryz.prog.follows .mixedOrders=true:=by kernel_rfl
 have HP:=hid hP;have Ma:=hid hlo;have HF:=hid (EM (ar:=ar) (sv:=sv) (rv:=rv) hP.hr hP.hrs);have abe:=hid (Rs.Tt.dI 78 w);have HR:=hid hR;have HH:=hid hH;have HM:=hid hM;clear hP hlo hR hH hM;go_enter Tryz.func38,Tryz.ntmps38;go_wp2_with fail;refine abe.o.mono ?_;rintro e w1 ⟨rfl,hT1,hG1⟩;clear abe;obtain⟨tb,htb⟩:=aF (w.heap.size+1);rw[<-htb]at hT1⊢;have HS1:Hid (Ss w aL w1 (tg aL w 2) hb tb rb ar sv rv ov cv uv N L rs ms S Q0 KI (vv N S).length (gT N Fo Fo) Co Fo):=by
  have hB:=hG1.below;have hK:=Kp.of_below (S:=fun _=>False) hB;refine⟨HR.o.keep hK (fun _ _ h=>h.elim) (fun k hk=>au hk),HH.o.keep hK (fun _ _ h=>h.elim) (fun k hk=>au hk), ?_,fun p mb hp=>(HM.o p mb hp).keep hK (fun _ _ h=>h.elim) (fun k hk=>au hk),hK.mono (fun _ h=>h.elim),fun k hk=>au hk⟩;refine Tg.tight (nt:=0) ?_ (JO HP.o.hN (fun p t hp ht=>HP.o.Y4 HP.o.yE hp ht) (fun p t hp ht=>HP.o.Y4 HP.o.yE hp ht));rw[TK];exact⟨w.heap.size,hT1,aU (by omega),aU (nR _)⟩
 clear hT1 hG1 htb HR HH HM;obtain⟨Ba,U4⟩:=aF (tg aL w 2);rw[<-U4]at HS1;clear U4;have HTA:=hid (HS1.o.hm.taken (by have h1:=HP.o.yE.bd;have h2:=HP.o.hB;rw[mV]at h1;omega) HP.o.hr HF.o (fun W hW=>(HS1.o.rd.keep hW (fun k _ e=>by rw[e];decide) (fun k _=>rfl)).rk) HP.o.vs);go_wp2_with fail;refine HTA.o.mono ?_;rintro e w2 ⟨c,b,Q1,rfl,hm2,ht2⟩;clear HTA;have HS2:=hid (HS1.o.heap hm2.o.1 hm2.o.2);have HT2:=hid ht2.o;clear hm2 ht2 HS1;obtain⟨RH,U3⟩:=aF (tg Ba w1 1);rw[<-U3]at HS2;clear U3;simp only[Hc.ans,Hc.tv];go_upto_region 3 with fail;obtain⟨W3,hW3⟩:=aF (w2.alloc (.cells (cc c) 49));obtain⟨b6,hb6⟩:=aF (w2.heap.size);have HS3:Hid (Ss w aL W3 (tg RH w2 4294967296) hb tb rb ar sv rv ov cv uv N L rs ms S Q1 KI (vv N S).length (gT N Fo Fo) Co Fo/\Bk W3 (tg RH w2 4294967296) b6 (cc c) 49/\w.heap.size<=b6):=by
  rw[hW3,hb6];exact⟨HS2.o.grow 4294967296 ((Gr.refl w2).alloc _).below,Bk.new _ _,HS2.o.kp.size⟩
 obtain⟨M0,hM0⟩:=We N rs HP.o.hr;have QB:=hid hM0;have HD3:Hid (∃x Qa,Hd N L rs O Co Cn S B M0 Co Fo c b Q1 KI M0 x Qa):=⟨0,Q0,HP.o.yE,HT2.o,HP.o.vs,HP.o.nb,by omega⟩;clear hM0;simp only[cc]at hW3;rw[<-hW3,<-hb6];clear hW3 hb6 HS2 HT2;go_loopg [6,7,8,9,10,12,14,15,16] M0 (fun gk s6 s7 _ _ _ _ _ _ _ wr=>∃(tag:Nat->Nat) (Q:List It) (np:Nat) (C:Nat->ai->Int) (F:Nat->List ai) (c:Th) (b:Bool) (b6:Nat),s6=aB b6/\s7= .bool b/\Hid (Ss w aL wr tag hb tb rb ar sv rv ov cv uv N L rs ms S Q np (vv N S).length (gT N Fo F) C F/\Bk wr tag b6 (cc c) 49/\w.heap.size<=b6)/\Hid (∃x Qa,Hd N L rs O Co Cn S B M0 C F c b Q np gk x Qa));case atStart=>exact⟨_,Q1,KI,Co,Fo,c,b,b6,rfl,rfl,HS3.o,HD3.o⟩
 case round=>
  clear HS3 HD3;obtain⟨tag,Q,np,C,F,c,b,b6,rfl,rfl,sj,HHD⟩:=hrel;obtain⟨x,Qa,hhd⟩:=HHD.o;have Q9:=hid hhd;clear hhd HHD;cases b with
  | false=>
   have hq:Qa=[]/\Q=[]:=by
    rcases Q9.o.tk with k|k
    ·exact k.2
    ·exact absurd k.1 (by simp)
   obtain⟨rfl,rfl⟩:=hq;have YL:Hid ((∀p,p<N->C p=Cn p/\F p=Fn p)/\gT N Fo F=gT N Fo Fn):=by
    have h1:∀p,p<N->C p=Cn p/\F p=Fn p:=fun p hp=>by
     obtain⟨h1,h2⟩:=Q9.o.yE.Mo.fin HP.o.ord HP.o.yO hp;exact⟨funext h1,h2⟩
    exact⟨h1,PI fun p hp=>(h1 p hp).2⟩
   obtain⟨bb,htl,_⟩:=sj.o.1.tg;have HL:=hid (Ma.o wr tb bb _ _ htl (by have:=HP.o.st;omega));clear htl;go_wp2_with fail;refine HL.o.mono ?_;rintro e w9 ⟨vl,ks,h1,rfl,h2,h3⟩;have HE:Hid (Spn w aL rb ar sv rv ov cv uv N L rs ms S Fo Cn Fn (.returned vl) w9):=by
    have hS:=sj.o.1.grow 0 h3;rw[YL.o.2]at h1 h2;refine⟨vl,ks,_,rfl,h1,aN h2 sj.o.1.kp.size,hS.rd,fun p mb hp=> ?_,hS.kp,hS.old,fun k hk=>aU (je h2 hk)⟩;have Tw:p<N:=(by rw[<-HP.o.hms];exact(lG.1 hp).1);have:=hS.mm p mb hp;rw[(YL.o.1 p Tw).1,(YL.o.1 p Tw).2]at this;exact this
   clear h1 h2 h3;go_wp2_with fail;refine bR (v:=vl) (by simp[results,Tryz.results38,go_sem]) rfl HE
  | true=>
   obtain⟨p,t,n,hat⟩:=Q9.o.at;have HAT:=hid hat;obtain rfl:=hat.eq;clear hat;obtain⟨gk,rfl⟩:∃g',gk=g'+1:=⟨gk-1,by
    have h1:=Q9.o.gm;have h2:=HAT.o.lo;have h3:=QB.o p t HAT.o.lt;omega⟩
   obtain⟨mb,hmb⟩:∃mb,ms[p]? =some mb:=⟨ms[p]'(by have:=HAT.o.lt;have:=HP.o.hms;omega),by rw[p8]⟩;have Aw:=hid hmb;clear hmb;obtain⟨bi,oi,ci,hcv,-,-⟩:=sj.o.1.rd.come Aw.o;rw[HP.o.hms]at hcv;have HCV:=hid hcv;clear hcv;have hpz:(0:Int)<=(p:Int):=(by omega);have Tw:(p:Int)<(N:Int):=(by have:=HAT.o.lt;omega);obtain⟨y0,y1,y2,y3,y4,yz⟩:=vN sj.o.2.1.1;simp only at y0 y1 y2 y3 y4;go_upto_region 6 with fail;clear y0 y1 y2 y3 y4 yz;have hS0:(fun W:World=>Kp (fun k=>tag k=3+p) wr W) wr.drew:=Kp.bg (Gr.refl wr).drew;have uZ:Hid (∀W:World,Kp (fun k=>tag k=3+p) wr W->(aj W rb 4 (.slice (some ⟨bi,oi,none⟩) N ci)/\rb<W.heap.size/\aj W bi (oi+p) (aB mb)/\bi<W.heap.size)/\W.heap[b6]? =some (.cells (cc ((p:Int),t,n)) 49 (0,0))):=fun W hW=>⟨(sj.o.1.rd.keep hW (fun k _ e=>by omega) (fun k _=>rfl)).come' Aw.o HCV.o,(sj.o.2.1.keep hW (fun k _ e=>by have h1:=HAT.o.lt;have h2:=HP.o.hN;omega) (fun k _=>rfl)).1⟩;have YO:Hid (0<=C p t/\C p t<=2147483647/\0<=C p t+n/\C p t+n<=2147483647/\-2147483647<=n/\n<=2147483647):=by
    have h1:=Q9.o.yE.Mo.first HP.o.ord HP.o.yO HAT.o.lt HAT.o.min;rw[HAT.o.sum]at h1;have h2:=HP.o.bn p t HAT.o.lt;have h3:0<=C p t/\C p t<=2147483647:=by
     by_cases k:C p t=0
     ·omega
     ·exact(HP.o.mem Q9.o.yE HAT.o.lt k).2
    have h4:0<=C p t/\C p t<=2147483647/\0<=C p t+n/\C p t+n<=2147483647/\-2147483647<=n/\n<=2147483647:=(by omega);exact h4
   have Re:Hid (∀W:World,Gr wr W->CL 80 #[aB mb,sO W.heap.size 1 1] (W.alloc (.cells #[uV t.1.1,uV t.1.2.1,uV t.1.2.2,iV n] 163)) fun e w'=>∃(vo:Value),e= .returned (.tuple #[vo,iV 0])/\Hid (∃tag' fr',Ss w aL w' tag' hb tb rb ar sv rv ov cv uv N L rs ms S Q np (vv N S).length (gT N Fo F) (bI C p (fun u=>if u=t then C p t+n else C p u)) (bI F p fr')/\Bk w' tag' b6 (cc ((p:Int),t,n)) 49/\Lm ED w' tag' (3+p) vo (oW (F p) fr')/\fU (fun u=>if u=t then C p t+n else C p u) fr')/\Hid (Kp (fun k=>tag k=3+p) wr w')):=by
    intro W hW;have hg:Bw wr (W.alloc (.cells #[uV t.1.1,uV t.1.2.1,uV t.1.2.2,iV n] 163)):=(hW.alloc _).below;have hls:=WE W t n;generalize W.alloc (.cells #[uV t.1.1,uV t.1.2.1,uV t.1.2.2,iV n] 163)=W1 at hg hls⊢;have hS1:=sj.o.1.grow 0 hg;have hB1:=sj.o.2.1.keep (tag':=tg tag wr 0) (Kp.of_below (S:=fun _=>False) hg) (fun _ _ h=>h.elim) (fun k hk=>au hk);have hlt:=HAT.o.lt;refine((hS1.mm p mb Aw.o).apply t n _ hls YO.o.2.2.2.2 (by have:=YO.o;omega) (by have:=HP.o.sl p hlt;omega)).mono ?_;rintro e w' ⟨vo,fr',rfl,h7⟩;obtain⟨h1,h2,h3⟩:=h7.o;have abA:∀u,(if u=t then C p t+n else C p u)≠0->u∈S p:=fun u hu=>by
     by_cases k:u=t
     ·subst k;rw[if_pos rfl]at hu;have e1:=Q9.o.yE.Mo.first HP.o.ord HP.o.yO hlt HAT.o.min;rw[HAT.o.sum]at e1;have e2:=YO.o;exact HP.o.sup p u hlt (.inr (by omega))
     ·rw[if_neg k]at hu;exact(HP.o.mem Q9.o.yE hlt hu).1
    have hf:=h1;obtain⟨_,_,_,_,_,hf,_⟩:=hf;refine⟨vo,rfl,⟨_,fr',hS1.N9 Aw.o (h1.tight abA) h3,hB1.keep h3 (fun k _ e=>by have:=HP.o.hN;omega) (fun k hk=>au hk),⟨aK (E:=ED) h2,fun k hk=>aU (je h2 hk)⟩,hf⟩, ?_⟩;exact((Kp.of_below (S:=fun k=>tag k=3+p) hg).trans h3 fun k hk e=>by
     rw[au hk]at e;exact e)
   refine ay (S:=fun W:World=>Kp (fun k=>tag k=3+p) wr W) (D:=[]) hmx ?_;refine' ak 0 hS0 ?_;refine' ak 1 hS0 ?_;refine' ak 2 hS0 ?_;refine' bD 3 hS0 ?h ?_;case h=>(intro W hSw;obtain⟨⟨c0,c1,c2,c3⟩,-⟩:=uZ.o W hSw;go_simp;try(with_reducible rfl))
   refine' ak 4 hS0 ?_;refine' ak 5 hS0 ?_;refine' bD 6 hS0 ?h ?_;case h=>(intro W hSw;obtain⟨⟨c0,c1,c2,c3⟩,-⟩:=uZ.o W hSw;go_simp;try(with_reducible rfl))
   refine' ak 7 hS0 ?_;refine' ak 8 hS0 ?_;refine' bD 9 hS0 ?h ?_;case h=>(intro W hSw;obtain⟨-,c4⟩:=uZ.o W hSw;obtain⟨y0,y1,y2,y3,y4,yz⟩:=vN c4;simp only at y0 y1 y2 y3 y4;go_simp;try(with_reducible rfl))
   refine' ak 10 hS0 ?_;refine' bD 11 hS0 ?h ?_;case h=>(intro W hSw;obtain⟨-,c4⟩:=uZ.o W hSw;obtain⟨y0,y1,y2,y3,y4,yz⟩:=vN c4;simp only at y0 y1 y2 y3 y4;go_simp;try(with_reducible rfl))
   refine' ak 12 hS0 ?_;refine fV 13 fun K hK=> ?_;go_simp;refine hK.o _ _ (fun hD=>(hS0.trans (Kp.of_below (S:=fun _=>False) ((Gr.refl _).alloc _).below) (fun _ _ h=>h.elim))) ?_;clear hK K;try simp only[Act.put,qI,q0,qS]
   refine fV 14 fun K hK=> ?_;go_simp;refine(Re.o wr.drew (Gr.refl wr).drew).mono ?_;rintro e w7 ⟨vo,rfl,hA7,Ak⟩;go_wp2_with fail;refine hK.o _ _ (fun hD=>Ak.o) ?_;clear hK K;try simp only[Act.put,qI,q0,qS]
   refine' ak 15 Ak.o ?_;refine' ak 16 Ak.o ?_;refine' ak 17 Ak.o ?_;refine' ak 18 Ak.o ?_;refine' ak 19 Ak.o ?_;refine av (by kernel_rfl) ?_ _;clear hS0 uZ Re Ak;obtain⟨wz,fr',h71,h72,h73,h74⟩:=hA7.o;have HST:=hid (Hd.stp HP.o Q9.o HAT.o h74);obtain⟨ds,hds⟩:=aF (oW (F p) fr');rw[<-hds]at h73 HST;obtain⟨pv,cw,rfl⟩:=h73.1.form;have H70:Hid (Ss w aL w7 wz hb tb rb ar sv rv ov cv uv N L rs ms S Q np (vv N S).length (gT N Fo F) (bI C p (fun u=>if u=t then C p t+n else C p u)) (bI F p fr')/\Bk w7 wz b6 (cc ((p:Int),t,n)) 49/\Lm ED w7 wz (3+p) (.slice pv ds.length cw) ds):=⟨h71,h72,h73⟩;have vQ:Hid (Q.length+(jR (L p) ds).length<=B/\np+(jR (L p) ds).length<=B):=by
    have h1:=HST.o.yE.bd;have h2:=HST.o.nb;rw[dQ,mV]at h1;exact⟨by omega,by omega⟩
   obtain⟨f',hf'⟩:∃f:ai->Int,f=fun u=>if u=t then C p t+n else C p u:=⟨_,rfl⟩
   rw[<-hf']at HST H70;clear h71 h72 h73 h74 hds hA7 YO hf';have hdb:ds.length<=2000000000:=HST.o.dl;have hlb:(L p).length<=1000000000:=HP.o.ll p HAT.o.lt;have HL0:Hid (((Ss w aL w7 wz hb tb rb ar sv rv ov cv uv N L rs ms S Q np ((vv N S).length+0) (gJ (gT N Fo F) p (ds.take 0)) (bI C p f') (bI F p fr'))/\Bk w7 wz b6 (cc ((p:Int),t,n)) 49/\Lm ED w7 wz (3+p) (.slice pv ds.length cw) ds)/\pR N Q np (jR (L p) (ds.take 0)) Q np):=by
    rw[List.take_zero,XL];exact⟨H70.o,pR.init HAT.o.vs⟩
   clear H70;go_wp2_with fail;go_loopw [12,14,15,16,52] (fun _ _ _ _ ZP wx=>∃(j:Nat) (tag:Nat->Nat) (Qc:List It) (nc:Nat),j<=ds.length/\ZP=iV j/\Hid ((Ss w aL wx tag hb tb rb ar sv rv ov cv uv N L rs ms S Qc nc ((vv N S).length+j) (gJ (gT N Fo F) p (ds.take j)) (bI C p f') (bI F p fr'))/\Bk wx tag b6 (cc ((p:Int),t,n)) 49/\Lm ED wx tag (3+p) (.slice pv ds.length cw) ds)/\Hid (pR N Q np (jR (L p) (ds.take j)) Qc nc)) (fun _ _ _ _ ZP _=>ds.length-(intOf ZP).toNat);case atStart=>exact⟨0,wz,Q,np,zL _,rfl,HL0.o.1,HL0.o.2⟩
   case round=>
    clear HL0;obtain⟨j,qO,Qc,nc,hj,rfl,HJ,HI⟩:=hrel;by_cases hlt:j<ds.length
    ·have hjz:(j:Int)<(ds.length:Int):=(by omega);have hj0:(0:Int)<=(j:Int):=(by omega);obtain⟨⟨u,m⟩,hd⟩:∃d,ds[j]? =some d:=⟨ds[j],by simp⟩;have VB:=hid hd;obtain⟨b1,o1,c1,hv1,hb1,u0,u1,u2,u3⟩:=HJ.o.2.2.1.at4 hd;simp only[vS]at hv1;obtain⟨hv1,-,-⟩:=hv1;subst hv1;simp only at u0 u1 u2 u3;clear hd;obtain⟨W9,Xx⟩:=aF (wr.alloc (.cells #[uV u.1.1,uV u.1.2.1,uV u.1.2.2,iV m] 163));obtain⟨b12,Ie⟩:=aF (wr.heap.size);have H9:Hid (((Ss w aL W9 (tg qO wr 4294967296) hb tb rb ar sv rv ov cv uv N L rs ms S Qc nc ((vv N S).length+j) (gJ (gT N Fo F) p (ds.take j)) (bI C p f') (bI F p fr'))/\Bk W9 (tg qO wr 4294967296) b6 (cc ((p:Int),t,n)) 49/\Lm ED W9 (tg qO wr 4294967296) (3+p) (.slice (some ⟨b1,o1,none⟩) ds.length cw) ds)/\Bk W9 (tg qO wr 4294967296) b12 #[uV u.1.1,uV u.1.2.1,uV u.1.2.2,iV m] 163):=by
      rw[Xx,Ie];have hg:=((Gr.refl wr).alloc (.cells #[uV u.1.1,uV u.1.2.1,uV u.1.2.2,iV m] 163)).below;have hK:=Kp.of_below (S:=fun _=>False) hg;exact⟨⟨HJ.o.1.grow _ hg,HJ.o.2.1.keep hK (fun _ _ h=>h.elim) (fun k hk=>au hk),HJ.o.2.2.keep hK (fun _ _ h=>h.elim) (fun k hk=>au hk)⟩,Bk.new _ _⟩
     go_upto_region 10 with fail;rw[<-Xx,<-Ie];clear Xx Ie u0 u1 u2 u3 hb1 HJ;generalize tg qO wr 4294967296=tag9 at H9;have HAD:Hid (CL 81 #[aB tb, .agg #[iV (p:Int),uV u.1.1,uV u.1.2.1,uV u.1.2.2],iV m] W9 fun e w'=>e= .returned (iV 0)/\Hid (Tg w' (tg tag9 W9 2) tb ((vv N S).length+j+1) (gJ (gT N Fo F) p (ds.take (j+1)))/\Kp (fun k=>tag9 k=2) W9 w')):=by
      have hpl:p<=1000000:=(by have h1:=HAT.o.lt;have h2:=HP.o.hN;omega);have Ia:=HST.o.d1 (u,m) (lM VB.o);simp only at Ia;have hgb:=aaK (p:=p) (l:=ds.take j) (aaJ (N:=N) (Fo:=Fo) (F:=F)) (fun d hd=>HST.o.d1 d (List.mem_of_mem_take hd)) (sk p u);have hlen:(ds.take j).length<=2000000000:=(by rw[lK];have:=HST.o.dl;omega);have h:=H9.o.1.1.tg.add (sk p u) m (by have h1:=HP.o.st;have h2:=HST.o.dl;unfold maxLen;omega) (by omega) (by omega);have e1:Rs.mv (sk p u)= .agg #[iV (p:Int),uV u.1.1,uV u.1.2.1,uV u.1.2.2]:=(by unfold Rs.mv;rw[kE hpl]);have e2:=TL (gT N Fo F) p (ds.take j) (u,m);rw[show ds.take j++[(u,m)]=ds.take (j+1)by rw[tO,VB.o];rfl]at e2;rw[<-e1,<-e2];exact h
     have c12:=(aa H9.o.2.1).1;have WH:=ae H9.o.2.1;go_wp2_with fail;refine HAD.o.mono ?_;rintro e eF ⟨rfl,KU⟩;have QK:Hid (((Ss w aL eF (tg tag9 W9 2) hb tb rb ar sv rv ov cv uv N L rs ms S Qc nc ((vv N S).length+j+1) (gJ (gT N Fo F) p (ds.take (j+1))) (bI C p f') (bI F p fr'))/\Bk eF (tg tag9 W9 2) b6 (cc ((p:Int),t,n)) 49/\Lm ED eF (tg tag9 W9 2) (3+p) (.slice (some ⟨b1,o1,none⟩) ds.length cw) ds)/\Bk eF (tg tag9 W9 2) b12 #[uV u.1.1,uV u.1.2.1,uV u.1.2.2,iV m] 163):=⟨⟨H9.o.1.1.tally KU.o.1 KU.o.2,H9.o.1.2.1.keep KU.o.2 (fun k _ e=>by omega) (fun k hk=>au hk),H9.o.1.2.2.keep KU.o.2 (fun k _ e=>by omega) (fun k hk=>au hk)⟩,H9.o.2.keep KU.o.2 (fun k _ e=>by omega) (fun k hk=>au hk)⟩;clear KU HAD H9 c12 WH;generalize tg tag9 W9 2=zw at QK;obtain⟨bs,os,cs,px,cx,-,QV,s0,s1,s2,s3⟩:=QK.o.1.1.rd.step HAT.o.lt;have HI0:Hid (((((Ss w aL eF zw hb tb rb ar sv rv ov cv uv N L rs ms S Qc nc ((vv N S).length+j+1) (gJ (gT N Fo F) p (ds.take (j+1))) (bI C p f') (bI F p fr'))/\Bk eF zw b6 (cc ((p:Int),t,n)) 49/\Lm ED eF zw (3+p) (.slice (some ⟨b1,o1,none⟩) ds.length cw) ds))/\Bk eF zw b12 #[uV u.1.1,uV u.1.2.1,uV u.1.2.2,iV m] 163/\Lm EP eF zw 0 (.slice px (L p).length cx) (L p))/\pR N Q np (jR (L p) (ds.take j)++jR ((L p).take 0) [(u,m)]) Qc nc):=by
      refine⟨⟨QK.o.1,QK.o.2,QV⟩, ?_⟩;rw[List.take_zero,oO,show FJ [] u=[]from rfl,List.map_nil,FZ];exact HI.o
     have hsN:(p:Int)<(N:Int):=Tw;clear QV QK HI;go_wp2_with fail;clear s0 s1 s2 s3;go_loopw [14,15,16,73] (fun _ _ _ s73 wx=>∃(i:Nat) (tag:Nat->Nat) (Qc:List It) (nc:Nat),i<=(L p).length/\s73=iV i/\Hid ((((Ss w aL wx tag hb tb rb ar sv rv ov cv uv N L rs ms S Qc nc ((vv N S).length+j+1) (gJ (gT N Fo F) p (ds.take (j+1))) (bI C p f') (bI F p fr'))/\Bk wx tag b6 (cc ((p:Int),t,n)) 49/\Lm ED wx tag (3+p) (.slice (some ⟨b1,o1,none⟩) ds.length cw) ds))/\Bk wx tag b12 #[uV u.1.1,uV u.1.2.1,uV u.1.2.2,iV m] 163/\Lm EP wx tag 0 (.slice px (L p).length cx) (L p))/\Hid (pR N Q np (jR (L p) (ds.take j)++jR ((L p).take i) [(u,m)]) Qc nc)) (fun _ _ _ s73 _=>(L p).length-(intOf s73).toNat);case atStart=>exact⟨0,zw,Qc,nc,zL _,rfl,HI0.o.1,HI0.o.2⟩
     case round=>
      clear HI0;obtain⟨i,Du,Qi,ni,hi,rfl,HK,HI⟩:=hrel;by_cases hil:i<(L p).length
      ·have hiz:(i:Int)<((L p).length:Int):=(by omega);have hi0:(0:Int)<=(i:Int):=(by omega);obtain⟨⟨q,y⟩,hs⟩:∃d,(L p)[i]? =some d:=⟨(L p)[i],by simp⟩;have HSI:=hid hs;obtain⟨b2,o2,c2,hv2,hb2,v0,v1,v2,v3⟩:=abw HK.o.2.2.1 hs;simp only[vS]at hv2;obtain⟨hv2,-,-⟩:=hv2;subst hv2;simp only at v0 v1 v2 v3;clear hs;obtain⟨J4,XB⟩:=aF (wr.alloc (.cells #[iV (q:Nat),uV y.1.1,uV y.1.2.1,uV y.1.2.2] 167));obtain⟨b14,yU⟩:=aF (wr.heap.size);have Db:Hid ((((Ss w aL J4 (tg Du wr 4294967296) hb tb rb ar sv rv ov cv uv N L rs ms S Qi ni ((vv N S).length+j+1) (gJ (gT N Fo F) p (ds.take (j+1))) (bI C p f') (bI F p fr'))/\Bk J4 (tg Du wr 4294967296) b6 (cc ((p:Int),t,n)) 49/\Lm ED J4 (tg Du wr 4294967296) (3+p) (.slice (some ⟨b1,o1,none⟩) ds.length cw) ds))/\Bk J4 (tg Du wr 4294967296) b12 #[uV u.1.1,uV u.1.2.1,uV u.1.2.2,iV m] 163/\Lm EP J4 (tg Du wr 4294967296) 0 (.slice (some ⟨b2,o2,none⟩) (L p).length cx) (L p)/\Bk J4 (tg Du wr 4294967296) b14 #[iV (q:Nat),uV y.1.1,uV y.1.2.1,uV y.1.2.2] 167):=by
        rw[XB,yU];have hg:=((Gr.refl wr).alloc (.cells #[iV (q:Nat),uV y.1.1,uV y.1.2.1,uV y.1.2.2] 167)).below;have hK:=Kp.of_below (S:=fun _=>False) hg;exact⟨⟨HK.o.1.1.grow _ hg,HK.o.1.2.1.keep hK (fun _ _ h=>h.elim) (fun k hk=>au hk),HK.o.1.2.2.keep hK (fun _ _ h=>h.elim) (fun k hk=>au hk)⟩,HK.o.2.1.keep hK (fun _ _ h=>h.elim) (fun k hk=>au hk),HK.o.2.2.keep hK (fun _ _ h=>h.elim) (fun k hk=>au hk),Bk.new _ _⟩
       go_upto_region 14 with fail;rw[<-XB,<-yU];clear XB yU v0 v1 v2 v3 hb2 HK;generalize tg Du wr 4294967296=tag13 at Db;obtain⟨v,hv⟩:=aF (Lf.ui y u);obtain⟨ok,hok⟩:=aF ((bJ y u).isSome);have hon:=Wv y u J4;rw[<-hv,<-hok]at hon;have HON:=hid hon;have HV:Hid (v=Lf.ui y u/\ok=(bJ y u).isSome):=⟨hv,hok⟩;clear hv hok hon;have c12:=(aa Db.o.2.1.1).1;have WH:=ae Db.o.2.1.1;have c14:=(aa Db.o.2.2.2.1).1;have l14:=ae Db.o.2.2.2.1;go_wp2_with fail;refine HON.o.mono ?_;rintro e QP ⟨rfl,yU⟩;clear HON c12 WH c14 l14;have YQ:=hid yU;clear yU;obtain⟨J3,XA⟩:=aF (QP.alloc (.cells #[uV v.1.1,uV v.1.2.1,uV v.1.2.2] 45));obtain⟨b15,Xw⟩:=aF (QP.heap.size);have FW:Hid ((((Ss w aL J3 (tg tag13 J4 4294967296) hb tb rb ar sv rv ov cv uv N L rs ms S Qi ni ((vv N S).length+j+1) (gJ (gT N Fo F) p (ds.take (j+1))) (bI C p f') (bI F p fr'))/\Bk J3 (tg tag13 J4 4294967296) b6 (cc ((p:Int),t,n)) 49/\Lm ED J3 (tg tag13 J4 4294967296) (3+p) (.slice (some ⟨b1,o1,none⟩) ds.length cw) ds))/\Bk J3 (tg tag13 J4 4294967296) b12 #[uV u.1.1,uV u.1.2.1,uV u.1.2.2,iV m] 163/\Lm EP J3 (tg tag13 J4 4294967296) 0 (.slice (some ⟨b2,o2,none⟩) (L p).length cx) (L p)/\Bk J3 (tg tag13 J4 4294967296) b14 #[iV (q:Nat),uV y.1.1,uV y.1.2.1,uV y.1.2.2] 167/\J3.heap[b15]? =some (.cells #[uV v.1.1,uV v.1.2.1,uV v.1.2.2] 45 (0,0))):=by
        rw[XA,Xw];have hg:=YQ.o.trans (((Gr.refl QP).alloc (.cells #[uV v.1.1,uV v.1.2.1,uV v.1.2.2] 45)).below.mono YQ.o.size);have hK:=Kp.of_below (S:=fun _=>False) hg;exact⟨⟨Db.o.1.1.grow _ hg,Db.o.1.2.1.keep hK (fun _ _ h=>h.elim) (fun k hk=>au hk),Db.o.1.2.2.keep hK (fun _ _ h=>h.elim) (fun k hk=>au hk)⟩,Db.o.2.1.keep hK (fun _ _ h=>h.elim) (fun k hk=>au hk),Db.o.2.2.1.keep hK (fun _ _ h=>h.elim) (fun k hk=>au hk),Db.o.2.2.2.keep hK (fun _ _ h=>h.elim) (fun k hk=>au hk),ah _ _⟩
       go_upto_region 15 with fail;rw[<-XA,<-Xw];clear XA Xw Db YQ;generalize tg tag13 J4 4294967296=tag15 at FW;cases ok with
       | false=>
        have uJ:Hid (pR N Q np (jR (L p) (ds.take j)++jR ((L p).take (i+1)) [(u,m)]) Qi ni):=by
         rw[DL HSI.o];have e1:bJ y u=none:=by
          cases k:bJ y u with
          | none => rfl
          | some z => have:=HV.o.2;rw[k]at this;cases this
         simp only[e1,FZ];exact HI.o
        go_wp2_with fail;go_roundw;case rel=>exact⟨i+1,tag15,Qi,ni,by omega,by first|rfl|go_num,⟨FW.o.1,FW.o.2.1,FW.o.2.2.1⟩,uJ.o⟩
        case measure=>simp[intOf];omega
       | true=>
        have HSO:Hid (bJ y u=some v):=by
         cases k:bJ y u with
         | none => have:=HV.o.2;rw[k]at this;cases this
         | some z=>
          have h1:=HV.o.1;unfold Lf.ui at h1;rw[k]at h1;rw[h1];rfl
        have c12:=(aa FW.o.2.1.1).1;have WH:=ae FW.o.2.1.1;have c14:=(aa FW.o.2.2.2.1.1).1;have l14:=ae FW.o.2.2.2.1.1;have c15:=(aa FW.o.2.2.2.2).1;have l15:=ae FW.o.2.2.2.2;have yB:=hid (rT (q:Nat) v.1.1 v.1.2.1 v.1.2.2 m J3);go_wp2_with fail;refine yB.o.mono ?_;rintro e w16 ⟨rfl,Ic⟩;clear yB c12 WH c14 l14 c15 l15;have yL:Hid ((((Ss w aL w16 (tg tag15 J3 4294967296) hb tb rb ar sv rv ov cv uv N L rs ms S Qi ni ((vv N S).length+j+1) (gJ (gT N Fo F) p (ds.take (j+1))) (bI C p f') (bI F p fr'))/\Bk w16 (tg tag15 J3 4294967296) b6 (cc ((p:Int),t,n)) 49/\Lm ED w16 (tg tag15 J3 4294967296) (3+p) (.slice (some ⟨b1,o1,none⟩) ds.length cw) ds))/\Bk w16 (tg tag15 J3 4294967296) b12 #[uV u.1.1,uV u.1.2.1,uV u.1.2.2,iV m] 163/\Lm EP w16 (tg tag15 J3 4294967296) 0 (.slice (some ⟨b2,o2,none⟩) (L p).length cx) (L p)):=by
         have hK:=Kp.of_below (S:=fun _=>False) Ic;exact⟨⟨FW.o.1.1.grow _ Ic,FW.o.1.2.1.keep hK (fun _ _ h=>h.elim) (fun k hk=>au hk),FW.o.1.2.2.keep hK (fun _ _ h=>h.elim) (fun k hk=>au hk)⟩,FW.o.2.1.keep hK (fun _ _ h=>h.elim) (fun k hk=>au hk),FW.o.2.2.1.keep hK (fun _ _ h=>h.elim) (fun k hk=>au hk)⟩
        clear Ic FW;generalize tg tag15 J3 4294967296=tag16 at yL;have Uz:Hid (q<N/\(-1<=m/\m<=1)/\Qi.length<=B/\ni<=B):=by
         have h1:=HI.o.len;have h2:=Wo (l:=L p) (i:=i) VB.o;have h3:=vQ.o;have h4:=HST.o.d1 (u,m) (lM VB.o);exact⟨HP.o.to HAT.o.lt (lM HSI.o) HSO.o,h4,by omega,by omega⟩
        have Qw:=hid (yL.o.1.1.hm.push ((q:Int),v,m) (by have h1:=Uz.o.2.2.1;have h2:=HP.o.hB;omega) (by have h1:=Uz.o.2.2.2;have h2:=HP.o.hB;omega) HF.o yL.o.1.1.rd.rk (fun y hy=>(HI.o.vs y hy).1) ⟨q,rfl,Uz.o.1⟩);go_wp2_with fail;refine Qw.o.mono ?_;rintro e MH ⟨Yv,rfl,Mm,Pb⟩;have H17:Hid ((((Ss w aL MH (tg tag16 w16 1) hb tb rb ar sv rv ov cv uv N L rs ms S Yv (ni+1) ((vv N S).length+j+1) (gJ (gT N Fo F) p (ds.take (j+1))) (bI C p f') (bI F p fr'))/\Bk MH (tg tag16 w16 1) b6 (cc ((p:Int),t,n)) 49/\Lm ED MH (tg tag16 w16 1) (3+p) (.slice (some ⟨b1,o1,none⟩) ds.length cw) ds))/\Bk MH (tg tag16 w16 1) b12 #[uV u.1.1,uV u.1.2.1,uV u.1.2.2,iV m] 163/\Lm EP MH (tg tag16 w16 1) 0 (.slice (some ⟨b2,o2,none⟩) (L p).length cx) (L p)):=
         ⟨⟨yL.o.1.1.heap Mm.o.1 Mm.o.2,yL.o.1.2.1.keep Mm.o.2 (fun k _ e=>by omega) (fun k hk=>au hk),yL.o.1.2.2.keep Mm.o.2 (fun k _ e=>by omega) (fun k hk=>au hk)⟩,yL.o.2.1.keep Mm.o.2 (fun k _ e=>by omega) (fun k hk=>au hk),yL.o.2.2.keep Mm.o.2 (fun k _ e=>by omega) (fun k hk=>au hk)⟩
        have uJ:Hid (pR N Q np (jR (L p) (ds.take j)++jR ((L p).take (i+1)) [(u,m)]) Yv (ni+1)):=by
         rw[DL HSI.o];simp only[HSO.o];rw[<-aA];exact HI.o.push Uz.o.1 Uz.o.2.1 Pb.o
        clear Qw Mm Pb yL;generalize tg tag16 w16 1=MX at H17;go_wp2_with fail;go_roundw;case rel=>exact⟨i+1,MX,Yv,ni+1,by omega,by first|rfl|go_num,H17.o,uJ.o⟩
        case measure=>simp[intOf];omega
      ·have hiz:¬(i:Int)<((L p).length:Int):=(by omega);have uJ:Hid (pR N Q np (jR (L p) (ds.take (j+1))) Qi ni):=by
        rw[DN VB.o];have h1:=HI.o;rw[show(L p).take i=L p from tL (by omega)]at h1;exact h1
       go_wp2_with fail;go_roundw;case rel=>exact⟨j+1,Du,Qi,ni,by omega,by first|rfl|go_num,HK.o.1,uJ.o⟩
       case measure=>simp[intOf];omega
    ·have hjz:¬(j:Int)<(ds.length:Int):=(by omega);obtain rfl:j=ds.length:=(by omega);have uG:Hid (LW N L (nk N (mi rs)) O Co Cn S B (nk N (mi rs) (p,t)+1) (bI C p f') (bI F p fr') (wq Qc)/\nc+pot N L (nk N (mi rs)) S Co Cn (nk N (mi rs) (p,t)+1)<=B/\(∀y∈Qc,Vq N y)/\Qc.length<=B/\gJ (gT N Fo F) p ds=gT N Fo (bI F p fr')):=by
      have h1:=HI.o;rw[tK]at h1;have h2:=h1.len;have h3:=HST.o.nb;have h4:=vQ.o;exact⟨Fu HST.o.yE h1.perm,by omega,h1.vs,by omega,XM HAT.o.lt HP.o.hN HST.o.dif HST.o.n1 HST.o.n2⟩
     obtain⟨W20,TD⟩:=aF (wr.alloc (.cells (cc ((p:Int),t,n)) 49));obtain⟨b20,Ce⟩:=aF (wr.heap.size);have YS:Hid ((Ss w aL W20 (tg qO wr 4294967296) hb tb rb ar sv rv ov cv uv N L rs ms S Qc nc (vv N S).length (gT N Fo (bI F p fr')) (bI C p f') (bI F p fr'))/\Bk W20 (tg qO wr 4294967296) b20 (cc ((p:Int),t,n)) 49/\w.heap.size<=b20):=by
      rw[TD,Ce];have hg:=((Gr.refl wr).alloc (.cells (cc ((p:Int),t,n)) 49)).below;have h1:=HJ.o.1.grow 4294967296 hg;rw[tK,uG.o.2.2.2.2]at h1;refine⟨⟨h1.rd,h1.hm,h1.tg.tight ?_,h1.mm,h1.kp,h1.old⟩,Bk.new _ _,HJ.o.1.kp.size⟩;exact JO HP.o.hN (fun q t hq ht=>HP.o.Y4 uG.o.1 hq ht) (fun q t hq ht=>HP.o.Y4 HP.o.yE hq ht)
     obtain⟨y0,y1,y2,y3,y4,yz⟩:=vN HJ.o.2.1.1;simp only at y0 y1 y2 y3 y4;go_upto_region 4 with fail;simp only[cc]at TD;rw[<-TD,<-Ce];clear TD Ce y0 y1 y2 y3 y4 yz HJ HI;generalize tg qO wr 4294967296=tag20 at YS;have HTA:=hid (YS.o.1.hm.taken (by have h1:=uG.o.2.2.2.1;have h2:=HP.o.hB;omega) HP.o.hr HF.o (fun W hW=>(YS.o.1.rd.keep hW (fun k _ e=>by rw[e];decide) (fun k _=>rfl)).rk) uG.o.2.2.1);go_wp2_with fail;refine HTA.o.mono ?_;rintro e YX ⟨c',b',Q',rfl,TA,aag⟩;have UH:Hid ((Ss w aL YX (tg tag20 W20 1) hb tb rb ar sv rv ov cv uv N L rs ms S Q' nc (vv N S).length (gT N Fo (bI F p fr')) (bI C p f') (bI F p fr'))/\Bk YX (tg tag20 W20 1) b20 (cc ((p:Int),t,n)) 49/\w.heap.size<=b20):=⟨YS.o.1.heap TA.o.1 TA.o.2,YS.o.2.1.keep TA.o.2 (fun k _ e=>by omega) (fun k hk=>au hk),YS.o.2.2⟩;have acd:Hid (∃x Qa,Hd N L rs O Co Cn S B M0 (bI C p f') (bI F p fr') c' b' Q' nc gk x Qa):=⟨_,Qc,uG.o.1,aag.o,uG.o.2.2.1,uG.o.2.1,by
      have h1:=Q9.o.gm;have h2:=HAT.o.lo;omega⟩
     clear HTA TA aag YS;generalize tg tag20 W20 1=MW at UH;obtain⟨q21,k21⟩:=qU UH.o.2.1.1 c';have H22:Hid ((Ss w aL (uP YX b20 c') MW hb tb rb ar sv rv ov cv uv N L rs ms S Q' nc (vv N S).length (gT N Fo (bI F p fr')) (bI C p f') (bI F p fr'))/\Bk (uP YX b20 c') MW b20 (cc c') 49/\w.heap.size<=b20):=⟨UH.o.1.set UH.o.2.2 UH.o.2.1.2 k21 (by have h1:=HP.o.hN;have h2:=HP.o.hms;omega),⟨q21,UH.o.2.1.2⟩,UH.o.2.2⟩;clear q21 k21;obtain⟨y0,y1,y2,y3,y4,yz⟩:=vN UH.o.2.1.1;have fz:=(aa UH.o.2.1.1).2;simp only[Hc.ans,Hc.tv];simp only[uP]at H22;go_wp2_with fail;go_roundg gk;case measure=>omega
     case rel=>exact⟨MW,Q',nc,_,_,c',b',b20,rfl,rfl,H22.o,acd.o⟩
end Go.Proofs.YtiiefcalkjeieaaGreat.Rc
