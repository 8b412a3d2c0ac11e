import Derived.Test.YtiiefcalkjeieaaGreatRcSpr
variable{rb n N i mb:Nat}{ar:Int}{sv rv ov cv uv:Go.Value}{os:List Nat}{w:Go.World}{tag:Nat->Nat}
set_option maxHeartbeats 4000000
set_option maxRecDepth 100000
namespace Go.Proofs.YtiiefcalkjeieaaGreat
namespace Rc
open Go.RowKit Go.Sort Go.Maps Pt Hc
attribute[local go_sem ↓]wp_at_zero wp_at_succ
theorem aD{base:Nat}{e:TypeId}{s:Nat}{v:Value}{xs:List Value}(h:w.ownsRow base e s v n xs):∃p c,v= .slice p n c:=by
 obtain⟨_,⟨h0,h1⟩|⟨g,cap,cur,h0,_⟩⟩:=h
 ·exact⟨none,0,by rw[h0,h1]⟩
 ·exact⟨_,_,h0⟩
theorem Ql{f:Rs.Sm->Int}{K:List Rs.Sm}{s:Rs.Sm}(h:K[i]? =some s):(K.take (i+1)).map (fun s=>((s.1.1,j3 s,f s):Th))=(K.take i).map (fun s=>(s.1.1,j3 s,f s))++[(s.1.1,j3 s,f s)]:=by
 rw[tO,h,De];rfl
theorem Z6:aa4:=by
 intro w tb bb n f h hn;have hmx:Tryz.prog.follows .mixedOrders=true:=by kernel_rfl
 obtain⟨k0,hk0,hkn⟩:∃k0,qC f k0/\k0.length<=n:=by
  obtain⟨D,h1,_,h3⟩:=h.ta;obtain⟨ks,hk,hl⟩:=ny h1 h3;exact⟨ks,hk,by rw[hl];exact h1.size_le⟩
 have Mv:Hid (∀ks,qC f ks->ks.length=k0.length):=fun ks hs=>(hs.perm hk0).length_eq;have HL:=hid h;have HKY:=hid (Rs.xH w h (by omega));clear h hk0;go_enter Tryz.func84,Tryz.ntmps84;go_wp2_with fail;refine HKY.o.mono ?_;rintro e w3 ⟨v3,ks,hS,rfl,ho3,hv3,hb3⟩;clear HKY;obtain⟨p3,c3,rfl⟩:=aD ho3;obtain⟨K,hK⟩:=aF (Rs.iT ks);have hKl:K.length=k0.length:=by rw[hK,dF];exact Mv.o ks hS
 rw[<-hK]at ho3⊢;have hk5:K.length<=n:=by omega
 clear hKl;have HK:=hid hK;have HS:=hid hS;have HO:=hid (aK (E:=Rs.ES) ho3);have HB3:=hid hb3;have HW:=hid (ho3.lt);clear hK hS ho3 hv3 hb3;go_wp2_with fail;go_loopw [3,5,9] (fun s3 _ s20 wr=>∃(i:Nat) (p:Option Addr) (c:Nat),i<=K.length/\s20=iV (i:Nat)/\s3= .slice p i c/\Hid (∀g,(Value.slice p i c).ownBlock=some g->w3.heap.size<=g)/\Hid (wr.ownsRow w.heap.size 49 5 (.slice p i c) i (fl EC ((K.take i).map fun s=>(s.1.1,j3 s,f s))))/\Hid (Bw w wr)/\Hid (Ls Rs.ES wr (.slice p3 K.length c3) K)/\w3.heap.size<=wr.heap.size) (fun _ _ s20 _=>K.length-(intOf s20).toNat);case atStart=>exact⟨0,none,0,zL _,rfl,rfl,fun g hg=>by simp[Value.ownBlock]at hg,oN _ _ _ _,HB3.o,HO.o,nR _⟩
 case round=>
  clear HO;obtain⟨i,p,c,hi5,rfl,rfl,HV,HR,HB,HO,hw3⟩:=hrel;by_cases hlt:i<K.length
  ·have hltz:(i:Int)<(K.length:Int):=(by omega);have hi0:(0:Int)<=(i:Int):=(by omega);obtain⟨s,hs⟩:∃s,K[i]? =some s:=⟨K[i],by simp⟩;obtain⟨b1,o1,c1,e1,z1,x0,x1,x2,x3⟩:=Rs.Ls.atS HO.o hs;simp only[vS]at e1;obtain⟨e1,-,-⟩:=e1;subst e1;go_upto_region 5 with fail;obtain⟨B5,hB5⟩:=aF (wr.heap.size);obtain⟨W5,bW⟩:=aF (wr.alloc (.cells #[iV s.1.1,uV s.1.2.1,uV s.1.2.2.1,uV s.1.2.2.2] 47));rw[<-hB5];have G5:Gr wr W5:=(by rw[bW];exact(Gr.refl _).alloc _);have L5:=(HL.o.below HB.o).gr (G5.trans (Gr.refl _).drew);have z5:B5<W5.drew.heap.size:=(by rw[bW,hB5];show _<(Rs.Tt.bx s wr).heap.size;simp);have hS0:(fun W=>aj W B5 0 (iV s.1.1)/\aj W B5 1 (uV s.1.2.1)/\aj W B5 2 (uV s.1.2.2.1)/\aj W B5 3 (uV s.1.2.2.2)) W5.drew:=by
    rw[bW,hB5];exact Rs.Tt.bX s wr
   have hsum:=Rs.Tt.Ck s W5.drew L5;have Me:=hid (hS0);have HRW:=hid (ag HR.o (G5.trans (Gr.refl _).drew).below);have jK:=hid (HB.o.trans ((G5.trans (Gr.refl W5).drew).below.mono HB.o.size));have HOW:=hid (HO.o.below (G5.trans (Gr.refl W5).drew).below);have sj:=hid hs;have hgb:Hid (∀g,(Value.slice p i c).ownBlock=some g->w.heap.size<=g/\g<B5):=fun g hg=>(by rw[hB5];exact HR.o.lt g hg);have aae:w3.heap.size<=W5.drew.heap.size:=nT hw3 (G5.trans (Gr.refl W5).drew).size;have KEEP:Hid (∀W:World,Below W5.drew.heap.size W5.drew W->(fun W=>aj W B5 0 (iV s.1.1)/\aj W B5 1 (uV s.1.2.1)/\aj W B5 2 (uV s.1.2.2.1)/\aj W B5 3 (uV s.1.2.2.2)) W):=fun W hb=>⟨(hb.cell (p:=⟨B5,0,none⟩) z5).trans Me.o.1,(hb.cell (p:=⟨B5,1,none⟩) z5).trans Me.o.2.1,(hb.cell (p:=⟨B5,2,none⟩) z5).trans Me.o.2.2.1,(hb.cell (p:=⟨B5,3,none⟩) z5).trans Me.o.2.2.2⟩;rw[show(wr.alloc (.cells #[iV s.1.1,uV s.1.2.1,uV s.1.2.2.1,uV s.1.2.2.2] 47))=W5 from bW.symm];clear hs x0 x1 x2 x3 z1 L5 G5 HR HB HO bW hB5;refine ay (S:=fun W=>aj W B5 0 (iV s.1.1)/\aj W B5 1 (uV s.1.2.1)/\aj W B5 2 (uV s.1.2.2.1)/\aj W B5 3 (uV s.1.2.2.2)) (D:=[]) hmx ?_;refine' ak 0 hS0 ?_;refine' ak 1 hS0 ?_;refine' ak 2 hS0 ?_;refine' ak 3 hS0 ?_;refine fV 4 fun K hK=> ?_;go_simp;refine hsum.mono ?_;rintro e w6 ⟨rfl,g6⟩;have pM:=KEEP.o w6 g6.below;have Vu:=hid (ag HRW.o g6.below);have G6:=hid g6;clear g6;go_wp2_with fail;refine hK.o _ _ (fun hD=>pM) ?_;clear hK K;try simp only[Act.put,qI,q0,qS]
   refine' ak 5 pM ?_;refine fV 6 fun K hK=> ?_;go_simp;have bu:(fun W=>aj W B5 0 (iV s.1.1)/\aj W B5 1 (uV s.1.2.1)/\aj W B5 2 (uV s.1.2.2.1)/\aj W B5 3 (uV s.1.2.2.2)) (w6.alloc (.cells #[iV s.1.1,uV s.1.2.1,uV s.1.2.2.1,uV s.1.2.2.2,iV (f s)] 49)):=KEEP.o _ (G6.o.alloc _).below;refine hK.o _ _ (fun hD=>bu) ?_;clear hK K;try simp only[Act.put,qI,q0,qS]
   refine fV 7 fun K hK=> ?_;refine bT EC Tryz.underlying26 Rs.pX rfl (by decide) rfl _ _ rfl w.heap.size (.slice p i c) i _ rfl Vu.o (s.1.1,j3 s,f s) (by first|rfl|simp) (by omega) (by unfold maxLen;omega) (nT jK.o.size G6.o.size) _ rfl _ ?_;intro g8 bF w8 HO8 HG8 HB8;have K8:=hid (Kp.grownBy (S:=fun k=>(Value.slice p i c).ownBlock=some k) HG8.o (fun _ h=>h));have iZ:(fun W=>aj W B5 0 (iV s.1.1)/\aj W B5 1 (uV s.1.2.1)/\aj W B5 2 (uV s.1.2.2.1)/\aj W B5 3 (uV s.1.2.2.2)) w8:=by
    have zz:∀k,k<W5.drew.heap.size->k<w6.heap.size:=fun k h=>nL h G6.o.size;have c2:∀o,w8.cell? ⟨B5,o,none⟩=w6.cell? ⟨B5,o,none⟩:=fun o=>K8.o.cell (zz _ z5) (fun e=>by have:=hgb.o _ e;omega);exact⟨(c2 0).trans pM.1,(c2 1).trans pM.2.1,(c2 2).trans pM.2.2.1,(c2 3).trans pM.2.2.2⟩
   refine hK.o _ _ (fun hD=>iZ) ?_;clear hK K;try simp only[Act.put,qI,q0,qS]
   refine' ak 8 iZ ?_;refine av (by kernel_rfl) ?_ _;have z68:=K8.o.size;have HE1:Hid (w8.ownsRow w.heap.size 49 5 (sO g8 (i+1) bF) (i+1) (fl EC ((K.take (i+1)).map fun s=>(s.1.1,j3 s,f s)))):=by
    rw[Ql sj.o,aT,dM];exact HO8.o
   have HE2:Hid (∀g,(sO g8 (i+1) bF).ownBlock=some g->w3.heap.size<=g):=fun g hg=>by
    have e:g=g8:=(by simpa[Value.ownBlock]using hg.symm);subst e;rcases HB8.o with h|h
    ·exact HV.o g h
    ·exact nT aae (nT G6.o.size h)
   have HE3:Hid (Bw w w8):=(jK.o.trans (G6.o.below.mono jK.o.size)).trans (K8.o.below (nT jK.o.size G6.o.size) (fun k hk=>(hgb.o k hk).1));have HE4:Hid (Ls Rs.ES w8 (.slice (some ⟨b1,o1,none⟩) K.length c3) K):=K8.o.ls (HOW.o.below G6.o.below) (fun k hk e=>by have h1:=(HW.o k hk).2;have h2:=HV.o k e;omega);have HE5:Hid (w3.heap.size<=w8.heap.size):=nT aae (nT G6.o.size z68);clear HO8 HG8 HB8 K8 hS0 pM bu iZ Vu HRW jK HOW KEEP Me;go_wp2_with fail;go_roundw;case rel=>exact⟨i+1,_,_,by omega,by go_num,rfl,HE2.o,HE1.o,HE3.o,HE4.o,HE5.o⟩
   case measure=>simp[intOf];omega
  ·have hltz:¬(i:Int)<(K.length:Int):=(by omega);have hie:i=K.length:=(by omega);subst hie;have HR':Hid (wr.ownsRow w.heap.size 49 5 (.slice p K.length c) (Qm f ks).length (fl EC (Qm f ks))):=by
    have h:=HR.o;rw[tK]at h;have e1:(Qm f ks).length=K.length:=(by unfold Qm;rw[gQ,<-HK.o]);rw[e1];unfold Qm;rw[<-HK.o];exact h
   go_wp2;go_ret;exact⟨.slice p K.length c,ks,HS.o,rfl,HR'.o,HB.o⟩
theorem gI(n:Int)(w:World):CL 135 #[iV n] w fun e w'=>e= .returned (.bool (Rs.Tt.dW n))/\w'=w:=by
 unfold Rs.Tt.dW;go_enter Tryz.func135,Tryz.ntmps135;go_wp2;all_goals go_ret
 all_goals refine⟨?_,rfl⟩
 all_goals simp_all
theorem fB(w:World)(h:w.heap[rb]? =some (.cells #[iV ar,sv,rv,ov,cv,uv] 102 (0,0)))(ho:Ls EA w ov os):CL 42 #[aB rb] w fun e w'=>e= .returned (iV os.length)/\w'=w:=by
 obtain⟨po,co,rfl⟩:=ho.form;have c3:aj w rb 3 (.slice po os.length co):=((aa h).1 3).trans rfl;have l3:=ae h;clear h ho;go_enter Tryz.func42,Tryz.ntmps42;go_wp2;go_ret;exact⟨rfl,rfl⟩
theorem vJ(p:Int)(w:World)(h:w.heap[rb]? =some (.cells #[iV ar,sv,rv,ov,cv,uv] 102 (0,0)))(ho:Ls EA w ov os):CL 40 #[aB rb,iV p] w fun e w'=>e= .returned (.bool (decide (0<=p)&&decide (p<os.length)))/\w'=w:=by
 have H:=hid (fun W (e:W=w)=>(by rw[e];exact fB w h ho:CL 42 #[aB rb] W fun e w'=>e= .returned (iV os.length)/\w'=W));clear h ho;by_cases hp:0<=p
 ·go_enter Tryz.func40,Tryz.ntmps40;go_wp2_with fail;refine(H.o _ rfl).mono ?_;rintro e w1 ⟨rfl,rfl⟩;go_wp2;go_ret;exact⟨by simp[hp],rfl⟩
 ·go_enter Tryz.func40,Tryz.ntmps40;go_wp2_with fail;go_ret;exact⟨by simp;omega,rfl⟩
def KY(ms:List Nat)(F:Nat->List ai)(p:Int):List ai:=if 0<=p/\p<ms.length then F p.toNat else[]
theorem tH{L:Nat->List (Nat×ai)}{rs ms:List Nat}{C:Nat->ai->Int}{F:Nat->List ai}{nc:Nat->Nat}(p:Int)(w:World)(hR:Rd w tag rb ar sv rv ov cv uv N L rs ms)(ho:Ls EA w ov os)(hl:os.length=ms.length)(hM:∀q mb,ms[q]? =some mb->Ml w tag (3+q) mb (nc q) (C q) (F q))(hF:∀q,q<ms.length->(F q).length*24<=140737488355328):
    CL 12 #[aB rb,iV p] w fun e w'=>∃v,e= .returned v/\w'.ownsRow w.heap.size 45 3 v (KY ms F p).length (eQ (KY ms F p))/\Bw w w':=by
 have H:=hid (vJ p w hR.blk ho);rw[hl]at H;have HR:=hid hR;have HM:=hid hM;have HF:=hid hF;clear hR hM hF ho hl;by_cases hp:0<=p/\p<ms.length
 ·have e1:KY ms F p=F p.toNat:=if_pos hp;rw[e1];have e2:(decide (0<=p)&&decide (p<(ms.length:Int)))=true:=by simp[hp.1,hp.2]
  rw[e2]at H;clear e1 e2;obtain⟨q,rfl⟩:∃q:Nat,p=q:=⟨p.toNat,by omega⟩;rw[tN];have hq:q<ms.length:=by omega
  obtain⟨mb,hmb⟩:∃mb,ms[q]? =some mb:=⟨ms[q],by rw[p8]⟩;obtain⟨bi,oi,ci,hcv,-,-⟩:=HR.o.come hmb;obtain⟨c0,c1,c2,c3⟩:=HR.o.come' hmb hcv;obtain⟨tb,b,cb,v,hmu,-⟩:=HM.o q mb hmb;have Kb:=hid (Go.Proofs.YtiiefcalkjeieaaGreat.tH w hmu (HF.o q hq));have hqz:(0:Int)<=(q:Int):=by omega
  have hqN:(q:Int)<(ms.length:Int):=by omega
  clear hmu hp hcv HM HF HR;go_enter Tryz.func12,Tryz.ntmps12;go_wp2_with fail;refine H.o.mono ?_;rintro e w1 ⟨rfl,hw1⟩;subst hw1;go_wp2_with fail;refine Kb.o.mono ?_;rintro e w2 ⟨v2,rfl,h1,h2⟩;go_wp2;go_ret;exact⟨v2,rfl,h1,h2⟩
 ·have e1:KY ms F p=[]:=if_neg hp;rw[e1];have e2:(decide (0<=p)&&decide (p<(ms.length:Int)))=false:=by
   by_cases k:0<=p
   ·have k2:¬p<(ms.length:Int):=fun h=>hp ⟨k,h⟩;simp[k2]
   ·simp[k]
  rw[e2]at H;clear e1 e2 hp HM HF HR;go_enter Tryz.func12,Tryz.ntmps12;go_wp2_with fail;refine H.o.mono ?_;rintro e w1 ⟨rfl,hw1⟩;subst hw1;go_wp2;go_ret;exact⟨_,rfl,oN _ _ _ _,Below.refl _ _⟩
end Rc
namespace Rc
open Go.RowKit Go.Sort Go.Maps Pt Hc
def prt(l:List Th)(p:Nat):List (ai×Int):=(l.filter fun x=>decide (x.1=(p:Int))).map fun x=>(x.2.1,x.2.2)
theorem Jo(l m:List Th)(p:Nat):prt (l++m) p=prt l p++prt m p:=by simp[prt]
theorem Sl(x:Th)(p:Nat):prt [x] p=if x.1=(p:Int)then[(x.2.1,x.2.2)]else[]:=by
 unfold prt;by_cases h:x.1=(p:Int)
 ·simp[h]
 ·simp[h]
theorem DR(l:List Th)(x:Th)(p k:Nat)(h:x.1=(p:Int)):prt (l++[x]) k=if k=p then prt l p++[(x.2.1,x.2.2)]else prt l k:=by
 rw[Jo,Sl];by_cases e:k=p
 ·subst e;rw[if_pos h,if_pos rfl]
 ·rw[if_neg e,if_neg (by rw[h];omega),FZ]
theorem qX(l:List Th)(p:Nat):(prt l p).length<=l.length:=by
 unfold prt;rw[gQ];exact List.length_filter_le _ _
theorem vE{l:List Th}{p:Nat}{d:ai×Int}:d∈prt l p↔((p:Int),d.1,d.2)∈l:=by
 unfold prt;rw[mM];constructor
 ·rintro⟨x,hx,rfl⟩;rw[mF]at hx;have e:x.1=(p:Int):=by simpa using hx.2
  have:x=((p:Int),x.2.1,x.2.2):=Prod.ext e rfl;rw[<-this];exact hx.1
 ·exact fun h=>⟨_,mF.2 ⟨h,by simp⟩,rfl⟩
theorem Tf(f:ai->Int)(P:List ai)(h:∀t,0<f t->t∈P):∃fr,fU f fr:=by
 have hP:∀t,t∈P.filter (fun t=>decide (0<f t))↔0<f t:=fun t=>by
  rw[mF,dE];exact⟨fun k=>k.2,fun k=>⟨h t k,k⟩⟩
 refine⟨bC aC dL [] (P.filter fun t=>decide (0<f t)),oQ pG xQ _,fun x hx=> ?_,fun y hy=> ?_⟩
 ·exact(hP x).1 ((KM pG).1 hx).1
 ·exact nX pG [] ((hP y).2 hy)
theorem M8{ds:List Dl}{t:Tm}(h:∀d∈ds,d.1≠t):Go.Proofs.YtiiefcalkjeieaaGreat.sm ds t=0:=by
 unfold Go.Proofs.YtiiefcalkjeieaaGreat.sm;have key:∀(ds:List Dl) (g:Tm->Int),(∀d∈ds,d.1≠t)->ds.foldl (fun g d=>upd g d.1 (wrap64 (g d.1+d.2))) g t=g t:=fun ds=>by
  induction ds with
  | nil => exact fun _ _=>rfl
  | cons d ds ih=>
   intro g hd;rw[List.foldl_cons,ih _ fun e he=>hd e (mO _ he),cK _ _ (fun e=>hd d mX e.symm)]
 exact key ds _ h
theorem zP{f:Tm->Int}{ds:List Dl}{K:List Tm}(hK:∀t,f t≠0->t∈K)(t:Tm)(h:bS f ds t≠0):t∈K++ds.map Prod.fst:=by
 by_cases k:t∈ds.map Prod.fst
 ·exact List.mem_append_right _ k
 ·refine List.mem_append_left _ (hK t fun e=>h ?_);unfold bS;rw[M8 fun d hd e2=>k (mM.2 ⟨d,hd,e2⟩),e];unfold wrap64;omega
theorem zQ{f:Tm->Int}(hf:∀t,-2147483647<=f t/\f t<=2147483647):bS f []=f:=by
 funext t
 have:=hf t;unfold bS Go.Proofs.YtiiefcalkjeieaaGreat.sm wrap64;simp only[List.foldl_nil];omega
theorem Yn{f:Tm->Int}{ds:List Dl}{t:Tm}(hf:∀t,-2147483647<=f t/\f t<=2147483647)(hb:Tt.dW (bS f ds t)=true):bad f ds=true:=by
 by_cases h:t∈ds.map Prod.fst
 ·obtain⟨d,hd,rfl⟩:=mM.1 h;unfold bad;rw[Bool.or_eq_true];exact Or.inr (List.any_eq_true.2 ⟨d,hd,hb⟩)
 ·have e:bS f ds t=f t:=by
    have:=hf t;unfold bS;rw[M8 fun d hd e2=>h (mM.2 ⟨d,hd,e2⟩)];unfold wrap64;omega
  rw[e,Tt.dK.2 (hf t)]at hb;cases hb
theorem SB{f:Tm->Int}{ds:List Dl}(hf:∀t,-2147483647<=f t/\f t<=2147483647)(hb:bad f ds=false)(t:Tm): -2147483647<=bS f ds t/\bS f ds t<=2147483647:=by
 refine Tt.dK.1 (Bool.eq_false_iff.2 fun k=> ?_);rw[Yn hf k]at hb;cases hb
theorem P8(a:List Tm):oW a a=[]:=by
 have e:yG a a=[]:=by
  unfold yG;rw[List.filter_eq_nil_iff];intro t ht;simp[ht]
 have e2:jq (yG a a++yG a a)=[]:=by
  rw[e];exact List.eq_nil_iff_forall_not_mem.2 fun x hx=>by
   have:=(show x∈jq ([]++[])↔x∈([]:List Tm)++[]from jr).1 hx;simp at this
 unfold oW;rw[e2];rfl
theorem Ml.Yp{j:Nat}{f:Tm->Int}{fr:List Tm}(h:Ml w tag j mb n f fr)(ds:List Dl)(u:Value)(hu:Ls ED w u ds)(hb:bad f ds=false)(hn:n+2*ds.length+1<=2199023255552){fr':List Tm}(hf:fU (bS f ds) fr'):
    CL 80 #[aB mb,u] w fun e w'=>∃(vo:Value),e= .returned (.tuple #[vo,iV 0])/\Hid (Ml w' (tg tag w j) j mb (n+2*ds.length) (bS f ds) fr'/\w'.ownsRow w.heap.size 163 4 vo (oW fr fr').length (fl ED (oW fr fr'))/\Kp (fun k=>tag k=j) w w'):=by
 obtain⟨tb,b,cb,v,h1,h2,t1,t2,t3,t4,t5⟩:=h;refine(Au ds u w h1 h2 hu hn).mono ?_;rintro e w' (⟨k,_⟩|⟨_,vo,v',fr2,k1,rfl,k2,k3,k4,k5,_⟩)
 ·rw[hb]at k;cases k
 ·obtain rfl:=k1.same hf;obtain⟨l1,l2,l3,l4,l5⟩:=GY h1;refine⟨vo,rfl,⟨tb,b,cb,v',k3,k1,by rw[au l1,t1],by rw[au l2,t2],by rw[au l3,t3],by rw[au l4,t4],fun k hk=> ?_⟩,k2,k4.mono fun k hk=> ?_⟩
  ·rcases k5 k hk with e|e
   ·rw[au (l5 k e),t5 k e]
   ·exact aU e
  ·rcases hk with rfl|rfl|hk
   ·exact t3
   ·exact t4
   ·exact t5 k hk
def zM(O On:Nat->List ai)(p:Nat):List (ai×Int):=oW (O p) (On p)
theorem vX(D:Nat->List (ai×Int))(i:Nat):oF D (List.range (i+1))=oF D (List.range i)++(D i).map fun d=>(i,d.1,d.2):=by rw[YW,qd,Rt]
theorem VJ{Oo On:Nat->List ai}{D:Nat->List (ai×Int)}(hD:∀p,p<N->Az (Oo p) (On p) (D p))(hi:i<=N){T:Nat}(h1:sN (fun q=>(Oo q).length) (List.range N)<=T)(h2:sN (fun q=>(On q).length) (List.range N)<=T):(oF D (List.range i)).length<=2*T:=by
 have hle:(oF D (List.range i)).length<=(oF D (List.range N)).length:=by
  obtain⟨k,rfl⟩:∃k,N=i+k:=⟨N-i,by omega⟩;rw[List.range_add,qd,dQ];omega
 have:=I7 (List.range N) fun p hp=>hD p (mR.1 hp);rw[mZ]at this;omega
theorem Ir{α:Type}{r:α->α->Prop}(qy:∀a,¬r a a)(asy:∀a b,r a b->¬r b a):∀{l m:List α},l.Pairwise r->m.Pairwise r->(∀a,a∈l↔a∈m)->l=m:=by
 intro l
 induction l with
 | nil=>
  intro m _ _ h;cases m with
  | nil => rfl
  | cons b m => exact absurd ((h b).2 mX) (by simp)
 | cons a l ih=>
  intro m hl hm h;have hl':=qD.1 hl;cases m with
  | nil => exact absurd ((h a).1 mX) (by simp)
  | cons b m=>
   have hm':=qD.1 hm;have hab:a=b:=by
    rcases gq.1 ((h a).1 mX)with e|e
    ·exact e
    ·rcases gq.1 ((h b).2 mX)with e'|e'
     ·exact e'.symm
     ·exact absurd (hm'.1 a e) (asy _ _ (hl'.1 b e'))
   subst hab
   congr 1
   refine ih hl'.2 hm'.2 fun x=>⟨fun hx=> ?_,fun hx=> ?_⟩
   ·rcases gq.1 ((h x).1 (mO _ hx))with e|e
    ·subst e;exact absurd (hl'.1 x hx) (qy x)
    ·exact e
   ·rcases gq.1 ((h x).2 (mO _ hx))with e|e
    ·subst e;exact absurd (hm'.1 x hx) (qy x)
    ·exact e
def MK(N:Nat)(F Fn:Nat->List ai):List Th:=(List.range N).flatMap fun p=>(oW (F p) (Fn p)).map fun d=>((p:Int),d.1,d.2)
theorem Iw{a b:List ai}(ha:a.Nodup)(hb:b.Nodup):(oW a b).Pairwise fun x y=>dL x.1 y.1=true:=by
 unfold oW;exact List.pairwise_map.2 (qh (sP ha hb))
theorem Yf(hN:N<=192){F Fn:Nat->List ai}(h1:∀p,p<N->(F p).Nodup)(h2:∀p,p<N->(Fn p).Nodup){ks:List Rs.Sm}(hs:qC (gT N F Fn) ks):Qm (gT N F Fn) ks=MK N F Fn:=by
 have hd:∀p,p<N->Az (F p) (Fn p) (oW (F p) (Fn p)):=fun p hp=>rP (h1 p hp) (h2 p hp);have hg:∀p t,p<N->gT N F Fn (sk p t)=ind (Fn p) t-ind (F p) t:=fun p t hp=>by
  unfold gT;have ha:=kE (p:=p) (by omega) t;have h3:j3 (sk p t)=t:=((lq (p:=p) (t:=t) (by omega)).1 rfl).2;rw[h3,ha];rw[if_pos (by simp only;omega)];simp only[tN]
 have hm:∀p d,p<N->d∈oW (F p) (Fn p)->gT N F Fn (sk p d.1)=d.2:=fun p d hp Ia=>by
  rw[hg p d.1 hp];unfold ind;rcases((hd p hp).mem d.1 d.2).1 Ia with⟨k1,k2,k3⟩|⟨k1,k2,k3⟩
  ·rw[if_neg k2,if_pos k1,k3];rfl
  ·rw[if_pos k1,if_neg k2,k3];rfl
 have hz:∀p d,p<N->d∈oW (F p) (Fn p)->d.2≠0:=fun p d hp Ia=>by
  rcases(hd p hp).sign Ia with e|e<;>omega
 have hT:Rs.iT ks=(List.range N).flatMap fun p=>(oW (F p) (Fn p)).map fun d=>sk p d.1:=by
  refine Ir (r:=fun a b=>Rs.slt a b=true) (fun a h=> ?_) (fun a b h k=> ?_) (Rs.Gj hs.1) ?_ fun s=> ?_
  ·rw[Rs.oM]at h;omega
  ·rw[Rs.oM]at h k;omega
  ·rw[List.pairwise_flatMap];refine⟨fun p hp=> ?_,(List.pairwise_lt_range (n:=N)).imp_of_mem fun {p q} hp hq hpq x hx y hy=> ?_⟩
   ·have hp:=mR.1 hp;refine List.pairwise_map.2 ((Iw (h1 p hp) (h2 p hp)).imp fun {x y} h=> ?_);rw[Rs.oM,kE (by omega),kE (by omega)];refine Or.inr ⟨rfl, ?_⟩;exact(kX x.1 y.1).1 h
   ·obtain⟨d,_,rfl⟩:=mM.1 hx;obtain⟨e,_,rfl⟩:=mM.1 hy;have hp:=mR.1 hp;have hq:=mR.1 hq;rw[Rs.oM,kE (by omega),kE (by omega)];exact Or.inl (by simp only;omega)
  ·rw[show s∈Rs.iT ks↔s∈ks from jr,hs.2,List.mem_flatMap];constructor
   ·intro h;have h0:=h;unfold gT at h;split at h
    ·rename_i hin;obtain⟨p,hp⟩:∃p:Nat,s.1.1=(p:Int):=⟨s.1.1.toNat,by omega⟩;have hpl:p<N:=(by omega);refine⟨p,mR.2 hpl, ?_⟩;have e:s=sk p (j3 s):=Ni (by omega) hp;rw[hp,tN]at h;unfold ind at h;by_cases k1:j3 s∈F p
     ·by_cases k2:j3 s∈Fn p
      ·rw[if_pos k1,if_pos k2]at h;exact absurd rfl h
      ·exact mM.2 ⟨(j3 s,-1),((hd p hpl).mem _ _).2 (.inl ⟨k1,k2,rfl⟩),e.symm⟩
     ·by_cases k2:j3 s∈Fn p
      ·exact mM.2 ⟨(j3 s,1),((hd p hpl).mem _ _).2 (.inr ⟨k2,k1,rfl⟩),e.symm⟩
      ·rw[if_neg k1,if_neg k2]at h;exact absurd rfl h
    ·exact absurd rfl h
   ·rintro⟨p,hp,hx⟩;obtain⟨d,Ia,rfl⟩:=mM.1 hx;have hp:=mR.1 hp;rw[hm p d hp Ia];exact hz p d hp Ia
 unfold Qm MK;rw[hT,List.map_flatMap];have key:∀l:List Nat,(∀p∈l,p<N)->l.flatMap (fun p=>((oW (F p) (Fn p)).map fun d=>sk p d.1).map fun s=>(s.1.1,j3 s,gT N F Fn s))=l.flatMap fun p=>(oW (F p) (Fn p)).map fun d=>((p:Int),d.1,d.2):=fun l=>by
  induction l with
  | nil => intro _;rfl
  | cons p l ih=>
   intro hl;have hp:=hl p mX;rw[Ri,Ri,ih fun q hq=>hl q (mO _ hq)]
   congr 1
   rw[List.map_map];refine List.map_congr_left fun d Ia=> ?_;show((sk p d.1).1.1,j3 (sk p d.1),gT N F Fn (sk p d.1))=_;rw[hm p d hp Ia,kE (by omega),((lq (p:=p) (t:=d.1) (by omega)).1 rfl).2]
 exact key _ fun p hp=>mR.1 hp
attribute[local go_sem ↓]wp_at_zero wp_at_succ
def CZ(os:List Nat)(C:Nat->ai->Int)(p:Int)(t:ai):Int:=if 0<=p/\p<os.length then C p.toNat t else 0
theorem Sc(h:w.heap[rb]? =some (.cells #[iV ar,sv,rv,ov,cv,uv] 102 (0,0)))(ho:Ls EA w ov os){q:Nat}(hq:os[q]? =some mb){bi oi ci:Nat}(e:ov= .slice (some ⟨bi,oi,none⟩) n ci):aj w rb 3 (.slice (some ⟨bi,oi,none⟩) n ci)/\rb<w.heap.size/\aj w bi (oi+q) (aB mb)/\bi<w.heap.size:=by
 obtain⟨b',o',c',e',z',x'⟩:=sU ho hq;rw[e]at e';simp only[vS,oI,aI,and_true]at e';obtain⟨⟨rfl,rfl⟩,-,-⟩:=e';exact⟨by rw[<-e];exact((aa h).1 3).trans rfl,ae h,x',z'⟩
theorem dV{C:Nat->ai->Int}(p:Int)(t:ai)(w:World)(hR:w.heap[rb]? =some (.cells #[iV ar,sv,rv,ov,cv,uv] 102 (0,0)))(ho:Ls EA w ov os)(hM:∀q mb,os[q]? =some mb->∃tb b cb n v fr,Mu w mb tb b cb n v (C q) fr):
    CL 36 #[aB rb, .agg #[iV p,uV t.1.1,uV t.1.2.1,uV t.1.2.2]] w fun e w'=>e= .returned (iV (CZ os C p t))/\Gr w w':=by
 have hmx:Tryz.prog.follows .mixedOrders=true:=by kernel_rfl
 obtain⟨W1,hW1⟩:=aF (w.alloc (.cells #[iV p,uV t.1.1,uV t.1.2.1,uV t.1.2.2] 47));obtain⟨b3,hb3⟩:=aF (w.heap.size);have G1:Hid (Gr w W1):=by rw[hW1];exact(Gr.refl _).alloc _
 have HX:Hid (W1.heap[b3]? =some (.cells #[iV p,uV t.1.1,uV t.1.2.1,uV t.1.2.2] 47 (0,0))):=by rw[hW1,hb3];exact ah _ _
 have hR1:=(G1.o.below.block rb (ae hR)).trans hR;have ho1:=ho.below G1.o.below;have H:=hid (vJ p W1 hR1 ho1);have HR:=hid hR1;have HO:=hid ho1;have HM:=hid hM;clear hR hM ho hR1 ho1;have cx:=(aa HX.o).1;have lx:=ae HX.o;by_cases hp:0<=p/\p<os.length
 ·have e1:CZ os C p t=C p.toNat t:=if_pos hp;rw[e1];have e2:(decide (0<=p)&&decide (p<(os.length:Int)))=true:=by simp[hp.1,hp.2]
  rw[e2]at H;clear e1 e2;obtain⟨q,rfl⟩:∃q:Nat,p=q:=⟨p.toNat,by omega⟩;rw[tN];obtain⟨mb,hmb⟩:∃mb,os[q]? =some mb:=⟨os[q]'(by omega),by rw[p8]⟩;obtain⟨bi,oi,ci,hov,-,-⟩:=sU HO.o hmb;have Zu:=hid hov;have Aw:=hid hmb;have QG:Hid (∀W,Gr W1 W->CL 44 #[aB mb, .agg #[uV t.1.1,uV t.1.2.1,uV t.1.2.2]] W fun e w'=>e= .returned (iV (C q t))/\Gr W w'):=fun W hW=>by
   obtain⟨tb,b,cb,n,v,fr,hmu⟩:=HM.o q mb Aw.o;exact Go.Proofs.YtiiefcalkjeieaaGreat.dV t W (hmu.kp (Kp.bg (S:=fun _=>False) (G1.o.trans hW)) (fun h=>h) (fun h=>h) (fun h=>h) (fun h=>h) (fun _ _ h=>h))
  have hqz:(0:Int)<=(q:Int):=by omega
  have hqN:(q:Int)<(os.length:Int):=by omega
  clear hov hmb hp;go_enter Tryz.func36,Tryz.ntmps36;go_upto_region 1 with fail;rw[<-hW1,<-hb3];clear hW1 hb3;go_wp2_with fail;refine H.o.mono ?_;rintro e w2 ⟨rfl,hw2⟩;subst hw2;clear H;go_upto_region 3 with fail;clear cx lx;have hS0:(fun W:World=>Gr w2 W) w2.drew:=(Gr.refl w2).drew;have uZ:Hid (∀W:World,Gr w2 W->(aj W rb 3 (.slice (some ⟨bi,oi,none⟩) os.length ci)/\rb<W.heap.size/\aj W bi (oi+q) (aB mb)/\bi<W.heap.size)/\W.heap[b3]? =some (.cells #[iV (q:Int),uV t.1.1,uV t.1.2.1,uV t.1.2.2] 47 (0,0))):=fun W hW=>⟨Sc ((hW.below.block rb (ae HR.o)).trans HR.o) (HO.o.below hW.below) Aw.o Zu.o,(hW.below.block b3 (ae HX.o)).trans HX.o⟩;refine ay (S:=fun W:World=>Gr w2 W) (D:=[]) hmx ?_;refine' ak 0 hS0 ?_;refine' ak 1 hS0 ?_;refine' ak 2 hS0 ?_;refine' bD 3 hS0 ?h ?_;case h=>(intro W hSw;obtain⟨⟨c0,c1,c2,c3⟩,-⟩:=uZ.o W hSw;go_simp;try(with_reducible rfl))
  refine' ak 4 hS0 ?_;refine' bD 5 hS0 ?h ?_;case h=>(intro W hSw;obtain⟨-,c4⟩:=uZ.o W hSw;have y0:=(aa c4).1;have yz:=ae c4;go_simp;try(with_reducible rfl))
  refine' ak 6 hS0 ?_;refine' bD 7 hS0 ?h ?_;case h=>(intro W hSw;obtain⟨⟨c0,c1,c2,c3⟩,-⟩:=uZ.o W hSw;go_simp;try(with_reducible rfl))
  refine' ak 8 hS0 ?_;refine' bD 9 hS0 ?h ?_;case h=>(intro W hSw;obtain⟨-,c4⟩:=uZ.o W hSw;have y0:=(aa c4).1;have yz:=ae c4;go_simp;try(with_reducible rfl))
  refine wpC 10 (QG.o _ hS0) ?_;rintro e w7 ⟨rfl,g7⟩;have bu:(fun W:World=>Gr w2 W) w7:=Gr.trans hS0 g7;refine⟨_,rfl,bu, ?_⟩;refine' ak 11 bu ?_;refine av (by kernel_rfl) ?_ _;go_wp2_with fail;go_ret;exact⟨rfl,G1.o.trans bu⟩
 ·have e1:CZ os C p t=0:=if_neg hp;rw[e1];have e2:(decide (0<=p)&&decide (p<(os.length:Int)))=false:=by
   by_cases k:0<=p
   ·have k2:¬p<(os.length:Int):=fun h=>hp ⟨k,h⟩;simp[k2]
   ·simp[k]
  rw[e2]at H;clear e1 e2 hp HM;go_enter Tryz.func36,Tryz.ntmps36;go_upto_region 1 with fail;rw[<-hW1,<-hb3];clear hW1 hb3;go_wp2_with fail;refine H.o.mono ?_;rintro e w2 ⟨rfl,hw2⟩;subst hw2;go_wp2;go_ret;exact⟨rfl,G1.o⟩
end Rc
end Go.Proofs.YtiiefcalkjeieaaGreat
