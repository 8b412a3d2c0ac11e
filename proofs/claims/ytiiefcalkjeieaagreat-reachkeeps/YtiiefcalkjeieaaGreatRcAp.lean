import Derived.Test.YtiiefcalkjeieaaGreatJ34
set_option maxHeartbeats 16000000
set_option maxRecDepth 100000
namespace Go.Proofs.YtiiefcalkjeieaaGreat.Rc
open Go.RowKit Go.Sort Go.Maps Pt Hc Go.Shelf
attribute[local go_sem ↓]wp_at_zero wp_at_succ
theorem LM(n bl bk cl ck:Nat)(V U:Nat->Value)(C:Nat->List Th)(Q:Nat->List (Int×Int×Int))(w:World)(hn0:0<n)(hn:n<=36)
    (hl:∀k,k<6->aj w bl k (V k)) (hbl:bl<w.heap.size) (hk:∀k,k<n->aj w bk k (U k)) (hbk:bk<w.heap.size)
    (hnl:∀q,CP n V U q->q≠bl/\q≠bk)
    (hF:kv EC 49 w 6 V C) (hG:kv KT 45 w n U Q) (hX:∀i j,i<6->j<n->∀g,(V i).ownBlock=some g->(U j).ownBlock≠some g) (hN:∀k,k<6->(C k).length<=1000000000) (hM:∀k,k<n->(Q k).length<=1000000000) :
    CL 25 #[sO bl 6 cl,sO bk n ck] w fun e w'=>e= .returned (.bool true)/\Kp (CP n V U) w w':=by
 have hmx:Tryz.prog.follows .mixedOrders=true:=by kernel_rfl
 have Y9:=fun i j hi hj W=>Ol i j hi hj W;have vP:Hid (∀W,Kp (CP n V U) w W->(∀k,k<6->aj W bl k (V k))/\bl<W.heap.size):=fun W h=>⟨fun k hk4=>(h.cell hbl (fun e=>(hnl _ e).1 rfl)).trans (hl k hk4),nL hbl h.size⟩;have Ra:Hid (∀W,Kp (CP n V U) w W->(∀k,k<n->aj W bk k (U k))/\bk<W.heap.size):=fun W h=>⟨fun k hk4=>(h.cell hbk (fun e=>(hnl _ e).2 rfl)).trans (hk k hk4),nL hbk h.size⟩;have HF:=hid hF;have HG:=hid hG;have HX:=hid hX;have HN:=hid hN;have HM:=hid hM;clear hl hbl hk hbk hnl hF hG hX hN hM;go_enter Tryz.func25,Tryz.ntmps25;have KW:Hid (∀W,Kp (Ms 6 V) w W->Kp (CP n V U) w W):=fun W h=>h.mono (fun _ h=>Or.inl h);go_upto_block 0 with fail;go_cut [4] (fun s4 w'=>s4= .bool false/\Hid (kv EC 49 w' 6 V (stage mK C 6 0)/\Kp (Ms 6 V) w w'));case first=>
  go_wp2_with fail;go_loopw [25] (fun s wr=>∃k:Nat,k<=6/\s=iV (k:Nat)/\Hid (kv EC 49 wr 6 V (stage mK C k 0)/\Kp (Ms 6 V) w wr)) (fun s _=>6-(intOf s).toNat);case atStart=>exact⟨0,by omega,rfl,by rw[wC];exact HF.o,Kp.refl _ _⟩
  case round=>
   obtain⟨k,hk,rfl,HI⟩:=hrel;by_cases hk4:k<6
   ·have hkz:(k:Int)<(6:Int):=(by omega);have hk0:(0:Int)<=(k:Int):=(by omega);have Aj:=LJ (HN.o k hk4);obtain⟨hc,Pp⟩:=vP.o wr (KW.o wr HI.o.2);have x0:=hc k hk4;obtain⟨pk,Qk,ek⟩:=rJ (HF.o.own k hk4);rw[ek]at x0;have HE:=hid ek;clear hc ek;go_wp2_with fail;go_loopw [32] (fun s wr=>∃i:Nat,i<=(C k).length/\s=iV (i:Nat)/\Hid (kv EC 49 wr 6 V (stage mK C k i)/\Kp (Ms 6 V) w wr)) (fun s _=>(C k).length-(intOf s).toNat);case atStart=>exact⟨0,zL _,rfl,HI⟩
    case round=>
     clear HI x0 Pp;obtain⟨i,hi,rfl,HI⟩:=hrel;by_cases hlt:i<(C k).length
     ·have hltz:(i:Int)<((C k).length:Int):=(by omega);have hi0:(0:Int)<=(i:Int):=(by omega);have hlen:=oH mK C k i k hi;have hown:wr.ownsRow 0 49 5 (.slice pk (C k).length Qk) (C k).length (fl EC (stage mK C k i k)):=by
       have:=HI.o.1.own k hk4;rw[hlen,HE.o]at this;exact this
      obtain⟨g,cap,hV,_,_⟩:=xe hown (by omega);simp only[vS]at hV;obtain⟨rfl,-,rfl⟩:=hV;obtain⟨s',hs'⟩:∃s',(stage mK C k i k)[i]? =some s':=⟨(stage mK C k i k)[i]'(by omega),by simp⟩;have q0:aj wr g (i*5) (iV s'.1):=iJ hown (jE EC _ i 0 s' hs' (by decide));have f0:=dH hown (i*5);have q1:aj wr g (i*5+1) (uV s'.2.1.1.1):=iJ hown (jE EC _ i 1 s' hs' (by decide));have f1:=dH hown (i*5+1);have q2:aj wr g (i*5+2) (uV s'.2.1.1.2.1):=iJ hown (jE EC _ i 2 s' hs' (by decide));have f2:=dH hown (i*5+2);have q3:aj wr g (i*5+3) (uV s'.2.1.1.2.2):=iJ hown (jE EC _ i 3 s' hs' (by decide));have f3:=dH hown (i*5+3);have q4:aj wr g (i*5+4) (iV s'.2.2):=iJ hown (jE EC _ i 4 s' hs' (by decide));have f4:=dH hown (i*5+4);have hmk:=Y9 k i (by omega) (by omega);have hgl:g<wr.heap.size:=(hown.lt g rfl).2;clear hown hs' hlen;have HS:=hid (Lc HI.o.1 hk4 HE.o rfl hlt);have HK:=hid (HI.o.2.tr (HS.o.2.mono (fun q hq=>⟨k,hk4,hq⟩)));go_wp2_with fail;refine(hmk _).mono ?_;rintro e w5 ⟨rfl,Hr⟩;subst Hr;go_wp2_with fail;go_roundw;case rel=>exact⟨i+1,by omega,by go_num,HS.o.1,HK.o⟩
      case measure=>simp[intOf];omega
     ·have hltz:¬(i:Int)<((C k).length:Int):=(by omega);have hie:i=(C k).length:=(by omega);have HI2:Hid (kv EC 49 wr 6 V (stage mK C (k+1) 0)/\Kp (Ms 6 V) w wr):=by
       have:=HI.o;rw[hie,wE]at this;exact this
      go_wp2_with fail;go_roundw;case rel=>exact⟨k+1,by omega,by go_num,HI2⟩
      case measure=>simp[intOf];omega
   ·have hkz:¬(k:Int)<(6:Int):=(by omega);have hk':k=6:=(by omega);subst hk';go_wp2_with fail;go_meet;exact⟨rfl,HI⟩
 case rest=>
  obtain⟨rfl,H1⟩:=hcut;obtain⟨W1,hW1⟩:=aF wc;rw[<-hW1]at H1⊢;clear hW1 KW;have K1:=hid (show Kp (CP n V U) w W1 from H1.o.2.mono (fun _ h=>Or.inl h));have yJ:=hid (HG.o.kp H1.o.2 (fun i hi g hg=>fun⟨i',hi',e⟩=>HX.o i' i hi' hi g e hg));have KW:Hid (∀W,Kp (Ms n U) W1 W->Kp (CP n V U) w W):=fun W h=>K1.o.tr (h.mono (fun _ h=>Or.inr h));go_upto_block 4 with fail;go_cut [4] (fun s4 w'=>s4= .bool false/\Hid (kv KT 45 w' n U (stage mJ Q n 0)/\Kp (Ms n U) W1 w'));case first=>
   go_wp2_with fail;go_loopw [46] (fun s wr=>∃k:Nat,k<=n/\s=iV (k:Nat)/\Hid (kv KT 45 wr n U (stage mJ Q k 0)/\Kp (Ms n U) W1 wr)) (fun s _=>n-(intOf s).toNat);case atStart=>exact⟨0,by omega,rfl,by rw[wC];exact yJ.o,Kp.refl _ _⟩
   case round=>
    obtain⟨k,hk,rfl,HI⟩:=hrel;by_cases hk4:k<n
    ·have hkz:(k:Int)<(n:Int):=(by omega);have hk0:(0:Int)<=(k:Int):=(by omega);have Aj:=LJ (HM.o k hk4);obtain⟨hc,Pp⟩:=Ra.o wr (KW.o wr HI.o.2);have x0:=hc k hk4;obtain⟨pk,Qk,ek⟩:=rJ (yJ.o.own k hk4);rw[ek]at x0;have HE:=hid ek;clear hc ek;go_wp2_with fail;go_loopw [53] (fun s wr=>∃i:Nat,i<=(Q k).length/\s=iV (i:Nat)/\Hid (kv KT 45 wr n U (stage mJ Q k i)/\Kp (Ms n U) W1 wr)) (fun s _=>(Q k).length-(intOf s).toNat);case atStart=>exact⟨0,zL _,rfl,HI⟩
     case round=>
      clear HI x0 Pp;obtain⟨i,hi,rfl,HI⟩:=hrel;by_cases hlt:i<(Q k).length
      ·have hltz:(i:Int)<((Q k).length:Int):=(by omega);have hi0:(0:Int)<=(i:Int):=(by omega);have hlen:=oH mJ Q k i k hi;have hown:wr.ownsRow 0 45 3 (.slice pk (Q k).length Qk) (Q k).length (fl KT (stage mJ Q k i k)):=by
        have:=HI.o.1.own k hk4;rw[hlen,HE.o]at this;exact this
       obtain⟨g,cap,hV,_,_⟩:=xe hown (by omega);simp only[vS]at hV;obtain⟨rfl,-,rfl⟩:=hV;obtain⟨s',hs'⟩:∃s',(stage mJ Q k i k)[i]? =some s':=⟨(stage mJ Q k i k)[i]'(by omega),by simp⟩;have q0:aj wr g (i*3) (uV s'.1):=iJ hown (jE KT _ i 0 s' hs' (by decide));have f0:=dH hown (i*3);have q1:aj wr g (i*3+1) (uV s'.2.1):=iJ hown (jE KT _ i 1 s' hs' (by decide));have f1:=dH hown (i*3+1);have q2:aj wr g (i*3+2) (uV s'.2.2):=iJ hown (jE KT _ i 2 s' hs' (by decide));have f2:=dH hown (i*3+2);have hmk:=Y9 k i (by omega) (by omega);have hgl:g<wr.heap.size:=(hown.lt g rfl).2;clear hown hs' hlen;have HS:=hid (Lb HI.o.1 hk4 HE.o rfl hlt);have HK:=hid (HI.o.2.tr (HS.o.2.mono (fun q hq=>⟨k,hk4,hq⟩)));have hzu:=SF (i:=k) (j:=i) (by omega) (by omega);go_wp2_with fail;refine(hmk _).mono ?_;rintro e w5 ⟨rfl,Hr⟩;subst Hr;go_wp2_with fail;go_roundw;case rel=>exact⟨i+1,by omega,by go_num,HS.o.1,HK.o⟩
       case measure=>simp[intOf];omega
      ·have hltz:¬(i:Int)<((Q k).length:Int):=(by omega);have hie:i=(Q k).length:=(by omega);have HI2:Hid (kv KT 45 wr n U (stage mJ Q (k+1) 0)/\Kp (Ms n U) W1 wr):=by
        have:=HI.o;rw[hie,wE]at this;exact this
       go_wp2_with fail;go_roundw;case rel=>exact⟨k+1,by omega,by go_num,HI2⟩
       case measure=>simp[intOf];omega
    ·have hkz:¬(k:Int)<(n:Int):=(by omega);have hk':k=n:=(by omega);subst hk';go_wp2_with fail;go_meet;exact⟨rfl,HI⟩
  case rest=>
   obtain⟨rfl,H2⟩:=hcut;obtain⟨W2,hW2⟩:=aF wc;rw[<-hW2]at H2⊢;clear hW2;have K2:=hid (KW.o W2 H2.o.2);have FC2:=hid (H1.o.1.kp H2.o.2 (fun i hi g hg=>fun⟨i',hi',e⟩=>HX.o i i' hi hi' g hg e));have FS2:=hid H2.o.1;clear KW H1 H2 K1 yJ HF HG;have G0:Hid (UI EC 49 26 mK 1 W2 6 V (fun i=>(C i).length) W2 0 V (.slice none 0 0)):=⟨fun i hi=>by omega,fun i hi=>by omega,fun i _ hi=>by
    have:=FC2.o.own i hi;rw[wF mK C 6 i hi,gz]at this;exact this,fun i hi=>by omega,oN _ _ _ _,fun g hg=>by simp[Value.ownBlock]at hg,Kp.refl _ _⟩
   have FAR:=hid FC2.o.far;have LOW:=hid (fun i hi g hg=>FC2.o.lt (i:=i) hi g hg);go_upto_block 8 with fail;go_cut [11] (fun s w'=>∃X:Nat->Value,Hid (UI EC 49 26 mK 1 W2 6 V (fun i=>(C i).length) w' 6 X s));case first=>
    obtain⟨iS,hiS,hs0,hs1,hs2⟩:=info_parts OP;go_wp2_with fail;go_loopw [11,68] (fun s V5 wr=>∃(k:Nat) (X:Nat->Value),k<=6/\V5=iV (k:Nat)/\Hid (UI EC 49 26 mK 1 W2 6 V (fun i=>(C i).length) wr k X s)) (fun _ V5 _=>6-(intOf V5).toNat);case atStart=>exact⟨0,V,zL _,rfl,G0⟩
    case round=>
     clear G0;obtain⟨k,X,hk,rfl,HG⟩:=hrel;by_cases hk4:k<6
     ·have hkz:(k:Int)<(6:Int):=(by omega);have hk0:(0:Int)<=(k:Int):=(by omega);obtain⟨hc,Pp⟩:=vP.o wr (K2.o.tr (HG.o.kp.mono (fun q hq=>Or.inl hq)));have Aj:=LJ (HN.o k hk4);have JM:=Uo hk4 (by decide);have x0:=hc k hk4;have TH:=HG.o.rest k (nR _) hk4;obtain⟨pk,Qk,ek⟩:=rJ TH;rw[ek]at x0 TH;have iP:Hid (wr.ownsRow 0 49 EC.k (.slice pk (C k).length Qk) (C k).length (fl EC (mI mK k (C k).length))):=TH;have YM:Hid (V k= .slice pk (C k).length Qk):=ek;obtain⟨pu,cu,hu⟩:=rJ HG.o.more;subst hu;have hsw:=HG.o.kp.size;have hmk:=Y9 k (C k).length JM.2.2 Aj.2.2.2.1;clear TH ek hc;go_wp2_with fail;refine(hmk _).mono ?_;rintro e w5 ⟨rfl,Hr⟩;rw[Hr];clear Hr;go_wp2_with (first
       | (at_builtin;refine vU EC Tryz.underlying26 Rs.pX rfl (by decide) rfl _ _ rfl (.slice pk (C k).length Qk) (C k).length (mI mK k (C k).length) rfl iP.o (mK k (C k).length) (by first | rfl | simp) Aj.1 Aj.2.2.1 _ rfl _ ?_;intro g cap LQ ho1 hk1 hl1 hold
          have LZ:Hid (Ls EC LQ (sO g ((C k).length+1) cap) (mI mK k ((C k).length+1))):=aK (E:=EC) (by rw[gz,<-Oe];exact ho1);have HOLD:Hid (Ls EC LQ (V k) (mI mK k (C k).length)):=by
           unfold Hid;rw[YM.o];exact NS iP.o (gz ..) hk1.size hold
          have UC:Hid (Kp (fun q=>(V k).ownBlock=some q) wr LQ):=by
           unfold Hid;rw[YM.o];exact hk1
          have Ka:Hid (∀q,(sO g ((C k).length+1) cap).ownBlock=some q->(V k).ownBlock=some q\/wr.heap.size<=q):=fun q hq=>by
           have:q=g:=(by simpa[Value.ownBlock]using hq.symm);rw[this,YM.o];exact hl1
          have QA:Hid (LQ.ownsRow W2.heap.size 26 1 (.slice pu k cu) k ((List.range k).map X)):=ax UC.o HG.o.more (fun q hq e=>by
           have h1:=(HG.o.more.lt q hq).1;have h2:=LOW.o k hk4 q e;omega)
          have hz1:=UC.o.size;clear ho1 hk1 hl1 hold)
       | (at_builtin; refine wpList_append_lies _ rfl _ _ 35 rfl W2.heap.size 26 iS (.slice none 0 0) 1 24 Tryz.underlying35 hiS hs0 hs1 hs2 rfl (by decide) (.slice pu k cu) k _ rfl (World.ownsRow.alloc QA.o _) ⟨LQ.heap.size, 0, none⟩ 1 1 [.slice (some ⟨g, 0, none⟩) ((C k).length + 1) cap] (by first | rfl | simp) rfl (World.news_of_block (ah _ _)) (fun u hu => by simp at hu;subst hu;rfl) (by decide) JM.1 JM.2.1 (nT (nT hsw hz1) (by simp)) _ rfl ?_;intro g7 c7 W3' ho3 hg3 hl3 _)
       | go_in)
      have sj:=hid (HG.o.step hk4 FAR.o LOW.o LZ.o Ka.o HOLD.o UC.o ho3 ((Kp.of_below ((Gr.refl LQ).alloc _).below).tr (Kp.grownBy (S:=fun q=>(Value.slice pu k cu).ownBlock=some q) hg3 (fun _ h=>h))) (fun q hq=>by
       have:q=g7:=(by simpa[Value.ownBlock]using hq.symm);rw[this];exact hl3.imp id (fun e=>by rw[e];simp)))
      clear ho3 hg3 hl3 LZ HOLD UC Ka QA;go_wp2_with fail;go_roundw;case rel=>exact⟨k+1,_,by omega,by go_num,sj⟩
      case measure=>exact JA 6 k hk4
     ·have hkz:¬(k:Int)<(6:Int):=(by omega);have hk':k=6:=(by omega);subst hk';go_wp2_with fail;go_meet;exact⟨X,HG⟩
   case rest=>
    obtain⟨X,GC⟩:=hcut;obtain⟨W3,hW3⟩:=aF wc;rw[<-hW3]at GC⊢;clear hW3 G0;obtain⟨pm,cm,hpm⟩:=rJ GC.o.more;subst hpm;have K3:=hid (show Kp (CP n V U) w W3 from K2.o.tr (GC.o.kp.mono (fun q hq=>Or.inl hq)));have FS3:=hid (FS2.o.kp GC.o.kp (fun i hi g hg=>fun⟨i',hi',e⟩=>HX.o i' i hi' hi g e hg));have aa5:=hid (fun i hi g hg=>FS2.o.lt (i:=i) hi g hg);clear FAR LOW FS2 FC2;have G0:Hid (UI KT 45 39 mJ 1 W3 n U (fun i=>(Q i).length) W3 0 U (.slice none 0 0)):=⟨fun i hi=>by omega,fun i hi=>by omega,fun i _ hi=>by
     have:=FS3.o.own i hi;rw[wF mJ Q n i hi,gz]at this;exact this,fun i hi=>by omega,oN _ _ _ _,fun g hg=>by simp[Value.ownBlock]at hg,Kp.refl _ _⟩
    have FAR:=hid FS3.o.far;have LOW:=hid (fun i hi g hg=>FS3.o.lt (i:=i) hi g hg);go_upto_block 10 with fail;go_cut [12] (fun s w'=>∃X:Nat->Value,Hid (UI KT 45 39 mJ 1 W3 n U (fun i=>(Q i).length) w' n X s));case first=>
     obtain⟨iS,hiS,hs0,hs1,hs2⟩:=info_parts OO;go_wp2_with fail;go_loopw [12,87] (fun s V5 wr=>∃(k:Nat) (X:Nat->Value),k<=n/\V5=iV (k:Nat)/\Hid (UI KT 45 39 mJ 1 W3 n U (fun i=>(Q i).length) wr k X s)) (fun _ V5 _=>n-(intOf V5).toNat);case atStart=>exact⟨0,U,zL _,rfl,G0⟩
     case round=>
      clear G0;obtain⟨k,X,hk,rfl,HG⟩:=hrel;by_cases hk4:k<n
      ·have hkz:(k:Int)<(n:Int):=(by omega);have hk0:(0:Int)<=(k:Int):=(by omega);obtain⟨hc,Pp⟩:=Ra.o wr (K3.o.tr (HG.o.kp.mono (fun q hq=>Or.inr hq)));have Aj:=LJ (HM.o k hk4);have JM:=Uo hk4 (hn);have x0:=hc k hk4;have TH:=HG.o.rest k (nR _) hk4;obtain⟨pk,Qk,ek⟩:=rJ TH;rw[ek]at x0 TH;have iP:Hid (wr.ownsRow 0 45 KT.k (.slice pk (Q k).length Qk) (Q k).length (fl KT (mI mJ k (Q k).length))):=TH;have YM:Hid (U k= .slice pk (Q k).length Qk):=ek;obtain⟨pu,cu,hu⟩:=rJ HG.o.more;subst hu;have hsw:=HG.o.kp.size;have hmk:=Y9 k (Q k).length JM.2.2 Aj.2.2.2.1;have hzu:=SF (i:=k) (j:=(Q k).length) JM.2.2 Aj.2.2.2.1;clear TH ek hc;go_wp2_with fail;refine(hmk _).mono ?_;rintro e w5 ⟨rfl,Hr⟩;rw[Hr];clear Hr;go_wp2_with (first
        | (at_builtin;refine vU KT Tryz.underlying39 G8 rfl (by decide) rfl _ _ rfl (.slice pk (Q k).length Qk) (Q k).length (mI mJ k (Q k).length) rfl iP.o (mJ k (Q k).length) (by first | rfl | simp) Aj.2.1 Aj.2.2.1 _ rfl _ ?_;intro g cap LQ ho1 hk1 hl1 hold
           have LZ:Hid (Ls KT LQ (sO g ((Q k).length+1) cap) (mI mJ k ((Q k).length+1))):=aK (E:=KT) (by rw[gz,<-Oe];exact ho1);have HOLD:Hid (Ls KT LQ (U k) (mI mJ k (Q k).length)):=by
            unfold Hid;rw[YM.o];exact NS iP.o (gz ..) hk1.size hold
           have UC:Hid (Kp (fun q=>(U k).ownBlock=some q) wr LQ):=by
            unfold Hid;rw[YM.o];exact hk1
           have Ka:Hid (∀q,(sO g ((Q k).length+1) cap).ownBlock=some q->(U k).ownBlock=some q\/wr.heap.size<=q):=fun q hq=>by
            have:q=g:=(by simpa[Value.ownBlock]using hq.symm);rw[this,YM.o];exact hl1
           have QA:Hid (LQ.ownsRow W3.heap.size 39 1 (.slice pu k cu) k ((List.range k).map X)):=ax UC.o HG.o.more (fun q hq e=>by
            have h1:=(HG.o.more.lt q hq).1;have h2:=LOW.o k hk4 q e;omega)
           have hz1:=UC.o.size;clear ho1 hk1 hl1 hold)
        | (at_builtin; refine wpList_append_lies _ rfl _ _ 62 rfl W3.heap.size 39 iS (.slice none 0 0) 1 24 Tryz.underlying62 hiS hs0 hs1 hs2 rfl (by decide) (.slice pu k cu) k _ rfl (World.ownsRow.alloc QA.o _) ⟨LQ.heap.size, 0, none⟩ 1 1 [.slice (some ⟨g, 0, none⟩) ((Q k).length + 1) cap] (by first | rfl | simp) rfl (World.news_of_block (ah _ _)) (fun u hu => by simp at hu;subst hu;rfl) (by decide) JM.1 JM.2.1 (nT (nT hsw hz1) (by simp)) _ rfl ?_;intro g7 c7 W3' ho3 hg3 hl3 _)
        | go_in)
       have sj:=hid (HG.o.step hk4 FAR.o LOW.o LZ.o Ka.o HOLD.o UC.o ho3 ((Kp.of_below ((Gr.refl LQ).alloc _).below).tr (Kp.grownBy (S:=fun q=>(Value.slice pu k cu).ownBlock=some q) hg3 (fun _ h=>h))) (fun q hq=>by
        have:q=g7:=(by simpa[Value.ownBlock]using hq.symm);rw[this];exact hl3.imp id (fun e=>by rw[e];simp)))
       clear ho3 hg3 hl3 LZ HOLD UC Ka QA;go_wp2_with fail;go_roundw;case rel=>exact⟨k+1,_,by omega,by go_num,sj⟩
       case measure=>exact JA n k hk4
      ·have hkz:¬(k:Int)<(n:Int):=(by omega);have hk':k=n:=(by omega);subst hk';go_wp2_with fail;go_meet;exact⟨X,HG⟩
    case rest=>
     obtain⟨Y,GS⟩:=hcut;obtain⟨W4,hW4⟩:=aF wc;rw[<-hW4]at GS⊢;clear hW4 G0;obtain⟨pn,cn,hpn⟩:=rJ GS.o.more;subst hpn;have K4:=hid (show Kp (CP n V U) w W4 from K3.o.tr (GS.o.kp.mono (fun q hq=>Or.inr hq)));have hu2:Hid (∀q,(∃i,i<n/\(U i).ownBlock=some q)->q<W2.heap.size):=fun q ⟨i,hi,e⟩=>aa5.o i hi q e;have abk:Hid (∀i,i<6->Ls EC W4 (X i) (mI mK i ((C i).length+1))/\Ls EC W4 (V i) (mI mK i (C i).length)):=fun i hi=>⟨GS.o.kp.ls (GC.o.big i hi) (fun q hq e=>by
      rcases GC.o.lie i hi q hq with h|h
      ·obtain⟨i',hi',e⟩:=e;exact HX.o i i' hi hi' q h e
      ·have:=hu2.o q e;omega),GS.o.kp.ls (GC.o.old i hi) (fun q hq e=>by
      obtain⟨i',hi',e⟩:=e;exact HX.o i i' hi hi' q hq e)⟩
     have YV:Hid (∀i,i<n->Ls KT W4 (Y i) (mI mJ i ((Q i).length+1))/\Ls KT W4 (U i) (mI mJ i (Q i).length)):=fun i hi=>⟨GS.o.big i hi,GS.o.old i hi⟩;have MR:=hid (ax GS.o.kp GC.o.more (fun q hq e=>by
      have h1:=(GC.o.more.lt q hq).1;have h2:=hu2.o q e;omega))
     have NR:=hid GS.o.more;have CBL:=hid (vP.o W4 K4.o);have CBK:=hid (Ra.o W4 K4.o);clear GC GS vP Ra K2 K3 FS3 aa5 FAR LOW hu2 HX;obtain⟨gm,hgm,zm,cmk⟩:=wT MR.o (by omega);subst hgm;go_upto_block 12 with fail;go_cut [4] (fun _ w'=>Hid (Gr W4 w'));case first=>
      go_wp2_with fail;go_loopw [107] (fun s wr=>∃k:Nat,k<=6/\s=iV (k:Nat)/\Gr W4 wr) (fun s _=>6-(intOf s).toNat);case atStart=>exact⟨0,by omega,rfl,Gr.refl _⟩
      case round=>
       obtain⟨k,hk,rfl,hg3⟩:=hrel;by_cases hk4:k<6
       ·have hkz:(k:Int)<(6:Int):=(by omega);have hk0:(0:Int)<=(k:Int):=(by omega);have Aj:=LJ (HN.o k hk4);have JM:=Uo hk4 (by decide);have m1:=(hg3.cell zm).trans (cmk k hk4);have zm4:=nL zm hg3.size;have hb:=abk.o k hk4;obtain⟨px,cx,ex⟩:=hb.1.form;obtain⟨pv,cv,ev⟩:=hb.2.form;rw[gz]at ex ev;rw[ex]at m1;have HLX:Hid (Ls EC W4 (.slice px ((C k).length+1) cx) (mI mK k ((C k).length+1))):=(by rw[<-ex];exact hb.1);have HLV:Hid (Ls EC W4 (.slice pv (C k).length cv) (mI mK k (C k).length)):=(by rw[<-ev];exact hb.2);have HCk:Hid (aj W4 bl k (.slice pv (C k).length cv)):=(by rw[<-ev];exact CBL.o.1 k hk4);have Yz:=hid CBL.o.2;clear ex ev hb;obtain⟨m,hm⟩:=aF ((C k).length);rw[<-hm]at HLX HLV HCk Aj m1;clear hm;go_wp2_with fail;clear m1 zm4;go_loopw [114] (fun s wr=>∃i:Nat,i<=m+1/\s=iV (i:Nat)/\Gr W4 wr) (fun s _=>m+1-(intOf s).toNat);case atStart=>exact⟨0,zL _,rfl,hg3⟩
        case round=>
         clear hg3;obtain⟨i,hi,rfl,hg4⟩:=hrel;by_cases hlt:i<m+1
         ·have hltz:(i:Int)<((m+1:Nat):Int):=Int.ofNat_lt.2 hlt;have nP:(i:Int)<(m:Int)+1:=(by omega);have hi0:(0:Int)<=(i:Int):=(by omega);obtain⟨b1,o1,c1,e1,z1,x0⟩:=aaW (HLX.o.below hg4.below) (j:=i) (vG mK hlt);simp only[vS]at e1;obtain⟨rfl,-,rfl⟩:=e1;have x0:aj wr b1 (o1+i*5+4) (iV (mz k i)):=x0;have hmk:=Y9 k i JM.2.2 (nL hlt (nE Aj.2.2.2.2));have hzu:=SF (i:=k) (j:=i) JM.2.2 (nL hlt (nE Aj.2.2.2.2));have hS0:Gr wr wr.drew:=(Gr.refl wr).drew;have FT:=hid hg4;have HP:Hid (∀W,Gr wr W->(aj W b1 (o1+i*5+4) (iV (mz k i))/\b1<W.heap.size)/\aj W bl k (.slice pv m cv)/\bl<W.heap.size):=fun W g=>⟨⟨(g.cell z1).trans x0,nL z1 g.size⟩,(g.cell (nL Yz.o FT.o.size)).trans ((FT.o.cell Yz.o).trans HCk.o),nL Yz.o (nT FT.o.size g.size)⟩;clear x0 z1;by_cases hlv:i<m
          ·have Xh:(i:Int)<(m:Int):=(by omega);obtain⟨b2,o2,c2,e2,z2,v0⟩:=aaW (HLV.o.below hg4.below) (j:=i) (vG mK hlv);simp only[vS]at e2;obtain⟨rfl,-,rfl⟩:=e2;have v0:aj wr b2 (o2+i*5+4) (iV (mz k i)):=v0;replace HP:Hid (∀W,Gr wr W->((aj W b1 (o1+i*5+4) (iV (mz k i))/\b1<W.heap.size)/\aj W bl k (.slice (some ⟨b2,o2,none⟩) m cv)/\bl<W.heap.size)/\aj W b2 (o2+i*5+4) (iV (mz k i))/\b2<W.heap.size):=fun W g=>⟨HP.o W g,(g.cell z2).trans v0,nL z2 g.size⟩;clear hg4 v0 z2;generalize mz k i=zz at *;go_upto_region 37 with fail;refine ay (S:=fun W:World=>Gr wr W) (D:=[]) hmx ?_;refine' ak 0 hS0 ?_;refine' ak 1 hS0 ?_;refine' ak 2 hS0 ?_;refine' ak 3 hS0 ?_;refine' ak 4 hS0 ?_;refine' ak 5 hS0 ?_;refine' ak 6 hS0 ?_;refine wpC 7 (hmk _) ?_;rintro e wy7 ⟨rfl,O0⟩;have dB:Gr wr wy7:=(by rw[O0];exact hS0);clear O0;refine⟨_,rfl,dB, ?_⟩;refine' ak 8 dB ?_;refine' ak 9 dB ?_;refine' ak 10 dB ?_;refine' ak 11 dB ?_;refine' ak 12 dB ?_;refine' ak 13 dB ?_;refine' ak 14 dB ?_;refine' ak 15 dB ?_;refine' ak 16 dB ?_;refine' ak 17 dB ?_;refine' ak 18 dB ?_;refine' ak 19 dB ?_;refine' ak 20 dB ?_;refine' ak 21 dB ?_;refine' ak 22 dB ?_;refine' ak 23 dB ?_;refine' ak 24 dB ?_;refine' ak 25 dB ?_;refine' ak 26 dB ?_;refine' ak 27 dB ?_;refine wpC 28 (hmk _) ?_;rintro e VF ⟨rfl,Ef⟩;have mD:Gr wr VF:=(by rw[Ef];exact dB);clear Ef;refine⟨_,rfl,mD, ?_⟩;refine' ak 29 mD ?_;refine' ak 30 mD ?_;refine' ak 31 mD ?_;refine av (by kernel_rfl) ?_ _;go_wp2_with fail;go_roundw;case rel=>exact⟨i+1,by omega,by go_num,FT.o.trans mD⟩
           case measure=>simp[intOf];omega
          ·have Xh:¬(i:Int)<(m:Int):=(by omega);clear hg4;generalize mz k i=zz at *;go_upto_region 37 with fail;refine ay (S:=fun W:World=>Gr wr W) (D:=[]) hmx ?_;refine' ak 0 hS0 ?_;refine' ak 1 hS0 ?_;refine' ak 2 hS0 ?_;refine' ak 3 hS0 ?_;refine' ak 4 hS0 ?_;refine' ak 5 hS0 ?_;refine' ak 6 hS0 ?_;refine wpC 7 (hmk _) ?_;rintro e wy8 ⟨rfl,OZ⟩;have bP:Gr wr wy8:=(by rw[OZ];exact hS0);clear OZ;refine⟨_,rfl,bP, ?_⟩;refine' ak 8 bP ?_;refine' ak 9 bP ?_;refine' ak 10 bP ?_;refine' ak 11 bP ?_;refine' ak 12 bP ?_;refine' ak 13 bP ?_;refine' ak 14 bP ?_;refine' ak 15 bP ?_;refine' ak 16 bP ?_;refine' ak 17 bP ?_;refine' eU 18 bP ?_;refine' eU 19 bP ?_;refine' eU 20 bP ?_;refine' eU 21 bP ?_;refine' eU 22 bP ?_;refine' eU 23 bP ?_;refine' eU 24 bP ?_;refine' eU 25 bP ?_;refine' eU 26 bP ?_;refine' eU 27 bP ?_;refine' eU 28 bP ?_;refine' eU 29 bP ?_;refine' ak 30 bP ?_;refine' ak 31 bP ?_;refine av (by kernel_rfl) ?_ _;go_wp2_with fail;go_roundw;case rel=>exact⟨i+1,by omega,by go_num,FT.o.trans bP⟩
           case measure=>simp[intOf];omega
         ·have hltz:¬(i:Int)<((m+1:Nat):Int):=(by omega);have nP:¬(i:Int)<(m:Int)+1:=(by omega);go_wp2_with fail;go_roundw;case rel=>exact⟨k+1,by omega,by go_num,hg4⟩
          case measure=>simp[intOf];omega
       ·have hkz:¬(k:Int)<(6:Int):=(by omega);go_wp2_with fail;go_meet;exact hg3
     case rest=>
      have GG:=hcut;obtain⟨W5,bW⟩:=aF wc;rw[<-bW]at GG⊢;clear bW zm cmk;have K5:=hid (K4.o.tr (Kp.bg (S:=CP n V U) GG.o));have ace:Hid (∀i,i<n->Ls KT W5 (Y i) (mI mJ i ((Q i).length+1))/\Ls KT W5 (U i) (mI mJ i (Q i).length)):=fun i hi=>⟨(YV.o i hi).1.below GG.o.below,(YV.o i hi).2.below GG.o.below⟩;have NR5:=hid (ag NR.o GG.o.below);have CB5:Hid ((∀k,k<n->aj W5 bk k (U k))/\bk<W5.heap.size):=⟨fun k hk=>(GG.o.cell CBK.o.2).trans (CBK.o.1 k hk),nL CBK.o.2 GG.o.size⟩;clear GG K4 abk YV MR NR CBL CBK;obtain⟨gm,hgm,zm,cmk⟩:=wT NR5.o (by omega);subst hgm;go_upto_block 16 with fail;go_cut [4] (fun _ w'=>Hid (Gr W5 w'));case first=>
       go_wp2_with fail;go_loopw [153] (fun s wr=>∃k:Nat,k<=n/\s=iV (k:Nat)/\Gr W5 wr) (fun s _=>n-(intOf s).toNat);case atStart=>exact⟨0,by omega,rfl,Gr.refl _⟩
       case round=>
        obtain⟨k,hk,rfl,hg3⟩:=hrel;by_cases hk4:k<n
        ·have hkz:(k:Int)<(n:Int):=(by omega);have hk0:(0:Int)<=(k:Int):=(by omega);have Aj:=LJ (HM.o k hk4);have JM:=Uo hk4 (hn);have m1:=(hg3.cell zm).trans (cmk k hk4);have zm4:=nL zm hg3.size;have hb:=ace.o k hk4;obtain⟨px,cx,ex⟩:=hb.1.form;obtain⟨pv,cv,ev⟩:=hb.2.form;rw[gz]at ex ev;rw[ex]at m1;have HLX:Hid (Ls KT W5 (.slice px ((Q k).length+1) cx) (mI mJ k ((Q k).length+1))):=(by rw[<-ex];exact hb.1);have HLV:Hid (Ls KT W5 (.slice pv (Q k).length cv) (mI mJ k (Q k).length)):=(by rw[<-ev];exact hb.2);have HCk:Hid (aj W5 bk k (.slice pv (Q k).length cv)):=(by rw[<-ev];exact CB5.o.1 k hk4);have Yz:=hid CB5.o.2;clear ex ev hb;obtain⟨m,hm⟩:=aF ((Q k).length);rw[<-hm]at HLX HLV HCk Aj m1;clear hm;go_wp2_with fail;clear m1 zm4;go_loopw [160] (fun s wr=>∃i:Nat,i<=m+1/\s=iV (i:Nat)/\Gr W5 wr) (fun s _=>m+1-(intOf s).toNat);case atStart=>exact⟨0,zL _,rfl,hg3⟩
         case round=>
          clear hg3;obtain⟨i,hi,rfl,hg4⟩:=hrel;by_cases hlt:i<m+1
          ·have hltz:(i:Int)<((m+1:Nat):Int):=Int.ofNat_lt.2 hlt;have nP:(i:Int)<(m:Int)+1:=(by omega);have hi0:(0:Int)<=(i:Int):=(by omega);obtain⟨b1,o1,c1,e1,z1,x0⟩:=aaV (HLX.o.below hg4.below) (j:=i) (vG mJ hlt);simp only[vS]at e1;obtain⟨rfl,-,rfl⟩:=e1;have x0:aj wr b1 (o1+i*3) (uV (mz k i)):=x0;have hmk:=Y9 k i JM.2.2 (nL hlt (nE Aj.2.2.2.2));have hzu:=SF (i:=k) (j:=i) JM.2.2 (nL hlt (nE Aj.2.2.2.2));have hS0:Gr wr wr.drew:=(Gr.refl wr).drew;have FT:=hid hg4;have HP:Hid (∀W,Gr wr W->(aj W b1 (o1+i*3) (uV (mz k i))/\b1<W.heap.size)/\aj W bk k (.slice pv m cv)/\bk<W.heap.size):=fun W g=>⟨⟨(g.cell z1).trans x0,nL z1 g.size⟩,(g.cell (nL Yz.o FT.o.size)).trans ((FT.o.cell Yz.o).trans HCk.o),nL Yz.o (nT FT.o.size g.size)⟩;clear x0 z1;by_cases hlv:i<m
           ·have Xh:(i:Int)<(m:Int):=(by omega);obtain⟨b2,o2,c2,e2,z2,v0⟩:=aaV (HLV.o.below hg4.below) (j:=i) (vG mJ hlv);simp only[vS]at e2;obtain⟨rfl,-,rfl⟩:=e2;have v0:aj wr b2 (o2+i*3) (uV (mz k i)):=v0;replace HP:Hid (∀W,Gr wr W->((aj W b1 (o1+i*3) (uV (mz k i))/\b1<W.heap.size)/\aj W bk k (.slice (some ⟨b2,o2,none⟩) m cv)/\bk<W.heap.size)/\aj W b2 (o2+i*3) (uV (mz k i))/\b2<W.heap.size):=fun W g=>⟨HP.o W g,(g.cell z2).trans v0,nL z2 g.size⟩;clear hg4 v0 z2;generalize mz k i=zz at *;go_upto_region 47 with fail;refine ay (S:=fun W:World=>Gr wr W) (D:=[]) hmx ?_;refine' ak 0 hS0 ?_;refine' ak 1 hS0 ?_;refine' ak 2 hS0 ?_;refine' ak 3 hS0 ?_;refine' ak 4 hS0 ?_;refine' ak 5 hS0 ?_;refine' ak 6 hS0 ?_;refine wpC 7 (hmk _) ?_;rintro e wy7 ⟨rfl,O0⟩;have dB:Gr wr wy7:=(by rw[O0];exact hS0);clear O0;refine⟨_,rfl,dB, ?_⟩;refine' ak 8 dB ?_;refine' ak 9 dB ?_;refine' ak 10 dB ?_;refine' ak 11 dB ?_;refine' ak 12 dB ?_;refine' ak 13 dB ?_;refine' ak 14 dB ?_;refine' ak 15 dB ?_;refine' ak 16 dB ?_;refine' ak 17 dB ?_;refine' ak 18 dB ?_;refine' ak 19 dB ?_;refine' ak 20 dB ?_;refine' ak 21 dB ?_;refine' ak 22 dB ?_;refine' ak 23 dB ?_;refine' ak 24 dB ?_;refine' ak 25 dB ?_;refine' ak 26 dB ?_;refine' ak 27 dB ?_;refine' ak 28 dB ?_;refine wpC 29 (hmk _) ?_;rintro e VF ⟨rfl,Ef⟩;have mD:Gr wr VF:=(by rw[Ef];exact dB);clear Ef;refine⟨_,rfl,mD, ?_⟩;refine' ak 30 mD ?_;refine' ak 31 mD ?_;refine' ak 32 mD ?_;refine' ak 33 mD ?_;refine av (by kernel_rfl) ?_ _;go_wp2_with fail;go_roundw;case rel=>exact⟨i+1,by omega,by go_num,FT.o.trans mD⟩
            case measure=>simp[intOf];omega
           ·have Xh:¬(i:Int)<(m:Int):=(by omega);clear hg4;generalize mz k i=zz at *;go_upto_region 47 with fail;refine ay (S:=fun W:World=>Gr wr W) (D:=[]) hmx ?_;refine' ak 0 hS0 ?_;refine' ak 1 hS0 ?_;refine' ak 2 hS0 ?_;refine' ak 3 hS0 ?_;refine' ak 4 hS0 ?_;refine' ak 5 hS0 ?_;refine' ak 6 hS0 ?_;refine wpC 7 (hmk _) ?_;rintro e wy8 ⟨rfl,OZ⟩;have bP:Gr wr wy8:=(by rw[OZ];exact hS0);clear OZ;refine⟨_,rfl,bP, ?_⟩;refine' ak 8 bP ?_;refine' ak 9 bP ?_;refine' ak 10 bP ?_;refine' ak 11 bP ?_;refine' ak 12 bP ?_;refine' ak 13 bP ?_;refine' ak 14 bP ?_;refine' ak 15 bP ?_;refine' ak 16 bP ?_;refine' ak 17 bP ?_;refine' ak 18 bP ?_;refine' eU 19 bP ?_;refine' eU 20 bP ?_;refine' eU 21 bP ?_;refine' eU 22 bP ?_;refine' eU 23 bP ?_;refine' eU 24 bP ?_;refine' eU 25 bP ?_;refine' eU 26 bP ?_;refine' eU 27 bP ?_;refine' eU 28 bP ?_;refine' eU 29 bP ?_;refine' eU 30 bP ?_;refine' eU 31 bP ?_;refine' ak 32 bP ?_;refine' ak 33 bP ?_;refine av (by kernel_rfl) ?_ _;go_wp2_with fail;go_roundw;case rel=>exact⟨i+1,by omega,by go_num,FT.o.trans bP⟩
            case measure=>simp[intOf];omega
          ·have hltz:¬(i:Int)<((m+1:Nat):Int):=(by omega);have nP:¬(i:Int)<(m:Int)+1:=(by omega);go_wp2_with fail;go_roundw;case rel=>exact⟨k+1,by omega,by go_num,hg4⟩
           case measure=>simp[intOf];omega
        ·have hkz:¬(k:Int)<(n:Int):=(by omega);go_wp2_with fail;go_meet;exact hg3
      case rest=>
       have GG:=hcut;have K6:=hid (K5.o.tr (Kp.bg (S:=CP n V U) GG.o));go_wp2_with fail;go_ret;exact⟨rfl,K6.o⟩
end Go.Proofs.YtiiefcalkjeieaaGreat.Rc
