import Derived.Test.YtiiefcalkjeieaaGreatMRen
variable{b n:Nat}{w:Go.World}{v:Go.Value}
set_option maxHeartbeats 4000000
set_option maxRecDepth 100000
namespace Go.Proofs.YtiiefcalkjeieaaGreat
section
open Go.RowKit Go.Sort Go.Maps
attribute[local go_sem ↓]wp_at_zero wp_at_succ
theorem iX{p:Prop}(h:p):Hid p:=h
theorem vH{off c:Nat}{x:Tm}{l:List Tm}(h:oz w (.slice (some ⟨b,off,none⟩) n c) (x::l))(hn:n=(x::l).length):oz w (.slice (some ⟨b,off+3,none⟩) l.length (c-1)) l/\(c=1->n<=c->oz w (.slice (some ⟨b,off,none⟩) l.length 0) l)/\n-1=l.length:=by
 refine⟨?_,fun hc hnc=> ?_,by rw[hn];rfl⟩
 ·have:=h.tail (k:=1) (c-1);rw[Nat.one_mul]at this;exact this
 ·have hl:l=[]:=List.eq_nil_of_length_eq_zero (by rw[hn,lC]at hnc;omega);subst hl;exact h.void (k:=1) (nR _) 0
theorem CJ(v u:Value)(l m:List Tm)(w:World)(hv:oz w v l)(hu:oz w u m)(hcv:∀p n c,v= .slice p n c->n<=c)(QS:∀p n c,u= .slice p n c->n<=c)(hl:(l.length+m.length)*32<=140737488355328):
    CL 142 #[v,u] w fun e w'=>∃v',e= .returned v'/\w'.ownsRow w.heap.size 163 4 v' (gH dL l m).length (fl ED (gH dL l m))/\Bw w w':=by
 have hmx:Tryz.prog.follows .mixedOrders=true:=by kernel_rfl
 obtain⟨pl,cl,rfl⟩:=hv.form;obtain⟨pm,cm,rfl⟩:=hu.form;have hcl:=hcv _ _ _ rfl;have hcm:=QS _ _ _ rfl;have HV:=iX hv;have HU:=iX hu;have HC:Hid (∀(x y:Tm) (W:World),CL 17 #[tv x,tv y] W fun e w'=>e= .returned (iV (A7 x y))/\Gr W w'):=fun x y W=>gP _ _ _ _ _ _ W;have hbl:(gH dL l m).length<=l.length+m.length:=Uq l m;clear hv hu hcv QS;go_enter Tryz.func142,Tryz.ntmps142;go_wp2_with fail;go_loopw [0,1,5,21,43] (fun s0 s1 s5 _ _ wr=>∃(l' m':List Tm) (T:List Dl) (p q:Option Addr) (c d:Nat),s0= .slice p l'.length c/\s1= .slice q m'.length d/\Hid (oz w (.slice p l'.length c) l'/\oz w (.slice q m'.length d) m'/\gH dL l m=T++gH dL l' m'/\wr.ownsRow w.heap.size 163 4 s5 T.length (fl ED T)/\Below w.heap.size w wr)/\l'.length+m'.length<=l.length+m.length/\l'.length<=c/\m'.length<=d) (fun s0 s1 _ _ _ _=>(match s0 with|.slice _ n _=>n|_=>0)+(match s1 with|.slice _ n _=>n|_=>0));case atStart=>exact⟨l,m,[],pl,pm,cl,cm,rfl,rfl,⟨HV.o,HU.o,rfl,oN _ _ _ _,Below.refl _ _⟩,nR _,hcl,hcm⟩
 case round=>
  obtain⟨l',m',T,p,q,c,d,rfl,rfl,HI,hlen,hlc,hmc⟩:=hrel;obtain⟨pt,mt,ct,ht⟩:∃p m c,u5= .slice p m c:=by
   obtain⟨_,⟨h0,_⟩|⟨g,cap,cur,h0,_⟩⟩:=HI.o.2.2.2.1
   ·exact⟨_,_,_,h0⟩
   ·exact⟨_,_,_,h0⟩
  subst ht;have hmt:mt=T.length:=by
   obtain⟨_,⟨h0,h1⟩|⟨g,cap,cur,h0,_⟩⟩:=HI.o.2.2.2.1
   ·simp only[vS]at h0;omega
   ·simp only[vS]at h0;exact h0.2.1
  subst hmt;have HT:Hid (T.length+(gH dL l' m').length<=l.length+m.length):=by
   have:=hbl;rw[HI.o.2.2.1,dQ]at this;exact this
  obtain⟨nl,hnl⟩:=aF (l'.length);obtain⟨nm,hnm⟩:=aF (m'.length);rw[<-hnl,<-hnm]at HI hlen;rw[<-hnl]at hlc;rw[<-hnm]at hmc;rw[<-hnl,<-hnm];have hwr:IntKind.i64.wrap ((nl:Int)+(nm:Int))=(nl:Int)+(nm:Int):=by rw[IntKind.wrap_i64];omega
  have mf:=iX hnl;have yH:=iX hnm;have hlcz:(nl:Int)<=(c:Int):=by omega
  have hmcz:(nm:Int)<=(d:Int):=by omega
  cases l' with
  | nil=>
   obtain rfl:nl=0:=hnl;cases m' with
   | nil=>
    obtain rfl:nm=0:=hnm;have FIN:Hid (wr.ownsRow w.heap.size 163 4 (.slice pt T.length ct) (gH dL l m).length (fl ED (gH dL l m))/\Bw w wr):=by
     have e:gH dL l m=T:=(by rw[HI.o.2.2.1,gH,FZ]);rw[e];exact⟨HI.o.2.2.2.1,HI.o.2.2.2.2⟩
    go_wp2_with fail;go_ret;exact⟨_,rfl,FIN.o⟩
   | cons b xb=>
    clear hnm;obtain⟨b2,o2,c2,e2,z2,y1,y2,y3⟩:=(Ls.below (by have h:=HI.o.2.1;rw[yH.o]at h;exact h) HI.o.2.2.2.2:oz wr (.slice q (b::xb).length d) (b::xb)).at3 (j:=0) rfl;simp only[vS]at e2;obtain⟨rfl,-,rfl⟩:=e2;simp only[Nat.zero_mul,nO]at y1 y2 y3;have LB:=iX (vH HI.o.2.1 yH.o);have hm1:(0:Int)<(nm:Int):=(by have:=yH.o;simp at this;omega);have hm2:0<nm:=(by omega);have hm3:(1:Int)<=(nm:Int):=(by omega);have hmb:((nm:Int)==0)=false:=(by simp;omega);have abH:¬(nm:Int)=0:=(by omega);have abG:¬nm=0:=(by omega);have hs1:(0:Int)<(nm:Int):=(by omega);have hT1:T.length+1<=l.length+m.length:=(by have:=HT.o;rw[gH]at this;simp only[lC]at this;omega);have FV:Hid (gH dL l m=T++[(b,1)]++gH dL [] xb):=(by show _=_;rw[HI.o.2.2.1,gH,aA];rfl);go_upto_region 5 with fail;go_quiet (fail);generalize vI:wr.drewN nq=w9 at *;have VD:Gr wr w9:=(by rw[<-vI];exact(Gr.refl wr).drewN nq);have QE:=iX VD;clear vI VD;go_upto_region 7 with fail;go_quiet (fail);generalize vI:w9.drewN nq=w8 at *;have Gw8:Gr wr w8:=(by rw[<-vI];exact QE.o.drewN nq);have iD:=iX Gw8;clear vI Gw8;have BW:=iX (HI.o.2.2.2.2.trans (iD.o.below.mono HI.o.2.2.2.2.size));have OW:=iX (ag HI.o.2.2.2.1 iD.o.below);have Y1:=(iD.o.cell z2).trans y1;have Y2:=(iD.o.cell z2).trans y2;have Y3:=(iD.o.cell z2).trans y3;have Z2:=nL z2 iD.o.below.size;clear y1 y2 y3 z2;go_upto_region 4 with(at_builtin;refine qK rfl _ _ rfl w.heap.size _ T.length _ rfl OW.o (b,1) rfl (by omega) BW.o.size ?_;intro g' cap' w6 qG nQ En);have J9:Hid (w6.ownsRow w.heap.size 163 4 (sO g' (T.length+1) cap') (T++[(b,1)]).length (fl ED (T++[(b,1)]))):=by
     show World.ownsRow _ _ _ _ _ _ _;rw[dQ,vR,aT,dM];exact qG
    have FC:Hid (Bw w w6):=BW.o.trans ((Kp.grownBy (S:=fun k=>w.heap.size<=k) nQ (fun k hk=>(OW.o.lt k hk).1)).below BW.o.size (fun _ h=>h));clear qG nQ En;by_cases hd1:d=1
    ·skip;go_wp2_with fail;have na:=mf.o;have nb:=yH.o;simp only[List.length]at na nb;refine⟨⟨[],xb,T++[(b,1)],_,_,_,_,by first|rfl|(rw[na];rfl)|(simp only[na];rfl),by first|rfl|(rw[nb];rfl)|(simp only[nb];rfl),⟨by have h:=HI.o.1;rw[mf.o]at h;exact h,LB.o.2.1 hd1 hmc,FV.o,J9.o,FC.o⟩, ?_, ?_, ?_⟩, ?_⟩;all_goals first|omega|(simp only;omega)|(simp only[List.length];omega)
    ·skip;go_wp2_with fail;have na:=mf.o;have nb:=yH.o;simp only[List.length]at na nb;refine⟨⟨[],xb,T++[(b,1)],_,_,_,_,by first|rfl|(rw[na];rfl)|(simp only[na];rfl),by first|rfl|(rw[nb];rfl)|(simp only[nb];rfl),⟨by have h:=HI.o.1;rw[mf.o]at h;exact h,LB.o.1,FV.o,J9.o,FC.o⟩, ?_, ?_, ?_⟩, ?_⟩;all_goals first|omega|(simp only;omega)|(simp only[List.length];omega)
  | cons a xa=>
   cases m' with
   | nil=>
    obtain rfl:nm=0:=hnm;clear hnl;obtain⟨b1,o1,c1,e1,z1,x1,x2,x3⟩:=(Ls.below (by have h:=HI.o.1;rw[mf.o]at h;exact h) HI.o.2.2.2.2:oz wr (.slice p (a::xa).length c) (a::xa)).at3 (j:=0) rfl;simp only[vS]at e1;obtain⟨rfl,-,rfl⟩:=e1;simp only[Nat.zero_mul,nO]at x1 x2 x3;have LA:=iX (vH HI.o.1 mf.o);have hl1:(0:Int)<(nl:Int):=(by have:=mf.o;simp at this;omega);have hl2:0<nl:=(by omega);have hl3:(1:Int)<=(nl:Int):=(by omega);have hs1:(0:Int)<(nl:Int):=(by omega);have hT1:T.length+1<=l.length+m.length:=(by have:=HT.o;rw[gH]at this;simp only[lC]at this;omega);have FV:Hid (gH dL l m=T++[(a,-1)]++gH dL xa []):=(by show _=_;rw[HI.o.2.2.1,gH,aA];rfl);go_upto_region 5 with fail;go_quiet (fail);generalize vI:wr.drewN nq=w9 at *;have VD:Gr wr w9:=(by rw[<-vI];exact(Gr.refl wr).drewN nq);have QE:=iX VD;clear vI VD;go_upto_region 7 with fail;go_quiet (fail);generalize vI:w9.drewN nq=w8 at *;have Gw8:Gr wr w8:=(by rw[<-vI];exact QE.o.drewN nq);have iD:=iX Gw8;clear vI Gw8;have BW:=iX (HI.o.2.2.2.2.trans (iD.o.below.mono HI.o.2.2.2.2.size));have OW:=iX (ag HI.o.2.2.2.1 iD.o.below);have X1:=(iD.o.cell z1).trans x1;have X2:=(iD.o.cell z1).trans x2;have X3:=(iD.o.cell z1).trans x3;have Z1:=nL z1 iD.o.below.size;clear x1 x2 x3 z1;go_upto_region 9 with(at_builtin;refine qK rfl _ _ rfl w.heap.size _ T.length _ rfl OW.o (a,-1) rfl (by omega) BW.o.size ?_;intro g' cap' w6 qG nQ En);have J9:Hid (w6.ownsRow w.heap.size 163 4 (sO g' (T.length+1) cap') (T++[(a,-1)]).length (fl ED (T++[(a,-1)]))):=by
     show World.ownsRow _ _ _ _ _ _ _;rw[dQ,vR,aT,dM];exact qG
    have FC:Hid (Bw w w6):=BW.o.trans ((Kp.grownBy (S:=fun k=>w.heap.size<=k) nQ (fun k hk=>(OW.o.lt k hk).1)).below BW.o.size (fun _ h=>h));clear qG nQ En;by_cases hc1:c=1
    ·skip;go_wp2_with fail;have na:=mf.o;have nb:=yH.o;simp only[List.length]at na nb;refine⟨⟨xa,[],T++[(a,-1)],_,_,_,_,by first|rfl|(rw[na];rfl)|(simp only[na];rfl),by first|rfl|(rw[nb];rfl)|(simp only[nb];rfl),⟨LA.o.2.1 hc1 hlc,by have h:=HI.o.2.1;rw[yH.o]at h;exact h,FV.o,J9.o,FC.o⟩, ?_, ?_, ?_⟩, ?_⟩;all_goals first|omega|(simp only;omega)|(simp only[List.length];omega)
    ·skip;go_wp2_with fail;have na:=mf.o;have nb:=yH.o;simp only[List.length]at na nb;refine⟨⟨xa,[],T++[(a,-1)],_,_,_,_,by first|rfl|(rw[na];rfl)|(simp only[na];rfl),by first|rfl|(rw[nb];rfl)|(simp only[nb];rfl),⟨LA.o.1,by have h:=HI.o.2.1;rw[yH.o]at h;exact h,FV.o,J9.o,FC.o⟩, ?_, ?_, ?_⟩, ?_⟩;all_goals first|omega|(simp only;omega)|(simp only[List.length];omega)
   | cons b xb=>
    clear hnl hnm;obtain⟨b1,o1,c1,e1,z1,x1,x2,x3⟩:=(Ls.below (by have h:=HI.o.1;rw[mf.o]at h;exact h) HI.o.2.2.2.2:oz wr (.slice p (a::xa).length c) (a::xa)).at3 (j:=0) rfl;simp only[vS]at e1;obtain⟨rfl,-,rfl⟩:=e1;simp only[Nat.zero_mul,nO]at x1 x2 x3;have LA:=iX (vH HI.o.1 mf.o);have hl1:(0:Int)<(nl:Int):=(by have:=mf.o;simp at this;omega);have hl2:0<nl:=(by omega);have hl3:(1:Int)<=(nl:Int):=(by omega);obtain⟨b2,o2,c2,e2,z2,y1,y2,y3⟩:=(Ls.below (by have h:=HI.o.2.1;rw[yH.o]at h;exact h) HI.o.2.2.2.2:oz wr (.slice q (b::xb).length d) (b::xb)).at3 (j:=0) rfl;simp only[vS]at e2;obtain⟨rfl,-,rfl⟩:=e2;simp only[Nat.zero_mul,nO]at y1 y2 y3;have LB:=iX (vH HI.o.2.1 yH.o);have hm1:(0:Int)<(nm:Int):=(by have:=yH.o;simp at this;omega);have hm2:0<nm:=(by omega);have hm3:(1:Int)<=(nm:Int):=(by omega);have hmb:((nm:Int)==0)=false:=(by simp;omega);have abH:¬(nm:Int)=0:=(by omega);have abG:¬nm=0:=(by omega);have hs1:(0:Int)<(nl:Int)+(nm:Int):=(by omega);by_cases hab:a=b
    ·subst hab;have hE:∀W,Sem.run Tryz.prog (Op.equalIn 10000 45 (.agg #[uV a.1.1,uV a.1.2.1,uV a.1.2.2]) (.agg #[uV a.1.1,uV a.1.2.1,uV a.1.2.2])) W= .ok true W:=fun W=>(by rw[Bp,Ja,decide_eq_true rfl]);have FV:Hid (gH dL l m=T++gH dL xa xb):=(by show _=_;rw[HI.o.2.2.1,gH,if_pos rfl]);go_upto_region 5 with fail;go_quiet (fail);generalize vI:wr.drewN nq=w9 at *;have G9:Gr wr w9:=(by rw[<-vI];exact(Gr.refl wr).drewN nq);have HG9:=iX G9;clear vI G9;go_upto_region 6 with fail;by_cases hc1:c=1
     ·skip;by_cases hd1:d=1
      ·skip;go_quiet (fail);go_wp2_with fail;have GG:=HG9.o.drewN nq;have na:=mf.o;have nb:=yH.o;simp only[List.length]at na nb;refine⟨⟨xa,xb,T,_,_,_,_,by first|rfl|(rw[na];rfl)|(simp only[na];rfl),by first|rfl|(rw[nb];rfl)|(simp only[nb];rfl),⟨LA.o.2.1 hc1 hlc,LB.o.2.1 hd1 hmc,FV.o,ag HI.o.2.2.2.1 GG.below,HI.o.2.2.2.2.trans (GG.below.mono HI.o.2.2.2.2.size)⟩, ?_, ?_, ?_⟩, ?_⟩;all_goals first|omega|(simp only;omega)|(simp only[List.length];omega)
      ·skip;go_quiet (fail);go_wp2_with fail;have GG:=HG9.o.drewN nq;have na:=mf.o;have nb:=yH.o;simp only[List.length]at na nb;refine⟨⟨xa,xb,T,_,_,_,_,by first|rfl|(rw[na];rfl)|(simp only[na];rfl),by first|rfl|(rw[nb];rfl)|(simp only[nb];rfl),⟨LA.o.2.1 hc1 hlc,LB.o.1,FV.o,ag HI.o.2.2.2.1 GG.below,HI.o.2.2.2.2.trans (GG.below.mono HI.o.2.2.2.2.size)⟩, ?_, ?_, ?_⟩, ?_⟩;all_goals first|omega|(simp only;omega)|(simp only[List.length];omega)
     ·skip;by_cases hd1:d=1
      ·skip;go_quiet (fail);go_wp2_with fail;have GG:=HG9.o.drewN nq;have na:=mf.o;have nb:=yH.o;simp only[List.length]at na nb;refine⟨⟨xa,xb,T,_,_,_,_,by first|rfl|(rw[na];rfl)|(simp only[na];rfl),by first|rfl|(rw[nb];rfl)|(simp only[nb];rfl),⟨LA.o.1,LB.o.2.1 hd1 hmc,FV.o,ag HI.o.2.2.2.1 GG.below,HI.o.2.2.2.2.trans (GG.below.mono HI.o.2.2.2.2.size)⟩, ?_, ?_, ?_⟩, ?_⟩;all_goals first|omega|(simp only;omega)|(simp only[List.length];omega)
      ·skip;go_quiet (fail);go_wp2_with fail;have GG:=HG9.o.drewN nq;have na:=mf.o;have nb:=yH.o;simp only[List.length]at na nb;refine⟨⟨xa,xb,T,_,_,_,_,by first|rfl|(rw[na];rfl)|(simp only[na];rfl),by first|rfl|(rw[nb];rfl)|(simp only[nb];rfl),⟨LA.o.1,LB.o.1,FV.o,ag HI.o.2.2.2.1 GG.below,HI.o.2.2.2.2.trans (GG.below.mono HI.o.2.2.2.2.size)⟩, ?_, ?_, ?_⟩, ?_⟩;all_goals first|omega|(simp only;omega)|(simp only[List.length];omega)
    ·have hE:∀W,Sem.run Tryz.prog (Op.equalIn 10000 45 (.agg #[uV a.1.1,uV a.1.2.1,uV a.1.2.2]) (.agg #[uV b.1.1,uV b.1.2.1,uV b.1.2.2])) W= .ok false W:=fun W=>(by rw[Bp,Ja,decide_eq_false hab]);have hT1:T.length+1<=l.length+m.length:=by
      have:=HT.o;rw[gH,if_neg hab]at this;split at this<;>(simp only[lC]at this;omega)
     go_upto_region 5 with fail;go_quiet (fail);generalize vI:wr.drewN nq=w9 at *;have VD:Gr wr w9:=(by rw[<-vI];exact(Gr.refl wr).drewN nq);have QE:=iX VD;clear vI VD;go_upto_region 7 with fail;have S9:Gr wr w9.drew:=QE.o.drew;have hcmp:=HC.o a b;obtain⟨r,hr⟩:=aF (A7 a b);rw[<-hr]at hcmp;have HRR:=iX hr;clear hr;by_cases hlt:r<0
     ·skip;refine ay (S:=fun W=>Gr wr W) (D:=[]) hmx ?_;have HP:=TB fun W (hSw:Gr wr W)=>And.intro ((hSw.cell z1).trans x1) (And.intro ((hSw.cell z1).trans x2) (And.intro ((hSw.cell z1).trans x3) (And.intro ((hSw.cell z2).trans y1) (And.intro ((hSw.cell z2).trans y2) (And.intro ((hSw.cell z2).trans y3) (And.intro (nL z1 hSw.below.size) (nL z2 hSw.below.size)))))));refine' ak 0 S9 ?_;refine' ak 1 S9 ?_;refine' ak 2 S9 ?_;refine' ak 3 S9 ?_;refine' ak 4 S9 ?_;refine' ak 5 S9 ?_;refine' ak 6 S9 ?_;refine' ak 7 S9 ?_;refine' ak 8 S9 ?_;refine' ak 9 S9 ?_;refine' ak 10 S9 ?_;refine' ak 11 S9 ?_;refine' ak 12 S9 ?_;refine' ak 13 S9 ?_;refine wpC 14 (hcmp _) ?_;rintro e w8 ⟨rfl,g8⟩;have S8:Gr wr w8:=S9.trans g8;refine⟨_,rfl,S8, ?_⟩;refine' ak 15 S8 ?_;refine' ak 16 S8 ?_;refine' ak 17 S8 ?_;refine' ak 18 S8 ?_;refine av (by kernel_rfl) ?_ _;have iD:=iX S8;clear S8 S9 g8;have FV:Hid (gH dL l m=T++[(a,-1)]++gH dL xa (b::xb)):=(by show _=_;rw[HI.o.2.2.1,gH,if_neg hab,if_pos (by unfold dL;rw[<-HRR.o];exact decide_eq_true hlt),aA];rfl);have BW:=iX (HI.o.2.2.2.2.trans (iD.o.below.mono HI.o.2.2.2.2.size));have OW:=iX (ag HI.o.2.2.2.1 iD.o.below);have X1:=(iD.o.cell z1).trans x1;have X2:=(iD.o.cell z1).trans x2;have X3:=(iD.o.cell z1).trans x3;have Z1:=nL z1 iD.o.below.size;clear x1 x2 x3 z1;go_upto_region 9 with(at_builtin;refine qK rfl _ _ rfl w.heap.size _ T.length _ rfl OW.o (a,-1) rfl (by omega) BW.o.size ?_;intro g' cap' w6 qG nQ En);have J9:Hid (w6.ownsRow w.heap.size 163 4 (sO g' (T.length+1) cap') (T++[(a,-1)]).length (fl ED (T++[(a,-1)]))):=by
       show World.ownsRow _ _ _ _ _ _ _;rw[dQ,vR,aT,dM];exact qG
      have FC:Hid (Bw w w6):=BW.o.trans ((Kp.grownBy (S:=fun k=>w.heap.size<=k) nQ (fun k hk=>(OW.o.lt k hk).1)).below BW.o.size (fun _ h=>h));clear qG nQ En;by_cases hc1:c=1
      ·skip;go_wp2_with fail;have na:=mf.o;have nb:=yH.o;simp only[List.length]at na nb;refine⟨⟨xa,b::xb,T++[(a,-1)],_,_,_,_,by first|rfl|(rw[na];rfl)|(simp only[na];rfl),by first|rfl|(rw[nb];rfl)|(simp only[nb];rfl),⟨LA.o.2.1 hc1 hlc,by have h:=HI.o.2.1;rw[yH.o]at h;exact h,FV.o,J9.o,FC.o⟩, ?_, ?_, ?_⟩, ?_⟩;all_goals first|omega|(simp only;omega)|(simp only[List.length];omega)
      ·skip;go_wp2_with fail;have na:=mf.o;have nb:=yH.o;simp only[List.length]at na nb;refine⟨⟨xa,b::xb,T++[(a,-1)],_,_,_,_,by first|rfl|(rw[na];rfl)|(simp only[na];rfl),by first|rfl|(rw[nb];rfl)|(simp only[nb];rfl),⟨LA.o.1,by have h:=HI.o.2.1;rw[yH.o]at h;exact h,FV.o,J9.o,FC.o⟩, ?_, ?_, ?_⟩, ?_⟩;all_goals first|omega|(simp only;omega)|(simp only[List.length];omega)
     ·skip;refine ay (S:=fun W=>Gr wr W) (D:=[]) hmx ?_;have HP:=TB fun W (hSw:Gr wr W)=>And.intro ((hSw.cell z1).trans x1) (And.intro ((hSw.cell z1).trans x2) (And.intro ((hSw.cell z1).trans x3) (And.intro ((hSw.cell z2).trans y1) (And.intro ((hSw.cell z2).trans y2) (And.intro ((hSw.cell z2).trans y3) (And.intro (nL z1 hSw.below.size) (nL z2 hSw.below.size)))))));refine' ak 0 S9 ?_;refine' ak 1 S9 ?_;refine' ak 2 S9 ?_;refine' ak 3 S9 ?_;refine' ak 4 S9 ?_;refine' ak 5 S9 ?_;refine' ak 6 S9 ?_;refine' ak 7 S9 ?_;refine' ak 8 S9 ?_;refine' ak 9 S9 ?_;refine' ak 10 S9 ?_;refine' ak 11 S9 ?_;refine' ak 12 S9 ?_;refine' ak 13 S9 ?_;refine wpC 14 (hcmp _) ?_;rintro e w8 ⟨rfl,g8⟩;have S8:Gr wr w8:=S9.trans g8;refine⟨_,rfl,S8, ?_⟩;refine' ak 15 S8 ?_;refine' ak 16 S8 ?_;refine' ak 17 S8 ?_;refine' ak 18 S8 ?_;refine av (by kernel_rfl) ?_ _;have iD:=iX S8;clear S8 S9 g8;have FV:Hid (gH dL l m=T++[(b,1)]++gH dL (a::xa) xb):=(by show _=_;rw[HI.o.2.2.1,gH,if_neg hab,if_neg (by unfold dL;rw[<-HRR.o,decide_eq_false (by omega)];decide),aA];rfl);have BW:=iX (HI.o.2.2.2.2.trans (iD.o.below.mono HI.o.2.2.2.2.size));have OW:=iX (ag HI.o.2.2.2.1 iD.o.below);have Y1:=(iD.o.cell z2).trans y1;have Y2:=(iD.o.cell z2).trans y2;have Y3:=(iD.o.cell z2).trans y3;have Z2:=nL z2 iD.o.below.size;clear y1 y2 y3 z2;go_upto_region 4 with(at_builtin;refine qK rfl _ _ rfl w.heap.size _ T.length _ rfl OW.o (b,1) rfl (by omega) BW.o.size ?_;intro g' cap' w6 qG nQ En);have J9:Hid (w6.ownsRow w.heap.size 163 4 (sO g' (T.length+1) cap') (T++[(b,1)]).length (fl ED (T++[(b,1)]))):=by
       show World.ownsRow _ _ _ _ _ _ _;rw[dQ,vR,aT,dM];exact qG
      have FC:Hid (Bw w w6):=BW.o.trans ((Kp.grownBy (S:=fun k=>w.heap.size<=k) nQ (fun k hk=>(OW.o.lt k hk).1)).below BW.o.size (fun _ h=>h));clear qG nQ En;by_cases hd1:d=1
      ·skip;go_wp2_with fail;have na:=mf.o;have nb:=yH.o;simp only[List.length]at na nb;refine⟨⟨a::xa,xb,T++[(b,1)],_,_,_,_,by first|rfl|(rw[na];rfl)|(simp only[na];rfl),by first|rfl|(rw[nb];rfl)|(simp only[nb];rfl),⟨by have h:=HI.o.1;rw[mf.o]at h;exact h,LB.o.2.1 hd1 hmc,FV.o,J9.o,FC.o⟩, ?_, ?_, ?_⟩, ?_⟩;all_goals first|omega|(simp only;omega)|(simp only[List.length];omega)
      ·skip;go_wp2_with fail;have na:=mf.o;have nb:=yH.o;simp only[List.length]at na nb;refine⟨⟨a::xa,xb,T++[(b,1)],_,_,_,_,by first|rfl|(rw[na];rfl)|(simp only[na];rfl),by first|rfl|(rw[nb];rfl)|(simp only[nb];rfl),⟨by have h:=HI.o.1;rw[mf.o]at h;exact h,LB.o.1,FV.o,J9.o,FC.o⟩, ?_, ?_, ?_⟩, ?_⟩;all_goals first|omega|(simp only;omega)|(simp only[List.length];omega)
end
section
open Go.RowKit Go.Sort Go.Maps
def yG(a b:List Tm):List Tm:=a.filter fun t=> !decide (t∈b)
def oW(a b:List Tm):List Dl:=(jq (yG a b++yG b a)).map fun t=>(t,if t∈b then 1 else -1)
theorem VP{l m:List Tm}(hl:l.Nodup)(hm:m.Pairwise fun a b=>dL a b=true)(h:∀x,x∈m↔x∈l):jq l=m:=
 uo pG (qh hl) hm fun x=>jr.trans (h x).symm
theorem sP{a b:List Tm}(ha:a.Nodup)(hb:b.Nodup):(yG a b++yG b a).Nodup:=by
 refine List.nodup_append.2 ⟨ha.filter _,hb.filter _,fun x hx y hy e=> ?_⟩;subst e;have h1:x∉b:=by simpa using(mF.1 hx).2
 exact h1 (mF.1 hy).1
theorem Jy{a b:List Tm}{x:Tm}:x∈yG a b++yG b a↔(x∈a/\x∉b)\/(x∈b/\x∉a):=by
 simp[yG,List.mem_filter]
theorem X4{a b m:List Tm}(ha:a.Nodup)(hb:b.Nodup)(hm:m.Pairwise fun a b=>dL a b=true)(h:∀x,x∈m↔(x∈a/\x∉b)\/(x∈b/\x∉a)):oW a b=m.map fun t=>(t,if t∈b then 1 else -1):=by
 unfold oW;rw[VP (sP ha hb) hm fun x=>(h x).trans Jy.symm]
theorem Gf{l:List Tm}(h:l.Pairwise fun a b=>dL a b=true):l.Nodup:=h.imp fun {a b} hab e=>by subst e;rw[pG.qy]at hab;cases hab
theorem Ur{l m:List Tm}(hs:l.Pairwise fun a b=>dL a b=true)(ht:m.Pairwise fun a b=>dL a b=true):gH dL l m=oW l m:=by
 obtain⟨h1,h2,h3⟩:=Qp pG hs ht;rw[X4 (Gf hs) (Gf ht) h1 h2];refine h3.trans (List.map_congr_left fun t _=> ?_);by_cases h:t∈m<;>simp[h]
theorem zK{base:Nat}{e:TypeId}{size:Nat}{xs:List Value}(h:w.ownsRow base e size v n xs):∀p k c,v= .slice p k c->k<=c:=by
 intro p k c hv;obtain⟨_,⟨h0,_⟩|⟨g,cap,cur,h0,_,_,h1,_⟩⟩:=h
 ·rw[h0]at hv;simp only[vS]at hv;omega
 ·rw[h0]at hv;simp only[vS]at hv;omega
theorem oh{b1 b2:Nat}(v u:Value)(l m:List Tm)(w:World)(hv:w.ownsRow b1 45 3 v l.length (eQ l))(hu:w.ownsRow b2 45 3 u m.length (eQ m))(hl:(l.length+m.length)*32<=140737488355328)(hs:l.Pairwise fun a b=>dL a b=true)(ht:m.Pairwise fun a b=>dL a b=true):
    CL 142 #[v,u] w fun e w'=>∃v',e= .returned v'/\w'.ownsRow w.heap.size 163 4 v' (oW l m).length (fl ED (oW l m))/\Bw w w':=by
 rw[<-Ur hs ht];exact CJ v u l m w (dG hv) (dG hu) (zK hv) (zK hu) hl
open Tt (Tl dW dK)
structure fU(f:Tm->Int)(fr:List Tm):Prop where
 good:Good aC dL fr
 pos:∀x∈fr,0<f x
 cov:∀y,0<f y->bH aC fr y=true
theorem fU.nil:fU (fun _=>0) []:=⟨xQ,fun _ h=>by simp at h,fun _ h=>by omega⟩
theorem fU.sorted{f:Tm->Int}{fr:List Tm}(h:fU f fr):fr.Pairwise fun a b=>dL a b=true:=h.good.imp fun h=>h.1
theorem fU.mem{f:Tm->Int}{fr:List Tm}(h:fU f fr)(x:Tm):x∈fr↔0<f x/\∀y,0<f y->aC y x=true->y=x:=by
 constructor
 ·intro hx;refine⟨h.pos x hx,fun y hy hyx=> ?_⟩;obtain⟨z,hz,U1⟩:=cZ.1 (h.cov y hy);have hzx:=pG.trans _ _ _ U1 hyx;have:z=x:=by
   obtain⟨i,hi⟩:=iG.1 hz;obtain⟨j,hj⟩:=iG.1 hx;by_cases hij:i=j
   ·subst hij;rw[hi]at hj;exact oJ hj
   ·have:=Ew h.good hi hj hij;rw[hzx]at this;cases this
  subst this;exact pG.Yq _ _ hyx U1
 ·rintro⟨h1,h2⟩;obtain⟨z,hz,hzx⟩:=cZ.1 (h.cov x h1);rw[<-h2 z (h.pos z hz) hzx];exact hz
theorem fU.same{f:Tm->Int}{a b:List Tm}(h:fU f a)(k:fU f b):a=b:=
 uo pG h.sorted k.sorted fun x=>by rw[h.mem,k.mem]
theorem fU.nodup{f:Tm->Int}{fr:List Tm}(h:fU f fr):fr.Nodup:=h.sorted.imp fun {a b} hab e=>by subst e;rw[pG.qy]at hab;cases hab
theorem fU.le{f:Tm->Int}{fr:List Tm}(h:fU f fr)(ht:Ta ZT 2 w b n f):fr.length<=n:=by
 obtain⟨D,hown,_,h3⟩:=ht;obtain⟨ks,hk,hl⟩:=ny hown h3;have h1:fr.length<=ks.length:=dS h.nodup fun x hx=>(hk.2 x).2 (by have:=h.pos x hx;omega);have:=hown.size_le;omega
theorem fU.renew{f0 f1:Tm->Int}{fr fr':List Tm}{us:List Dl}(h:fU f0 fr)(hr:Rnw f1 fr us fr')(hch:∀t,f1 t≠f0 t->∃d∈us,d.1=t)(hus:∀d∈us,d.2=f1 d.1):fU f1 fr':=by
 obtain⟨ks,hks,rfl⟩:=hr;obtain⟨h1,h2,h3⟩:=Ud pG (l:=jq ks) h.good h.pos h.cov hch hus hks.1 hks.2 (fun t=>jr) (fun F hn hs hle x hx=>by
  by_cases hm:x∈F
  ·exact hm
  ·have:=dS (l:=x::F) (m:=ks) (List.nodup_cons.2 ⟨hm,hn⟩) (fun y hy=>by
     rcases gq.1 hy with rfl|hy
     ·exact hx
     ·exact hs y hy)
   rw[lC]at this;omega)
 exact⟨h1,h2,h3⟩
theorem M9{ds:List Dl}{t:Tm}(h:t∉ds.map Prod.fst):sm ds t=0:=by
 unfold sm;have:∀(l:List Dl) (g:Tm->Int),t∉l.map Prod.fst->l.foldl (fun g d=>upd g d.1 (wrap64 (g d.1+d.2))) g t=g t:=by
  intro l
  induction l with
  | nil => intro g _;rfl
  | cons d l ih=>
   intro g hg;rw[List.foldl_cons,ih _ (fun h=>hg (by simp at h⊢;exact Or.inr h)),cK];intro e;exact hg (by rw[e];simp)
 exact this ds _ h
theorem wrap_small{z:Int}(h: -9223372036854775808<=z/\z<=9223372036854775807):wrap64 z=z:=by unfold wrap64;omega
theorem xy{f:Tm->Int}{ds:List Dl}{t:Tm}(hf: -2147483647<=f t/\f t<=2147483647)(h:t∉ds.map Prod.fst):bS f ds t=f t:=by
 unfold bS;rw[M9 h,wrap_small (by omega)];omega
theorem wO(us:List Dl)(f:Tm->Int){t:Tm}(h:t∉us.map Prod.fst):sH f us t=f t:=by
 unfold sH
 induction us generalizing f with
 | nil => rfl
 | cons d l ih=>
  rw[List.foldl_cons,ih _ (fun h'=>h (by simp at h'⊢;exact Or.inr h')),cK];intro e;exact h (by rw[e];simp)
theorem Nn(g:Tm->Int)(ks:List Tm)(f:Tm->Int){t:Tm}(h:t∈ks):sH f (ks.map fun t=>(t,g t)) t=g t:=by
 induction ks generalizing f with
 | nil => simp at h
 | cons k ks ih=>
  rw[List.map_cons];show sH (upd f k (g k)) (ks.map fun t=>(t,g t)) t=g t;by_cases hk:t∈ks
  ·exact ih _ hk
  ·have:t=k:=by
     rcases gq.1 h with h|h
     ·exact h
     ·exact absurd h hk
   subst this;rw[wO _ _ (by simpa using hk),upd_same]
theorem Ku{f:Tm->Int}{ds:List Dl}{ks:List Tm}(hf:∀t,-2147483647<=f t/\f t<=2147483647)(hk:∀t,t∈ks↔t∈ds.map Prod.fst):sH f (ks.map fun t=>(t,bS f ds t))=bS f ds:=by
 funext t
 by_cases h:t∈ks
 ·exact Nn _ ks f h
 ·rw[wO _ _ (by simpa using h),xy (hf t) (fun h'=>h ((hk t).2 h'))]
attribute[local go_sem ↓]wp_at_zero wp_at_succ
theorem UY{a:Nat}(h1:a<=b)(h2:b<a):False:=Nat.lt_irrefl _ (Nat.lt_of_le_of_lt h1 h2)
theorem Au{mb tb cb:Nat}{f:Tm->Int}{fr:List Tm}(ds:List Dl)(u:Value)(w:World)(h:Mu w mb tb b cb n v f fr)(hF:fU f fr)(hu:Ls ED w u ds)(hbig:n+2*ds.length+1<=2199023255552):
    CL 80 #[aB mb,u] w fun e w'=>
     (bad f ds=true/\e= .returned (.tuple #[.slice none 0 0,iV 12])/\Bw w w')\/
     (bad f ds=false/\∃(vo v':Value) (fr':List Tm),fU (bS f ds) fr'/\e= .returned (.tuple #[vo,iV 0])/\w'.ownsRow w.heap.size 163 4 vo (oW fr fr').length (fl ED (oW fr fr'))/\Mu w' mb tb b cb (n+2*ds.length) v' (bS f ds) fr'/\
      Kp (fun k=>k=b\/k=cb\/v.ownBlock=some k) w w'/\(∀g,v'.ownBlock=some g->v.ownBlock=some g\/w.heap.size<=g)/\∀g,v'.ownBlock=some g->vo.ownBlock≠some g):=by
 obtain⟨pu,cu,rfl⟩:=hu.form;have hbe:=IP ds _ w h.tl hu (nT (nM 32 (show ds.length<=2199023255552 by omega)) (by decide));have hfn:=hF.le h.tl.ta;have A0:∀{k c:Nat},k<=2199023255552->c<=64->k*c<=140737488355328:=fun {k c} hk hc=>nT (Nat.mul_le_mul hk hc) (by decide);have A1:fr.length*24<=140737488355328:=A0 (by omega) (by decide);have A2:∀k,k<=ds.length->n+2*k<4611686018427387904:=fun k hk=>by omega
 have A4:∀k,k<=ds.length->(fr.length+k+(n+2*ds.length)+1)*24<=140737488355328:=fun k hk=>nT (nM 24 (show fr.length+k+(n+2*ds.length)+1<=4398046511104 by omega)) (by decide);have A5:∀k,k<=n+2*ds.length->k*24<=140737488355328:=fun k hk=>A0 (by omega) (by decide);have A6:∀k,k<=n+2*ds.length->(fr.length+k)*32<=140737488355328:=fun k hk=>nT (nM 32 (show fr.length+k<=4398046511104 by omega)) (by decide);clear A0;have HM:Hid (Mu w mb tb b cb n v f fr):=h;have HF:Hid (fU f fr):=hF;have m0:=h.c0;have m1:=h.c1;have rC:=h.lt;obtain⟨a1,a2,a3,a4,a5,a6,a7,a8⟩:=h.apart;clear h hF hu hbig hfn;go_enter Tryz.func80,Tryz.ntmps80;go_wp2_with fail;refine hbe.mono ?_;rintro e w1 ⟨hb1,⟨hbad,rfl⟩|⟨hbad,ks,v1,hks,rfl,ho1⟩⟩
 ·go_wp2;go_ret2;exact Or.inl ⟨hbad,rfl,hb1⟩
 ·have QA:Hid (Mu w1 mb tb b cb n v f fr):=HM.o.below hb1;have FL:=Cn.kM w1 QA.o.ch A1;have k1:=QA.o.c1;have k0:=QA.o.c0;have hml1:=QA.o.lt;have hkl:ks.length<=ds.length:=by
   have:=dS (m:=ds.map Prod.fst) hks.1 (fun x hx=>(hks.2 x).1 hx);simpa using this
  have HO1:Hid (w1.ownsRow w.heap.size 163 4 v1 ks.length (fl ED (ks.map fun t=>(t,bS f ds t)))):=ho1;have HKS:Hid (∀t,t∈ks↔t∈ds.map Prod.fst):=hks.2;have HB1:Hid (Bw w w1):=hb1;have HBAD:Hid (bad f ds=false):=hbad;clear hbe ho1 hks hb1 m0 m1;go_wp2_with fail;refine FL.mono ?_;rintro e w2 ⟨v2,rfl,ho2,hb2⟩;have YH:Hid (Mu w2 mb tb b cb n v f fr):=QA.o.below hb2;have Vx:Hid (w2.ownsRow w1.heap.size 45 3 v2 fr.length (eQ fr)):=ho2;have ab8:Hid (w2.ownsRow w.heap.size 163 4 v1 ks.length (fl ED (ks.map fun t=>(t,bS f ds t)))):=ag HO1.o hb2;have Ka:Hid (Ls ED w2 v1 (ks.map fun t=>(t,bS f ds t))):=aK (E:=ED) (ts:=ks.map fun t=>(t,bS f ds t)) (by rw[gQ];exact ab8.o);have hnb:∀k,v1.ownBlock=some k->w.heap.size<=k:=fun k hk=>(HO1.o.lt k hk).1;have hbw:b<w.heap.size:=HM.o.tl.ta.lt;have hcw:cb<w.heap.size:=HM.o.ch.lt;have hvw:∀k,v.ownBlock=some k->k<w.heap.size:=HM.o.ch.row;have hset:=Ob (ks.map fun t=>(t,bS f ds t)) v1 w2 YH.o.tl Ka.o (fun e=>UY (hnb _ e) hbw) (fun d hd=>by
   obtain⟨t,ht,rfl⟩:=mM.1 hd;obtain⟨d',hd',rfl⟩:=mM.1 ((HKS.o t).1 ht);have h1:=HBAD.o;unfold bad at h1;rw[Bool.or_eq_false_iff,List.any_eq_false,List.any_eq_false]at h1;simpa using h1.2 d' hd') (by rw[gQ];exact A2 _ hkl)
  rw[Ku HM.o.tl.bd HKS.o,gQ]at hset;have k1:=YH.o.c1;have k0:=YH.o.c0;have hml2:=YH.o.lt;have HB2:Hid (Bw w1 w2):=hb2;clear FL ho2 hb2;go_wp2_with fail;refine hset.mono ?_;rintro e w3 ⟨rfl,ht3,hk3⟩;have HT3:Hid (Tl w3 tb b fC (n+2*ds.length) (bS f ds)):=⟨ht3.blk,ht3.ta.mono (Nat.add_le_add_left (Nat.mul_le_mul_left 2 hkl) n),ht3.bd⟩;have HM3:Hid (Mu w3 mb tb b cb (n+2*ds.length) v (bS f ds) fr):=⟨(hk3.block mb YH.o.lt a2).trans YH.o.blk,HT3.o,YH.o.ch.kp hk3 (fun e=>a5 e.symm) (fun k hk e=>a8 (e ▸ hk))⟩;have HK3:Hid (Kp (fun k=>k=b) w2 w3):=hk3;have HL3:Hid (Ls ED w3 v1 (ks.map fun t=>(t,bS f ds t))):=hk3.ls Ka.o (fun k hk e=>UY (hnb _ hk) (by rw[e];exact hbw));have Vv:Hid (w3.ownsRow w1.heap.size 45 3 v2 fr.length (eQ fr)):=ax hk3 Vx.o (fun k hk e=>UY (nT HB1.o.size (Vx.o.lt k hk).1) (by rw[e];exact hbw));have hre:=Ky (ks.map fun t=>(t,bS f ds t)) v1 w3 HM3.o HL3.o (fun k hk=>⟨fun e=>UY (hnb _ hk) (by rw[e];exact hcw),fun e=>UY (hnb _ hk) (hvw _ e)⟩) (by rw[gQ];exact A4 _ hkl);clear hset hk3 ht3;go_wp2_with fail;refine hre.mono ?_;rintro e w4 ⟨rfl,v4,fr',hrn,Xg,ht4⟩;have HF4:Hid (fU (bS f ds) fr'):=HF.o.renew hrn (fun t ht=>by
   by_cases hx:t∈ds.map Prod.fst
   ·exact⟨(t,bS f ds t),mM.2 ⟨t,(HKS.o t).2 hx,rfl⟩,rfl⟩
   ·exact absurd (xy (HM.o.tl.bd t) hx) ht) (fun d hd=>by
   obtain⟨t,_,rfl⟩:=mM.1 hd;rfl)
  have HM4:Hid (Mu w4 mb tb b cb (n+2*ds.length) v4 (bS f ds) fr'):=Xg;have HT4:Hid (Cz.dX cb v v4 w3 w4):=ht4;have HO4:Hid (w4.ownsRow w1.heap.size 45 3 v2 fr.length (eQ fr)):=ax ht4.1 Vv.o (fun k hk e=>by
   have h1:=(Vv.o.lt k hk).1;have h2:=HB1.o.size;rcases e with e|e
   ·exact UY (nT h2 h1) (by rw[e];exact hcw)
   ·exact UY (nT h2 h1) (hvw _ e))
  have aaz:=HF4.o.le Xg.tl.ta;have aav:=Cn.kM w4 Xg.ch (A5 _ aaz);have k1:=Xg.c1;have k0:=Xg.c0;have hml4:=Xg.lt;clear hre hrn Xg ht4;go_wp2_with fail;refine aav.mono ?_;rintro e w5 ⟨v5,rfl,Em,hb5⟩;have hbt:=oh v2 v5 fr fr' w5 (ag HO4.o hb5) Em (A6 _ aaz) HF.o.sorted HF4.o.sorted;have HM5:Hid (Mu w5 mb tb b cb (n+2*ds.length) v4 (bS f ds) fr'):=HM4.o.below hb5;clear aav Em;go_wp2_with fail;refine hbt.mono ?_;rintro e w6 ⟨v6,rfl,qG,hb6⟩;have z1:=HB1.o.size;have z2:=HB2.o.size;have z3:=HK3.o.size;have z4:=HT4.o.1.size;have z5:=hb5.size;go_wp2;go_ret2;refine Or.inr ⟨HBAD.o,v6,v4,fr',HF4.o,rfl,aN qG (nT z1 (nT z2 (nT z3 (nT z4 z5)))),HM5.o.below hb6, ?_,fun g hg=> ?_,fun g hg e=> ?_⟩
  ·refine(((((Kp.of_below HB1.o).trans (Kp.of_below (S:=fun _=>False) HB2.o) (fun _ _ h=>h.elim)).trans HK3.o (fun j _ h=>Or.inl h)).trans HT4.o.1 (fun j _ h=>Or.inr h)).trans (Kp.of_below (S:=fun _=>False) hb5) (fun _ _ h=>h.elim)).trans (Kp.of_below (S:=fun _=>False) hb6) (fun _ _ h=>h.elim)
  ·rcases HT4.o.2 g hg with h1|h1
   ·exact Or.inl h1
   ·exact Or.inr (nT z1 (nT z2 (nT z3 h1)))
  ·have h1:=(qG.lt g e).1;exact UY h1 (HM5.o.ch.row g hg)
end
end Go.Proofs.YtiiefcalkjeieaaGreat
