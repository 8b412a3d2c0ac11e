import Derived.Test.YteekbpokkjjipaaGreatJ35
set_option maxHeartbeats 16000000
set_option maxRecDepth 100000
namespace Go.Proofs.YteekbpokkjjipaaGreat.Rc
open Go.RowKit Go.Sort Go.Maps Pt Hc
open Lf (uC)
open Lf.Rb (Cr)
open Df (aO GR NV dN jH iQ xX)
attribute[local go_sem ↓]wp_at_zero wp_at_succ
theorem YZ.weak{w:World}{tag:Nat->Nat}{i:Nat}{g:Df.bD}{e:Ending}{w':World}(h:YZ w tag i g e w'):∃x y,e= .returned (.tuple #[.pointer x, .pointer y, .bool true])/\Below w.heap.size w w':=by
 obtain⟨hb,rfl|⟨R,rb,tb,tag',B,M,_,rfl,_⟩⟩:=h
 ·exact⟨_,_,rfl,hb⟩
 ·exact⟨_,_,rfl,hb⟩
theorem wD{M0:Nat}{nv ev vA vB:Value}{a:Int}{xs:List NV}{es:List dN}{lA lB:List Th}(w:World)(hG:GR M0 w nv ev xs es)(hC:xX ev xs)(hP:uC (jH a xs es))(hA:Lw w vA lA)(hB:Lw w vB lB)(zA:lA.length*40<=140737488355328) :
    Calls Tryz.prog 4 #[.agg #[.int .i64 a,nv,ev,vA,vB]] w fun e w'=>e= .returned (.bool true)/\Below w.heap.size w w':=by
 have hmx:Tryz.prog.follows .mixedOrders=true:=by kernel_rfl
 obtain⟨pA,cA,rfl⟩:=hA.form;obtain⟨pB,cB,rfl⟩:=hB.form;obtain⟨xb,hxb⟩:=aD (w.heap.size);obtain⟨W0,hW0⟩:=aD (w.alloc (.cells #[.int .i64 a,nv,ev, .slice pA lA.length cA, .slice pB lB.length cB] 28));have P0:Hid (Below w.heap.size w W0/\W0.heap[xb]? =some (.cells #[.int .i64 a,nv,ev, .slice pA lA.length cA, .slice pB lB.length cB] 28 (0,0))/\Lw W0 (.slice pA lA.length cA) lA):=by
  rw[hW0,hxb];exact⟨((Gr.refl w).alloc _).below,ai _ _,hA.below ((Gr.refl w).alloc _).below⟩
 have BV:Hid (∀W i tag,Below W0.heap.size W0 W->Calls Tryz.prog 7 #[.agg (iQ a nv ev)] W fun e w'=>Hid (YZ W tag i (jH a xs es) e w')):=fun W i tag hW=>Kq (a:=a) W (hG.below (P0.o.1.trans (hW.mono P0.o.1.size))) hC hP i tag;have HW0:Hid (w.alloc (.cells #[.int .i64 a,nv,ev, .slice pA lA.length cA, .slice pB lB.length cB] 28)=W0/\w.heap.size=xb):=⟨hW0.symm,hxb.symm⟩;have HZA:=hid zA;clear hG hC hP hA hB zA hW0 hxb;obtain⟨g,hg⟩:=aD (jH a xs es);rw[<-hg]at BV;clear hg;obtain⟨nA,hnA⟩:=aD (lA.length);obtain⟨nB,hnB⟩:=aD (lB.length);rw[<-hnA,<-hnB]at P0 HW0⊢;clear hnA hnB;have uB:Hid (∀W,Below W0.heap.size W0 W->(W.cell? ⟨xb,0,none⟩=some (.int .i64 a)/\W.cell? ⟨xb,1,none⟩=some nv/\W.cell? ⟨xb,2,none⟩=some ev/\W.cell? ⟨xb,3,none⟩=some (.slice pA nA cA)/\xb<W.heap.size)/\Lw W (.slice pA nA cA) lA/\Below w.heap.size w W):=fun W hW=>by
  have hc:=(hW.block xb (ae P0.o.2.1)).trans P0.o.2.1;exact⟨⟨((aa hc).1 0).trans rfl,((aa hc).1 1).trans rfl,((aa hc).1 2).trans rfl,((aa hc).1 3).trans rfl,ae hc⟩,P0.o.2.2.below hW,P0.o.1.trans (hW.mono P0.o.1.size)⟩
 obtain⟨⟨d0,d1,d2,d3,dz⟩,-⟩:=uB.o W0 (Below.refl _ _);clear P0;have hfr:=BV.o W0 1 (fun _=>3) (Below.refl _ _);go_enter Tryz.func4,Tryz.ntmps4;go_upto_region 1 with fail;rw[HW0.o.1,HW0.o.2];clear HW0;go_wp2_with fail;refine hfr.mono ?_;clear hfr d0 d1 d2 d3 dz;rintro r w1 hr;obtain⟨hb1,hr⟩:=hr.o;have HB1:=hid hb1;clear hb1;obtain⟨⟨d0,d1,d2,d3,dz⟩,-⟩:=uB.o w1 HB1.o;rcases hr with rfl|⟨R,ra,tb,CP,B,M,hk,rfl,hold,hzero,hBl,hM,hrg,htp⟩
 ·have hf2:=BV.o w1 2 (fun _=>3) HB1.o;go_wp2_with fail;refine hf2.mono ?_;clear hf2 d0 d1 d2 d3 dz;rintro r w2 hr2;obtain⟨x2,y2,rfl,hb2⟩:=hr2.o.weak;have HB2:=hid (HB1.o.trans (hb2.mono HB1.o.size));clear hr2 hb2;obtain⟨⟨d0,d1,d2,d3,dz⟩,-⟩:=uB.o w2 HB2.o;have hf3:=BV.o w2 3 (fun _=>3) HB2.o;go_wp2_with fail;refine hf3.mono ?_;clear hf3 d0 d1 d2 d3 dz;rintro r w3 hr3;obtain⟨x3,y3,rfl,hb3⟩:=hr3.o.weak;have HB3:=hid (HB2.o.trans (hb3.mono HB2.o.size));clear hr3 hb3;go_wp2_with fail;refine(oC w3).mono ?_;rintro r w4 ⟨rfl,h4⟩;have FIN:Hid (Below w.heap.size w w4):=(uB.o w4 (HB3.o.trans (h4.mono HB3.o.size))).2.2;clear h4 HB1 HB2 HB3;go_wp2_with fail;go_ret;exact⟨rfl,FIN.o⟩
 ·have hf2:=BV.o w1 2 CP HB1.o;have HK:=hid hk;have HW1:Hid (RG 1 w1 CP ra g R (fun _ _=>0) (fun _=>[]) (fun _=>[]) (fun _ _=>0) (fun _=>[]) []/\Cr B M w1 tb (aO g.nodes) R/\M<=w1.heap.size/\(∀k,k<W0.heap.size->CP k=3)/\(∀k,B<=k->k<M->CP k=0)/\W0.heap.size<=B):=⟨hrg,htp,hM,hold,hzero,hBl⟩;clear hk hold hzero hBl hM hrg htp;go_wp2_with fail;refine hf2.mono ?_;clear hf2 d0 d1 d2 d3 dz;rintro r w2 hr2;obtain⟨hb2,hr2⟩:=hr2.o;have EH:=hid hb2;have HB2:=hid (HB1.o.trans (hb2.mono HB1.o.size));clear hb2;obtain⟨⟨d0,d1,d2,d3,dz⟩,-⟩:=uB.o w2 HB2.o;rcases hr2 with rfl|⟨R2,rb,tb2,Aj,B2,M2,hk2,rfl,Uq,-,-,-,hrg2,-⟩
  ·have hf3:=BV.o w2 3 (fun _=>3) HB2.o;go_wp2_with fail;refine hf3.mono ?_;clear hf3 d0 d1 d2 d3 dz;rintro r w3 hr3;obtain⟨x3,y3,rfl,hb3⟩:=hr3.o.weak;have HB3:=hid (HB2.o.trans (hb3.mono HB2.o.size));clear hr3 hb3;go_wp2_with fail;refine(oC w3).mono ?_;rintro r w4 ⟨rfl,h4⟩;have FIN:Hid (Below w.heap.size w w4):=(uB.o w4 (HB3.o.trans (h4.mono HB3.o.size))).2.2;clear h4 HB1 HB2 HB3 EH;go_wp2_with fail;go_ret;exact⟨rfl,FIN.o⟩
  ·have hf3:=BV.o w2 3 Aj HB2.o;have HW2:Hid (RI 2 w2 Aj rb g R [] (fun _=>[]) []/\∀k,k<w1.heap.size->Aj k=CP k):=⟨RI.new hrg2 HK.o hk2,Uq⟩;clear hk2 Uq hrg2;go_wp2_with fail;refine hf3.mono ?_;clear hf3 d0 d1 d2 d3 dz;rintro r w3 hr3;obtain⟨hb3,hr3⟩:=hr3.o;have EE:=hid hb3;have HB3:=hid (HB2.o.trans (hb3.mono HB2.o.size));clear hb3;rcases hr3 with rfl|⟨R3,rc,tb3,mD,B3,M3,hk3,rfl,Uo,-,-,-,hrg3,-⟩
   ·go_wp2_with fail;refine(oC w3).mono ?_;rintro r w4 ⟨rfl,h4⟩;have FIN:Hid (Below w.heap.size w w4):=(uB.o w4 (HB3.o.trans (h4.mono HB3.o.size))).2.2;clear h4 HB1 HB2 HB3 EH EE;go_wp2_with fail;go_ret;exact⟨rfl,FIN.o⟩
   ·obtain⟨tA,htA⟩:=aD (tg mD w3 4);have TA:Hid ((∀k,k<w3.heap.size->tA k=mD k)/\∀k,w3.heap.size<=k->tA k=4):=⟨fun k hk=>by rw[htA];exact aj hk,fun k hk=>by rw[htA];exact aR hk⟩;have HW3:Hid (RI 3 w3 mD rc g R [] (fun _=>[]) []/\∀k,k<w2.heap.size->mD k=Aj k):=⟨RI.new hrg3 HK.o hk3,Uo⟩;clear hk3 Uo hrg3 htA;have OLD:Hid (∀k,k<w1.heap.size->tA k=CP k):=fun k hk=>by
     have s1:=EH.o.size;have s2:=EE.o.size;rw[TA.o.1 k (by omega),HW3.o.2 k (by omega),HW2.o.2 k hk]
    have OW:Hid (∀i k,1<=i->gW i tA k->w.heap.size<=k/\¬(B<=k/\k<M)/\k<w3.heap.size):=fun i k hi e=>by
     have z0:=(uB.o W0 (Below.refl _ _)).2.2.size;have z1:=HB1.o.size;have z2:=EH.o.size;have z3:=EE.o.size;obtain⟨-,-,hM,h3,h0,-⟩:=HW1.o;have e2:=e.1;refine⟨?_,fun z=> ?_, ?_⟩
     ·by_cases z:k<W0.heap.size
      ·rw[OLD.o k (by omega),h3 k z]at e2;omega
      ·omega
     ·rw[OLD.o k (by omega),h0 k z.1 z.2]at e2;omega
     ·by_cases z:k<w3.heap.size
      ·exact z
      ·rw[TA.o.2 k (by omega)]at e2;omega
    have H3:Hid (RI 1 w3 tA ra g R [] (fun _=>[]) []/\RI 2 w3 tA rb g R [] (fun _=>[]) []/\RI 3 w3 tA rc g R [] (fun _=>[]) []/\Cr B M w3 tb (aO g.nodes) R):=by
     have hb:=EH.o.trans (EE.o.mono EH.o.size);refine⟨(RI.new HW1.o.1 HK.o HK.o).below HK.o hb fun k hk=>OLD.o k hk,HW2.o.1.below HK.o EE.o fun k hk=> ?_,HW3.o.1.below HK.o (Below.refl _ _) fun k hk=>TA.o.1 k hk,HW1.o.2.1.kp (Kp.of_below (S:=fun _=>False) hb) (fun _ _ _ h=>h)⟩;have s2:=EE.o.size;rw[TA.o.1 k (by omega),HW3.o.2 k hk]
    have HMW:Hid (M<=w3.heap.size):=nT HW1.o.2.2.1 (nT EH.o.size EE.o.size);clear HW1 HW2 HW3 OLD hr hr2 hr3;go_wp2_with fail;refine(oC w3).mono ?_;rintro r w4 ⟨rfl,h4⟩;have H4:Hid (RI 1 w4 tA ra g R [] (fun _=>[]) []/\RI 2 w4 tA rb g R [] (fun _=>[]) []/\RI 3 w4 tA rc g R [] (fun _=>[]) []/\Cr B M w4 tb (aO g.nodes) R):=⟨H3.o.1.below HK.o h4 fun _ _=>rfl,H3.o.2.1.below HK.o h4 fun _ _=>rfl,H3.o.2.2.1.below HK.o h4 fun _ _=>rfl,H3.o.2.2.2.kp (Kp.of_below (S:=fun _=>False) h4) (fun _ _ _ h=>h)⟩;have B4:Hid (Below W0.heap.size W0 w4/\w3.heap.size<=w4.heap.size):=⟨HB3.o.trans (h4.mono HB3.o.size),h4.size⟩;clear h4 H3 HB1 HB2 HB3 EH EE;obtain⟨⟨d0,d1,d2,d3,dz⟩,dl,db⟩:=uB.o w4 B4.o.1;have Uk:Calls Tryz.prog 9 #[.pointer (some ⟨ra,0,none⟩), .slice pA nA cA] w4 fun e w'=>∃p n q,e= .returned (.slice p n q)/\Hid (TaR w4 g p n q w'):=by
     obtain⟨K,O,C,k1,k2⟩:=H4.o.1;exact Me w4 k1 (by decide) (by decide) HK.o (by rw[List.length_nil]at k2;omega) dl HZA.o
    clear dl db;go_wp2_with fail;refine Uk.mono ?_;clear Uk d0 d1 d2 d3 dz;rintro r w5 ⟨pl,nl,ql,rfl,h5⟩;obtain⟨hb5,l,hl1,hl2,hl3,hl4⟩:=h5.o;have HL:Hid (nl=l.length/\nl<=40/\∀x∈l,qh g x):=⟨hl1.symm,hl2,hl3⟩;have H5:Hid (RI 1 w5 tA ra g R [] (fun _=>[]) []/\RI 2 w5 tA rb g R [] (fun _=>[]) []/\RI 3 w5 tA rc g R [] (fun _=>[]) []/\Cr B M w5 tb (aO g.nodes) R/\w5.ownsRow w4.heap.size 49 5 (.slice pl nl ql) nl (fl EC l)/\Below W0.heap.size W0 w5/\w3.heap.size<=w5.heap.size):=⟨H4.o.1.below HK.o hb5 fun _ _=>rfl,H4.o.2.1.below HK.o hb5 fun _ _=>rfl,H4.o.2.2.1.below HK.o hb5 fun _ _=>rfl,H4.o.2.2.2.kp (Kp.of_below (S:=fun _=>False) hb5) (fun _ _ _ h=>h),hl4,B4.o.1.trans (hb5.mono B4.o.1.size),nT B4.o.2 hb5.size⟩;have LK:Hid (∀k,(Value.slice pl nl ql).ownBlock=some k->tA k=4/\k<w5.heap.size):=fun k e=>⟨TA.o.2 k (nT B4.o.2 (hl4.lt k e).1),(hl4.lt k e).2⟩;clear h5 hb5 hl1 hl2 hl3 hl4 H4 B4 TA HZA;have hch:Calls Tryz.prog 10 #[.pointer (some ⟨ra,0,none⟩), .slice pl nl ql] w5 fun e w'=>e= .returned (.int .i64 0)/\Hid (ChI 1 w5 tA ra g R l (fun _=>[]) w'):=by
     have h:=H5.o.1.change HK.o (m:=[]) (fun _ h=>by cases h) l (.slice pl nl ql) (by
      have:=H5.o.2.2.2.2.1;rw[HL.o.1]at this⊢;exact aJ (E:=EC) this) HL.o.2.2 (by have:=HL.o.1;have:=HL.o.2.1;rw[List.length_nil];omega)
     exact h
    go_wp2_with fail;refine hch.mono ?_;clear hch;rintro r w6 ⟨rfl,h6⟩;obtain⟨tB,FA,a1,a2,a3⟩:=h6.o;have H6:Hid (RI 1 w6 tB ra g R l FA (nV (aO g.nodes) (fun _=>[]) FA)/\RI 2 w6 tB rb g R [] (fun _=>[]) []/\RI 3 w6 tB rc g R [] (fun _=>[]) []):=⟨a3,H5.o.2.1.keep HK.o a2 (by decide) a1,H5.o.2.2.1.keep HK.o a2 (by decide) a1⟩;have OB:Hid (∀i k,1<=i->gW i tB k->k<w5.heap.size->w.heap.size<=k/\¬(B<=k/\k<M)/\tA k≠4):=fun i k hi e hk=>by
     unfold gW at e;rw[a1 k hk]at e;obtain⟨q1,q2,-⟩:=OW.o i k hi e;exact⟨q1,q2,by omega⟩
    have KP:Hid (∀W,Kp (fun k=>gW 2 tB k\/gW 3 tB k) w6 W->Ls EC W (.slice pl nl ql) l/\Cr B M W tb (aO g.nodes) R/\Below w.heap.size w W/\RI 1 W tB ra g R l FA (nV (aO g.nodes) (fun _=>[]) FA)):=fun W hW=>by
     have hs:=a2.size;have hk5:Kp (fun k=>gW 1 tA k\/gW 2 tB k\/gW 3 tB k) w5 W:=(a2.mono fun k e=> .inl e).trans hW fun k _ e=> .inr e;have hno:∀k,k<w5.heap.size->(gW 1 tA k\/gW 2 tB k\/gW 3 tB k)->w.heap.size<=k/\¬(B<=k/\k<M)/\tA k≠4:=fun k hk e=>by
      rcases e with e|e|e
      ·obtain⟨q1,q2,-⟩:=OW.o 1 k (by decide) e;exact⟨q1,q2,by have:=e.1;unfold gW at e;omega⟩
      ·exact OB.o 2 k (by decide) e hk
      ·exact OB.o 3 k (by decide) e hk
     have hl:Ls EC w5 (.slice pl nl ql) l:=by
      have:=H5.o.2.2.2.2.1;rw[HL.o.1]at this⊢;exact aJ (E:=EC) this
     have hz:w.heap.size<=w5.heap.size:=((uB.o w5 H5.o.2.2.2.2.2.1).2.2).size;refine⟨hk5.ls hl fun k e e2=>absurd (LK.o k e).1 (hno k (LK.o k e).2 e2).2.2, ?_, ?_, ?_⟩
     ·exact H5.o.2.2.2.1.kp hk5 fun k h1 h2 e=>(hno k (by have:=HMW.o;have:=H5.o.2.2.2.2.2.2;omega) e).2.1 ⟨h1,h2⟩
     ·refine((uB.o w5 H5.o.2.2.2.2.2.1).2.2).trans (hk5.below hz fun k e=> ?_);by_cases z:k<w5.heap.size
      ·exact(hno k z e).1
      ·omega
     ·obtain⟨K,O,C,k1,k2⟩:=H6.o.1;exact⟨K,O,C,k1.keep HK.o hW (fun k hk e=>by unfold gW at e⊢;omega) (fun _ _=>rfl),k2⟩
    have HSZ:Hid (w5.heap.size<=w6.heap.size):=a2.size;clear a1 a2 a3 h6;have hnl:nl<=40:=HL.o.2.1;go_wp2_with fail;go_loopw [13,76] (fun s13 s76 wv=>∃(i:Nat) (p:Option Addr) (n q:Nat),i<=nl/\s13= .slice p n q/\s76= .int .i64 (i:Nat)/\n<=i*2000000/\Hid (∃s t F2 U2,Os w6 tB g R rb rc (l.take i) (l.drop (nl-i)).reverse F2 U2 s p n q wv t/\∀z u,eP s (z,u)=if 0<=z/\z<(aO g.nodes:Int)then dn [] (F2 z.toNat) u else 0)) (fun _ s76 _=>nl-(intOf s76).toNat)
    case atStart=>
     refine⟨0,none,0,0,zL _,rfl,rfl,zL _,[],tB,fun _=>[],[],⟨Kp.aZ (Gr.refl w6),fun _ _=>rfl,H6.o.2.1,⟨fun _=>[],[], ?_⟩,rfl,oN _ _ _ _,fun k e=>by simp[Value.ownBlock]at e, .nil⟩,fun z u=> ?_⟩
     ·have e:l.drop (nl-0)=[]:=List.drop_eq_nil_of_le (by have:=HL.o.1;omega);rw[e];exact H6.o.2.2
     ·rw[jl,SN];split<;>rfl
    case round=>
     obtain⟨i,p,n,q,hi,rfl,rfl,hn,HI⟩:=hrel;rename World=>wv;by_cases hil:i<nl
     ·have hiz:(i:Int)<(nl:Int):=(by omega);have hi0:(0:Int)<=(i:Int):=(by omega);obtain⟨x,hx⟩:∃x,l[i]? =some x:=⟨l[i]'(by have:=HL.o.1;omega),by simp⟩;obtain⟨y,hy⟩:∃y,l[nl-1-i]? =some y:=⟨l[nl-1-i]'(by have:=HL.o.1;omega),by simp⟩;have HXY:Hid (l[i]? =some x/\l[nl-1-i]? =some y/\qh g x/\qh g y):=⟨hx,hy,HL.o.2.2 x (lM hx),HL.o.2.2 y (lM hy)⟩;have HLS:Hid (∀W,Kp (fun k=>gW 2 tB k\/gW 3 tB k) w6 W->Ls EC W (.slice pl nl ql) l):=fun W hW=>(KP.o W hW).1;have HKW:Hid (Kp (fun k=>gW 2 tB k\/gW 3 tB k) w6 wv):=by
       obtain⟨s,t,F2,U2,hs,-⟩:=HI.o;exact hs.kp
      obtain⟨b1,o1,q1,fO,z1,x0,x1,x2,x3,x4⟩:=sw (HLS.o wv HKW.o) hx;simp only[vS]at fO;obtain⟨rfl,-,-⟩:=fO;clear hx hy;have HBO:Hid (l.length=nl/\Qp l/\l.take i++[x]=l.take (i+1)/\(l.drop (nl-i)).reverse++[y]=(l.drop (nl-(i+1))).reverse):=by
       have hll:=HL.o.1;refine⟨hll.symm,qF HL.o.2.2, ?_, ?_⟩
       ·rw[tO,HXY.o.1];rfl
       ·have e1:nl-i=nl-1-i+1:=(by omega);rw[show nl-(i+1)=nl-1-i by omega,List.drop_eq_getElem_cons (i:=nl-1-i) (by omega),List.reverse_cons,e1];have e2:=HXY.o.2.1;rw[qw (by omega)]at e2;rw[oJ e2]
      obtain⟨W7,WW⟩:=aD (wv.alloc (.cells (cc x) 49));obtain⟨b7,Qg⟩:=aD (wv.heap.size);have h8:Calls Tryz.prog 10 #[.pointer (some ⟨rb,0,none⟩), .slice (some ⟨b7,0,none⟩) 1 1] W7 fun e w'=>e= .returned (.int .i64 0)/\Hid (∃s t F2 F',Os w6 tB g R rb rc (l.take (i+1)) (l.drop (nl-i)).reverse F' (nV (aO g.nodes) F2 F') s p n q w' t/\(∀z u,eP s (z,u)=if 0<=z/\z<(aO g.nodes:Int)then dn [] (F2 z.toNat) u else 0)/\∀z,z<aO g.nodes->(F2 z).Nodup/\(F2 z).length<=64*i):=by
       obtain⟨s,t,F2,U2,hs,hv⟩:=HI.o;have hl:=uZ wv x;have hg:=((Gr.refl wv).alloc (.cells (cc x) 49)).below;rw[<-WW]at hl hg;rw[<-Qg]at hl;have h:=(hs.below HK.o hg 4).goB HK.o (fun z hz=>HBO.o.2.1 z (List.mem_of_mem_take hz)) HXY.o.2.2.1 hl (by have:=List.length_take_le i l;omega);rw[HBO.o.2.2.1]at h;refine h.mono ?_;rintro e w' ⟨rfl,h⟩;obtain⟨F',t',h⟩:=h.o;refine⟨rfl,s,t',F2,F',h,hv,fun z hz=> ?_⟩;obtain⟨k1,k2⟩:=hs.len HK.o z hz;have:=List.length_take_le i l;exact⟨k1,by omega⟩
      have X8:Hid (wv.alloc (.cells #[.int .i64 x.1, .int .u64 x.2.1.1.1, .int .u64 x.2.1.1.2.1, .int .u64 x.2.1.1.2.2, .int .i64 x.2.2] 49)=W7/\wv.heap.size=b7):=⟨WW.symm,Qg.symm⟩;clear WW Qg;go_wp2_with fail;rw[X8.o.1,X8.o.2];refine h8.mono ?_;clear h8 X8 x0 x1 x2 x3 x4 z1;rintro r w8 ⟨rfl,h8⟩;have abQ:Hid (Kp (fun k=>gW 2 tB k\/gW 3 tB k) w6 w8):=by
       obtain⟨s,t,F2,F',hs,-⟩:=h8.o;exact hs.kp
      obtain⟨b9,o9,q9,ev9,z1,x0,x1,x2,x3,x4⟩:=sw (HLS.o w8 abQ.o) HXY.o.2.1;simp only[vS,oI,aI,and_true]at ev9;obtain⟨⟨rfl,rfl⟩,-,-⟩:=ev9;obtain⟨j,hj⟩:=aD (nl-1-i);rw[<-hj]at x0 x1 x2 x3 x4;have hji:(nl:Int)-1-(i:Int)=(j:Int):=(by omega);have hjn:(j:Int)<(nl:Int):=(by omega);have hj0:(0:Int)<=(j:Int):=(by omega);clear hj;obtain⟨W9,OJ⟩:=aD (w8.alloc (.cells (cc y) 49));obtain⟨b8,dM⟩:=aD (w8.heap.size);have h10:Calls Tryz.prog 10 #[.pointer (some ⟨rc,0,none⟩), .slice (some ⟨b8,0,none⟩) 1 1] W9 fun e w'=>e= .returned (.int .i64 0)/\Hid (∃s t F2 F',Os w6 tB g R rb rc (l.take (i+1)) (l.drop (nl-(i+1))).reverse F' (nV (aO g.nodes) F2 F') s p n q w' t/\(∀z u,eP s (z,u)=if 0<=z/\z<(aO g.nodes:Int)then dn [] (F2 z.toNat) u else 0)/\∀z,z<aO g.nodes->(F2 z).Nodup/\(F2 z).length<=64*i):=by
       obtain⟨s,t,F2,F',hs,hv,hf⟩:=h8.o;have hl:=uZ w8 y;have hg:=((Gr.refl w8).alloc (.cells (cc y) 49)).below;rw[<-OJ]at hl hg;rw[<-dM]at hl;have h:=(hs.below HK.o hg 4).goC HK.o (fun z hz=>HBO.o.2.1 z (List.mem_of_mem_drop (List.mem_reverse.1 hz))) HXY.o.2.2.2 hl (by have:=HBO.o.1;rw[List.length_reverse,List.length_drop];omega);rw[HBO.o.2.2.2]at h;refine h.mono ?_;rintro e w' ⟨rfl,h⟩;obtain⟨t',h⟩:=h.o;exact⟨rfl,s,t',F2,F',h,hv,hf⟩
      have HW9:Hid (w8.alloc (.cells #[.int .i64 y.1, .int .u64 y.2.1.1.1, .int .u64 y.2.1.1.2.1, .int .u64 y.2.1.1.2.2, .int .i64 y.2.2] 49)=W9/\w8.heap.size=b8):=⟨OJ.symm,dM.symm⟩;clear OJ dM h8;go_wp2_with fail;rw[HW9.o.1,HW9.o.2];refine h10.mono ?_;clear h10 HW9 x0 x1 x2 x3 x4 z1;rintro r fE ⟨rfl,h10⟩;have HN:=hid HK.o.n;have Qd:Calls Tryz.prog 19 #[.pointer (some ⟨rb,0,none⟩)] fE fun e w'=>∃pu nu qu,e= .returned (.slice pu nu qu)/\Hid (∃s t F2 F',nu=(nV (aO g.nodes) F2 F').length/\nu<=1100000/\Ls EC w' (.slice pu nu qu) (nV (aO g.nodes) F2 F')/\(∀k,(Value.slice pu nu qu).ownBlock=some k->t k=5)/\Os w6 tB g R rb rc (l.take (i+1)) (l.drop (nl-(i+1))).reverse F' (nV (aO g.nodes) F2 F') s p n q w' t/\(∀z u,eP s (z,u)=if 0<=z/\z<(aO g.nodes:Int)then dn [] (F2 z.toNat) u else 0)/\∀z,z<aO g.nodes->(F2 z).Nodup/\(F' z).Nodup):=by
       obtain⟨s,t,F2,F',hs,hv,hf⟩:=h10.o;refine hs.b.turns.mono ?_;rintro e w' ⟨pu,nu,qu,rfl,h⟩;obtain⟨e1,e2,e3⟩:=h.o;have hf2:∀z,z<aO g.nodes->(F' z).Nodup/\(F' z).length<=64*(i+1):=fun z hz=>by
        obtain⟨k1,k2⟩:=hs.len HK.o z hz;have:=List.length_take_le (i+1) l;exact⟨k1,by omega⟩
       have hlen:=LU (M:=64*(i+1)) (fun z hz=>(hf z hz).1) (fun z hz=>(hf2 z hz).1) fun z hz=>⟨by have:=(hf z hz).2;omega,(hf2 z hz).2⟩;have hb:aO g.nodes*(2*(64*(i+1)))<=192*5248:=Nat.mul_le_mul HN.o (by omega);refine⟨pu,nu,qu,rfl,s,Rc.tg t fE 5,F2,F',e1,by omega,by rw[e1]at e2⊢;exact aJ (E:=EC) e2,fun k e=>aR (e2.lt k e).1,hs.below HK.o e3 5,hv,fun z hz=>⟨(hf z hz).1,(hf2 z hz).1⟩⟩
      clear h10;go_wp2_with fail;refine Qd.mono ?_;clear Qd;rintro r xY ⟨pu,nu,qu,rfl,h11⟩;obtain⟨s,t,F2,F',u1,u2,u3,u4,u5,u6,u7⟩:=h11.o;obtain⟨U,hU⟩:=aD (nV (aO g.nodes) F2 F');rw[<-hU]at u1 u3 u5;have HU:Hid (U=nV (aO g.nodes) F2 F'/\nu=U.length/\∀z,z<aO g.nodes->(F2 z).Nodup/\(F' z).Nodup):=⟨hU,u1,u7⟩;have H11:Hid (∃s t,Os w6 tB g R rb rc (l.take (i+1)) (l.drop (nl-(i+1))).reverse F' U s p n q xY t/\(∀z u,eP s (z,u)=(if 0<=z/\z<(aO g.nodes:Int)then dn [] (F2 z.toNat) u else 0)+eP ((U.take 0).map ck) (z,u))/\Ls EC xY (.slice pu nu qu) U/\∀k,(Value.slice pu nu qu).ownBlock=some k->t k=5):=⟨s,t,u5,fun z u=>by rw[tZ,List.map_nil,jl,u6];omega,u3,u4⟩
      clear h11 u1 u3 u4 u5 u6 u7 hU;have hi40:i<40:=(by omega);generalize hnn:i*2000000=nb at hn;have hnb:nb<=80000000:=(by omega);go_wp2_with fail;go_loopw [13,104] (fun s13 VC wx=>∃(j:Nat) (p:Option Addr) (n q:Nat),j<=nu/\s13= .slice p n q/\VC= .int .i64 (j:Nat)/\n<=nb+j/\Hid (∃s t,Os w6 tB g R rb rc (l.take (i+1)) (l.drop (nl-(i+1))).reverse F' U s p n q wx t/\(∀z u,eP s (z,u)=(if 0<=z/\z<(aO g.nodes:Int)then dn [] (F2 z.toNat) u else 0)+eP ((U.take j).map ck) (z,u))/\Ls EC wx (.slice pu nu qu) U/\∀k,(Value.slice pu nu qu).ownBlock=some k->t k=5)) (fun _ VC _=>nu-(intOf VC).toNat)
      case atStart=>exact⟨0,p,n,q,zL _,rfl,rfl,by omega,H11.o⟩
      case round=>
       clear H11;obtain⟨j,p,n,q,hj,rfl,rfl,hn,HJ⟩:=hrel;rename World=>wx;have hj0:(0:Int)<=(j:Int):=(by omega);by_cases hjl:j<nu
       ·have hjz:(j:Int)<(nu:Int):=(by omega);obtain⟨u,hu⟩:∃u,U[j]? =some u:=⟨U[j]'(by have:=HU.o.2.1;omega),by simp⟩;have HUJ:=hid hu;obtain⟨b2,o2,q2,ui,z1,x0,x1,x2,x3,x4⟩:=sw (show Ls EC wx (.slice pu nu qu) U from by obtain⟨s,t,-,-,k3,-⟩:=HJ.o;exact k3) hu;simp only[vS]at ui;obtain⟨rfl,-,-⟩:=ui;have HZ1:=hid z1;clear hu;obtain⟨b12,jv⟩:=aD (wx.heap.size);obtain⟨yh,qa⟩:=aD (wx.alloc (.cells (cc u) 49));have xW:Hid (Below wx.heap.size wx yh/\yh.heap[b12]? =some (.cells (cc u) 49 (0,0))):=by
         rw[qa,jv];exact⟨((Gr.refl wx).alloc _).below,ai _ _⟩
        have qm:Hid (wx.alloc (.cells #[.int .i64 u.1, .int .u64 u.2.1.1.1, .int .u64 u.2.1.1.2.1, .int .u64 u.2.1.1.2.2, .int .i64 u.2.2] 49)=yh/\wx.heap.size=b12):=⟨qa.symm,jv.symm⟩;clear qa jv;have hpl:Calls Tryz.prog 20 #[.slice p n q, .agg #[.int .i64 u.1, .int .u64 u.2.1.1.1, .int .u64 u.2.1.1.2.1, .int .u64 u.2.1.1.2.2, .int .i64 u.2.2]] yh fun e w'=>∃p' n' q',e= .returned (.slice p' n' q')/\n'<=n+1/\Hid (∃s t,Os w6 tB g R rb rc (l.take (i+1)) (l.drop (nl-(i+1))).reverse F' U s p' n' q' w' t/\(∀z u,eP s (z,u)=(if 0<=z/\z<(aO g.nodes:Int)then dn [] (F2 z.toNat) u else 0)+eP ((U.take (j+1)).map ck) (z,u))/\Ls EC w' (.slice (some ⟨b2,o2,none⟩) nu qu) U/\∀k,(Value.slice (some ⟨b2,o2,none⟩) nu qu).ownBlock=some k->t k=5):=by
         obtain⟨s,t,k1,k2,k3,k4⟩:=HJ.o;have k1':=k1.below HK.o xW.o.1 4;have hone:∀d∈U,d.2.2= -1\/d.2.2=1:=by
          rw[HU.o.1];exact LQ (fun p hp=>(HU.o.2.2 p hp).1) fun p hp=>(HU.o.2.2 p hp).2
         have Ot:∀d∈(U.take j).map ck,d.2= -1\/d.2=1:=fun d hd=>by
          obtain⟨y,hy,rfl⟩:=mM.1 hd;exact hone y (List.mem_of_mem_take hy)
         have hbs:∀d∈s,-1152921504606846976<=d.2/\d.2<=1152921504606846976:=fun d hd=>by
          have h1:=Fu k1.nd hd;have h2:=k2 d.1.1 d.1.2;have h3:=LH Ot (d.1.1,d.1.2);rw[fQ,lK]at h3;have h4: -1<=dn [] (F2 d.1.1.toNat) d.1.2/\dn [] (F2 d.1.1.toNat) d.1.2<=1:=by
           have e:¬d.1.2∈([]:List ah):=(by simp);unfold dn;rw[if_neg e];split<;>omega
          rw[show(d.1.1,d.1.2)=d.1 from rfl]at h2 h3;split at h2<;>omega
         have hux:=hone u (lM HUJ.o);have hns:=k1.nl;refine(De yh (ck u) (l:=s) (by rw[<-hns];exact k1'.ow) k1'.kp.size (by omega) hbs ⟨by show _<=u.2.2;omega,by show u.2.2<=_;omega⟩).mono ?_;rintro e w' ⟨p',n',q',rfl,h⟩;obtain⟨h1,h2⟩:=k1'.plus HK.o h.o;have hbe:∀k,(Value.slice (some ⟨b2,o2,none⟩) nu qu).ownBlock=some k->k<wx.heap.size:=fun k e=>by
          have:b2=k:=oJ e;rw[<-this];exact HZ1.o
         have abb:=xW.o.1.size;refine⟨p',n',q',rfl, ?_,uW (ck u) s,_,h1,fun z v=> ?_,h2.ls (k3.below xW.o.1) fun k e1 e2=> ?_,fun k e=> ?_⟩
         ·have:=h1.nl;have:=IY (ck u) s;omega
         ·rw[IX,k2,tO,HUJ.o,zV,mr];show _=_+(_+eP [ck u] (z,v));rw[ek,jl];omega
         ·have:=k1.tg k e2;have:=k4 k e1;omega
         ·have:=hbe k e;rw[aj (by omega),aj this];exact k4 k e
        go_upto_region 20 with fail;rw[qm.o.1,qm.o.2];clear qm x0 x1 x2 x3 x4 z1 HJ;have c12:=(aa xW.o.2).1;have Je:=ae xW.o.2;go_wp2_with fail;refine hpl.mono ?_;clear hpl c12 Je xW;rintro r w13 ⟨p',n',q',rfl,hn',h13⟩;go_wp2_with fail;go_roundw;case rel=>exact⟨j+1,p',n',q',by omega,rfl,by go_num,by omega,h13.o⟩
        case measure=>simp[intOf];omega
       ·have hjz:¬(j:Int)<(nu:Int):=(by omega);have FIN:Hid (∃s t F2 U2,Os w6 tB g R rb rc (l.take (i+1)) (l.drop (nl-(i+1))).reverse F2 U2 s p n q wx t/\∀z u,eP s (z,u)=if 0<=z/\z<(aO g.nodes:Int)then dn [] (F2 z.toNat) u else 0):=by
         obtain⟨s,t,k1,k2,-⟩:=HJ.o;refine⟨s,t,F',U,k1,fun z u=> ?_⟩;have ej:j=U.length:=(by have:=HU.o.2.1;omega);rw[k2,ej,tK,HU.o.1,LP (fun p hp=>(HU.o.2.2 p hp).1) fun p hp=>(HU.o.2.2 p hp).2];by_cases ez:0<=z/\z<(aO g.nodes:Int)
         ·rw[if_pos ez,if_pos ez,if_pos ez,Xu]
         ·rw[if_neg ez,if_neg ez,if_neg ez];omega
        clear HJ;go_wp2_with fail;go_roundw;case rel=>exact⟨i+1,p,n,q,by omega,rfl,by go_num,by omega,FIN.o⟩
        case measure=>simp[intOf];omega
     ·have hiz:¬(i:Int)<(nl:Int):=(by omega);have hin:i=nl:=(by omega);have hll:l.length=nl:=HL.o.1.symm;have HI2:Hid (∃s t F2 U2,Os w6 tB g R rb rc l l.reverse F2 U2 s p n q wv t/\∀z u,eP s (z,u)=if 0<=z/\z<(aO g.nodes:Int)then dn [] (F2 z.toNat) u else 0):=by
       have h:=HI.o;rw[hin,<-hll,tK,Nat.sub_self,List.drop_zero]at h;exact h
      have hn80:n<=80000000:=(by omega);clear HI hn;obtain⟨s0,t0,F2,U2,s1,s2⟩:=HI2.o;have HV:Hid ((∀z u,eP s0 (z,u)=if 0<=z/\z<(aO g.nodes:Int)then dn [] (FA z.toNat) u else 0)/\(∀z,z<aO g.nodes->(FA z).Nodup)):=by
       refine⟨fun z u=> ?_,fun z hz=>H6.o.1.nodup hz⟩;rw[s2];by_cases ez:0<=z/\z<(aO g.nodes:Int)
       ·rw[if_pos ez,if_pos ez,s1.b.same H6.o.1 rfl (by omega)]
       ·rw[if_neg ez,if_neg ez]
      have TJ:=hid s1;clear HI2 s1 s2;have HN:=hid HK.o.n;have Qd:Calls Tryz.prog 19 #[.pointer (some ⟨ra,0,none⟩)] wv fun e w'=>∃pu nu qu,e= .returned (.slice pu nu qu)/\Hid (nu=(nV (aO g.nodes) (fun _=>[]) FA).length/\nu<=1100000/\Ls EC w' (.slice pu nu qu) (nV (aO g.nodes) (fun _=>[]) FA)/\(∀k,(Value.slice pu nu qu).ownBlock=some k->wv.heap.size<=k)/\Below wv.heap.size wv w'):=by
       refine((KP.o wv TJ.o.kp).2.2.2).turns.mono ?_;rintro e w' ⟨pu,nu,qu,rfl,h⟩;obtain⟨e1,e2,e3⟩:=h.o;have hlen:=LU (N:=aO g.nodes) (F:=fun _=>[]) (M:=64*40) (fun z _=> .nil) (fun z hz=>HV.o.2 z hz) fun z hz=>⟨zL _,by
        have:=H6.o.1.len HK.o hz;omega⟩
       have hb:aO g.nodes*(2*(64*40))<=192*5248:=Nat.mul_le_mul HN.o (by omega);exact⟨pu,nu,qu,rfl,e1,by omega,by rw[e1]at e2⊢;exact aJ (E:=EC) e2,fun k e=>(e2.lt k e).1,e3⟩
      go_wp2_with fail;refine Qd.mono ?_;clear Qd;rintro r xY ⟨pu,nu,qu,rfl,h11⟩;obtain⟨u1,u2,u3,u4,u5⟩:=h11.o;obtain⟨U,hU⟩:=aD (nV (aO g.nodes) (fun _=>[]) FA);rw[<-hU]at u1 u3;have HU:Hid (U=nV (aO g.nodes) (fun _=>[]) FA/\nu=U.length):=⟨hU,u1⟩;have H11:Hid (∃s t,Os w6 tB g R rb rc l l.reverse F2 U2 s p n q xY t/\(∀z u,eP s (z,u)+eP ((U.take 0).map ck) (z,u)=if 0<=z/\z<(aO g.nodes:Int)then dn [] (FA z.toNat) u else 0)/\Ls EC xY (.slice pu nu qu) U/\∀k,(Value.slice pu nu qu).ownBlock=some k->t k=5):=⟨s0,_,TJ.o.below HK.o u5 5,fun z u=>by rw[tZ,List.map_nil,jl,HV.o.1];omega,u3,fun k e=>aR (u4 k e)⟩
      clear h11 u1 u3 u4 u5 hU TJ;go_wp2_with fail;go_loopw [13,116] (fun s13 VB wx=>∃(j:Nat) (p:Option Addr) (n q:Nat),j<=nu/\s13= .slice p n q/\VB= .int .i64 (j:Nat)/\n<=80000000+j/\Hid (∃s t,Os w6 tB g R rb rc l l.reverse F2 U2 s p n q wx t/\(∀z u,eP s (z,u)+eP ((U.take j).map ck) (z,u)=if 0<=z/\z<(aO g.nodes:Int)then dn [] (FA z.toNat) u else 0)/\Ls EC wx (.slice pu nu qu) U/\∀k,(Value.slice pu nu qu).ownBlock=some k->t k=5)) (fun _ VB _=>nu-(intOf VB).toNat)
      case atStart=>exact⟨0,p,n,q,zL _,rfl,rfl,by omega,H11.o⟩
      case round=>
       clear H11;obtain⟨j,p,n,q,hj,rfl,rfl,hn,HJ⟩:=hrel;rename World=>wx;have hj0:(0:Int)<=(j:Int):=(by omega);by_cases hjl:j<nu
       ·have hjz:(j:Int)<(nu:Int):=(by omega);obtain⟨u,hu⟩:∃u,U[j]? =some u:=⟨U[j]'(by have:=HU.o.2;omega),by simp⟩;have HUJ:=hid hu;obtain⟨b2,o2,q2,ui,z1,x0,x1,x2,x3,x4⟩:=sw (show Ls EC wx (.slice pu nu qu) U from by obtain⟨s,t,-,-,k3,-⟩:=HJ.o;exact k3) hu;simp only[vS]at ui;obtain⟨rfl,-,-⟩:=ui;have HZ1:=hid z1;clear hu;obtain⟨b12,jv⟩:=aD (wx.heap.size);obtain⟨yh,qa⟩:=aD (wx.alloc (.cells (cc u) 49));have xW:Hid (Below wx.heap.size wx yh/\yh.heap[b12]? =some (.cells (cc u) 49 (0,0))):=by
         rw[qa,jv];exact⟨((Gr.refl wx).alloc _).below,ai _ _⟩
        have qm:Hid (wx.alloc (.cells #[.int .i64 u.1, .int .u64 u.2.1.1.1, .int .u64 u.2.1.1.2.1, .int .u64 u.2.1.1.2.2, .int .i64 u.2.2] 49)=yh/\wx.heap.size=b12):=⟨qa.symm,jv.symm⟩;clear qa jv;have hone:Hid (∀d∈U,d.2.2= -1\/d.2.2=1):=by
         show ∀d∈U,_;rw[HU.o.1];exact LQ (fun _ _=> .nil) fun p hp=>HV.o.2 p hp
        have hux:=hone.o u (lM HUJ.o);have hwn:wrap64 (-u.2.2)= -u.2.2:=(by unfold wrap64;omega);have hpl:Calls Tryz.prog 20 #[.slice p n q, .agg #[.int .i64 u.1, .int .u64 u.2.1.1.1, .int .u64 u.2.1.1.2.1, .int .u64 u.2.1.1.2.2, .int .i64 (-u.2.2)]] yh fun e w'=>∃p' n' q',e= .returned (.slice p' n' q')/\n'<=n+1/\Hid (∃s t,Os w6 tB g R rb rc l l.reverse F2 U2 s p' n' q' w' t/\(∀z u,eP s (z,u)+eP ((U.take (j+1)).map ck) (z,u)=if 0<=z/\z<(aO g.nodes:Int)then dn [] (FA z.toNat) u else 0)/\Ls EC w' (.slice (some ⟨b2,o2,none⟩) nu qu) U/\∀k,(Value.slice (some ⟨b2,o2,none⟩) nu qu).ownBlock=some k->t k=5):=by
         obtain⟨s,t,k1,k2,k3,k4⟩:=HJ.o;have k1':=k1.below HK.o xW.o.1 4;have Ot:∀d∈(U.take j).map ck,d.2= -1\/d.2=1:=fun d hd=>by
          obtain⟨y,hy,rfl⟩:=mM.1 hd;exact hone.o y (List.mem_of_mem_take hy)
         have hbs:∀d∈s,-1152921504606846976<=d.2/\d.2<=1152921504606846976:=fun d hd=>by
          have h1:=Fu k1.nd hd;have h2:=k2 d.1.1 d.1.2;have h3:=LH Ot (d.1.1,d.1.2);rw[fQ,lK]at h3;have h4: -1<=dn [] (FA d.1.1.toNat) d.1.2/\dn [] (FA d.1.1.toNat) d.1.2<=1:=by
           have e:¬d.1.2∈([]:List ah):=(by simp);unfold dn;rw[if_neg e];split<;>omega
          rw[show(d.1.1,d.1.2)=d.1 from rfl]at h2 h3;split at h2<;>omega
         have hns:=k1.nl;obtain⟨y,hy⟩:∃y:Th,y=(u.1,u.2.1,-u.2.2):=⟨_,rfl⟩;have key:=De yh (ck y) (l:=s) (by rw[<-hns];exact k1'.ow) k1'.kp.size (by omega) hbs (by rw[hy];exact⟨by show _<=-u.2.2;omega,by show -u.2.2<=_;omega⟩);rw[hy]at key;refine key.mono ?_;rw[<-hy];rintro e w' ⟨p',n',q',rfl,h⟩;obtain⟨h1,h2⟩:=k1'.plus HK.o h.o;have hbe:∀k,(Value.slice (some ⟨b2,o2,none⟩) nu qu).ownBlock=some k->k<wx.heap.size:=fun k e=>by
          have:b2=k:=oJ e;rw[<-this];exact HZ1.o
         have abb:=xW.o.1.size;refine⟨p',n',q',rfl, ?_,uW (ck y) s,_,h1,fun z v=> ?_,h2.ls (k3.below xW.o.1) fun k e1 e2=> ?_,fun k e=> ?_⟩
         ·have:=h1.nl;have:=IY (ck y) s;omega
         ·have h5:=k2 z v;rw[IX,tO,HUJ.o,zV,mr];show(_+_)+(_+eP [ck u] (z,v))=_;rw[ek,jl,hy];show(_+if (u.1,u.2.1)=(z,v)then -u.2.2 else 0)+(_+((if (u.1,u.2.1)=(z,v)then u.2.2 else 0)+0))=_
          split<;>omega
         ·have:=k1.tg k e2;have:=k4 k e1;omega
         ·have:=hbe k e;rw[aj (by omega),aj this];exact k4 k e
        go_upto_region 26 with fail;rw[qm.o.1,qm.o.2];clear qm x0 x1 x2 x3 x4 z1 HJ;have c12:=(aa xW.o.2).1;have Je:=ae xW.o.2;go_wp2_with fail;refine hpl.mono ?_;clear hpl c12 Je xW hwn;rintro r w13 ⟨p',n',q',rfl,hn',h13⟩;go_wp2_with fail;go_roundw;case rel=>exact⟨j+1,p',n',q',by omega,rfl,by go_num,by omega,h13.o⟩
        case measure=>simp[intOf];omega
       ·have hjz:¬(j:Int)<(nu:Int):=(by omega);have ej:j=U.length:=(by have:=HU.o.2;omega);have HZ:Hid (∃s t,Os w6 tB g R rb rc l l.reverse F2 U2 s p n q wx t/\∀d∈s,d.2=0):=by
         obtain⟨s,t,k1,k2,-⟩:=HJ.o;refine⟨s,t,k1,fun d hd=> ?_⟩;have h1:=Fu k1.nd hd;have h2:=k2 d.1.1 d.1.2;rw[ej,tK,HU.o.1,LP (fun _ _=> .nil) fun p hp=>HV.o.2 p hp,show(d.1.1,d.1.2)=d.1 from rfl]at h2;by_cases ez:0<=d.1.1/\d.1.1<(aO g.nodes:Int)
         ·rw[if_pos ez]at h2;omega
         ·rw[if_neg ez]at h2;omega
        clear HJ HU HV hjz;obtain⟨s,t,k1,k2⟩:=HZ.o;have HZS:Hid (n=s.length/\∀d∈s,d.2=0):=⟨k1.nl,k2⟩;have HZ0:Hid (∃t,Os w6 tB g R rb rc l l.reverse F2 U2 s p n q wx t):=⟨t,k1⟩;have Ur:n<=100000000:=(by omega);clear HZ k1 k2 hn hj ej;go_wp2_with fail;go_loopw [131] (fun VA wy=>∃i:Nat,i<=n/\VA= .int .i64 (i:Nat)/\Hid (∃t,Os w6 tB g R rb rc l l.reverse F2 U2 s p n q wy t)) (fun VA _=>n-(intOf VA).toNat);case atStart=>exact⟨0,zL _,rfl,HZ0.o⟩
        case round=>
         clear HZ0;obtain⟨i,hi,rfl,HI⟩:=hrel;rename World=>wy;have hi0:(0:Int)<=(i:Int):=(by omega);by_cases hil:i<n
         ·have hiz:(i:Int)<(n:Int):=(by omega);obtain⟨d,hd⟩:∃d,s[i]? =some d:=⟨s[i]'(by have:=HZS.o.1;omega),by simp⟩;obtain⟨b2,o2,q2,ui,z1,x0,x1,x2,x3,x4⟩:=Zt (show Ls EK wy (.slice p n q) s from by
           obtain⟨t,k⟩:=HI.o;have h:=k.ow;rw[HZS.o.1]at h⊢;exact aJ (E:=EK) h) hd
          simp only[vS]at ui;obtain⟨rfl,-,-⟩:=ui;have hd0:d.2=0:=HZS.o.2 d (lM hd);rw[hd0]at x4;clear hd hd0;obtain⟨b12,jv⟩:=aD (wy.heap.size);obtain⟨yh,qa⟩:=aD (wy.alloc (.cells #[.int .i64 d.1.1, .int .u64 d.1.2.1.1, .int .u64 d.1.2.1.2.1, .int .u64 d.1.2.1.2.2, .int .i64 0] 49));have xW:Hid (Below wy.heap.size wy yh/\yh.heap[b12]? =some (.cells #[.int .i64 d.1.1, .int .u64 d.1.2.1.1, .int .u64 d.1.2.1.2.1, .int .u64 d.1.2.1.2.2, .int .i64 0] 49 (0,0))):=by
           rw[qa,jv];exact⟨((Gr.refl wy).alloc _).below,ai _ _⟩
          have qm:Hid (wy.alloc (.cells #[.int .i64 d.1.1, .int .u64 d.1.2.1.1, .int .u64 d.1.2.1.2.1, .int .u64 d.1.2.1.2.2, .int .i64 0] 49)=yh/\wy.heap.size=b12):=⟨qa.symm,jv.symm⟩;have FIN:Hid (∃t,Os w6 tB g R rb rc l l.reverse F2 U2 s (some ⟨b2,o2,none⟩) n q yh t):=by
           obtain⟨t,k⟩:=HI.o;exact⟨_,k.below HK.o xW.o.1 4⟩
          clear qa jv HI;go_upto_region 31 with fail;rw[qm.o.1,qm.o.2];clear qm x0 x1 x2 x3 x4 z1;have c12:=(aa xW.o.2).1;have Je:=ae xW.o.2;go_wp2_with fail;go_roundw;case rel=>exact⟨i+1,by omega,by go_num,FIN.o⟩
          case measure=>simp[intOf];omega
         ·have hiz:¬(i:Int)<(n:Int):=(by omega);have BU:Hid (∀W,Kp (fun k=>gW 2 tB k\/gW 3 tB k) w6 W->Calls Tryz.prog 11 #[.pointer (some ⟨tb,0,none⟩)] W fun e w'=>e= .returned (.int .i64 (aO g.nodes:Nat))/\w'=W):=fun W hW=>Lf.dU W ((KP.o W hW).2.1).tv;have HFB:Hid (Calls Tryz.prog 21 #[.pointer (some ⟨ra,0,none⟩), .pointer (some ⟨rb,0,none⟩), .int .i64 (aO g.nodes:Nat)] wy fun e w'=>e= .returned (.bool true)/\Below wy.heap.size wy w'):=by
           obtain⟨t,k⟩:=HI.o;exact((KP.o wy k.kp).2.2.2).OV k.b HK.o rfl
          have hpl:=BU.o wy (by obtain⟨t,k⟩:=HI.o;exact k.kp);go_wp2_with fail;refine hpl.mono ?_;clear hpl;rintro r Yt ⟨rfl,ZJ⟩;have aa9:=ZJ.symm;subst aa9;clear ZJ;go_wp2_with fail;refine HFB.o.mono ?_;clear HFB;rintro r LF ⟨rfl,aan⟩;have HI2:Hid (∃t,Os w6 tB g R rb rc l l.reverse F2 U2 s p n q LF t):=by
           obtain⟨t,k⟩:=HI.o;exact⟨_,k.below HK.o aan 4⟩
          clear HI aan;have hpl:=BU.o LF (by obtain⟨t,k⟩:=HI2.o;exact k.kp);have HFC:Hid (Calls Tryz.prog 21 #[.pointer (some ⟨ra,0,none⟩), .pointer (some ⟨rc,0,none⟩), .int .i64 (aO g.nodes:Nat)] LF fun e w'=>e= .returned (.bool true)/\Below LF.heap.size LF w'):=by
           obtain⟨t,k⟩:=HI2.o;obtain⟨F3,U3,k3⟩:=k.c;exact((KP.o LF k.kp).2.2.2).OV k3 HK.o (XR l).symm
          go_wp2_with fail;refine hpl.mono ?_;clear hpl;rintro r Cb ⟨rfl,ZI⟩;have aa8:=ZI.symm;subst aa8;clear ZI;go_wp2_with fail;refine HFC.o.mono ?_;clear HFC;rintro r Cb ⟨rfl,OG⟩;have TI:Hid (∀W,Below Cb.heap.size Cb W->Ls EC W (.slice pl nl ql) l/\Cr B M W tb (aO g.nodes) R/\Below w.heap.size w W/\RI 1 W (Rc.tg tB Cb 4) ra g R l FA (nV (aO g.nodes) (fun _=>[]) FA)):=fun W hW=>by
           obtain⟨t,k⟩:=HI2.o;have hk2:=k.kp.trans (Kp.of_below (S:=fun _=>False) (OG.trans (hW.mono OG.size))) fun _ _ e=>e.elim;have hk1:=k.kp.trans (Kp.of_below (S:=fun _=>False) OG) fun _ _ e=>e.elim;obtain⟨a1,a2,a3,a4⟩:=KP.o W hk2;exact⟨a1,a2,a3,((KP.o Cb hk1).2.2.2).below HK.o hW fun k hk=>aj hk⟩
          have abM:Hid (w5.heap.size<=Cb.heap.size):=by
           obtain⟨t,k⟩:=HI2.o;exact nT HSZ.o (nT k.kp.size OG.size)
          clear OG HI2 BU KP;go_wp2_with fail;go_loopw [21,155] (fun Zh Vz wz=>∃(i:Nat) (p:Option Addr) (q:Nat),i<=nl/\Zh= .slice p i q/\Vz= .int .i64 (i:Nat)/\Hid (Below Cb.heap.size Cb wz/\wz.ownsRow Cb.heap.size 49 5 (.slice p i q) i (fl EC (zf (l.take i))))) (fun _ Vz _=>nl-(intOf Vz).toNat);case atStart=>exact⟨0,none,0,zL _,rfl,rfl,Below.refl _ _,oN _ _ _ _⟩
          case round=>
           obtain⟨i,p,q,hi,rfl,rfl,HI⟩:=hrel;rename World=>wz;have hi0:(0:Int)<=(i:Int):=(by omega);by_cases hil:i<nl
           ·have hiz:(i:Int)<(nl:Int):=(by omega);obtain⟨x,hx⟩:∃x,l[i]? =some x:=⟨l[i]'(by have:=HL.o.1;omega),by simp⟩;have HX:=hid hx;have hxl:=qF HL.o.2.2 x (lM hx);obtain⟨b2,o2,q2,ui,z1,x0,x1,x2,x3,x4⟩:=sw (TI.o wz HI.o.1).1 hx;simp only[vS]at ui;obtain⟨rfl,-,-⟩:=ui;clear hx;obtain⟨b12,jv⟩:=aD (wz.heap.size);obtain⟨yh,qa⟩:=aD (wz.alloc (.cells (cc x) 49));have xW:Hid (Below wz.heap.size wz yh/\yh.heap[b12]? =some (.cells (cc x) 49 (0,0))):=by
             rw[qa,jv];exact⟨((Gr.refl wz).alloc _).below,ai _ _⟩
            have qm:Hid (wz.alloc (.cells #[.int .i64 x.1, .int .u64 x.2.1.1.1, .int .u64 x.2.1.1.2.1, .int .u64 x.2.1.1.2.2, .int .i64 x.2.2] 49)=yh/\wz.heap.size=b12):=⟨qa.symm,jv.symm⟩;have YY:Hid (Below Cb.heap.size Cb yh/\yh.ownsRow Cb.heap.size 49 5 (.slice p i q) i (fl EC (zf (l.take i)))):=⟨HI.o.1.trans (xW.o.1.mono HI.o.1.size),ag HI.o.2 xW.o.1⟩;clear qa jv HI;go_upto_region 40 with fail;rw[qm.o.1,qm.o.2];clear qm x0 x1 x2 x3 x4 z1;have c12:=(aa xW.o.2).1;have Je:=ae xW.o.2;have hwn:wrap64 (-x.2.2)= -x.2.2:=(by unfold wrap64;omega);go_wp2_with (at_builtin;refine Fj rfl _ _ rfl Cb.heap.size (.slice p i q) i (fl EC (zf (l.take i))) rfl YY.o.2 YY.o.1.size (x.1,x.2.1,-x.2.2) (cc (x.1,x.2.1,-x.2.2)) rfl rfl (by omega) ?_);intro g9 Hz w9 h9 k9 n9;have FIN:Hid (Below Cb.heap.size Cb w9/\w9.ownsRow Cb.heap.size 49 5 (.slice (some ⟨g9,0,none⟩) (i+1) Hz) (i+1) (fl EC (zf (l.take (i+1))))):=by
             refine⟨YY.o.1.trans (k9.o.below YY.o.1.size fun k e=>(YY.o.2.lt k e).1), ?_⟩;have e:zf (l.take (i+1))=zf (l.take i)++[(x.1,x.2.1,-x.2.2)]:=by
              rw[tO,HX.o,Rt];rfl
             rw[e,aT,dx];exact h9.o
            clear h9 k9 n9 YY xW c12 Je hwn hxl;generalize hnn:i+1=i2 at FIN⊢;go_wp2_with fail;go_roundw;case rel=>exact⟨i2,some ⟨g9,0,none⟩,Hz,by omega,rfl,by rw[<-hnn];go_num,FIN.o⟩
            case measure=>simp[intOf];omega
           ·have hiz:¬(i:Int)<(nl:Int):=(by omega);have hin:i=nl:=(by omega);subst hin;have YU:Hid (l.take i=l/\(zf l).length=i):=by
             have:=HL.o.1;refine⟨by rw[this,tK], ?_⟩;unfold zf;rw[fQ,this]
            have hch:Calls Tryz.prog 10 #[.pointer (some ⟨ra,0,none⟩), .slice p i q] wz fun e w'=>e= .returned (.int .i64 0)/\Hid (ChI 1 wz (Rc.tg tB Cb 4) ra g R (l++zf l) FA w'):=by
             refine(TI.o wz HI.o.1).2.2.2.change HK.o (qF HL.o.2.2) (zf l) (.slice p i q) ?_ (fun x hx=> ?_) (by have:=HL.o.1;have:=YU.o.2;omega)
             ·have h:=HI.o.2;rw[YU.o.1]at h;rw[<-YU.o.2]at h⊢;exact aJ (E:=EC) h
             ·obtain⟨y,hy,rfl⟩:=mM.1 hx;exact QH (HL.o.2.2 y hy)
            go_wp2_with fail;refine hch.mono ?_;clear hch;rintro r Fs ⟨rfl,Xg⟩;obtain⟨tC,FC,a1,a2,a3⟩:=Xg.o;have OC:Hid (∀k,gW 1 (Rc.tg tB Cb 4) k->k<w5.heap.size->w.heap.size<=k/\¬(B<=k/\k<M)):=fun k e hk=>by
             have:=abM.o;unfold gW at e;rw[aj (by omega)]at e;obtain⟨q1,q2,-⟩:=OB.o 1 k (by decide) e hk;exact⟨q1,q2⟩
            have H24:Hid (∀W,Below Fs.heap.size Fs W->RI 1 W tC ra g R (l++zf l) FC (nV (aO g.nodes) FA FC)/\Cr B M W tb (aO g.nodes) R/\Below w.heap.size w W):=fun W hW=>by
             obtain⟨-,b1,b2,-⟩:=TI.o wz HI.o.1;have hk2:=a2.trans (Kp.of_below (S:=fun _=>False) hW) fun _ _ e=>e.elim;have hz:w.heap.size<=w5.heap.size:=((uB.o w5 H5.o.2.2.2.2.2.1).2.2).size;refine⟨a3.below HK.o hW fun _ _=>rfl,b1.kp hk2 fun k h1 h2 e=>(OC.o k e (by have:=HMW.o;have:=H5.o.2.2.2.2.2.2;omega)).2 ⟨h1,h2⟩,b2.trans (hk2.below b2.size fun k e=> ?_)⟩;by_cases z:k<w5.heap.size
             ·exact(OC.o k e z).1
             ·omega
            clear a1 a2 a3 Xg HI;have hcn:=((H24.o Fs (Below.refl _ _)).1).none HK.o (UD l);go_wp2_with fail;refine hcn.mono ?_;clear hcn;rintro r w25 ⟨p25,q25,rfl,aam⟩;have H25:Hid (Below Fs.heap.size Fs w25):=aam;clear aam;have HN:=hid HK.o.n;have BU:Hid (∀W,Below Fs.heap.size Fs W->Calls Tryz.prog 11 #[.pointer (some ⟨tb,0,none⟩)] W fun e w'=>e= .returned (.int .i64 (aO g.nodes:Nat))/\w'=W):=fun W hW=>Lf.dU W ((H24.o W hW).2.1).tv;have HFN:Hid (∀W (q:Nat),Below Fs.heap.size Fs W->q<aO g.nodes->Calls Tryz.prog 12 #[.pointer (some ⟨ra,0,none⟩), .int .i64 (q:Int)] W fun e w'=>∃p z,e= .returned (.slice p 0 z)/\Below W.heap.size W w'):=fun W q hW hq=>by
             have h:=(H24.o W hW).1;refine(h.front HK.o hq).mono ?_;rintro e w' ⟨p,n,z,rfl,e2,hb⟩;rw[h.gone (UD l) hq]at e2;rw[List.length_nil]at e2;subst e2;exact⟨p,z,rfl,hb⟩
            have rV:Hid (∀W,Below Fs.heap.size Fs W->Below w.heap.size w W):=fun W hW=>(H24.o W hW).2.2;clear H24 TI OC;generalize aO g.nodes=N at HN BU HFN;have hN:N<=192:=HN.o;go_wp2_with fail;go_loopw [24] (fun s24 wq=>∃q:Nat,q<=N/\s24= .int .i64 (q:Nat)/\Hid (Below Fs.heap.size Fs wq)) (fun s24 _=>N-(intOf s24).toNat);case atStart=>exact⟨0,zL _,rfl,H25.o⟩
            case round=>
             obtain⟨q,hq,rfl,HQ⟩:=hrel;rename World=>wq;have hpl:=BU.o wq HQ.o;by_cases RZ:q<N
             ·have hqz:(q:Int)<(N:Int):=(by omega);go_wp2_with fail;refine hpl.mono ?_;clear hpl;rintro r w26 ⟨rfl,Og⟩;have Wq:=Og.symm;subst Wq;clear Og;have hfn:=HFN.o wq q HQ.o RZ;go_wp2_with fail;refine hfn.mono ?_;clear hfn;rintro r w27 ⟨p27,z27,rfl,aal⟩;have FIN:Hid (Below Fs.heap.size Fs w27):=HQ.o.trans (aal.mono HQ.o.size);clear aal HQ;go_wp2_with fail;go_roundw;case rel=>exact⟨q+1,by omega,by go_num,FIN.o⟩
              case measure=>simp[intOf];omega
             ·have hqz:¬(q:Int)<(N:Int):=(by omega);go_wp2_with fail;refine hpl.mono ?_;clear hpl;rintro r w26 ⟨rfl,Og⟩;have Wq:=Og.symm;subst Wq;clear Og;go_wp2_with fail;go_ret;exact⟨rfl,rV.o _ HQ.o⟩
end Go.Proofs.YteekbpokkjjipaaGreat.Rc
