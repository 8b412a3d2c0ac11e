import Derived.Test.YtiiefcalkjeieaaGreatJ9
variable{a i o k z e t:Int}{M fw ff fc:Nat}{w:Go.World}{pI pO h:Bool}{r:Go.Ending}
set_option maxHeartbeats 8000000
set_option maxRecDepth 100000
namespace Go.Proofs.YtiiefcalkjeieaaGreat
namespace Df
open Go.RowKit Go.Sort
attribute[local go_sem ↓]wp_at_zero wp_at_succ
def JZ(i o a:Int)(l:List dN)(j:Nat)(c:dN):Prop:=(0<=c.dx/\c.dx<i)/\(0<=c.o/\c.o<o)/\bN c.via.1 c.via.2.1 c.via.2.2 a=0/\yT (l.take j) c=false
def Cf(i o a:Int)(l:List dN)(z:Int):Prop:=(z=0/\l.length<=16/\∀j c,l[j]? =some c->JZ i o a l j c)\/(z=23/\(16<l.length\/∃j c,l[j]? =some c/\¬JZ i o a l j c))
theorem za(k i o:Int)(cq:Option Addr)(cm cc:Nat)(via:ou)(bd:Nat)(dq:Option Addr)(dc:Nat)(st:Bool)(l:List dN)(a:Int)(w:World)(hL:Lz EC M w (.slice dq l.length dc) l)(hsz:l.length<=140737488351232)(hcap:l.length<=dc):CL 241 #[.agg (aQ k i o (.slice cq cm cc) via bd (.slice dq l.length dc) st),iV a] w fun r w'=>∃z:Int,r= .returned (iV z)/\Cf i o a l z/\Bw w w':=by
 have hmx:Tryz.prog.follows .mixedOrders=true:=by kernel_rfl
 have g0:=(Gr.refl w).alloc (.cells (aQ k i o (.slice cq cm cc) via bd (.slice dq l.length dc) st) 149);have HL:=hid (hL.below g0.below);have HB:=hid (ah w (.cells (aQ k i o (.slice cq cm cc) via bd (.slice dq l.length dc) st) 149));have B0:=hid g0.below;obtain⟨n,hn⟩:=aF (l.length);rw[<-hn]at HL HB B0⊢;have HN:=hid hn;have hcap:n<=dc:=by omega
 have hsz:n<=140737488351232:=by omega
 obtain⟨W0,hW0⟩:=aF (w.alloc (.cells (aQ k i o (.slice cq cm cc) via bd (.slice dq n dc) st) 149));have HW:Hid (w.alloc (.cells #[iV k,iV i,iV o, .slice cq cm cc,uV (via.1:Nat),uV (via.2.1:Nat),uV (via.2.2:Nat),uV (bd:Nat), .slice dq n dc, .bool st] 149)=W0):=hW0.symm;rw[<-hW0]at HL HB B0;have c0:=(aa HB.o).1;have l0:=ae HB.o;clear hL g0 hW0 hn;by_cases h16:16<n
 ·have hz:(16:Int)<(n:Int):=by omega
  have HF:Hid (Cf i o a l 23):=Or.inr ⟨rfl,Or.inl (by have:=HN.o;omega)⟩;clear h16;go_enter Tryz.func241,Tryz.ntmps241;go_upto_region 1 with fail;rw[HW.o];go_wp2_with fail;go_ret;exact⟨23,rfl,HF.o,B0.o⟩
 ·have hz:¬(16:Int)<(n:Int):=by omega
  have yL:=hid h16;clear h16;go_enter Tryz.func241,Tryz.ntmps241;go_upto_region 1 with fail;rw[HW.o];clear HW;go_wp2_with fail;clear c0 l0;go_loopw [15] (fun s15 wr=>∃j:Nat,j<=n/\s15=iV (j:Nat)/\Hid (Bw W0 wr/\∀m c,m<j->l[m]? =some c->JZ i o a l m c)) (fun s15 _=>n-(intOf s15).toNat);case atStart=>exact⟨0,zL _,rfl,Below.refl _ _,fun m c hm=>by omega⟩
  case round=>
   obtain⟨j,hj,rfl,HI⟩:=hrel;by_cases hlt:j<n
   ·have hltz:(j:Int)<(n:Int):=(by omega);obtain⟨y,hy⟩:∃y,l[j]? =some y:=⟨l[j]'(by have:=HN.o;omega),by simp⟩;obtain⟨b1,o1,q1,gU,rY,x0,x1,x2,x3,x4⟩:=sS ((HL.o.below HI.o.1).ls hy) hy;simp only[vS]at gU;obtain⟨rfl,-,rfl⟩:=gU;have HY:=hid hy;clear hy;obtain⟨yb,hyb⟩:=aF (wr.heap.size);obtain⟨W5,bW⟩:=aF (wr.alloc (.cells (dh y) 205));have P5:Hid (Bw W0 W5/\W5.heap[yb]? =some (.cells (dh y) 205 (0,0))/\W5.heap[w.heap.size]? =some (.cells (aQ k i o (.slice cq cm cc) via bd (.slice (some ⟨b1,o1,none⟩) n dc) st) 149 (0,0))):=by
     have g5:=((Gr.refl wr).alloc (.cells (dh y) 205)).below;have h5:=HI.o.1.trans (g5.mono HI.o.1.size);rw[bW,hyb];exact⟨h5,ah _ _,(h5.block _ (ae HB.o)).trans HB.o⟩
    have ig:Hid (wr.alloc (.cells #[iV y.dx,iV y.o,uV (y.via.1:Nat),uV (y.via.2.1:Nat),uV (y.via.2.2:Nat)] 205)=W5/\wr.heap.size=yb):=⟨bW.symm,hyb.symm⟩;have cy:=(aa P5.o.2.1).1;have ly:=ae P5.o.2.1;have cn:=(aa P5.o.2.2).1;have ln:=ae P5.o.2.2;clear bW hyb;go_upto_region 6 with fail;rw[ig.o.1,ig.o.2];clear ig x0 x1 x2 x3 x4 rY;go_cut [7] (fun s7 w'=>∃t:Bool,s7= .bool t/\(t=true↔(0<=y.dx/\y.dx<i)/\(0<=y.o/\y.o<o))/\w'=W5);case first=>
     have h1:=fun W=>fQ y.dx i W;have h2:=fun W=>fQ y.o o W;cases e1:decide (0<=y.dx/\y.dx<i)with
     | false=>
      rw[e1]at h1;have E1:=hid (of_decide_eq_false e1);clear e1 h2;go_wp2_with fail;refine(h1 _).mono ?_;rintro r w1 ⟨rfl,rfl⟩;go_wp2_with fail;go_meet;exact⟨_,rfl,by have:=E1.o;simp;intros;omega,rfl⟩
     | true=>
      rw[e1]at h1;have E1:=hid (of_decide_eq_true e1);generalize e2:decide (0<=y.o/\y.o<o)=t2 at h2;have E2:Hid (t2=true↔(0<=y.o/\y.o<o)):=(by show _↔_;rw[<-e2];simp);clear e1 e2;go_wp2_with fail;refine(h1 _).mono ?_;rintro r w1 ⟨rfl,rfl⟩;go_wp2_with fail;refine(h2 _).mono ?_;rintro r w1 ⟨rfl,rfl⟩;go_wp2_with fail;go_meet;exact⟨t2,rfl,⟨fun h=>⟨E1.o,E2.o.1 h⟩,fun h=>E2.o.2 h.2⟩,rfl⟩
    case rest=>
     obtain⟨t,rfl,ht,rfl⟩:=hcut;have HT:=hid ht;clear ht cy ly cn ln;have hj0:(0:Int)<=(j:Int):=(by omega);have hjc:(j:Int)<=(dc:Int):=(by omega);go_upto_region 7 with fail;have hS0:Bw wc wc.drew:=(Gr.refl _).drew.below;have Da:Hid (Bw w wc):=B0.o.trans (P5.o.1.mono B0.o.size);cases t with
     | false=>
      have HF:Hid (Cf i o a l 23):=by
       refine Or.inr ⟨rfl,Or.inr ⟨j,y,HY.o,fun h=> ?_⟩⟩;have:=HT.o.2 ⟨h.1,h.2.1⟩;cases this
      refine ay (S:=fun W=>Bw wc W) (D:=[]) hmx ?_;refine' ak 0 hS0 ?_;refine' ak 1 hS0 ?_;refine' ak 2 hS0 ?_;refine' eU 3 hS0 ?_;refine' eU 4 hS0 ?_;refine' eU 5 hS0 ?_;refine' eU 6 hS0 ?_;refine' eU 7 hS0 ?_;refine' ak 8 hS0 ?_;refine' ak 9 hS0 ?_;refine' eU 10 hS0 ?_;refine' eU 11 hS0 ?_;refine' eU 12 hS0 ?_;refine' eU 13 hS0 ?_;refine' eU 14 hS0 ?_;refine' eU 15 hS0 ?_;refine' ak 16 hS0 ?_;refine av (by kernel_rfl) ?_ _;have B9:=hid (Da.o.trans (hS0.mono Da.o.size));clear hS0;go_wp2_with fail;go_ret;exact⟨23,rfl,HF.o,B9.o⟩
     | true=>
      have hfi:=fun W=>zI y.via a W;generalize htf:bN (y.via.1:Nat) (y.via.2.1:Nat) (y.via.2.2:Nat) a=tf at hfi;have HTF:=hid htf;clear htf;by_cases hf0:tf=0
      ·subst hf0;have LT:Hid (∀W,Bw wc W->Lz EC W.heap.size W (.slice (some ⟨b1,o1,none⟩) j dc) (l.take j)):=fun W hb=>by
        have h5:=P5.o.1.trans (hb.mono P5.o.1.size);have h6:=(HL.o.below h5).ls HY.o;have h7:=h6.cut (k:=j) (by have:=HN.o;omega) dc;exact Or.inl ⟨h7,h7.blk⟩
       have hct:=fun W (hb:Bw wc W)=>uT y W (LT.o W hb) (by rw[lK];omega);generalize hin:yT (l.take j) y=ii at hct;have uJ:=hid hin;clear hin;refine ay (S:=fun W=>Bw wc W) (D:=[]) hmx ?_;refine' ak 0 hS0 ?_;refine' ak 1 hS0 ?_;refine' ak 2 hS0 ?_;refine' ak 3 hS0 ?_;refine' bD 4 hS0 ?h ?_;case h=>(intro W hSw;have hb:=(hSw.block _ (ae P5.o.2.1)).trans P5.o.2.1;have hc:=(aa hb).1;have hl:=ae hb;go_simp;try(with_reducible rfl))
       refine' ak 5 hS0 ?_;refine wpC 6 (hfi _) ?_;rintro r w9 ⟨rfl,g9⟩;have jJ:Bw wc w9:=hS0.trans (g9.below.mono hS0.size);clear g9;refine⟨_,rfl,jJ, ?_⟩;refine' ak 7 jJ ?_;refine' ak 8 jJ ?_;refine' ak 9 jJ ?_;refine' ak 10 jJ ?_;refine' bD 11 jJ ?h ?_;case h=>(intro W hSw;have hb:=(hSw.block _ (ae P5.o.2.2)).trans P5.o.2.2;have hc:=(aa hb).1;have hl:=ae hb;go_simp;try(with_reducible rfl))
       refine' ak 12 jJ ?_;refine' ak 13 jJ ?_;refine' bD 14 jJ ?h ?_;case h=>(intro W hSw;have hb:=(hSw.block _ (ae P5.o.2.1)).trans P5.o.2.1;have hc:=(aa hb).1;have hl:=ae hb;go_simp;try(with_reducible rfl))
       refine wpC 15 (hct _ jJ) ?_;rintro r eF ⟨rfl,b10⟩;have rF:Bw wc eF:=jJ.trans (b10.mono jJ.size);clear b10;refine⟨_,rfl,rF, ?_⟩;refine' ak 16 rF ?_;refine av (by kernel_rfl) ?_ _;have B9:=hid (Da.o.trans (rF.mono Da.o.size));have B8:=hid (P5.o.1.trans (rF.mono P5.o.1.size));clear hS0 jJ rF hct;cases ii with
       | true=>
        have HF:Hid (Cf i o a l 23):=Or.inr ⟨rfl,Or.inr ⟨j,y,HY.o,fun h=>by have h1:=h.2.2.2;rw[uJ.o]at h1;cases h1⟩⟩;go_wp2_with fail;go_ret;exact⟨23,rfl,HF.o,B9.o⟩
       | false=>
        go_wp2_with fail;go_roundw;case rel=>
         refine⟨j+1,by omega,by go_num,B8.o,fun m c hm hc=> ?_⟩;by_cases hmj:m<j
         ·exact HI.o.2 m c hmj hc
         ·obtain rfl:m=j:=(by omega);rw[HY.o]at hc;cases hc;have h:=HT.o.1 (by simp);exact⟨h.1,h.2,HTF.o,uJ.o⟩
        case measure=>simp[intOf];omega
      ·have hb0:(tf==0)=false:=(by simp[hf0]);have hb1:(tf != 0)=true:=(by simp[hf0]);have HF:Hid (Cf i o a l 23):=Or.inr ⟨rfl,Or.inr ⟨j,y,HY.o,fun h=>hf0 (HTF.o ▸ h.2.2.1)⟩⟩;clear hf0;refine ay (S:=fun W=>Bw wc W) (D:=[]) hmx ?_;refine' ak 0 hS0 ?_;refine' ak 1 hS0 ?_;refine' ak 2 hS0 ?_;refine' ak 3 hS0 ?_;refine' bD 4 hS0 ?h ?_;case h=>(intro W hSw;have hb:=(hSw.block _ (ae P5.o.2.1)).trans P5.o.2.1;have hc:=(aa hb).1;have hl:=ae hb;go_simp;try(with_reducible rfl))
       refine' ak 5 hS0 ?_;refine wpC 6 (hfi _) ?_;rintro r w9 ⟨rfl,g9⟩;have jJ:Bw wc w9:=hS0.trans (g9.below.mono hS0.size);clear g9;refine⟨_,rfl,jJ, ?_⟩;refine' ak 7 jJ ?_;refine' ak 8 jJ ?_;refine' ak 9 jJ ?_;refine' eU 10 jJ ?_;refine' eU 11 jJ ?_;refine' eU 12 jJ ?_;refine' eU 13 jJ ?_;refine' eU 14 jJ ?_;refine' eU 15 jJ ?_;refine' ak 16 jJ ?_;refine av (by kernel_rfl) ?_ _;have B9:=hid (Da.o.trans (jJ.mono Da.o.size));clear hS0 jJ;go_wp2_with fail;go_ret;exact⟨23,rfl,HF.o,B9.o⟩
   ·have hltz:¬(j:Int)<(n:Int):=(by omega);have HF:Hid (Cf i o a l 0):=Or.inl ⟨rfl,by have:=HN.o;have:=yL.o;omega,fun m c hm=>HI.o.2 m c (by have h:=(lG.1 hm).1;have:=HN.o;omega) hm⟩;go_wp2_with fail;go_ret;exact⟨0,rfl,HF.o,B0.o.trans (HI.o.1.mono B0.o.size)⟩
abbrev JP(f b:Nat):Value:= .func (.func f) #[] #[.pointer (some ⟨b,0,none⟩)]
abbrev yY(f:Nat):Value:= .func (.func f) #[] #[]
structure Ks(F1 F2 fw ff fc:Nat)(i o:Int)(pI pO:Bool)(w:World)(r:Ending)(w':World):Prop where
 ex:∃b1 b2:Nat,r= .returned (.tuple #[.agg #[JP F1 b1,JP F2 b2,yY fw,yY ff,yY fc], .bool true])/\Bw w w'/\(∀W,Bw w' W->CL F1 #[iV i,aB b1] W fun r w2=>r= .returned (.bool pI)/\w2=W)/\(∀W,Bw w' W->CL F2 #[iV o,aB b2] W fun r w2=>r= .returned (.bool pO)/\w2=W)
def Nz(pI pO h:Bool)(PF:Int->Prop)(z:Int):Prop:=(¬(pI=true/\pO=true)/\z=21)\/(pI=true/\pO=true/\h=true/\z=22)\/(pI=true/\pO=true/\h=false/\PF z)
theorem jT{cq:Option Addr}{cm cc:Nat}{via:ou}{bd:Nat}{dq:Option Addr}{dm dc:Nat}{st:Bool}{F1 F2:Nat}{cq':Option Addr}{cm' cc':Nat}{Rv:ou}{bd':Nat}{dq':Option Addr}{dm' dc':Nat}{st':Bool}{PF:Int->Prop}
    (e1:∀args w,(callFunc F1 args).run Tryz.prog w= .ok (.enter F1 args) w) (e2:∀args w,(callFunc F2 args).run Tryz.prog w= .ok (.enter F2 args) w) (e3:∀args w,(callFunc fw args).run Tryz.prog w= .ok (.enter fw args) w) (e4:∀args w,(callFunc ff args).run Tryz.prog w= .ok (.enter ff args) w)
    (hK:∀W,CL 173 #[iV k] W (Ks F1 F2 fw ff fc i o pI pO W))
    (hW:∀W,CL fw #[.agg (aQ k i o (.slice cq cm cc) via bd (.slice dq dm dc) st)] W fun r w'=>r= .returned (.agg (aQ k i o (.slice cq' cm' cc') Rv bd' (.slice dq' dm' dc') st'))/\Bw W w')
    (hF:∀W,Bw w W->CL ff #[.agg (aQ k i o (.slice cq cm cc) via bd (.slice dq dm dc) st),iV a] W fun r w'=>∃z:Int,r= .returned (iV z)/\PF z/\Bw W w') :
    CL 109 #[.agg (aQ k i o (.slice cq cm cc) via bd (.slice dq dm dc) st),iV a] w fun r w'=>∃z:Int,r= .returned (iV z)/\Nz pI pO (has cm' Rv bd' dm' st') PF z/\Bw w w':=by
 have B0:=hid ((Gr.refl w).alloc (.cells (aQ k i o (.slice cq cm cc) via bd (.slice dq dm dc) st) 149)).below;have N0:=hid (ah w (.cells (aQ k i o (.slice cq cm cc) via bd (.slice dq dm dc) st) 149));obtain⟨W0,hW0⟩:=aF (w.alloc (.cells (aQ k i o (.slice cq cm cc) via bd (.slice dq dm dc) st) 149));have HW:Hid (w.alloc (.cells #[iV k,iV i,iV o, .slice cq cm cc,uV (via.1:Nat),uV (via.2.1:Nat),uV (via.2.2:Nat),uV (bd:Nat), .slice dq dm dc, .bool st] 149)=W0):=hW0.symm;rw[<-hW0]at B0 N0;clear hW0;have c0:=(aa N0.o).1;have l0:=ae N0.o;go_enter Tryz.func109,Tryz.ntmps109;go_upto_region 1 with fail;rw[HW.o];clear HW;go_wp2_with fail;refine(hK _).mono ?_;rintro r w1 ⟨b1,b2,rfl,b,h1,h2⟩;have B1:=hid (B0.o.trans (b.mono B0.o.size));have N1:=hid ((b.block _ l0).trans N0.o);have H1:=hid h1;have H2:=hid h2;obtain⟨kb,hkb⟩:=aF (w1.heap.size);obtain⟨W2,hW2⟩:=aF (w1.alloc (.cells #[JP F1 b1,JP F2 b2,yY fw,yY ff,yY fc] 275));have P2:Hid (Bw w1 W2/\Bw w W2/\W2.heap[w.heap.size]? =some (.cells (aQ k i o (.slice cq cm cc) via bd (.slice dq dm dc) st) 149 (0,0))/\W2.heap[kb]? =some (.cells #[JP F1 b1,JP F2 b2,yY fw,yY ff,yY fc] 275 (0,0))):=by
  have g:=((Gr.refl w1).alloc (.cells #[JP F1 b1,JP F2 b2,yY fw,yY ff,yY fc] 275)).below;rw[hW2,hkb];exact⟨g,B1.o.trans (g.mono B1.o.size),(g.block _ (ae N1.o)).trans N1.o,ah _ _⟩
 have HW2:Hid (w1.alloc (.cells #[.func (.func F1) #[] #[aB b1], .func (.func F2) #[] #[aB b2], .func (.func fw) #[] #[], .func (.func ff) #[] #[], .func (.func fc) #[] #[]] 275)=W2/\w1.heap.size=kb):=⟨hW2.symm,hkb.symm⟩;clear c0 l0 b hK h1 h2 hW2 hkb;go_upto_region 2 with fail;rw[HW2.o.1,HW2.o.2];have c2:=(aa P2.o.2.2.1).1;have l2:=ae P2.o.2.2.1;have k2:=(aa P2.o.2.2.2).1;have m2:=ae P2.o.2.2.2;have q1:=H1.o W2 P2.o.1;have q2:=H2.o W2 P2.o.1;clear HW2;cases pI with
 | false=>
  go_wp2_with fail;refine q1.mono ?_;rintro r w3 ⟨rfl,rfl⟩;go_wp2_with fail;go_ret;exact⟨21,rfl,Or.inl ⟨by simp,rfl⟩,P2.o.2.1⟩
 | true=>
  cases pO with
  | false=>
   go_wp2_with fail;refine q1.mono ?_;rintro r w3 ⟨rfl,rfl⟩;go_wp2_with fail;refine q2.mono ?_;rintro r w3 ⟨rfl,rfl⟩;go_wp2_with fail;go_ret;exact⟨21,rfl,Or.inl ⟨by simp,rfl⟩,P2.o.2.1⟩
  | true=>
   have hh:=fun W=>yV k i o cq' cm' cc' Rv bd' dq' dm' dc' st' W;cases eh:has cm' Rv bd' dm' st' with
   | true=>
    rw[eh]at hh;have HE:=hid eh;clear eh;go_wp2_with fail;refine q1.mono ?_;rintro r w3 ⟨rfl,rfl⟩;go_wp2_with fail;refine q2.mono ?_;rintro r w3 ⟨rfl,rfl⟩;go_wp2_with fail;refine(hW _).mono ?_;rintro r w3 ⟨rfl,b3⟩;go_wp2_with fail;refine(hh _).mono ?_;rintro r w4 ⟨rfl,b4⟩;have B4:=hid (P2.o.2.1.trans ((b3.trans (b4.mono b3.size)).mono P2.o.2.1.size));clear b3 b4;go_wp2_with fail;go_ret;exact⟨22,rfl,Or.inr (Or.inl ⟨rfl,rfl,HE.o,rfl⟩),B4.o⟩
   | false=>
    rw[eh]at hh;have HE:=hid eh;clear eh;go_wp2_with fail;refine q1.mono ?_;rintro r w3 ⟨rfl,rfl⟩;go_wp2_with fail;refine q2.mono ?_;rintro r w3 ⟨rfl,rfl⟩;go_wp2_with fail;refine(hW _).mono ?_;rintro r w3 ⟨rfl,b3⟩;go_wp2_with fail;refine(hh _).mono ?_;rintro r w4 ⟨rfl,b4⟩;have b5:=b3.trans (b4.mono b3.size);have B4:=hid (P2.o.2.1.trans (b5.mono P2.o.2.1.size));have c4:=(aa ((b5.block _ l2).trans P2.o.2.2.1)).1;have l4:=ae ((b5.block _ l2).trans P2.o.2.2.1);have k4:=(aa ((b5.block _ m2).trans P2.o.2.2.2)).1;have m4:=ae ((b5.block _ m2).trans P2.o.2.2.2);have q4:=hF w4 B4.o;clear b3 b4 b5 q1 q2 hF hh c2 l2 k2 m2;go_wp2_with fail;refine q4.mono ?_;rintro r w6 ⟨z,rfl,hz,b6⟩;have B6:=hid (B4.o.trans (b6.mono B4.o.size));clear b6 q4;go_wp2_with fail;go_ret;exact⟨z,rfl,Or.inr (Or.inr ⟨rfl,rfl,HE.o,hz⟩),B6.o⟩
def cok(i o a:Int)(l:List dN):Bool:=decide (l.length<=16)&&(List.range l.length).all fun j=>match l[j]? with|some c=>decide ((0<=c.dx/\c.dx<i)/\(0<=c.o/\c.o<o)/\bN c.via.1 c.via.2.1 c.via.2.2 a=0/\yT (l.take j) c=false)|none=>true
theorem vM{l:List dN}:cok i o a l=true↔l.length<=16/\∀j c,l[j]? =some c->JZ i o a l j c:=by
 unfold cok;rw[bA,dE,List.all_eq_true];refine and_congr_right fun _=>⟨fun h j c hj=> ?_,fun h j hj=> ?_⟩
 ·have:=h j (mR.2 (lG.1 hj).1);rw[hj]at this;simp only[dE]at this;exact this
 ·obtain⟨c,hc⟩:∃c,l[j]? =some c:=⟨l[j]'(mR.1 hj),by simp⟩;rw[hc];simp only[dE];exact h j c hc
theorem aaS{l:List dN}(h:Cf i o a l z):z=if cok i o a l=true then 0 else 23:=by
 rcases h with⟨rfl,h⟩|⟨rfl,h⟩
 ·rw[if_pos (vM.2 h)]
 ·rw[if_neg];intro hc;obtain⟨h1,h2⟩:=vM.1 hc;rcases h with h|⟨j,c,hj,hn⟩
  ·omega
  ·exact hn (h2 j c hj)
def Jp(k i:Int):Bool:=if k=1 then decide (i=0)else if k=4 then decide (1<=i/\i<=4)else if k=8 then decide (0<=i/\i<=4)else decide (i=1)
def q8(k o:Int):Bool:=if k=7 then decide (o=0)else if k=8 then decide (0<=o/\o<=4)else decide (o=1)
def uQ(n:dC):Bool:=has (if n.kind=2\/n.kind=3 then 0 else n.code.length) (if n.kind=5 then(0,0,0)else n.via) (if n.kind=5 then 0 else n.bound) (if n.kind=8 then 0 else n.bV.length) (if n.kind=8 then false else n.start)
def jS(a:Int)(n:dC):Int:=if n.kind=2\/n.kind=3 then(if 16<n.code.length then 24 else 0)else if n.kind=5 then(if 64<n.bound\/bN n.via.1 n.via.2.1 n.via.2.2 a≠0 then 22 else 0)else if n.kind=8 then(if cok n.ins n.outs a n.bV=true then 0 else 23)else 0
def eP(a:Int)(n:dC):Int:=if n.kind<1\/8<n.kind then 20 else if ¬(Jp n.kind n.ins=true/\q8 n.kind n.outs=true)then 21 else if uQ n=true then 22 else jS a n
abbrev fI(u:Bool):Nat:=if u then 265 else 264
abbrev pU(u:Bool)(least i:Int):Bool:=if u then decide (least<=i/\i<=4)else decide (i=least)
theorem EU(u:Bool):∀args w,(callFunc (fI u) args).run Tryz.prog w= .ok (.enter (fI u) args) w:=by
 cases u
 ·exact enters_of Tryz.func264 (by kernel_rfl) rfl
 ·exact enters_of Tryz.func265 (by kernel_rfl) rfl
theorem JU(u:Bool)(least i:Int)(b:Nat)(w:World)(h:w.heap[b]? =some (.cells #[iV least] 3 (0,0))):CL (fI u) #[iV i,aB b] w fun r w'=>r= .returned (.bool (pU u least i))/\w'=w:=by
 cases u
 ·exact KP least i b w h
 ·exact Dk least i b w h
theorem rA{w':World}{uI uO:Bool}{i0 o0:Int}(h:Kd w uI i0 uO o0 fw ff fc r w'):Ks (fI uI) (fI uO) fw ff fc i o (pU uI i0 i) (pU uO o0 o) w r w':=by
 obtain⟨b1,b2,hr,hb,h1,h2⟩:=h;refine⟨b1,b2, ?_,hb,fun W hW=>JU uI i0 i b1 W ((hW.block _ (ae h1)).trans h1),fun W hW=>JU uO o0 o b2 W ((hW.block _ (ae h2)).trans h2)⟩;rw[hr];cases uI<;>cases uO<;>rfl
theorem ZV{PF:Int->Prop}{n:dC}(hk:n.kind=k)(hr:1<=k/\k<=8)(hI:pI=Jp k n.ins)(hO:pO=q8 k n.outs)(hh:h=uQ n)(hF:∀z,PF z->z=jS a n)(hz:Nz pI pO h PF z):z=eP a n:=by
 unfold eP;rw[if_neg (by omega),hk,<-hI,<-hO,<-hh];rcases hz with⟨h1,rfl⟩|⟨h1,h2,h3,rfl⟩|⟨h1,h2,h3,h4⟩
 ·rw[if_pos h1]
 ·rw[if_neg (by simp[h1,h2]),if_pos h3]
 ·rw[if_neg (by simp[h1,h2]),if_neg (by simp[h3])];exact hF z h4
theorem nD{B:Prop}{PF:Int->Prop}(n:dC)(a:Int)(hk:n.kind=k)(hr:1<=k/\k<=8)(hI:pI=Jp k n.ins)(hO:pO=q8 k n.outs)(hh:h=uQ n)(hF:∀z,PF z->z=jS a n)(hz:∃z:Int,r= .returned (iV z)/\Nz pI pO h PF z/\B):r= .returned (iV (eP a n))/\B:=by
 obtain⟨z,h1,h2,h3⟩:=hz;exact⟨by rw[h1,ZV hk hr hI hO hh hF h2],h3⟩
theorem yS(k i o:Int)(cq:Option Addr)(cm cc:Nat)(via:ou)(bd:Nat)(dq:Option Addr)(dm dc:Nat)(st:Bool)(a:Int)(hk:k<1\/8<k)(w:World):CL 109 #[.agg (aQ k i o (.slice cq cm cc) via bd (.slice dq dm dc) st),iV a] w fun r w'=>r= .returned (iV 20)/\Bw w w':=by
 have h:=fun W=>KO k hk W;clear hk;go_enter Tryz.func109,Tryz.ntmps109;go_wp2_with fail;refine(h _).mono ?_;rintro r w1 ⟨rfl,b1⟩;have B1:Hid (Bw w w1):=((Gr.refl w).alloc (.cells (aQ k i o (.slice cq cm cc) via bd (.slice dq dm dc) st) 149)).below.trans (b1.mono ((Gr.refl w).alloc (.cells (aQ k i o (.slice cq cm cc) via bd (.slice dq dm dc) st) 149)).size);clear b1;go_wp2_with fail;go_ret;exact⟨rfl,B1.o.trans (((Gr.refl w1).alloc _).below.mono B1.o.size)⟩
theorem BA(x:NV)(a:Int)(w:World)(hx:NR M w x)(hc:x.n.bV.length<=x.dc)(hs:x.n.bV.length<=140737488351232):CL 109 #[.agg x.cells,iV a] w fun r w'=>r= .returned (iV (eP a x.n))/\Bw w w':=by
 obtain⟨⟨k,i,o,cd,via,bd,cn,st⟩,cq,cm,cc,dq,dm,dc⟩:=x;obtain⟨_,_,h1⟩:=hx.code.form;obtain⟨_,_,h2⟩:=hx.bV.form;simp only[vS]at h1 h2 hc hs;obtain⟨-,rfl,-⟩:=h1;obtain⟨-,rfl,-⟩:=h2;have hL:=hx.bV;simp only at hL;by_cases hk:k<1\/8<k
 ·have:=yS k i o cq cd.length cc via bd dq cn.length dc st a hk w;have e:eP a ⟨k,i,o,cd,via,bd,cn,st⟩=20:=if_pos hk;simp only[e];exact this
 ·have e1:=EU false;have e2:=EU true;have ea:=enters_of (P:=Tryz.prog) Tryz.func231 (by kernel_rfl) rfl;have ec:=enters_of (P:=Tryz.prog) Tryz.func234 (by kernel_rfl) rfl;have eb:=enters_of (P:=Tryz.prog) Tryz.func237 (by kernel_rfl) rfl;have ed:=enters_of (P:=Tryz.prog) Tryz.func240 (by kernel_rfl) rfl;have fa:=enters_of (P:=Tryz.prog) Tryz.func232 (by kernel_rfl) rfl;have fc:=enters_of (P:=Tryz.prog) Tryz.func235 (by kernel_rfl) rfl;have fb:=enters_of (P:=Tryz.prog) Tryz.func238 (by kernel_rfl) rfl;have fd:=enters_of (P:=Tryz.prog) Tryz.func241 (by kernel_rfl) rfl;have all:∀W,CL 231 #[.agg (aQ k i o (.slice cq cd.length cc) via bd (.slice dq cn.length dc) st)] W _:=fun W=>Us k i o cq cd.length cc via bd dq cn.length dc st W;have nof:∀W,Bw w W->CL 232 #[.agg (aQ k i o (.slice cq cd.length cc) via bd (.slice dq cn.length dc) st),iV a] W fun r w'=>∃z:Int,r= .returned (iV z)/\z=0/\Bw W w':=fun W _=>(GM ⟨⟨k,i,o,cd,via,bd,cn,st⟩,cq,cd.length,cc,dq,cn.length,dc⟩ a W).mono fun r w' h=>⟨0,h.1,rfl,h.2⟩;have cof:∀W,Bw w W->CL 235 #[.agg (aQ k i o (.slice cq cd.length cc) via bd (.slice dq cn.length dc) st),iV a] W fun r w'=>∃z:Int,r= .returned (iV z)/\(z=if 16<cd.length then 24 else 0)/\Bw W w':=fun W _=>(Cw k i o cq cd.length cc via bd dq cn.length dc st a W).mono fun r w' h=>⟨_,h.1,rfl,h.2⟩;have byf:∀W,Bw w W->CL 238 #[.agg (aQ k i o (.slice cq cd.length cc) via bd (.slice dq cn.length dc) st),iV a] W fun r w'=>∃z:Int,r= .returned (iV z)/\(z=if 64<bd\/bN via.1 via.2.1 via.2.2 a≠0 then 22 else 0)/\Bw W w':=fun W _=>(IK k i o cq cd.length cc via bd dq cn.length dc st a W).mono fun r w' h=>⟨_,h.1,rfl,h.2⟩;have cnf:∀W,Bw w W->CL 241 #[.agg (aQ k i o (.slice cq cd.length cc) via bd (.slice dq cn.length dc) st),iV a] W fun r w'=>∃z:Int,r= .returned (iV z)/\(z=if cok i o a cn=true then 0 else 23)/\Bw W w':=fun W hb=>(za k i o cq cd.length cc via bd dq dc st cn a W (hL.below hb) hs hc).mono fun r w' h=>by
   obtain⟨z,h1,h2,h3⟩:=h;exact⟨z,h1,aaS h2,h3⟩
  have KS:k=1\/k=2\/k=3\/k=4\/k=5\/k=6\/k=7\/k=8:=by omega
  clear hk;rcases KS with rfl|rfl|rfl|rfl|rfl|rfl|rfl|rfl
  ·exact(jT e1 e1 ea fa (fun W=>(Ac W).mono fun _ _ h=>rA h) all nof).mono fun r w' h=>nD ⟨1,i,o,cd,via,bd,cn,st⟩ a rfl (by simp) (by simp[Jp,pU]) (by simp[q8,pU]) (by simp[uQ]) (by intro z h;simpa[jS]using h) h
  ·exact(jT e1 e1 ec fc (fun W=>(Ab W).mono fun _ _ h=>rA h) (fun W=>zn 2 i o cq cd.length cc via bd dq cn.length dc st W) cof).mono fun r w' h=>nD ⟨2,i,o,cd,via,bd,cn,st⟩ a rfl (by simp) (by simp[Jp,pU]) (by simp[q8,pU]) (by simp[uQ]) (by intro z h;simpa[jS]using h) h
  ·exact(jT e1 e1 ec fc (fun W=>(Aa W).mono fun _ _ h=>rA h) (fun W=>zn 3 i o cq cd.length cc via bd dq cn.length dc st W) cof).mono fun r w' h=>nD ⟨3,i,o,cd,via,bd,cn,st⟩ a rfl (by simp) (by simp[Jp,pU]) (by simp[q8,pU]) (by simp[uQ]) (by intro z h;simpa[jS]using h) h
  ·exact(jT e2 e1 ea fa (fun W=>(zZ W).mono fun _ _ h=>rA h) all nof).mono fun r w' h=>nD ⟨4,i,o,cd,via,bd,cn,st⟩ a rfl (by simp) (by simp[Jp,pU]) (by simp[q8,pU]) (by simp[uQ]) (by intro z h;simpa[jS]using h) h
  ·exact(jT e1 e1 eb fb (fun W=>(zY W).mono fun _ _ h=>rA h) (fun W=>Rp 5 i o cq cd.length cc via bd dq cn.length dc st W) byf).mono fun r w' h=>nD ⟨5,i,o,cd,via,bd,cn,st⟩ a rfl (by simp) (by simp[Jp,pU]) (by simp[q8,pU]) (by simp[uQ]) (by intro z h;simpa[jS]using h) h
  ·exact(jT e1 e1 ea fa (fun W=>(zX W).mono fun _ _ h=>rA h) all nof).mono fun r w' h=>nD ⟨6,i,o,cd,via,bd,cn,st⟩ a rfl (by simp) (by simp[Jp,pU]) (by simp[q8,pU]) (by simp[uQ]) (by intro z h;simpa[jS]using h) h
  ·exact(jT e1 e1 ea fa (fun W=>(zW W).mono fun _ _ h=>rA h) all nof).mono fun r w' h=>nD ⟨7,i,o,cd,via,bd,cn,st⟩ a rfl (by simp) (by simp[Jp,pU]) (by simp[q8,pU]) (by simp[uQ]) (by intro z h;simpa[jS]using h) h
  ·exact(jT e2 e2 ed fd (fun W=>(zV W).mono fun _ _ h=>rA h) (fun W=>F4 8 i o cq cd.length cc via bd dq cn.length dc st W) cnf).mono fun r w' h=>nD ⟨8,i,o,cd,via,bd,cn,st⟩ a rfl (by simp) (by simp[Jp,pU]) (by simp[q8,pU]) (by simp[uQ]) (by intro z h;simpa[jS]using h) h
def jB(ns:List dC)(i:Int):Option dC:=if 0<=i then ns[i.toNat]? else none
def fG(ns:List dC)(i p:Int):Bool:=match jB ns i with|some x=>decide (0<=p/\p<x.ins)|none=>false
def fF(ns:List dC)(i p:Int):Bool:=match jB ns i with|some x=>decide (0<=p/\p<x.outs)|none=>false
theorem BG(xs:List NV)(i:Int):jB (xs.map NV.n) i=(nat? xs i).map NV.n:=by
 unfold jB nat?;split<;>simp
theorem Et(xs:List NV)(i p:Int):yX xs i p=fG (xs.map NV.n) i p:=by
 unfold yX fG;rw[BG];cases nat? xs i<;>rfl
theorem Es(xs:List NV)(i p:Int):Ci xs i p=fF (xs.map NV.n) i p:=by
 unfold Ci fF;rw[BG];cases nat? xs i<;>rfl
def jG(ns:List dC)(l:List dR)(d:dR):Int:=if fF ns d.src d.o=false\/fG ns d.dst d.dx=false\/yw l d=true then 25 else match jB ns d.dst with|some y=>if y.kind=6/\d.keyed=false then 26 else 0|none=>0
theorem Lg(xs:List NV)(l:List dR)(d:dR):rO xs l d=jG (xs.map NV.n) l d:=by
 unfold rO jG;rw[Et,Es,BG];cases nat? xs d.dst<;>rfl
def NG(g:bG)(i:Nat):Prop:=∀j n,j<i->g.nodes[j]? =some n->eP g.arity n=0
def EG(g:bG)(i:Nat):Prop:=∀j d,j<i->g.aO[j]? =some d->jG g.nodes (g.aO.take j) d=0
inductive Fl (g:bG):Int->Int->Prop
 | arity:(g.arity<1\/3<g.arity)->Fl g 10 0
 | long:1<=g.arity->g.arity<=3->(24<g.nodes.length\/48<g.aO.length)->Fl g 2 0
 | node (i:Nat) (n:dC):1<=g.arity->g.arity<=3->g.nodes.length<=24->g.aO.length<=48->g.nodes[i]? =some n->NG g i->eP g.arity n≠0->Fl g (eP g.arity n) i
 | edge (i:Nat) (d:dR):1<=g.arity->g.arity<=3->g.nodes.length<=24->g.aO.length<=48->NG g g.nodes.length->g.aO[i]? =some d->EG g i->jG g.nodes (g.aO.take i) d≠0->Fl g (jG g.nodes (g.aO.take i) d) (g.nodes.length+i:Nat)
 | none:1<=g.arity->g.arity<=3->g.nodes.length<=24->g.aO.length<=48->NG g g.nodes.length->EG g g.aO.length->Fl g 0 0
structure ic(g:bG):Prop where
 a1:1<=g.arity
 a2:g.arity<=3
 nl:g.nodes.length<=24
 el:g.aO.length<=48
 ng:NG g g.nodes.length
 eg:EG g g.aO.length
theorem Fl.ok{g:bG}(h:Fl g e t):e=0↔ic g:=by
 cases h with
 | arity h => exact⟨fun h0=>(by cases h0),fun k=>by have:=k.a1;have:=k.a2;omega⟩
 | long _ _ h => exact⟨fun h0=>(by cases h0),fun k=>by have:=k.nl;have:=k.el;omega⟩
 | node i n _ _ _ _ hi _ hf => exact⟨fun h0=>absurd h0 hf,fun k=>k.ng i n (lG.1 hi).1 hi⟩
 | edge i d _ _ _ _ _ hi _ hf => exact⟨fun h0=>absurd h0 hf,fun k=>k.eg i d (lG.1 hi).1 hi⟩
 | none h1 h2 h3 h4 h5 h6 => exact⟨fun _=>⟨h1,h2,h3,h4,h5,h6⟩,fun _=>rfl⟩
theorem Fl.same{g:bG}{e' t':Int}(h:Fl g e t)(k:Fl g e' t'):e=e'/\t=t':=by
 have YY:∀{i j:Nat} {n:dC},NG g i->g.nodes[j]? =some n->eP g.arity n≠0->i<=j:=fun h hj hf=>Nat.le_of_not_lt fun hlt=>hf (h _ _ hlt hj);have egl:∀{i j:Nat} {d:dR},EG g i->g.aO[j]? =some d->jG g.nodes (g.aO.take j) d≠0->i<=j:=fun h hj hf=>Nat.le_of_not_lt fun hlt=>hf (h _ _ hlt hj);have lt:∀{α:Type} {l:List α} {i:Nat} {x:α},l[i]? =some x->i<l.length:=fun h=>(lG.1 h).1;cases h with
 | arity h => cases k <;> first | exact⟨rfl,rfl⟩ | omega
 | long h1 h2 h3 => cases k <;> first | exact⟨rfl,rfl⟩ | omega
 | node i n h1 h2 h3 h4 hi hg hf=>
  cases k with
  | arity => omega
  | long => omega
  | node j m _ _ _ _ hj kg kf=>
   have:i=j:=Nat.le_antisymm (YY hg hj kf) (YY kg hi hf);subst this;rw[hi]at hj;cases hj;exact⟨rfl,rfl⟩
  | edge j d _ _ _ _ kn => have:=YY kn hi hf;have:=lt hi;omega
  | none _ _ _ _ kn _ => have:=YY kn hi hf;have:=lt hi;omega
 | edge i d h1 h2 h3 h4 hn hi hg hf=>
  cases k with
  | arity => omega
  | long => omega
  | node j m _ _ _ _ hj kg kf => have:=YY hn hj kf;have:=lt hj;omega
  | edge j m _ _ _ _ _ hj kg kf=>
   have:i=j:=Nat.le_antisymm (egl hg hj kf) (egl kg hi hf);subst this;rw[hi]at hj;cases hj;exact⟨rfl,rfl⟩
  | none _ _ _ _ _ ke => have:=egl ke hi hf;have:=lt hi;omega
 | none h1 h2 h3 h4 hn he=>
  cases k with
  | arity => omega
  | long => omega
  | node j m _ _ _ _ hj kg kf => have:=YY hn hj kf;have:=lt hj;omega
  | edge j m _ _ _ _ _ hj kg kf => have:=egl he hj kf;have:=lt hj;omega
  | none => exact⟨rfl,rfl⟩
structure yC(ev:Value)(xs:List NV):Prop where
 aO:∀p n c,ev= .slice p n c->n<=c
 bV:∀x∈xs,x.n.bV.length<=x.dc/\x.n.bV.length<=140737488351232
theorem SA{g:bG}{i:Nat}{n:dC}(h:NG g i)(hi:g.nodes[i]? =some n)(hf:eP g.arity n=0):NG g (i+1):=fun j m hj hm=>by
 by_cases e:j=i
 ·subst e;rw[hi]at hm;cases hm;exact hf
 ·exact h j m (by omega) hm
theorem TZ{g:bG}{i:Nat}{d:dR}(h:EG g i)(hi:g.aO[i]? =some d)(hf:jG g.nodes (g.aO.take i) d=0):EG g (i+1):=fun j m hj hm=>by
 by_cases e:j=i
 ·subst e;rw[hi]at hm;cases hm;exact hf
 ·exact h j m (by omega) hm
theorem Lz.front{α:Type}{E:El α}{p:Option Addr}{n c:Nat}{l:List α}(h:Lz E M w (.slice p n c) l)(k:Nat)(hk:k<=l.length)(c2:Nat):Lz E M w (.slice p k c2) (l.take k):=by
 rcases h with⟨h,hb⟩|⟨rfl,q,c',e⟩
 ·cases p with
  | none=>
   rcases h with⟨rfl,e⟩|⟨b,off,c',e,_⟩
   ·obtain rfl:k=0:=(by simpa using hk);exact Or.inr ⟨by simp,none,c2,rfl⟩
   ·cases e
  | some a=>
   rcases h with⟨rfl,e⟩|⟨b,off,c',e,hlt,hl⟩
   ·cases e
   ·simp only[vS,oI]at e;obtain⟨rfl,rfl,rfl⟩:=e;refine Or.inl ⟨Ls.cut (c:=c) (n:=l.length) (Or.inr ⟨b,off,c,rfl,hlt,hl⟩) hk c2,fun k hk=>hb k (by simpa[Value.ownBlock]using hk)⟩
 ·obtain rfl:k=0:=by simpa using hk
  exact Or.inr ⟨by simp,p,c2,rfl⟩
theorem Ip{nv ev:Value}{xs:List NV}{es:List dR}(w:World)(hG:GR M w nv ev xs es)(hC:yC ev xs):CL 68 #[.agg (jg a nv ev)] w fun r w'=>∃e t:Int,r= .returned (.tuple #[iV e,iV t])/\Fl (jW a xs es) e t/\Bw w w':=by
 have hmx:Tryz.prog.follows .mixedOrders=true:=by kernel_rfl
 obtain⟨pn,cn,Pf⟩:=hG.nodes.form;obtain⟨pe,ce,hev⟩:=hG.aO.form;obtain⟨nl,hnl⟩:=aF (xs.length);obtain⟨el,hel⟩:=aF (es.length);rw[<-hnl]at Pf;rw[<-hel]at hev;subst Pf;subst hev;have HC:=hid hC;have mf:Hid (nl=(jW a xs es).nodes.length/\nl=xs.length):=⟨by simp[hnl],hnl⟩;have CV:Hid (el=(jW a xs es).aO.length/\el=es.length):=⟨by simp[hel],hel⟩;have g0:=(Gr.refl w).alloc (.cells (jg a (.slice pn nl cn) (.slice pe el ce)) 25);have HG:=hid (hG.below g0.below);have HB:=hid (ah w (.cells (jg a (.slice pn nl cn) (.slice pe el ce)) 25));have B0:=hid g0.below;obtain⟨W0,hW0⟩:=aF (w.alloc (.cells (jg a (.slice pn nl cn) (.slice pe el ce)) 25));have HW:Hid (w.alloc (.cells #[iV a, .slice pn nl cn, .slice pe el ce] 25)=W0):=hW0.symm;rw[<-hW0]at HG HB B0;have c0:=(aa HB.o).1;have l0:=ae HB.o;clear hG g0 hW0 hnl hel hC;by_cases ha:a<1
 ·have HF:Hid (Fl (jW a xs es) 10 0):= .arity (Or.inl ha);go_enter Tryz.func68,Tryz.ntmps68;go_upto_region 1 with fail;rw[HW.o];go_wp2_with fail;go_ret2;exact⟨10,0,rfl,HF.o,B0.o⟩
 ·by_cases Ih:3<a
  ·have HF:Hid (Fl (jW a xs es) 10 0):= .arity (Or.inr Ih);go_enter Tryz.func68,Tryz.ntmps68;go_upto_region 1 with fail;rw[HW.o];go_wp2_with fail;go_ret2;exact⟨10,0,rfl,HF.o,B0.o⟩
  ·by_cases hn:24<nl
   ·have hnz:(24:Int)<(nl:Int):=(by omega);have HF:Hid (Fl (jW a xs es) 2 0):= .long (show 1<=a by omega) (show a<=3 by omega) (Or.inl (by rw[<-mf.o.1];exact hn));clear hn;go_enter Tryz.func68,Tryz.ntmps68;go_upto_region 1 with fail;rw[HW.o];go_wp2_with fail;go_ret2;exact⟨2,0,rfl,HF.o,B0.o⟩
   ·have hnz:¬(24:Int)<(nl:Int):=(by omega);by_cases he:48<el
    ·have hez:(48:Int)<(el:Int):=(by omega);have HF:Hid (Fl (jW a xs es) 2 0):= .long (show 1<=a by omega) (show a<=3 by omega) (Or.inr (by rw[<-CV.o.1];exact he));clear hn he;go_enter Tryz.func68,Tryz.ntmps68;go_upto_region 1 with fail;rw[HW.o];go_wp2_with fail;go_ret2;exact⟨2,0,rfl,HF.o,B0.o⟩
    ·have hez:¬(48:Int)<(el:Int):=(by omega);have HA:Hid (1<=(jW a xs es).arity/\(jW a xs es).arity<=3/\(jW a xs es).nodes.length<=24/\(jW a xs es).aO.length<=48):=⟨show 1<=a by omega,show a<=3 by omega,by rw[<-mf.o.1];omega,by rw[<-CV.o.1];omega⟩;clear hn he;go_enter Tryz.func68,Tryz.ntmps68;go_upto_region 1 with fail;rw[HW.o];clear HW;go_wp2_with fail;have XJ:nl<=24:=(by omega);have h48:el<=48:=(by omega);clear hnz hez ha Ih;go_loopw [31] (fun s31 wr=>∃j:Nat,j<=nl/\s31=iV (j:Nat)/\Hid (Bw W0 wr/\NG (jW a xs es) j)) (fun s31 _=>nl-(intOf s31).toNat);case atStart=>exact⟨0,zL _,rfl,Below.refl _ _,fun _ _ h=>absurd h (nW _)⟩
     case round=>
      clear c0 l0;obtain⟨j,hj,rfl,HI⟩:=hrel;have hb0:=(HI.o.1.block _ (ae HB.o)).trans HB.o;have c1:=(aa hb0).1;have l1:=ae hb0;by_cases hlt:j<nl
      ·have hltz:(j:Int)<(nl:Int):=(by omega);obtain⟨y,hy⟩:∃y,xs[j]? =some y:=⟨xs[j]'(by have:=mf.o.2;omega),by simp⟩;have hym:=lM hy;obtain⟨b1,o1,q1,gU,rY,x0,x1,x2,x3,x4,x5,x6,x7,x8,x9⟩:=j5 ((HG.o.nodes.below HI.o.1).ls hy) hy;simp only[vS]at gU;obtain⟨rfl,-,rfl⟩:=gU;have Ux:Hid ((jW a xs es).nodes[j]? =some y.n):=(by show _=_;simp[hy]);obtain⟨yb,hyb⟩:=aF (wr.heap.size);obtain⟨W5,bW⟩:=aF (wr.alloc (.cells y.cells 149));have P5:Hid (Bw W0 W5/\W5.heap[yb]? =some (.cells y.cells 149 (0,0))/\W5.heap[w.heap.size]? =some (.cells (jg a (.slice (some ⟨b1,o1,none⟩) nl cn) (.slice pe el ce)) 25 (0,0))):=by
        have g5:=((Gr.refl wr).alloc (.cells y.cells 149)).below;have h5:=HI.o.1.trans (g5.mono HI.o.1.size);rw[bW,hyb];exact⟨h5,ah _ _,(h5.block _ (ae HB.o)).trans HB.o⟩
       have ig:Hid (wr.alloc (.cells #[iV y.n.kind,iV y.n.ins,iV y.n.outs, .slice y.cq y.cm y.cc,uV (y.n.via.1:Nat),uV (y.n.via.2.1:Nat),uV (y.n.via.2.2:Nat),uV (y.n.bound:Nat), .slice y.dq y.dm y.dc, .bool y.n.start] 149)=W5/\wr.heap.size=yb):=⟨bW.symm,hyb.symm⟩;have cy:=(aa P5.o.2.1).1;have ly:=ae P5.o.2.1;have cg:=(aa P5.o.2.2).1;have lg:=ae P5.o.2.2;have hcall:=BA y a W5 ((HG.o.each y hym).below P5.o.1) (HC.o.bV y hym).1 (HC.o.bV y hym).2;clear bW hyb hy hym hb0;by_cases hz:eP a y.n=0
       ·rw[hz]at hcall;have HZ:=hid hz;clear hz;go_upto_region 8 with fail;rw[ig.o.1,ig.o.2];clear ig x0 x1 x2 x3 x4 x5 x6 x7 x8 x9 rY c1 l1;go_wp2_with fail;refine hcall.mono ?_;rintro r w6 ⟨rfl,b6⟩;have B6:=hid (P5.o.1.trans (b6.mono P5.o.1.size));clear b6 cy ly cg lg hcall;go_wp2_with fail;go_roundw;case rel=>exact⟨j+1,by omega,by go_num,B6.o,SA HI.o.2 Ux.o HZ.o⟩
        case measure=>simp[intOf];omega
       ·have HF:Hid (Fl (jW a xs es) (eP a y.n) j):= .node j y.n HA.o.1 HA.o.2.1 HA.o.2.2.1 HA.o.2.2.2 Ux.o HI.o.2 hz;generalize eP a y.n=zz at hcall HF hz;have hb:(zz==0)=false:=(by simp[hz]);have hb':(zz != 0)=true:=(by simp[hz]);go_upto_region 8 with fail;rw[ig.o.1,ig.o.2];clear ig x0 x1 x2 x3 x4 x5 x6 x7 x8 x9 rY c1 l1;go_wp2_with fail;refine hcall.mono ?_;rintro r w6 ⟨rfl,b6⟩;have B6:=hid (B0.o.trans ((P5.o.1.trans (b6.mono P5.o.1.size)).mono B0.o.size));clear b6 cy ly cg lg hcall;go_wp2_with fail;go_ret2;exact⟨zz,j,rfl,HF.o,B6.o⟩
      ·have hltz:¬(j:Int)<(nl:Int):=(by omega);have HN:Hid (NG (jW a xs es) (jW a xs es).nodes.length):=by
        have h:=HI.o.2;rw[show j=nl by omega,mf.o.1]at h;exact h
       go_wp2_with fail;have HB1:=hid hb0;have BI:=hid HI.o.1;clear c1 l1 hb0 HI hltz hlt;go_loopw [48] (fun Ns wr=>∃j:Nat,j<=el/\Ns=iV (j:Nat)/\Hid (Bw W0 wr/\EG (jW a xs es) j)) (fun Ns _=>el-(intOf Ns).toNat);case atStart=>exact⟨0,zL _,rfl,BI.o,fun _ _ h=>absurd h (nW _)⟩
       case round=>
        obtain⟨i,hi,rfl,HI⟩:=hrel;clear HB1 BI;have hb0:=(HI.o.1.block _ (ae HB.o)).trans HB.o;by_cases hlt:i<el
        ·have hltz:(i:Int)<(el:Int):=(by omega);obtain⟨y,hy⟩:∃y,es[i]? =some y:=⟨es[i]'(by have:=CV.o.2;omega),by simp⟩;obtain⟨b1,o1,q1,gU,rY,x0,x1,x2,x3,x4⟩:=sQ ((HG.o.aO.below HI.o.1).ls hy) hy;simp only[vS]at gU;obtain⟨rfl,-,rfl⟩:=gU;have Ux:Hid ((jW a xs es).aO[i]? =some y):=hy;obtain⟨yb,hyb⟩:=aF (wr.heap.size);obtain⟨W5,bW⟩:=aF (wr.alloc (.cells (aZ y) 151));have P5:Hid (Bw W0 W5/\W5.heap[yb]? =some (.cells (aZ y) 151 (0,0))/\W5.heap[w.heap.size]? =some (.cells (jg a (.slice pn nl cn) (.slice (some ⟨b1,o1,none⟩) el ce)) 25 (0,0))):=by
          have g5:=((Gr.refl wr).alloc (.cells (aZ y) 151)).below;have h5:=HI.o.1.trans (g5.mono HI.o.1.size);rw[bW,hyb];exact⟨h5,ah _ _,(h5.block _ (ae HB.o)).trans HB.o⟩
         have ig:Hid (wr.alloc (.cells #[iV y.src,iV y.o,iV y.dst,iV y.dx, .bool y.keyed] 151)=W5/\wr.heap.size=yb):=⟨bW.symm,hyb.symm⟩;have hce:el<=ce:=HC.o.aO _ _ _ rfl;have hcall:∀W,Bw W5 W->CL 110 #[.agg (aZ y), .slice (some ⟨b1,o1,none⟩) i ce, .slice pn nl cn] W fun r w'=>r= .returned (iV (jG (jW a xs es).nodes ((jW a xs es).aO.take i) y))/\Bw W w':=fun W hb=>by
          have hbw:=P5.o.1.trans (hb.mono P5.o.1.size);have h1:=(HG.o.aO.below hbw).front i (by have:=CV.o.2;omega) ce;have h:=Ct y W h1 (HG.o.nodes.below hbw) (by have:=CV.o.2;have:=HG.o.wide;have:=HA.o.2.2.2;simp at this⊢;omega);rw[Lg]at h;exact h
         clear bW hyb hy hb0;generalize hzz:jG (jW a xs es).nodes ((jW a xs es).aO.take i) y=zz at hcall;have HZZ:=hid hzz;clear hzz;go_upto_region 15 with fail;rw[ig.o.1,ig.o.2];clear ig x0 x1 x2 x3 x4 rY;have hS0:Bw W5 W5.drew:=(Gr.refl W5).drew.below;have hi0:(0:Int)<=(i:Int):=(by omega);have hic:(i:Int)<=(ce:Int):=(by omega);clear hce;refine ay (S:=fun W=>Bw W5 W) (D:=[]) hmx ?_;refine' bD 0 hS0 ?h ?_;case h=>(intro W hSw;have hb:=(hSw.block _ (ae P5.o.2.1)).trans P5.o.2.1;have hc:=(aa hb).1;have hl:=ae hb;go_simp;try(with_reducible rfl))
         refine' ak 1 hS0 ?_;refine' bD 2 hS0 ?h ?_;case h=>(intro W hSw;have hb:=(hSw.block _ (ae P5.o.2.2)).trans P5.o.2.2;have hc:=(aa hb).1;have hl:=ae hb;go_simp;try(with_reducible rfl))
         refine' ak 3 hS0 ?_;refine' ak 4 hS0 ?_;refine' ak 5 hS0 ?_;refine' bD 6 hS0 ?h ?_;case h=>(intro W hSw;have hb:=(hSw.block _ (ae P5.o.2.2)).trans P5.o.2.2;have hc:=(aa hb).1;have hl:=ae hb;go_simp;try(with_reducible rfl))
         refine wpC 7 (hcall _ hS0) ?_;rintro r w6 ⟨rfl,b6⟩;have pM:Bw W5 w6:=hS0.trans (b6.mono hS0.size);clear b6;refine⟨_,rfl,pM, ?_⟩;refine' ak 8 pM ?_;refine av (by kernel_rfl) ?_ _;have B6:=hid (P5.o.1.trans (pM.mono P5.o.1.size));clear hcall hS0 pM hi0 hic;by_cases hz:zz=0
         ·subst hz;go_wp2_with fail;go_roundw;case rel=>exact⟨i+1,by omega,by go_num,B6.o,TZ HI.o.2 Ux.o HZZ.o⟩
          case measure=>simp[intOf];omega
         ·have hb:(zz==0)=false:=(by simp[hz]);have hb':(zz != 0)=true:=(by simp[hz]);have HF:Hid (Fl (jW a xs es) zz (nl+i:Nat)):=by
           have h:=Fl.edge (g:=jW a xs es) i y HA.o.1 HA.o.2.1 HA.o.2.2.1 HA.o.2.2.2 HN.o Ux.o HI.o.2 (by rw[HZZ.o];exact hz);rw[HZZ.o,<-mf.o.1]at h;exact h
          have hb9:=(B6.o.block _ (ae HB.o)).trans HB.o;have c9:=(aa hb9).1;have l9:=ae hb9;have hnn:(nl:Int)<=24:=(by omega);have hii:(i:Int)<=48:=(by omega);clear hb9;go_upto_region 17 with fail;go_quiet (fail);go_wp2_with fail;go_ret2;exact⟨zz,(nl+i:Nat),by push_cast;rfl,HF.o,B0.o.trans ((B6.o.trans (((Gr.refl _).drewN _).below.mono B6.o.size)).mono B0.o.size)⟩
        ·have hltz:¬(i:Int)<(el:Int):=(by omega);have HF:Hid (Fl (jW a xs es) 0 0):= .none HA.o.1 HA.o.2.1 HA.o.2.2.1 HA.o.2.2.2 HN.o (by
          have h:=HI.o.2;rw[show i=el by omega,CV.o.1]at h;exact h)
         go_wp2_with fail;go_ret2;exact⟨0,0,rfl,HF.o,B0.o.trans (HI.o.1.mono B0.o.size)⟩
end Df
end Go.Proofs.YtiiefcalkjeieaaGreat
