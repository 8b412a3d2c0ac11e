import Derived.Test.YteekbpokkjjipaaGreatJ13
variable{a i o k z e t:Int}{M fw ff fc:Nat}{w:Go.World}{pI pO h:Bool}{r:Go.Ending}
set_option maxHeartbeats 8000000
set_option maxRecDepth 100000
namespace Go.Proofs.YteekbpokkjjipaaGreat
namespace Df
open Go.RowKit Go.Sort
attribute [local go_sem ↓] Go.wp_at_zero Go.wp_at_succ
def IG(i o a:Int)(l:List dF)(j:Nat)(c:dF):Prop:=(0<=c.cO/\c.cO<i)/\(0<=c.o/\c.o<o)/\bL c.via.1 c.via.2.1 c.via.2.2 a=0/\xu (l.take j) c=false
def Cf(i o a:Int)(l:List dF)(z:Int):Prop:=(z=0/\l.length<=16/\∀j c,l[j]? =some c->IG i o a l j c)\/(z=23/\(16<l.length\/∃j c,l[j]? =some c/\¬IG i o a l j c))
theorem xE(k i o:Int)(cq:Option Addr)(cm cc:Nat)(via:mW)(bd:Nat)(dq:Option Addr)(dc:Nat)(st:Bool)(l:List dF)(a:Int)(w:World)(hL:Lz EC M w (.slice dq l.length dc) l)(hsz:l.length<=140737488351232)(hcap:l.length<=dc):Calls Tryz.prog 241 #[.agg (aM k i o (.slice cq cm cc) via bd (.slice dq l.length dc) st), .int .i64 a] w fun r w'=>∃z:Int,r= .returned (.int .i64 z)/\Cf i o a l z/\Below w.heap.size w w':=by
 have hmx:Tryz.prog.follows .mixedOrders=true:=by kernel_rfl
 have g0:=(Gr.refl w).alloc (.cells (aM k i o (.slice cq cm cc) via bd (.slice dq l.length dc) st) 149);have HL:=hid (hL.below g0.below);have HB:=hid (ai w (.cells (aM k i o (.slice cq cm cc) via bd (.slice dq l.length dc) st) 149));have B0:=hid g0.below;obtain⟨n,hn⟩:=aB (l.length);rw[<-hn]at HL HB B0⊢;have HN:=hid hn;have hcap:n<=dc:=by omega
 have hsz:n<=140737488351232:=by omega
 obtain⟨W0,hW0⟩:=aB (w.alloc (.cells (aM k i o (.slice cq cm cc) via bd (.slice dq n dc) st) 149));have HW:Hid (w.alloc (.cells #[.int .i64 k, .int .i64 i, .int .i64 o, .slice cq cm cc, .int .u64 (via.1:Nat), .int .u64 (via.2.1:Nat), .int .u64 (via.2.2:Nat), .int .u64 (bd:Nat), .slice dq n dc, .bool st] 149)=W0):=hW0.symm;rw[<-hW0]at HL HB B0;have c0:=(aa HB.o).1;have l0:=ae HB.o;clear hL g0 hW0 hn;by_cases h16:16<n
 ·have hz:(16:Int)<(n:Int):=by omega
  have HF:Hid (Cf i o a l 23):=Or.inr ⟨rfl,Or.inl (by have:=HN.o;omega)⟩;clear h16;go_enter Tryz.func241,Tryz.ntmps241;go_upto_region 1 with fail;rw[HW.o];go_wp2_with fail;go_ret;exact⟨23,rfl,HF.o,B0.o⟩
 ·have hz:¬(16:Int)<(n:Int):=by omega
  have wX:=hid h16;clear h16;go_enter Tryz.func241,Tryz.ntmps241;go_upto_region 1 with fail;rw[HW.o];clear HW;go_wp2_with fail;clear c0 l0;go_loopw [15] (fun s15 wr=>∃j:Nat,j<=n/\s15= .int .i64 (j:Nat)/\Hid (Below W0.heap.size W0 wr/\∀m c,m<j->l[m]? =some c->IG i o a l m c)) (fun s15 _=>n-(RowKit.intOf s15).toNat);case atStart=>exact⟨0,Nat.zero_le _,rfl,Below.refl _ _,fun m c hm=>by omega⟩
  case round=>
   obtain⟨j,hj,rfl,HI⟩:=hrel;by_cases hlt:j<n
   ·have hltz:(j:Int)<(n:Int):=(by omega);obtain⟨y,hy⟩:∃y,l[j]? =some y:=⟨l[j]'(by have:=HN.o;omega),by simp⟩;obtain⟨b1,o1,q1,iI,qF,x0,x1,x2,x3,x4⟩:=qV ((HL.o.below HI.o.1).ls hy) hy;simp only[vS]at iI;obtain⟨rfl,-,rfl⟩:=iI;have HY:=hid hy;clear hy;obtain⟨yb,hyb⟩:=aB (wr.heap.size);obtain⟨W5,bT⟩:=aB (wr.alloc (.cells (cK y) 205));have P5:Hid (Below W0.heap.size W0 W5/\W5.heap[yb]? =some (.cells (cK y) 205 (0,0))/\W5.heap[w.heap.size]? =some (.cells (aM k i o (.slice cq cm cc) via bd (.slice (some ⟨b1,o1,none⟩) n dc) st) 149 (0,0))):=by
     have g5:=((Gr.refl wr).alloc (.cells (cK y) 205)).below;have h5:=HI.o.1.trans (g5.mono HI.o.1.size);rw[bT,hyb];exact⟨h5,ai _ _,(h5.block _ (ae HB.o)).trans HB.o⟩
    have gK:Hid (wr.alloc (.cells #[.int .i64 y.cO, .int .i64 y.o, .int .u64 (y.via.1:Nat), .int .u64 (y.via.2.1:Nat), .int .u64 (y.via.2.2:Nat)] 205)=W5/\wr.heap.size=yb):=⟨bT.symm,hyb.symm⟩;have cy:=(aa P5.o.2.1).1;have ly:=ae P5.o.2.1;have cn:=(aa P5.o.2.2).1;have ln:=ae P5.o.2.2;clear bT hyb;go_upto_region 6 with fail;rw[gK.o.1,gK.o.2];clear gK x0 x1 x2 x3 x4 qF;go_cut [7] (fun s7 w'=>∃t:Bool,s7= .bool t/\(t=true↔(0<=y.cO/\y.cO<i)/\(0<=y.o/\y.o<o))/\w'=W5);case first=>
     have h1:=fun W=>fB y.cO i W;have h2:=fun W=>fB y.o o W;cases e1:decide (0<=y.cO/\y.cO<i)with
     | false=>
      rw[e1]at h1;have E1:=hid (of_decide_eq_false e1);clear e1 h2;go_wp2_with fail;refine(h1 _).mono ?_;rintro r w1 ⟨rfl,rfl⟩;go_wp2_with fail;go_meet;exact⟨_,rfl,by have:=E1.o;simp;intros;omega,rfl⟩
     | true=>
      rw[e1]at h1;have E1:=hid (of_decide_eq_true e1);generalize e2:decide (0<=y.o/\y.o<o)=t2 at h2;have E2:Hid (t2=true↔(0<=y.o/\y.o<o)):=(by show _↔_;rw[<-e2];simp);clear e1 e2;go_wp2_with fail;refine(h1 _).mono ?_;rintro r w1 ⟨rfl,rfl⟩;go_wp2_with fail;refine(h2 _).mono ?_;rintro r w1 ⟨rfl,rfl⟩;go_wp2_with fail;go_meet;exact⟨t2,rfl,⟨fun h=>⟨E1.o,E2.o.1 h⟩,fun h=>E2.o.2 h.2⟩,rfl⟩
    case rest=>
     obtain⟨t,rfl,ht,rfl⟩:=hcut;have HT:=hid ht;clear ht cy ly cn ln;have hj0:(0:Int)<=(j:Int):=(by omega);have hjc:(j:Int)<=(dc:Int):=(by omega);go_upto_region 7 with fail;have hS0:Below wc.heap.size wc wc.drew:=(Gr.refl _).drew.below;have Bc:Hid (Below w.heap.size w wc):=B0.o.trans (P5.o.1.mono B0.o.size);cases t with
     | false=>
      have HF:Hid (Cf i o a l 23):=by
       refine Or.inr ⟨rfl,Or.inr ⟨j,y,HY.o,fun h=> ?_⟩⟩;have:=HT.o.2 ⟨h.1,h.2.1⟩;cases this
      refine av (S:=fun W=>Below wc.heap.size wc W) (D:=[]) hmx ?_;refine' au 0 hS0 ?_;refine' au 1 hS0 ?_;refine' au 2 hS0 ?_;refine' bQ 3 hS0 ?_;refine' bQ 4 hS0 ?_;refine' bQ 5 hS0 ?_;refine' bQ 6 hS0 ?_;refine' bQ 7 hS0 ?_;refine' au 8 hS0 ?_;refine' au 9 hS0 ?_;refine' bQ 10 hS0 ?_;refine' bQ 11 hS0 ?_;refine' bQ 12 hS0 ?_;refine' bQ 13 hS0 ?_;refine' bQ 14 hS0 ?_;refine' bQ 15 hS0 ?_;refine' au 16 hS0 ?_;refine aj (by kernel_rfl) ?_ _;have B9:=hid (Bc.o.trans (hS0.mono Bc.o.size));clear hS0;go_wp2_with fail;go_ret;exact⟨23,rfl,HF.o,B9.o⟩
     | true=>
      have hfi:=fun W=>xV y.via a W;generalize htf:bL (y.via.1:Nat) (y.via.2.1:Nat) (y.via.2.2:Nat) a=tf at hfi;have HTF:=hid htf;clear htf;by_cases hf0:tf=0
      ·subst hf0;have LT:Hid (∀W,Below wc.heap.size wc W->Lz EC W.heap.size W (.slice (some ⟨b1,o1,none⟩) j dc) (l.take j)):=fun W hb=>by
        have h5:=P5.o.1.trans (hb.mono P5.o.1.size);have h6:=(HL.o.below h5).ls HY.o;have h7:=h6.cut (k:=j) (by have:=HN.o;omega) dc;exact Or.inl ⟨h7,h7.blk⟩
       have hct:=fun W (hb:Below wc.heap.size wc W)=>sM y W (LT.o W hb) (by rw[lK];omega);generalize hin:xu (l.take j) y=ii at hct;have si:=hid hin;clear hin;refine av (S:=fun W=>Below wc.heap.size wc W) (D:=[]) hmx ?_;refine' au 0 hS0 ?_;refine' au 1 hS0 ?_;refine' au 2 hS0 ?_;refine' au 3 hS0 ?_;refine' aR 4 hS0 ?h ?_;case h=>(intro W hSw;have hb:=(hSw.block _ (ae P5.o.2.1)).trans P5.o.2.1;have hc:=(aa hb).1;have hl:=ae hb;go_simp;try(with_reducible rfl))
       refine' au 5 hS0 ?_;refine bF 6 fun K hK=> ?_;go_simp;refine(hfi _).mono ?_;rintro r w9 ⟨rfl,g9⟩;have fZ:Below wc.heap.size wc w9:=hS0.trans (g9.below.mono hS0.size);clear g9;go_wp2_with fail;refine hK.o _ _ (fun hD=>fZ) ?_;clear hK K;try simp only[Act.put,qI,q0,qS]
       refine' au 7 fZ ?_;refine' au 8 fZ ?_;refine' au 9 fZ ?_;refine' au 10 fZ ?_;refine' aR 11 fZ ?h ?_;case h=>(intro W hSw;have hb:=(hSw.block _ (ae P5.o.2.2)).trans P5.o.2.2;have hc:=(aa hb).1;have hl:=ae hb;go_simp;try(with_reducible rfl))
       refine' au 12 fZ ?_;refine' au 13 fZ ?_;refine' aR 14 fZ ?h ?_;case h=>(intro W hSw;have hb:=(hSw.block _ (ae P5.o.2.1)).trans P5.o.2.1;have hc:=(aa hb).1;have hl:=ae hb;go_simp;try(with_reducible rfl))
       refine bF 15 fun K hK=> ?_;go_simp;refine(hct _ fZ).mono ?_;rintro r fH ⟨rfl,b10⟩;have qi:Below wc.heap.size wc fH:=fZ.trans (b10.mono fZ.size);clear b10;go_wp2_with fail;refine hK.o _ _ (fun hD=>qi) ?_;clear hK K;try simp only[Act.put,qI,q0,qS]
       refine' au 16 qi ?_;refine aj (by kernel_rfl) ?_ _;have B9:=hid (Bc.o.trans (qi.mono Bc.o.size));have B8:=hid (P5.o.1.trans (qi.mono P5.o.1.size));clear hS0 fZ qi hct;cases ii with
       | true=>
        have HF:Hid (Cf i o a l 23):=Or.inr ⟨rfl,Or.inr ⟨j,y,HY.o,fun h=>by have h1:=h.2.2.2;rw[si.o]at h1;cases h1⟩⟩;go_wp2_with fail;go_ret;exact⟨23,rfl,HF.o,B9.o⟩
       | false=>
        go_wp2_with fail;go_roundw;case rel=>
         refine⟨j+1,by omega,by go_num,B8.o,fun m c hm hc=> ?_⟩;by_cases hmj:m<j
         ·exact HI.o.2 m c hmj hc
         ·obtain rfl:m=j:=(by omega);rw[HY.o]at hc;cases hc;have h:=HT.o.1 (by simp);exact⟨h.1,h.2,HTF.o,si.o⟩
        case measure=>simp[RowKit.intOf];omega
      ·have hb0:(tf==0)=false:=(by simp[hf0]);have hb1:(tf != 0)=true:=(by simp[hf0]);have HF:Hid (Cf i o a l 23):=Or.inr ⟨rfl,Or.inr ⟨j,y,HY.o,fun h=>hf0 (HTF.o ▸ h.2.2.1)⟩⟩;clear hf0;refine av (S:=fun W=>Below wc.heap.size wc W) (D:=[]) hmx ?_;refine' au 0 hS0 ?_;refine' au 1 hS0 ?_;refine' au 2 hS0 ?_;refine' au 3 hS0 ?_;refine' aR 4 hS0 ?h ?_;case h=>(intro W hSw;have hb:=(hSw.block _ (ae P5.o.2.1)).trans P5.o.2.1;have hc:=(aa hb).1;have hl:=ae hb;go_simp;try(with_reducible rfl))
       refine' au 5 hS0 ?_;refine bF 6 fun K hK=> ?_;go_simp;refine(hfi _).mono ?_;rintro r w9 ⟨rfl,g9⟩;have fZ:Below wc.heap.size wc w9:=hS0.trans (g9.below.mono hS0.size);clear g9;go_wp2_with fail;refine hK.o _ _ (fun hD=>fZ) ?_;clear hK K;try simp only[Act.put,qI,q0,qS]
       refine' au 7 fZ ?_;refine' au 8 fZ ?_;refine' au 9 fZ ?_;refine' bQ 10 fZ ?_;refine' bQ 11 fZ ?_;refine' bQ 12 fZ ?_;refine' bQ 13 fZ ?_;refine' bQ 14 fZ ?_;refine' bQ 15 fZ ?_;refine' au 16 fZ ?_;refine aj (by kernel_rfl) ?_ _;have B9:=hid (Bc.o.trans (fZ.mono Bc.o.size));clear hS0 fZ;go_wp2_with fail;go_ret;exact⟨23,rfl,HF.o,B9.o⟩
   ·have hltz:¬(j:Int)<(n:Int):=(by omega);have HF:Hid (Cf i o a l 0):=Or.inl ⟨rfl,by have:=HN.o;have:=wX.o;omega,fun m c hm=>HI.o.2 m c (by have h:=(lG.1 hm).1;have:=HN.o;omega) hm⟩;go_wp2_with fail;go_ret;exact⟨0,rfl,HF.o,B0.o.trans (HI.o.1.mono B0.o.size)⟩
abbrev Iw(f b:Nat):Value:= .func (.func f) #[] #[.pointer (some ⟨b,0,none⟩)]
abbrev xB(f:Nat):Value:= .func (.func f) #[] #[]
structure Ks(F1 F2 fw ff fc:Nat)(i o:Int)(pI pO:Bool)(w:World)(r:Ending)(w':World):Prop where
 ex:∃b1 b2:Nat,r= .returned (.tuple #[.agg #[Iw F1 b1,Iw F2 b2,xB fw,xB ff,xB fc], .bool true])/\Below w.heap.size w w'/\(∀W,Below w'.heap.size w' W->Calls Tryz.prog F1 #[.int .i64 i, .pointer (some ⟨b1,0,none⟩)] W fun r w2=>r= .returned (.bool pI)/\w2=W)/\(∀W,Below w'.heap.size w' W->Calls Tryz.prog F2 #[.int .i64 o, .pointer (some ⟨b2,0,none⟩)] W fun r w2=>r= .returned (.bool pO)/\w2=W)
def Nz(pI pO h:Bool)(PF:Int->Prop)(z:Int):Prop:=(¬(pI=true/\pO=true)/\z=21)\/(pI=true/\pO=true/\h=true/\z=22)\/(pI=true/\pO=true/\h=false/\PF z)
theorem jC{cq:Option Addr}{cm cc:Nat}{via:mW}{bd:Nat}{dq:Option Addr}{dm dc:Nat}{st:Bool}{F1 F2:Nat}{cq':Option Addr}{cm' cc':Nat}{O9:mW}{bd':Nat}{dq':Option Addr}{dm' dc':Nat}{st':Bool}{PF:Int->Prop}
    (e1:∀args w,(callFunc F1 args).run Tryz.prog w= .ok (.enter F1 args) w) (e2:∀args w,(callFunc F2 args).run Tryz.prog w= .ok (.enter F2 args) w) (e3:∀args w,(callFunc fw args).run Tryz.prog w= .ok (.enter fw args) w) (e4:∀args w,(callFunc ff args).run Tryz.prog w= .ok (.enter ff args) w)
    (hK:∀W,Calls Tryz.prog 173 #[.int .i64 k] W (Ks F1 F2 fw ff fc i o pI pO W))
    (hW:∀W,Calls Tryz.prog fw #[.agg (aM k i o (.slice cq cm cc) via bd (.slice dq dm dc) st)] W fun r w'=>r= .returned (.agg (aM k i o (.slice cq' cm' cc') O9 bd' (.slice dq' dm' dc') st'))/\Below W.heap.size W w')
    (hF:∀W,Below w.heap.size w W->Calls Tryz.prog ff #[.agg (aM k i o (.slice cq cm cc) via bd (.slice dq dm dc) st), .int .i64 a] W fun r w'=>∃z:Int,r= .returned (.int .i64 z)/\PF z/\Below W.heap.size W w') :
    Calls Tryz.prog 109 #[.agg (aM k i o (.slice cq cm cc) via bd (.slice dq dm dc) st), .int .i64 a] w fun r w'=>∃z:Int,r= .returned (.int .i64 z)/\Nz pI pO (has cm' O9 bd' dm' st') PF z/\Below w.heap.size w w':=by
 have B0:=hid ((Gr.refl w).alloc (.cells (aM k i o (.slice cq cm cc) via bd (.slice dq dm dc) st) 149)).below;have N0:=hid (ai w (.cells (aM k i o (.slice cq cm cc) via bd (.slice dq dm dc) st) 149));obtain⟨W0,hW0⟩:=aB (w.alloc (.cells (aM k i o (.slice cq cm cc) via bd (.slice dq dm dc) st) 149));have HW:Hid (w.alloc (.cells #[.int .i64 k, .int .i64 i, .int .i64 o, .slice cq cm cc, .int .u64 (via.1:Nat), .int .u64 (via.2.1:Nat), .int .u64 (via.2.2:Nat), .int .u64 (bd:Nat), .slice dq dm dc, .bool st] 149)=W0):=hW0.symm;rw[<-hW0]at B0 N0;clear hW0;have c0:=(aa N0.o).1;have l0:=ae N0.o;go_enter Tryz.func109,Tryz.ntmps109;go_upto_region 1 with fail;rw[HW.o];clear HW;go_wp2_with fail;refine(hK _).mono ?_;rintro r w1 ⟨b1,b2,rfl,b,h1,h2⟩;have B1:=hid (B0.o.trans (b.mono B0.o.size));have N1:=hid ((b.block _ l0).trans N0.o);have H1:=hid h1;have H2:=hid h2;obtain⟨kb,hkb⟩:=aB (w1.heap.size);obtain⟨W2,hW2⟩:=aB (w1.alloc (.cells #[Iw F1 b1,Iw F2 b2,xB fw,xB ff,xB fc] 275));have P2:Hid (Below w1.heap.size w1 W2/\Below w.heap.size w W2/\W2.heap[w.heap.size]? =some (.cells (aM k i o (.slice cq cm cc) via bd (.slice dq dm dc) st) 149 (0,0))/\W2.heap[kb]? =some (.cells #[Iw F1 b1,Iw F2 b2,xB fw,xB ff,xB fc] 275 (0,0))):=by
  have g:=((Gr.refl w1).alloc (.cells #[Iw F1 b1,Iw F2 b2,xB fw,xB ff,xB fc] 275)).below;rw[hW2,hkb];exact⟨g,B1.o.trans (g.mono B1.o.size),(g.block _ (ae N1.o)).trans N1.o,ai _ _⟩
 have HW2:Hid (w1.alloc (.cells #[.func (.func F1) #[] #[.pointer (some ⟨b1,0,none⟩)], .func (.func F2) #[] #[.pointer (some ⟨b2,0,none⟩)], .func (.func fw) #[] #[], .func (.func ff) #[] #[], .func (.func fc) #[] #[]] 275)=W2/\w1.heap.size=kb):=⟨hW2.symm,hkb.symm⟩;clear c0 l0 b hK h1 h2 hW2 hkb;go_upto_region 2 with fail;rw[HW2.o.1,HW2.o.2];have c2:=(aa P2.o.2.2.1).1;have l2:=ae P2.o.2.2.1;have k2:=(aa P2.o.2.2.2).1;have m2:=ae P2.o.2.2.2;have q1:=H1.o W2 P2.o.1;have q2:=H2.o W2 P2.o.1;clear HW2;cases pI with
 | false=>
  go_wp2_with fail;refine q1.mono ?_;rintro r w3 ⟨rfl,rfl⟩;go_wp2_with fail;go_ret;exact⟨21,rfl,Or.inl ⟨by simp,rfl⟩,P2.o.2.1⟩
 | true=>
  cases pO with
  | false=>
   go_wp2_with fail;refine q1.mono ?_;rintro r w3 ⟨rfl,rfl⟩;go_wp2_with fail;refine q2.mono ?_;rintro r w3 ⟨rfl,rfl⟩;go_wp2_with fail;go_ret;exact⟨21,rfl,Or.inl ⟨by simp,rfl⟩,P2.o.2.1⟩
  | true=>
   have hh:=fun W=>xy k i o cq' cm' cc' O9 bd' dq' dm' dc' st' W;cases eh:has cm' O9 bd' dm' st' with
   | true=>
    rw[eh]at hh;have HE:=hid eh;clear eh;go_wp2_with fail;refine q1.mono ?_;rintro r w3 ⟨rfl,rfl⟩;go_wp2_with fail;refine q2.mono ?_;rintro r w3 ⟨rfl,rfl⟩;go_wp2_with fail;refine(hW _).mono ?_;rintro r w3 ⟨rfl,b3⟩;go_wp2_with fail;refine(hh _).mono ?_;rintro r w4 ⟨rfl,b4⟩;have B4:=hid (P2.o.2.1.trans ((b3.trans (b4.mono b3.size)).mono P2.o.2.1.size));clear b3 b4;go_wp2_with fail;go_ret;exact⟨22,rfl,Or.inr (Or.inl ⟨rfl,rfl,HE.o,rfl⟩),B4.o⟩
   | false=>
    rw[eh]at hh;have HE:=hid eh;clear eh;go_wp2_with fail;refine q1.mono ?_;rintro r w3 ⟨rfl,rfl⟩;go_wp2_with fail;refine q2.mono ?_;rintro r w3 ⟨rfl,rfl⟩;go_wp2_with fail;refine(hW _).mono ?_;rintro r w3 ⟨rfl,b3⟩;go_wp2_with fail;refine(hh _).mono ?_;rintro r w4 ⟨rfl,b4⟩;have b5:=b3.trans (b4.mono b3.size);have B4:=hid (P2.o.2.1.trans (b5.mono P2.o.2.1.size));have c4:=(aa ((b5.block _ l2).trans P2.o.2.2.1)).1;have l4:=ae ((b5.block _ l2).trans P2.o.2.2.1);have k4:=(aa ((b5.block _ m2).trans P2.o.2.2.2)).1;have m4:=ae ((b5.block _ m2).trans P2.o.2.2.2);have q4:=hF w4 B4.o;clear b3 b4 b5 q1 q2 hF hh c2 l2 k2 m2;go_wp2_with fail;refine q4.mono ?_;rintro r w6 ⟨z,rfl,hz,b6⟩;have B6:=hid (B4.o.trans (b6.mono B4.o.size));clear b6 q4;go_wp2_with fail;go_ret;exact⟨z,rfl,Or.inr (Or.inr ⟨rfl,rfl,HE.o,hz⟩),B6.o⟩
def Zm(i o a:Int)(l:List dF):Bool:=decide (l.length<=16)&&(List.range l.length).all fun j=>match l[j]? with|some c=>decide ((0<=c.cO/\c.cO<i)/\(0<=c.o/\c.o<o)/\bL c.via.1 c.via.2.1 c.via.2.2 a=0/\xu (l.take j) c=false)|none=>true
theorem tX{l:List dF}:Zm i o a l=true↔l.length<=16/\∀j c,l[j]? =some c->IG i o a l j c:=by
 unfold Zm;rw[Bool.and_eq_true,decide_eq_true_eq,List.all_eq_true];refine and_congr_right fun _=>⟨fun h j c hj=> ?_,fun h j hj=> ?_⟩
 ·have:=h j (List.mem_range.2 (lG.1 hj).1);rw[hj]at this;simp only[decide_eq_true_eq]at this;exact this
 ·obtain⟨c,hc⟩:∃c,l[j]? =some c:=⟨l[j]'(List.mem_range.1 hj),by simp⟩;rw[hc];simp only[decide_eq_true_eq];exact h j c hc
theorem Zn{l:List dF}(h:Cf i o a l z):z=if Zm i o a l=true then 0 else 23:=by
 rcases h with⟨rfl,h⟩|⟨rfl,h⟩
 ·rw[if_pos (tX.2 h)]
 ·rw[if_neg];intro hc;obtain⟨h1,h2⟩:=tX.1 hc;rcases h with h|⟨j,c,hj,hn⟩
  ·omega
  ·exact hn (h2 j c hj)
def Hl(k i:Int):Bool:=if k=1 then decide (i=0)else if k=4 then decide (1<=i/\i<=4)else if k=8 then decide (0<=i/\i<=4)else decide (i=1)
def p8(k o:Int):Bool:=if k=7 then decide (o=0)else if k=8 then decide (0<=o/\o<=4)else decide (o=1)
def sI(n:df):Bool:=has (if n.kind=2\/n.kind=3 then 0 else n.code.length) (if n.kind=5 then(0,0,0)else n.via) (if n.kind=5 then 0 else n.bound) (if n.kind=8 then 0 else n.bP.length) (if n.kind=8 then false else n.start)
def jB(a:Int)(n:df):Int:=if n.kind=2\/n.kind=3 then(if 16<n.code.length then 24 else 0)else if n.kind=5 then(if 64<n.bound\/bL n.via.1 n.via.2.1 n.via.2.2 a≠0 then 22 else 0)else if n.kind=8 then(if Zm n.ins n.outs a n.bP=true then 0 else 23)else 0
def ek(a:Int)(n:df):Int:=if n.kind<1\/8<n.kind then 20 else if ¬(Hl n.kind n.ins=true/\p8 n.kind n.outs=true)then 21 else if sI n=true then 22 else jB a n
abbrev fI(u:Bool):Nat:=if u then 265 else 264
abbrev pU(u:Bool)(least i:Int):Bool:=if u then decide (least<=i/\i<=4)else decide (i=least)
theorem CW(u:Bool):∀args w,(callFunc (fI u) args).run Tryz.prog w= .ok (.enter (fI u) args) w:=by
 cases u
 ·exact enters_of Tryz.func264 (by kernel_rfl) rfl
 ·exact enters_of Tryz.func265 (by kernel_rfl) rfl
theorem IA(u:Bool)(least i:Int)(b:Nat)(w:World)(h:w.heap[b]? =some (.cells #[.int .i64 least] 3 (0,0))):Calls Tryz.prog (fI u) #[.int .i64 i, .pointer (some ⟨b,0,none⟩)] w fun r w'=>r= .returned (.bool (pU u least i))/\w'=w:=by
 cases u
 ·exact Ju least i b w h
 ·exact Bi least i b w h
theorem qd{w':World}{uI uO:Bool}{i0 o0:Int}(h:Kd w uI i0 uO o0 fw ff fc r w'):Ks (fI uI) (fI uO) fw ff fc i o (pU uI i0 i) (pU uO o0 o) w r w':=by
 obtain⟨b1,b2,hr,hb,h1,h2⟩:=h;refine⟨b1,b2, ?_,hb,fun W hW=>IA uI i0 i b1 W ((hW.block _ (ae h1)).trans h1),fun W hW=>IA uO o0 o b2 W ((hW.block _ (ae h2)).trans h2)⟩;rw[hr];cases uI<;>cases uO<;>rfl
theorem XR{PF:Int->Prop}{n:df}(hk:n.kind=k)(hr:1<=k/\k<=8)(hI:pI=Hl k n.ins)(hO:pO=p8 k n.outs)(hh:h=sI n)(hF:∀z,PF z->z=jB a n)(hz:Nz pI pO h PF z):z=ek a n:=by
 unfold ek;rw[if_neg (by omega),hk,<-hI,<-hO,<-hh];rcases hz with⟨h1,rfl⟩|⟨h1,h2,h3,rfl⟩|⟨h1,h2,h3,h4⟩
 ·rw[if_pos h1]
 ·rw[if_neg (by simp[h1,h2]),if_pos h3]
 ·rw[if_neg (by simp[h1,h2]),if_neg (by simp[h3])];exact hF z h4
theorem mr{B:Prop}{PF:Int->Prop}(n:df)(a:Int)(hk:n.kind=k)(hr:1<=k/\k<=8)(hI:pI=Hl k n.ins)(hO:pO=p8 k n.outs)(hh:h=sI n)(hF:∀z,PF z->z=jB a n)(hz:∃z:Int,r= .returned (.int .i64 z)/\Nz pI pO h PF z/\B):r= .returned (.int .i64 (ek a n))/\B:=by
 obtain⟨z,h1,h2,h3⟩:=hz;exact⟨by rw[h1,XR hk hr hI hO hh hF h2],h3⟩
theorem xn(k i o:Int)(cq:Option Addr)(cm cc:Nat)(via:mW)(bd:Nat)(dq:Option Addr)(dm dc:Nat)(st:Bool)(a:Int)(hk:k<1\/8<k)(w:World):Calls Tryz.prog 109 #[.agg (aM k i o (.slice cq cm cc) via bd (.slice dq dm dc) st), .int .i64 a] w fun r w'=>r= .returned (.int .i64 20)/\Below w.heap.size w w':=by
 have h:=fun W=>Jt k hk W;clear hk;go_enter Tryz.func109,Tryz.ntmps109;go_wp2_with fail;refine(h _).mono ?_;rintro r w1 ⟨rfl,b1⟩;have B1:Hid (Below w.heap.size w w1):=((Gr.refl w).alloc (.cells (aM k i o (.slice cq cm cc) via bd (.slice dq dm dc) st) 149)).below.trans (b1.mono ((Gr.refl w).alloc (.cells (aM k i o (.slice cq cm cc) via bd (.slice dq dm dc) st) 149)).size);clear b1;go_wp2_with fail;go_ret;exact⟨rfl,B1.o.trans (((Gr.refl w1).alloc _).below.mono B1.o.size)⟩
theorem zL(x:NV)(a:Int)(w:World)(hx:NR M w x)(hc:x.n.bP.length<=x.dc)(hs:x.n.bP.length<=140737488351232):Calls Tryz.prog 109 #[.agg x.cells, .int .i64 a] w fun r w'=>r= .returned (.int .i64 (ek a x.n))/\Below w.heap.size w w':=by
 obtain⟨⟨k,i,o,cd,via,bd,cn,st⟩,cq,cm,cc,dq,dm,dc⟩:=x;obtain⟨_,_,h1⟩:=hx.code.form;obtain⟨_,_,h2⟩:=hx.bP.form;simp only[vS]at h1 h2 hc hs;obtain⟨-,rfl,-⟩:=h1;obtain⟨-,rfl,-⟩:=h2;have hL:=hx.bP;simp only at hL;by_cases hk:k<1\/8<k
 ·have:=xn k i o cq cd.length cc via bd dq cn.length dc st a hk w;have e:ek a ⟨k,i,o,cd,via,bd,cn,st⟩=20:=if_pos hk;simp only[e];exact this
 ·have e1:=CW false;have e2:=CW true;have ea:=enters_of (P:=Tryz.prog) Tryz.func231 (by kernel_rfl) rfl;have ec:=enters_of (P:=Tryz.prog) Tryz.func234 (by kernel_rfl) rfl;have eb:=enters_of (P:=Tryz.prog) Tryz.func237 (by kernel_rfl) rfl;have ed:=enters_of (P:=Tryz.prog) Tryz.func240 (by kernel_rfl) rfl;have fa:=enters_of (P:=Tryz.prog) Tryz.func232 (by kernel_rfl) rfl;have fc:=enters_of (P:=Tryz.prog) Tryz.func235 (by kernel_rfl) rfl;have fb:=enters_of (P:=Tryz.prog) Tryz.func238 (by kernel_rfl) rfl;have fd:=enters_of (P:=Tryz.prog) Tryz.func241 (by kernel_rfl) rfl;have all:∀W,Calls Tryz.prog 231 #[.agg (aM k i o (.slice cq cd.length cc) via bd (.slice dq cn.length dc) st)] W _:=fun W=>Ru k i o cq cd.length cc via bd dq cn.length dc st W;have nof:∀W,Below w.heap.size w W->Calls Tryz.prog 232 #[.agg (aM k i o (.slice cq cd.length cc) via bd (.slice dq cn.length dc) st), .int .i64 a] W fun r w'=>∃z:Int,r= .returned (.int .i64 z)/\z=0/\Below W.heap.size W w':=fun W _=>(EU ⟨⟨k,i,o,cd,via,bd,cn,st⟩,cq,cd.length,cc,dq,cn.length,dc⟩ a W).mono fun r w' h=>⟨0,h.1,rfl,h.2⟩;have cof:∀W,Below w.heap.size w W->Calls Tryz.prog 235 #[.agg (aM k i o (.slice cq cd.length cc) via bd (.slice dq cn.length dc) st), .int .i64 a] W fun r w'=>∃z:Int,r= .returned (.int .i64 z)/\(z=if 16<cd.length then 24 else 0)/\Below W.heap.size W w':=fun W _=>(Au k i o cq cd.length cc via bd dq cn.length dc st a W).mono fun r w' h=>⟨_,h.1,rfl,h.2⟩;have byf:∀W,Below w.heap.size w W->Calls Tryz.prog 238 #[.agg (aM k i o (.slice cq cd.length cc) via bd (.slice dq cn.length dc) st), .int .i64 a] W fun r w'=>∃z:Int,r= .returned (.int .i64 z)/\(z=if 64<bd\/bL via.1 via.2.1 via.2.2 a≠0 then 22 else 0)/\Below W.heap.size W w':=fun W _=>(Ga k i o cq cd.length cc via bd dq cn.length dc st a W).mono fun r w' h=>⟨_,h.1,rfl,h.2⟩;have cnf:∀W,Below w.heap.size w W->Calls Tryz.prog 241 #[.agg (aM k i o (.slice cq cd.length cc) via bd (.slice dq cn.length dc) st), .int .i64 a] W fun r w'=>∃z:Int,r= .returned (.int .i64 z)/\(z=if Zm i o a cn=true then 0 else 23)/\Below W.heap.size W w':=fun W hb=>(xE k i o cq cd.length cc via bd dq dc st cn a W (hL.below hb) hs hc).mono fun r w' h=>by
   obtain⟨z,h1,h2,h3⟩:=h;exact⟨z,h1,Zn h2,h3⟩
  have Jy:k=1\/k=2\/k=3\/k=4\/k=5\/k=6\/k=7\/k=8:=by omega
  clear hk;rcases Jy with rfl|rfl|rfl|rfl|rfl|rfl|rfl|rfl
  ·exact(jC e1 e1 ea fa (fun W=>(yC W).mono fun _ _ h=>qd h) all nof).mono fun r w' h=>mr ⟨1,i,o,cd,via,bd,cn,st⟩ a rfl (by simp) (by simp[Hl,pU]) (by simp[p8,pU]) (by simp[sI]) (by intro z h;simpa[jB]using h) h
  ·exact(jC e1 e1 ec fc (fun W=>(yB W).mono fun _ _ h=>qd h) (fun W=>xI 2 i o cq cd.length cc via bd dq cn.length dc st W) cof).mono fun r w' h=>mr ⟨2,i,o,cd,via,bd,cn,st⟩ a rfl (by simp) (by simp[Hl,pU]) (by simp[p8,pU]) (by simp[sI]) (by intro z h;simpa[jB]using h) h
  ·exact(jC e1 e1 ec fc (fun W=>(yA W).mono fun _ _ h=>qd h) (fun W=>xI 3 i o cq cd.length cc via bd dq cn.length dc st W) cof).mono fun r w' h=>mr ⟨3,i,o,cd,via,bd,cn,st⟩ a rfl (by simp) (by simp[Hl,pU]) (by simp[p8,pU]) (by simp[sI]) (by intro z h;simpa[jB]using h) h
  ·exact(jC e2 e1 ea fa (fun W=>(yx W).mono fun _ _ h=>qd h) all nof).mono fun r w' h=>mr ⟨4,i,o,cd,via,bd,cn,st⟩ a rfl (by simp) (by simp[Hl,pU]) (by simp[p8,pU]) (by simp[sI]) (by intro z h;simpa[jB]using h) h
  ·exact(jC e1 e1 eb fb (fun W=>(yw W).mono fun _ _ h=>qd h) (fun W=>O5 5 i o cq cd.length cc via bd dq cn.length dc st W) byf).mono fun r w' h=>mr ⟨5,i,o,cd,via,bd,cn,st⟩ a rfl (by simp) (by simp[Hl,pU]) (by simp[p8,pU]) (by simp[sI]) (by intro z h;simpa[jB]using h) h
  ·exact(jC e1 e1 ea fa (fun W=>(yu W).mono fun _ _ h=>qd h) all nof).mono fun r w' h=>mr ⟨6,i,o,cd,via,bd,cn,st⟩ a rfl (by simp) (by simp[Hl,pU]) (by simp[p8,pU]) (by simp[sI]) (by intro z h;simpa[jB]using h) h
  ·exact(jC e1 e1 ea fa (fun W=>(yt W).mono fun _ _ h=>qd h) all nof).mono fun r w' h=>mr ⟨7,i,o,cd,via,bd,cn,st⟩ a rfl (by simp) (by simp[Hl,pU]) (by simp[p8,pU]) (by simp[sI]) (by intro z h;simpa[jB]using h) h
  ·exact(jC e2 e2 ed fd (fun W=>(yo W).mono fun _ _ h=>qd h) (fun W=>Ea 8 i o cq cd.length cc via bd dq cn.length dc st W) cnf).mono fun r w' h=>mr ⟨8,i,o,cd,via,bd,cn,st⟩ a rfl (by simp) (by simp[Hl,pU]) (by simp[p8,pU]) (by simp[sI]) (by intro z h;simpa[jB]using h) h
def iZ(ns:List df)(i:Int):Option df:=if 0<=i then ns[i.toNat]? else none
def eP(ns:List df)(i p:Int):Bool:=match iZ ns i with|some x=>decide (0<=p/\p<x.ins)|none=>false
def eO(ns:List df)(i p:Int):Bool:=match iZ ns i with|some x=>decide (0<=p/\p<x.outs)|none=>false
theorem zP(xs:List NV)(i:Int):iZ (xs.map NV.n) i=(nat? xs i).map NV.n:=by
 unfold iZ nat?;split<;>simp
theorem CE(xs:List NV)(i p:Int):xA xs i p=eP (xs.map NV.n) i p:=by
 unfold xA eP;rw[zP];cases nat? xs i<;>rfl
theorem CB(xs:List NV)(i p:Int):Ah xs i p=eO (xs.map NV.n) i p:=by
 unfold Ah eO;rw[zP];cases nat? xs i<;>rfl
def jd(ns:List df)(l:List dI)(d:dI):Int:=if eO ns d.src d.o=false\/eP ns d.dst d.cO=false\/wK l d=true then 25 else match iZ ns d.dst with|some y=>if y.kind=6/\d.keyed=false then 26 else 0|none=>0
theorem JK(xs:List NV)(l:List dI)(d:dI):qp xs l d=jd (xs.map NV.n) l d:=by
 unfold qp jd;rw[CE,CB,zP];cases nat? xs d.dst<;>rfl
def NG(g:bI)(i:Nat):Prop:=∀j n,j<i->g.nodes[j]? =some n->ek g.arity n=0
def EG(g:bI)(i:Nat):Prop:=∀j d,j<i->g.aL[j]? =some d->jd g.nodes (g.aL.take j) d=0
inductive Fl (g:bI):Int->Int->Prop
 | arity:(g.arity<1\/3<g.arity)->Fl g 10 0
 | long:1<=g.arity->g.arity<=3->(24<g.nodes.length\/48<g.aL.length)->Fl g 2 0
 | node (i:Nat) (n:df):1<=g.arity->g.arity<=3->g.nodes.length<=24->g.aL.length<=48->g.nodes[i]? =some n->NG g i->ek g.arity n≠0->Fl g (ek g.arity n) i
 | edge (i:Nat) (d:dI):1<=g.arity->g.arity<=3->g.nodes.length<=24->g.aL.length<=48->NG g g.nodes.length->g.aL[i]? =some d->EG g i->jd g.nodes (g.aL.take i) d≠0->Fl g (jd g.nodes (g.aL.take i) d) (g.nodes.length+i:Nat)
 | none:1<=g.arity->g.arity<=3->g.nodes.length<=24->g.aL.length<=48->NG g g.nodes.length->EG g g.aL.length->Fl g 0 0
structure gI(g:bI):Prop where
 a1:1<=g.arity
 a2:g.arity<=3
 nl:g.nodes.length<=24
 el:g.aL.length<=48
 ng:NG g g.nodes.length
 eg:EG g g.aL.length
theorem Fl.ok{g:bI}(h:Fl g e t):e=0↔gI g:=by
 cases h with
 | arity h => exact⟨fun h0=>(by cases h0),fun k=>by have:=k.a1;have:=k.a2;omega⟩
 | long _ _ h => exact⟨fun h0=>(by cases h0),fun k=>by have:=k.nl;have:=k.el;omega⟩
 | node i n _ _ _ _ hi _ hf => exact⟨fun h0=>absurd h0 hf,fun k=>k.ng i n (lG.1 hi).1 hi⟩
 | edge i d _ _ _ _ _ hi _ hf => exact⟨fun h0=>absurd h0 hf,fun k=>k.eg i d (lG.1 hi).1 hi⟩
 | none h1 h2 h3 h4 h5 h6 => exact⟨fun _=>⟨h1,h2,h3,h4,h5,h6⟩,fun _=>rfl⟩
theorem Fl.same{g:bI}{e' t':Int}(h:Fl g e t)(k:Fl g e' t'):e=e'/\t=t':=by
 have WS:∀{i j:Nat} {n:df},NG g i->g.nodes[j]? =some n->ek g.arity n≠0->i<=j:=fun h hj hf=>Nat.le_of_not_lt fun hlt=>hf (h _ _ hlt hj);have egl:∀{i j:Nat} {d:dI},EG g i->g.aL[j]? =some d->jd g.nodes (g.aL.take j) d≠0->i<=j:=fun h hj hf=>Nat.le_of_not_lt fun hlt=>hf (h _ _ hlt hj);have lt:∀{α:Type} {l:List α} {i:Nat} {x:α},l[i]? =some x->i<l.length:=fun h=>(lG.1 h).1;cases h with
 | arity h => cases k <;> first | exact⟨rfl,rfl⟩ | omega
 | long h1 h2 h3 => cases k <;> first | exact⟨rfl,rfl⟩ | omega
 | node i n h1 h2 h3 h4 hi hg hf=>
  cases k with
  | arity => omega
  | long => omega
  | node j m _ _ _ _ hj kg kf=>
   have:i=j:=Nat.le_antisymm (WS hg hj kf) (WS kg hi hf);subst this;rw[hi]at hj;cases hj;exact⟨rfl,rfl⟩
  | edge j d _ _ _ _ kn => have:=WS kn hi hf;have:=lt hi;omega
  | none _ _ _ _ kn _ => have:=WS kn hi hf;have:=lt hi;omega
 | edge i d h1 h2 h3 h4 hn hi hg hf=>
  cases k with
  | arity => omega
  | long => omega
  | node j m _ _ _ _ hj kg kf => have:=WS hn hj kf;have:=lt hj;omega
  | edge j m _ _ _ _ _ hj kg kf=>
   have:i=j:=Nat.le_antisymm (egl hg hj kf) (egl kg hi hf);subst this;rw[hi]at hj;cases hj;exact⟨rfl,rfl⟩
  | none _ _ _ _ _ ke => have:=egl ke hi hf;have:=lt hi;omega
 | none h1 h2 h3 h4 hn he=>
  cases k with
  | arity => omega
  | long => omega
  | node j m _ _ _ _ hj kg kf => have:=WS hn hj kf;have:=lt hj;omega
  | edge j m _ _ _ _ _ hj kg kf => have:=egl he hj kf;have:=lt hj;omega
  | none => exact⟨rfl,rfl⟩
structure wP(ev:Value)(xs:List NV):Prop where
 aL:∀p n c,ev= .slice p n c->n<=c
 bP:∀x∈xs,x.n.bP.length<=x.dc/\x.n.bP.length<=140737488351232
theorem PZ{g:bI}{i:Nat}{n:df}(h:NG g i)(hi:g.nodes[i]? =some n)(hf:ek g.arity n=0):NG g (i+1):=fun j m hj hm=>by
 by_cases e:j=i
 ·subst e;rw[hi]at hm;cases hm;exact hf
 ·exact h j m (by omega) hm
theorem QX{g:bI}{i:Nat}{d:dI}(h:EG g i)(hi:g.aL[i]? =some d)(hf:jd g.nodes (g.aL.take i) d=0):EG g (i+1):=fun j m hj hm=>by
 by_cases e:j=i
 ·subst e;rw[hi]at hm;cases hm;exact hf
 ·exact h j m (by omega) hm
theorem Lz.front{α:Type}{E:El α}{p:Option Addr}{n c:Nat}{l:List α}(h:Lz E M w (.slice p n c) l)(k:Nat)(hk:k<=l.length)(c2:Nat):Lz E M w (.slice p k c2) (l.take k):=by
 rcases h with⟨h,hb⟩|⟨rfl,q,c',e⟩
 ·cases p with
  | none=>
   rcases h with⟨rfl,e⟩|⟨b,off,c',e,_⟩
   ·obtain rfl:k=0:=(by simpa using hk);exact Or.inr ⟨by simp,none,c2,rfl⟩
   ·cases e
  | some a=>
   rcases h with⟨rfl,e⟩|⟨b,off,c',e,hlt,hl⟩
   ·cases e
   ·simp only[vS,oI]at e;obtain⟨rfl,rfl,rfl⟩:=e;refine Or.inl ⟨Ls.cut (c:=c) (n:=l.length) (Or.inr ⟨b,off,c,rfl,hlt,hl⟩) hk c2,fun k hk=>hb k (by simpa[Value.ownBlock]using hk)⟩
 ·obtain rfl:k=0:=by simpa using hk
  exact Or.inr ⟨by simp,p,c2,rfl⟩
theorem FO{nv ev:Value}{xs:List NV}{es:List dI}(w:World)(hG:GR M w nv ev xs es)(hC:wP ev xs):Calls Tryz.prog 68 #[.agg (iO a nv ev)] w fun r w'=>∃e t:Int,r= .returned (.tuple #[.int .i64 e, .int .i64 t])/\Fl (jG a xs es) e t/\Below w.heap.size w w':=by
 have hmx:Tryz.prog.follows .mixedOrders=true:=by kernel_rfl
 obtain⟨pn,cn,M6⟩:=hG.nodes.form;obtain⟨pe,ce,hev⟩:=hG.aL.form;obtain⟨nl,hnl⟩:=aB (xs.length);obtain⟨el,hel⟩:=aB (es.length);rw[<-hnl]at M6;rw[<-hel]at hev;subst M6;subst hev;have HC:=hid hC;have lh:Hid (nl=(jG a xs es).nodes.length/\nl=xs.length):=⟨by simp[hnl],hnl⟩;have AV:Hid (el=(jG a xs es).aL.length/\el=es.length):=⟨by simp[hel],hel⟩;have g0:=(Gr.refl w).alloc (.cells (iO a (.slice pn nl cn) (.slice pe el ce)) 25);have HG:=hid (hG.below g0.below);have HB:=hid (ai w (.cells (iO a (.slice pn nl cn) (.slice pe el ce)) 25));have B0:=hid g0.below;obtain⟨W0,hW0⟩:=aB (w.alloc (.cells (iO a (.slice pn nl cn) (.slice pe el ce)) 25));have HW:Hid (w.alloc (.cells #[.int .i64 a, .slice pn nl cn, .slice pe el ce] 25)=W0):=hW0.symm;rw[<-hW0]at HG HB B0;have c0:=(aa HB.o).1;have l0:=ae HB.o;clear hG g0 hW0 hnl hel hC;by_cases ha:a<1
 ·have HF:Hid (Fl (jG a xs es) 10 0):= .arity (Or.inl ha);go_enter Tryz.func68,Tryz.ntmps68;go_upto_region 1 with fail;rw[HW.o];go_wp2_with fail;go_ret2;exact⟨10,0,rfl,HF.o,B0.o⟩
 ·by_cases FH:3<a
  ·have HF:Hid (Fl (jG a xs es) 10 0):= .arity (Or.inr FH);go_enter Tryz.func68,Tryz.ntmps68;go_upto_region 1 with fail;rw[HW.o];go_wp2_with fail;go_ret2;exact⟨10,0,rfl,HF.o,B0.o⟩
  ·by_cases hn:24<nl
   ·have hnz:(24:Int)<(nl:Int):=(by omega);have HF:Hid (Fl (jG a xs es) 2 0):= .long (show 1<=a by omega) (show a<=3 by omega) (Or.inl (by rw[<-lh.o.1];exact hn));clear hn;go_enter Tryz.func68,Tryz.ntmps68;go_upto_region 1 with fail;rw[HW.o];go_wp2_with fail;go_ret2;exact⟨2,0,rfl,HF.o,B0.o⟩
   ·have hnz:¬(24:Int)<(nl:Int):=(by omega);by_cases he:48<el
    ·have SB:(48:Int)<(el:Int):=(by omega);have HF:Hid (Fl (jG a xs es) 2 0):= .long (show 1<=a by omega) (show a<=3 by omega) (Or.inr (by rw[<-AV.o.1];exact he));clear hn he;go_enter Tryz.func68,Tryz.ntmps68;go_upto_region 1 with fail;rw[HW.o];go_wp2_with fail;go_ret2;exact⟨2,0,rfl,HF.o,B0.o⟩
    ·have SB:¬(48:Int)<(el:Int):=(by omega);have HA:Hid (1<=(jG a xs es).arity/\(jG a xs es).arity<=3/\(jG a xs es).nodes.length<=24/\(jG a xs es).aL.length<=48):=⟨show 1<=a by omega,show a<=3 by omega,by rw[<-lh.o.1];omega,by rw[<-AV.o.1];omega⟩;clear hn he;go_enter Tryz.func68,Tryz.ntmps68;go_upto_region 1 with fail;rw[HW.o];clear HW;go_wp2_with fail;have h24:nl<=24:=(by omega);have h48:el<=48:=(by omega);clear hnz SB ha FH;go_loopw [31] (fun s31 wr=>∃j:Nat,j<=nl/\s31= .int .i64 (j:Nat)/\Hid (Below W0.heap.size W0 wr/\NG (jG a xs es) j)) (fun s31 _=>nl-(RowKit.intOf s31).toNat);case atStart=>exact⟨0,Nat.zero_le _,rfl,Below.refl _ _,fun _ _ h=>absurd h (Nat.not_lt_zero _)⟩
     case round=>
      clear c0 l0;obtain⟨j,hj,rfl,HI⟩:=hrel;have hb0:=(HI.o.1.block _ (ae HB.o)).trans HB.o;have c1:=(aa hb0).1;have l1:=ae hb0;by_cases hlt:j<nl
      ·have hltz:(j:Int)<(nl:Int):=(by omega);obtain⟨y,hy⟩:∃y,xs[j]? =some y:=⟨xs[j]'(by have:=lh.o.2;omega),by simp⟩;have hym:=lM hy;obtain⟨b1,o1,q1,iI,qF,x0,x1,x2,x3,x4,x5,x6,x7,x8,x9⟩:=jN ((HG.o.nodes.below HI.o.1).ls hy) hy;simp only[vS]at iI;obtain⟨rfl,-,rfl⟩:=iI;have RD:Hid ((jG a xs es).nodes[j]? =some y.n):=(by show _=_;simp[hy]);obtain⟨yb,hyb⟩:=aB (wr.heap.size);obtain⟨W5,bT⟩:=aB (wr.alloc (.cells y.cells 149));have P5:Hid (Below W0.heap.size W0 W5/\W5.heap[yb]? =some (.cells y.cells 149 (0,0))/\W5.heap[w.heap.size]? =some (.cells (iO a (.slice (some ⟨b1,o1,none⟩) nl cn) (.slice pe el ce)) 25 (0,0))):=by
        have g5:=((Gr.refl wr).alloc (.cells y.cells 149)).below;have h5:=HI.o.1.trans (g5.mono HI.o.1.size);rw[bT,hyb];exact⟨h5,ai _ _,(h5.block _ (ae HB.o)).trans HB.o⟩
       have gK:Hid (wr.alloc (.cells #[.int .i64 y.n.kind, .int .i64 y.n.ins, .int .i64 y.n.outs, .slice y.cq y.cm y.cc, .int .u64 (y.n.via.1:Nat), .int .u64 (y.n.via.2.1:Nat), .int .u64 (y.n.via.2.2:Nat), .int .u64 (y.n.bound:Nat), .slice y.dq y.dm y.dc, .bool y.n.start] 149)=W5/\wr.heap.size=yb):=⟨bT.symm,hyb.symm⟩;have cy:=(aa P5.o.2.1).1;have ly:=ae P5.o.2.1;have cg:=(aa P5.o.2.2).1;have lg:=ae P5.o.2.2;have hcall:=zL y a W5 ((HG.o.each y hym).below P5.o.1) (HC.o.bP y hym).1 (HC.o.bP y hym).2;clear bT hyb hy hym hb0;by_cases hz:ek a y.n=0
       ·rw[hz]at hcall;have HZ:=hid hz;clear hz;go_upto_region 8 with fail;rw[gK.o.1,gK.o.2];clear gK x0 x1 x2 x3 x4 x5 x6 x7 x8 x9 qF c1 l1;go_wp2_with fail;refine hcall.mono ?_;rintro r w6 ⟨rfl,b6⟩;have B6:=hid (P5.o.1.trans (b6.mono P5.o.1.size));clear b6 cy ly cg lg hcall;go_wp2_with fail;go_roundw;case rel=>exact⟨j+1,by omega,by go_num,B6.o,PZ HI.o.2 RD.o HZ.o⟩
        case measure=>simp[RowKit.intOf];omega
       ·have HF:Hid (Fl (jG a xs es) (ek a y.n) j):= .node j y.n HA.o.1 HA.o.2.1 HA.o.2.2.1 HA.o.2.2.2 RD.o HI.o.2 hz;generalize ek a y.n=zz at hcall HF hz;have hb:(zz==0)=false:=(by simp[hz]);have hb':(zz != 0)=true:=(by simp[hz]);go_upto_region 8 with fail;rw[gK.o.1,gK.o.2];clear gK x0 x1 x2 x3 x4 x5 x6 x7 x8 x9 qF c1 l1;go_wp2_with fail;refine hcall.mono ?_;rintro r w6 ⟨rfl,b6⟩;have B6:=hid (B0.o.trans ((P5.o.1.trans (b6.mono P5.o.1.size)).mono B0.o.size));clear b6 cy ly cg lg hcall;go_wp2_with fail;go_ret2;exact⟨zz,j,rfl,HF.o,B6.o⟩
      ·have hltz:¬(j:Int)<(nl:Int):=(by omega);have HN:Hid (NG (jG a xs es) (jG a xs es).nodes.length):=by
        have h:=HI.o.2;rw[show j=nl by omega,lh.o.1]at h;exact h
       go_wp2_with fail;have HB1:=hid hb0;have BI:=hid HI.o.1;clear c1 l1 hb0 HI hltz hlt;go_loopw [48] (fun Lj wr=>∃j:Nat,j<=el/\Lj= .int .i64 (j:Nat)/\Hid (Below W0.heap.size W0 wr/\EG (jG a xs es) j)) (fun Lj _=>el-(RowKit.intOf Lj).toNat);case atStart=>exact⟨0,Nat.zero_le _,rfl,BI.o,fun _ _ h=>absurd h (Nat.not_lt_zero _)⟩
       case round=>
        obtain⟨i,hi,rfl,HI⟩:=hrel;clear HB1 BI;have hb0:=(HI.o.1.block _ (ae HB.o)).trans HB.o;by_cases hlt:i<el
        ·have hltz:(i:Int)<(el:Int):=(by omega);obtain⟨y,hy⟩:∃y,es[i]? =some y:=⟨es[i]'(by have:=AV.o.2;omega),by simp⟩;obtain⟨b1,o1,q1,iI,qF,x0,x1,x2,x3,x4⟩:=qU ((HG.o.aL.below HI.o.1).ls hy) hy;simp only[vS]at iI;obtain⟨rfl,-,rfl⟩:=iI;have RD:Hid ((jG a xs es).aL[i]? =some y):=hy;obtain⟨yb,hyb⟩:=aB (wr.heap.size);obtain⟨W5,bT⟩:=aB (wr.alloc (.cells (aW y) 151));have P5:Hid (Below W0.heap.size W0 W5/\W5.heap[yb]? =some (.cells (aW y) 151 (0,0))/\W5.heap[w.heap.size]? =some (.cells (iO a (.slice pn nl cn) (.slice (some ⟨b1,o1,none⟩) el ce)) 25 (0,0))):=by
          have g5:=((Gr.refl wr).alloc (.cells (aW y) 151)).below;have h5:=HI.o.1.trans (g5.mono HI.o.1.size);rw[bT,hyb];exact⟨h5,ai _ _,(h5.block _ (ae HB.o)).trans HB.o⟩
         have gK:Hid (wr.alloc (.cells #[.int .i64 y.src, .int .i64 y.o, .int .i64 y.dst, .int .i64 y.cO, .bool y.keyed] 151)=W5/\wr.heap.size=yb):=⟨bT.symm,hyb.symm⟩;have hce:el<=ce:=HC.o.aL _ _ _ rfl;have hcall:∀W,Below W5.heap.size W5 W->Calls Tryz.prog 110 #[.agg (aW y), .slice (some ⟨b1,o1,none⟩) i ce, .slice pn nl cn] W fun r w'=>r= .returned (.int .i64 (jd (jG a xs es).nodes ((jG a xs es).aL.take i) y))/\Below W.heap.size W w':=fun W hb=>by
          have hbw:=P5.o.1.trans (hb.mono P5.o.1.size);have h1:=(HG.o.aL.below hbw).front i (by have:=AV.o.2;omega) ce;have h:=Ap y W h1 (HG.o.nodes.below hbw) (by have:=AV.o.2;have:=HG.o.wide;have:=HA.o.2.2.2;simp at this⊢;omega);rw[JK]at h;exact h
         clear bT hyb hy hb0;generalize hzz:jd (jG a xs es).nodes ((jG a xs es).aL.take i) y=zz at hcall;have HZZ:=hid hzz;clear hzz;go_upto_region 15 with fail;rw[gK.o.1,gK.o.2];clear gK x0 x1 x2 x3 x4 qF;have hS0:Below W5.heap.size W5 W5.drew:=(Gr.refl W5).drew.below;have hi0:(0:Int)<=(i:Int):=(by omega);have hic:(i:Int)<=(ce:Int):=(by omega);clear hce;refine av (S:=fun W=>Below W5.heap.size W5 W) (D:=[]) hmx ?_;refine' aR 0 hS0 ?h ?_;case h=>(intro W hSw;have hb:=(hSw.block _ (ae P5.o.2.1)).trans P5.o.2.1;have hc:=(aa hb).1;have hl:=ae hb;go_simp;try(with_reducible rfl))
         refine' au 1 hS0 ?_;refine' aR 2 hS0 ?h ?_;case h=>(intro W hSw;have hb:=(hSw.block _ (ae P5.o.2.2)).trans P5.o.2.2;have hc:=(aa hb).1;have hl:=ae hb;go_simp;try(with_reducible rfl))
         refine' au 3 hS0 ?_;refine' au 4 hS0 ?_;refine' au 5 hS0 ?_;refine' aR 6 hS0 ?h ?_;case h=>(intro W hSw;have hb:=(hSw.block _ (ae P5.o.2.2)).trans P5.o.2.2;have hc:=(aa hb).1;have hl:=ae hb;go_simp;try(with_reducible rfl))
         refine bF 7 fun K hK=> ?_;go_simp;refine(hcall _ hS0).mono ?_;rintro r w6 ⟨rfl,b6⟩;have kV:Below W5.heap.size W5 w6:=hS0.trans (b6.mono hS0.size);clear b6;go_wp2_with fail;refine hK.o _ _ (fun hD=>kV) ?_;clear hK K;try simp only[Act.put,qI,q0,qS]
         refine' au 8 kV ?_;refine aj (by kernel_rfl) ?_ _;have B6:=hid (P5.o.1.trans (kV.mono P5.o.1.size));clear hcall hS0 kV hi0 hic;by_cases hz:zz=0
         ·subst hz;go_wp2_with fail;go_roundw;case rel=>exact⟨i+1,by omega,by go_num,B6.o,QX HI.o.2 RD.o HZZ.o⟩
          case measure=>simp[RowKit.intOf];omega
         ·have hb:(zz==0)=false:=(by simp[hz]);have hb':(zz != 0)=true:=(by simp[hz]);have HF:Hid (Fl (jG a xs es) zz (nl+i:Nat)):=by
           have h:=Fl.edge (g:=jG a xs es) i y HA.o.1 HA.o.2.1 HA.o.2.2.1 HA.o.2.2.2 HN.o RD.o HI.o.2 (by rw[HZZ.o];exact hz);rw[HZZ.o,<-lh.o.1]at h;exact h
          have hb9:=(B6.o.block _ (ae HB.o)).trans HB.o;have c9:=(aa hb9).1;have l9:=ae hb9;have hnn:(nl:Int)<=24:=(by omega);have hii:(i:Int)<=48:=(by omega);clear hb9;go_upto_region 17 with fail;go_quiet (fail);go_wp2_with fail;go_ret2;exact⟨zz,(nl+i:Nat),by push_cast;rfl,HF.o,B0.o.trans ((B6.o.trans (((Gr.refl _).drewN _).below.mono B6.o.size)).mono B0.o.size)⟩
        ·have hltz:¬(i:Int)<(el:Int):=(by omega);have HF:Hid (Fl (jG a xs es) 0 0):= .none HA.o.1 HA.o.2.1 HA.o.2.2.1 HA.o.2.2.2 HN.o (by
          have h:=HI.o.2;rw[show i=el by omega,AV.o.1]at h;exact h)
         go_wp2_with fail;go_ret2;exact⟨0,0,rfl,HF.o,B0.o.trans (HI.o.1.mono B0.o.size)⟩
end Df
end Go.Proofs.YteekbpokkjjipaaGreat
