import Derived.Test.YtiiefcalkjeieaaGreatJ16
import Derived.Test.YtiiefcalkjeieaaGreatKSo
set_option maxHeartbeats 8000000
set_option maxRecDepth 100000
namespace Go.Proofs.YtiiefcalkjeieaaGreat.Df
open Go.RowKit Go.Sort
attribute[local go_sem ↓]wp_at_zero wp_at_succ
theorem WN:(Tryz.prog.info? 97).map (fun i=>(i.zero,i.size,i.bytes))=some (some (.slice none 0 0),1,24):=by kernel_rfl
theorem ab1(vs:List LV):fl EL vs=vs.map LV.v:=by
 induction vs with
 | nil => rfl
 | cons x l ih => rw[aR,ih];rfl
theorem ZZ(n:Nat):(madeCells (Value.slice none 0 0).cells (n*1)).toList=fl EL (List.replicate n ⟨none,0,0⟩):=by
 rw[Nat.mul_one,ab1];exact(toList_madeCells_one _ n).trans (by simp)
theorem PN(a b c:Value)(w:World):Sem.run Tryz.prog (Instr.field 25 (.agg #[a,b,c]) 2) w= .ok c w:=by kernel_rfl
theorem Fo.made{w w1:World}{n:Nat}(hrow:w1.ownsRow w.heap.size 97 1 (sO w.heap.size n n) n (madeCells (Value.slice none 0 0).cells (n*1)).toList):Fo w.heap.size w1 (sO w.heap.size n n) (List.replicate n ⟨none,0,0⟩) (fun _=>[]):=by
 have hnil:∀(k:Nat) (x:LV),(List.replicate n (⟨none,0,0⟩:LV))[k]? =some x->x=⟨none,0,0⟩:=fun k x h=>List.eq_of_mem_replicate (lM h);refine⟨?_,fun k x h=> ?_,fun k x h b e=> ?_⟩
 ·rw[List.length_replicate];rw[ZZ]at hrow;exact hrow
 ·rw[hnil k x h];exact oN _ _ _ _
 ·rw[hnil k x h]at e;cases e
def Sg(w:World)(n g:Nat)(l:List (Nat×Nat))(W:World):Prop:=∃vs,Fo w.heap.size W (sO g n n) vs (bB l)/\vs.length=n/\Bw w W
theorem Sg.below{w W W':World}{n g:Nat}{l:List (Nat×Nat)}(h:Sg w n g l W)(hb:Bw W W'):Sg w n g l W':=by
 obtain⟨vs,h1,h2,h3⟩:=h;exact⟨vs,h1.below hb,h2,h3.trans (hb.mono h3.size)⟩
theorem Sg.cell{w W:World}{n g:Nat}{l:List (Nat×Nat)}(h:Sg w n g l W){k:Nat}(hk:k<n):∃vs x,Fo w.heap.size W (sO g n n) vs (bB l)/\vs.length=n/\Bw w W/\vs[k]? =some x/\W.cell? ⟨g,k,none⟩=some x.v/\g<W.heap.size/\W.ownsRow w.heap.size 3 1 x.v (bB l k).length (fl EI (bB l k)):=by
 obtain⟨vs,h1,h2,h3⟩:=h;obtain⟨x,hx⟩:∃x,vs[k]? =some x:=⟨vs[k]'(by omega),by simp⟩;obtain⟨b,off,c,hv,hb,hc⟩:=qp (aK (E:=EL) h1.row) hx;simp only[vS,oI,aI]at hv;obtain⟨⟨rfl,rfl,-⟩,-,-⟩:=hv;rw[nZ]at hc;exact⟨vs,x,h1,h2,h3,hx,hc,hb,h1.each k x hx⟩
theorem dD{B gb:Nat}{g:bG}(w:World)(h:Gm B w gb g)(ku:ic g):CL 118 #[aB gb] w fun r w'=>∃v,r= .returned v/\Hid (Bw w w'/\Ff w'.heap.size w' v (iq g)):=by
 have hmx:Tryz.prog.follows .mixedOrders=true:=by kernel_rfl
 have HM:Hid (∀W,Bw w W->Gm B W gb g):=fun W hb=>h.below hb;have iP:=hid ku;have hpl:=nu ku;have hp:=iM w h;obtain⟨n,hn⟩:=aF (aW g.nodes);rw[<-hn]at hpl hp;have HN:=hid hn;have hnl:=ku.nl;have hel:=ku.el;clear h ku hn;obtain⟨i0,hi0,hz0,hz1,hz2⟩:=info_parts WN;go_enter Tryz.func118,Tryz.ntmps118;go_wp2_with fail;refine hp.mono ?_;clear hp;rintro r w1 ⟨rfl,hw1⟩;have hw2:=hw1.symm;subst hw2;clear hw1;go_upto_region 2 with(at_make;refine wpList_make_full _ rfl _ _ 211 rfl w.heap.size 97 i0 (.slice none 0 0) 1 Tryz.underlying211 hi0 hz0 hz1 _ _ _ _ n rfl rfl rfl rfl (by rw[hz2];omega) (by unfold maxLen;omega) (nR _) ?_;intro w2 hrow hg1);have hb2:Bw w w2:=(Kp.grownBy (S:=fun _=>False) hg1 (fun _ h=>by cases h)).below (nR _) (fun _ h=>h.elim);have S2:Hid (Sg w n w.heap.size [] w2):=⟨_,(Fo.made hrow).re (fun k _=>rfl),by simp,hb2⟩;obtain⟨gg,hgg⟩:=aF (w.heap.size);rw[<-hgg]at S2⊢;have hraw:=xP w2 (HM.o w2 hb2);clear hrow hg1 hgg hi0 hz0 hz1 hz2 hb2;go_wp2_with fail;refine hraw.mono ?_;clear hraw;rintro r w3 ⟨nv,ev,ys,HR⟩;obtain⟨rfl,hb3,hys,hcg⟩:=HR.o;clear HR;have S3:Hid (Sg w n gg [] w3/\w3.ownsRow w2.heap.size 151 5 ev g.aO.length (fl ED g.aO)):=⟨S2.o.below hb3,hcg.aO⟩;obtain⟨qn,mn,cn,hq⟩:=aD hcg.nodes;obtain⟨qe,me,ce,hqe⟩:=aD hcg.aO;subst hq;subst hqe;obtain⟨rfl,hce⟩:=bz hcg.aO _ _ _ rfl;obtain⟨es,hes⟩:=aF (g.aO);rw[<-hes]at S3 hel hce⊢;have HES:=hid hes;generalize rC:es.length=el at S3 hel hce⊢;have CV:=hid rC;clear hcg hys hb3 S2 hes rC;dsimp only[jg];have fd:=PN (iV g.arity) (.slice qn mn cn) (.slice qe el ce);go_wp2_with fail;go_loopw [20] (fun s20 wr=>∃i:Nat,i<=el/\s20=iV (i:Nat)/\Hid (Sg w n gg (j6 g.nodes (es.take i)) wr/\wr.ownsRow w2.heap.size 151 5 (.slice qe el ce) el (fl ED es))) (fun s20 _=>el-(intOf s20).toNat);case atStart=>exact⟨0,zL _,rfl,S3.o⟩
 case round=>
  clear S3;obtain⟨i,hi,rfl,HI⟩:=hrel;by_cases hlt:i<el
  ·have hltz:(i:Int)<(el:Int):=(by omega);have hi1:(0:Int)<=(i:Int):=(by omega);obtain⟨y,hy⟩:∃y,es[i]? =some y:=⟨es[i]'(by have:=CV.o;omega),by simp⟩;have HY:=hid hy;have uL:Hid (fF g.nodes y.src y.o=true/\fG g.nodes y.dst y.dx=true):=iP.o.ends (by rw[<-HES.o];exact hy);obtain⟨b1,o1,q1,gU,rY,x0,x1,x2,x3,x4⟩:=sQ (aK (E:=ED) (aV HI.o.2 CV.o.symm rfl)) hy;simp only[vS]at gU;obtain⟨rfl,-,rfl⟩:=gU;clear hy;obtain⟨yb,hyb⟩:=aF (wr.heap.size);obtain⟨W5,bW⟩:=aF (wr.alloc (.cells (aZ y) 151));have P5:Hid (Sg w n gg (j6 g.nodes (es.take i)) W5/\W5.ownsRow w2.heap.size 151 5 (.slice (some ⟨b1,o1,none⟩) el ce) el (fl ED es)/\W5.heap[yb]? =some (.cells (aZ y) 151 (0,0))):=by
    have g5:=((Gr.refl wr).alloc (.cells (aZ y) 151)).below;rw[bW,hyb];exact⟨HI.o.1.below g5,ag HI.o.2 g5,ah _ _⟩
   have ig:Hid (wr.alloc (.cells #[iV y.src,iV y.o,iV y.dst,iV y.dx, .bool y.keyed] 151)=W5/\wr.heap.size=yb):=⟨bW.symm,hyb.symm⟩;clear bW hyb HI;go_upto_region 5 with fail;rw[ig.o.1,ig.o.2];clear ig x0 x1 x2 x3 x4 rY;have hout:=nS y.src y.o W5 (HM.o W5 (by obtain⟨_,_,_,h⟩:=P5.o.1;exact h));rw[vF uL.o.1 iP.o.kI]at hout;obtain⟨fr,hfr⟩:=aF (eD g.nodes y);rw[<-hfr]at hout;have hfn:fr<n:=(by rw[hfr,HN.o];exact nz uL.o.1);have Kb:=hid hfr;clear hfr;have c5:=(aa P5.o.2.2).1;have l5:=ae P5.o.2.2;go_wp2_with fail;refine hout.mono ?_;clear hout c5 l5;rintro r W6 ⟨rfl,g6⟩;go_upto_region 6 with fail;obtain⟨pl,kP⟩:=aF (j6 g.nodes (es.take i));obtain⟨pi,hpi⟩:=aF (iW g.nodes y);have hS:=P5.o.1.below g6.below;have YN:=hid (ag P5.o.2.1 g6.below);have HD:Hid (W6.heap[yb]? =some (.cells (aZ y) 151 (0,0))):=(g6.below.block _ (ae P5.o.2.2)).trans P5.o.2.2;have uG:Hid (pl++[(fr,pi)]=j6 g.nodes (es.take (i+1))):=by
    show _=_;rw[kP,Kb.o,hpi,tO,HY.o];simp[j6,T9]
   rw[<-kP]at hS;have hll:=oU pl fr;have hpn:pl.length<=48:=by
    rw[kP];simp only[j6,gQ,lK];omega
   obtain⟨vs,⟨xq,xm,xc⟩,f1,f2,f3,f4,f5,f6,f7⟩:=hS.cell hfn;have HF:Hid (Fo w.heap.size W6 (sO gg n n) vs (bB pl)/\vs.length=n/\vs[fr]? =some ⟨xq,xm,xc⟩):=⟨f1,f2,f4⟩;have vP:=hid f3;have jK:=hid f3.size;have HC:Hid (aj W6 gg fr (.slice xq xm xc)/\gg<W6.heap.size/\fr=fr):=⟨f5,f6,rfl⟩;have uJ:Hid (∀W,Bw W6 W->CL 116 #[aB gb,iV y.dst,iV y.dx] W fun r w'=>r= .returned (iV ((pi:Nat):Int))/\Gr W w'):=fun W hb=>by
    have h:=rH y.dst y.dx W (HM.o W (f3.trans (hb.mono f3.size)));rw[BZ uL.o.2,<-hpi]at h;exact h.mono (fun r w' hr=>⟨hr.1,by rw[hr.2];exact Gr.refl _⟩)
   obtain⟨LL,mU⟩:=aF (bB pl fr);rw[<-mU]at f7 hll;have HRW:=hid f7;have vO:=hid mU;have uY:Hid (LL.length<=48):=nT hll hpn;have hf0:(0:Int)<=(fr:Int):=(by omega);have hfz:(fr:Int)<(n:Int):=(by omega);clear f1 f2 f3 f4 f5 f6 f7 mU hll hpn kP hpi hS g6 P5;have hB0:Bw W6 W6.drew:=(Gr.refl W6).drew.below;have gK:Hid (∀W,Bw W6 W->aj W gg fr (.slice xq xm xc)/\gg<W.heap.size/\W.heap[yb]? =some (.cells (aZ y) 151 (0,0))):=fun W hb=>⟨(hb.cell (p:=⟨gg,fr,none⟩) HC.o.2.1).trans HC.o.1,nL HC.o.2.1 hb.size,(hb.block _ (ae HD.o)).trans HD.o⟩;have hS0:=gK.o _ hB0;refine ay (S:=fun W=>aj W gg fr (.slice xq xm xc)/\gg<W.heap.size/\W.heap[yb]? =some (.cells (aZ y) 151 (0,0))) (D:=[15]) hmx ?_;refine' ak 0 hS0 ?_;refine' ak 1 hS0 ?_;refine' ak 2 hS0 ?_;refine' ak 3 hS0 ?_;refine' ak 4 hS0 ?_;refine' bD 5 hS0 ?h ?_;case h=>(intro W hSw;have hc:=hSw.1;have hl:=hSw.2.1;go_simp;try(with_reducible rfl))
   refine' ak 6 hS0 ?_;refine' ak 7 hS0 ?_;refine' bD 8 hS0 ?h ?_;case h=>(intro W hSw;have hc:=(aa hSw.2.2).1;have hl:=ae hSw.2.2;go_simp;try(with_reducible rfl))
   refine' ak 9 hS0 ?_;refine' bD 10 hS0 ?h ?_;case h=>(intro W hSw;have hc:=(aa hSw.2.2).1;have hl:=ae hSw.2.2;go_simp;try(with_reducible rfl))
   refine wpC 11 (uJ.o _ hB0) ?_;rintro r w7 ⟨rfl,g7⟩;have bu:Bw W6 w7:=hB0.trans (g7.below.mono hB0.size);clear g7;refine⟨_,rfl,gK.o _ bu, ?_⟩;refine fV 12 fun K hK=> ?_;go_simp;have iZ:Bw W6 (w7.alloc (.cells #[iV ((pi:Nat):Int)] 3)):=bu.trans (((Gr.refl w7).alloc _).below.mono bu.size);refine hK.o _ _ (fun hD=>gK.o _ iZ) ?_;clear hK K;try simp only[Act.put,qI,q0,qS]
   refine fV 13 fun K hK=> ?_;refine bT EI Tryz.underlying97 mr rfl (by decide) rfl _ _ rfl w.heap.size (.slice xq xm xc) LL.length (fl EI LL) rfl (ag HRW.o bu) ((pi:Nat):Int) (by first|rfl|simp) (by have:=uY.o;omega) (by have:=uY.o;unfold maxLen;omega) (nT jK.o bu.size) _ rfl _ ?_;intro g8 bF w8 h8 k8 n8;have ST:Hid (Sg w n gg (pl++[(fr,pi)]) (w8.setCell ⟨gg,fr,none⟩ (sO g8 (LL.length+1) bF))/\(w8.setCell ⟨gg,fr,none⟩ (sO g8 (LL.length+1) bF)).ownsRow w2.heap.size 151 5 (.slice (some ⟨b1,o1,none⟩) el ce) el (fl ED es)):=by
    have hf:=HF.o.1.below bu;rw[vO.o]at h8⊢;obtain⟨h1,h2⟩:=hf.step HF.o.2.2 (by rw[HF.o.2.1]) h8.o k8.o n8.o;refine⟨⟨_,h1.re (fun k _=>(xS pl (fr,pi) k).symm),by rw[lZ];exact HF.o.2.1,(vP.o.trans (bu.mono vP.o.size)).trans (h2.below (nT vP.o.size bu.size) (hf.blocks HF.o.2.2))⟩, ?_⟩;exact hf.other HF.o.2.2 h2 (ag YN.o bu) (by decide) (by decide)
   have dP:=(Kp.grownBy (S:=fun k=>(Value.slice xq xm xc).ownBlock=some k) k8.o (fun _ h=>h));have F8:Hid (w8.frozen? ⟨gg,fr,none⟩=false/\gg<w8.heap.size/\aj w8 gg fr (.slice xq xm xc)/\w8.heap[yb]? =some (.cells (aZ y) 151 (0,0))):=by
    have hf:=HF.o.1.below bu;have hne:=aH hf.row (hf.each fr _ HF.o.2.2) (by decide);have JK:=ax dP hf.row (fun j e e2=>hne j e e2);rw[HF.o.2.1]at JK;exact⟨JK.frozenAt _,nL HC.o.2.1 (nT bu.size dP.size),(dP.cell (nL HC.o.2.1 bu.size) (fun e=>hne gg rfl e)).trans ((bu.cell (p:=⟨gg,fr,none⟩) HC.o.2.1).trans HC.o.1),(dP.block _ (nL (ae HD.o) bu.size) (fun e=>aJ (ag HRW.o bu) (gK.o _ bu).2.2 (by decide) yb e rfl)).trans (gK.o _ bu).2.2⟩
   clear h8 k8 n8 dP;generalize LL.length+1=ll at ST⊢;refine hK.o _ _ (fun hD=>⟨F8.o.2.2.1,F8.o.2.1,F8.o.2.2.2⟩) ?_;clear hK K;try simp only[Act.put,qI,q0,qS]
   refine' ak 14 ⟨F8.o.2.2.1,F8.o.2.1,F8.o.2.2.2⟩ ?_;refine fV 15 fun K hK=> ?_;have c8:=F8.o.2.2.1;have f8:=F8.o.1;have l8:=F8.o.2.1;go_simp;generalize (w8.setCell ⟨gg,fr,none⟩ (sO g8 ll bF))=w9 at ST⊢;clear c8 f8 l8;refine hK.o _ _ (fun hD=>absurd (by decide) hD) ?_;clear hK K;try simp only[Act.put,qI,q0,qS]
   refine av (by kernel_rfl) ?_ _;have FIN:Hid (Sg w n gg (j6 g.nodes (es.take (i+1))) w9/\w9.ownsRow w2.heap.size 151 5 (.slice (some ⟨b1,o1,none⟩) el ce) el (fl ED es)):=(by rw[<-uG.o];exact ST.o);clear ST uG hS0 bu hB0 gK;go_upto_region 7 with fail;go_wp2_with fail;go_roundw;case rel=>exact⟨i+1,by omega,by go_num,FIN.o⟩
   case measure=>simp[intOf];omega
  ·have hltz:¬(i:Int)<(el:Int):=(by omega);have S9:Hid (Sg w n gg (j6 g.nodes es) wr):=by
    have h:=HI.o.1;rw[tL (by have:=CV.o;omega)]at h;exact h
   have Hy:=jD wr (HM.o wr (by obtain⟨_,_,_,h⟩:=S9.o;exact h));obtain⟨nl,Hz⟩:=aF (g.nodes.length);rw[<-Hz]at Hy hnl;have mf:=hid Hz;clear HI Hz;go_wp2_with fail;refine Hy.mono ?_;clear Hy;rintro r eF ⟨rfl,Ca⟩;subst Ca;go_wp2_with fail;go_loopw [48] (fun Ns wr=>∃i:Nat,i<=nl/\Ns=iV (i:Nat)/\Hid (Sg w n gg (j6 g.nodes es++lI g.nodes i) wr)) (fun Ns _=>nl-(intOf Ns).toNat);case atStart=>exact⟨0,zL _,rfl,by have h:=S9.o;show Sg _ _ _ _ _;simpa[lI]using h⟩
   case round=>
    clear S9;obtain⟨j,hj,rfl,HI⟩:=hrel;by_cases hlj:j<nl
    ·have Xk:(j:Int)<(nl:Int):=(by omega);have hj1:(0:Int)<=(j:Int):=(by omega);have hcon:=qz (j:Int) wr (HM.o wr (by obtain⟨_,_,_,h⟩:=HI.o;exact h));obtain⟨cs,hcs⟩:=aF (dA g.nodes (j:Int));rw[<-hcs]at hcon;have hcl:cs.length<=16:=(by rw[hcs];exact iP.o.Cv j);have HCS:=hid hcs;clear hcs;go_wp2_with fail;refine hcon.mono ?_;clear hcon;rintro r qL ⟨dv,rfl,xL,hcr⟩;obtain⟨qc,mc,cc,hqc⟩:=aD hcr;subst hqc;obtain⟨rfl,hcc⟩:=bz hcr _ _ _ rfl;have hB1:∃b,b=wr.heap.size:=⟨_,rfl⟩;obtain⟨B1,hB1⟩:=hB1;rw[<-hB1]at hcr;have Yu:Hid (Sg w n gg (j6 g.nodes es++lI g.nodes j) qL/\qL.ownsRow B1 205 5 (.slice qc cs.length cc) cs.length (fl EC cs)):=⟨HI.o.below xL,hcr⟩;generalize rC:cs.length=cl at Yu hcl hcc⊢;have Kc:=hid rC;clear xL hcr HI rC hB1;go_wp2_with fail;go_loopw [55] (fun V6 wr=>∃k:Nat,k<=cl/\V6=iV (k:Nat)/\Hid (Sg w n gg (j6 g.nodes es++lI g.nodes j++pJ g.nodes j (cs.take k)) wr/\wr.ownsRow B1 205 5 (.slice qc cl cc) cl (fl EC cs))) (fun V6 _=>cl-(intOf V6).toNat);case atStart=>exact⟨0,zL _,rfl,by have h:=Yu.o;show Sg _ _ _ _ _/\_;simpa[pJ]using h⟩
     case round=>
      clear Yu;obtain⟨k,hk,rfl,HI⟩:=hrel;by_cases hlk:k<cl
      ·have Cb:(k:Int)<(cl:Int):=(by omega);have hk1:(0:Int)<=(k:Int):=(by omega);obtain⟨y,hy⟩:∃y,cs[k]? =some y:=⟨cs[k]'(by have:=Kc.o;omega),by simp⟩;have HY:=hid hy;have uL:Hid (fG g.nodes (j:Int) y.dx=true/\fF g.nodes (j:Int) y.o=true):=iP.o.Ya (by rw[<-HCS.o];exact lM hy);obtain⟨b1,o1,q1,gU,rY,x0,x1,x2,x3,x4⟩:=sS (aK (E:=EC) (aV HI.o.2 Kc.o.symm rfl)) hy;simp only[vS]at gU;obtain⟨rfl,-,rfl⟩:=gU;clear hy;obtain⟨yb,hyb⟩:=aF (wr.heap.size);obtain⟨W5,bW⟩:=aF (wr.alloc (.cells (dh y) 205));have P5:Hid (Sg w n gg (j6 g.nodes es++lI g.nodes j++pJ g.nodes j (cs.take k)) W5/\W5.ownsRow B1 205 5 (.slice (some ⟨b1,o1,none⟩) cl cc) cl (fl EC cs)/\W5.heap[yb]? =some (.cells (dh y) 205 (0,0))):=by
        have g5:=((Gr.refl wr).alloc (.cells (dh y) 205)).below;rw[bW,hyb];exact⟨HI.o.1.below g5,ag HI.o.2 g5,ah _ _⟩
       have ig:Hid (wr.alloc (.cells #[iV y.dx,iV y.o,uV (y.via.1:Nat),uV (y.via.2.1:Nat),uV (y.via.2.2:Nat)] 205)=W5/\wr.heap.size=yb):=⟨bW.symm,hyb.symm⟩;clear bW hyb HI;go_upto_region 14 with fail;rw[ig.o.1,ig.o.2];clear ig x0 x1 x2 x3 x4 rY;have c5:=(aa P5.o.2.2).1;have l5:=ae P5.o.2.2;by_cases hE:y.via=(0,0,0)
       ·have hin:=rH (j:Int) y.dx W5 (HM.o W5 (by obtain⟨_,_,_,h⟩:=P5.o.1;exact h));rw[IJ uL.o.1]at hin;obtain⟨fr,hfr⟩:=aF (QY g.nodes j y);rw[<-hfr]at hin;have hfn:fr<n:=(by rw[hfr,HN.o];exact yu uL.o.1);have Kb:=hid hfr;clear hfr;obtain⟨hE1,hE2,hE3⟩:y.via.1=0/\y.via.2.1=0/\y.via.2.2=0:=(by rw[hE];exact⟨rfl,rfl,rfl⟩);go_wp2_with fail;refine hin.mono ?_;clear hin c5 l5;rintro r W6 ⟨rfl,Pw⟩;subst Pw;go_upto_region 16 with fail;obtain⟨pl,kP⟩:=aF (j6 g.nodes es++lI g.nodes j++pJ g.nodes j (cs.take k));obtain⟨pi,hpi⟩:=aF (cOut g.nodes j y);have hS:=P5.o.1;have YN:=hid P5.o.2.1;have HD:=hid P5.o.2.2;have uG:Hid (pl++[(fr,pi)]=j6 g.nodes es++lI g.nodes j++pJ g.nodes j (cs.take (k+1))):=by
         show _=_;rw[kP,Kb.o,hpi,tO,HY.o];simp[pJ,Ti,Qf,hE]
        rw[<-kP]at hS;have hll:=oU pl fr;have hpn:pl.length<=500:=by
         have h1:=DW iP.o j;have h2:(pJ g.nodes j (cs.take k)).length<=k:=by
          unfold pJ;rw[gQ];exact nT (List.length_filter_le _ _) (by rw[lK];omega)
         rw[kP,dQ,dQ];simp only[j6,gQ];have:=CV.o;omega
        obtain⟨vs,⟨xq,xm,xc⟩,f1,f2,f3,f4,f5,f6,f7⟩:=hS.cell hfn;have HF:Hid (Fo w.heap.size W6 (sO gg n n) vs (bB pl)/\vs.length=n/\vs[fr]? =some ⟨xq,xm,xc⟩):=⟨f1,f2,f4⟩;have vP:=hid f3;have jK:=hid f3.size;have HC:Hid (aj W6 gg fr (.slice xq xm xc)/\gg<W6.heap.size/\fr=fr):=⟨f5,f6,rfl⟩;have uJ:Hid (∀W,Bw W6 W->CL 115 #[aB gb,iV (j:Int),iV y.o] W fun r w'=>r= .returned (iV ((pi:Nat):Int))/\Gr W w'):=fun W hb=>by
         have h:=nS (j:Int) y.o W (HM.o W (f3.trans (hb.mono f3.size)));rw[CB iP.o.kI uL.o.2,<-hpi]at h;exact h
        obtain⟨LL,mU⟩:=aF (bB pl fr);rw[<-mU]at f7 hll;have HRW:=hid f7;have vO:=hid mU;have uY:Hid (LL.length<=500):=nT hll hpn;have hf0:(0:Int)<=(fr:Int):=(by omega);have hfz:(fr:Int)<(n:Int):=(by omega);clear f1 f2 f3 f4 f5 f6 f7 mU hll hpn kP hpi hS P5;have hB0:Bw W6 W6.drew:=(Gr.refl W6).drew.below;have gK:Hid (∀W,Bw W6 W->aj W gg fr (.slice xq xm xc)/\gg<W.heap.size/\W.heap[yb]? =some (.cells (dh y) 205 (0,0))):=fun W hb=>⟨(hb.cell (p:=⟨gg,fr,none⟩) HC.o.2.1).trans HC.o.1,nL HC.o.2.1 hb.size,(hb.block _ (ae HD.o)).trans HD.o⟩;have hS0:=gK.o _ hB0;refine ay (S:=fun W=>aj W gg fr (.slice xq xm xc)/\gg<W.heap.size/\W.heap[yb]? =some (.cells (dh y) 205 (0,0))) (D:=[14]) hmx ?_;refine' ak 0 hS0 ?_;refine' ak 1 hS0 ?_;refine' ak 2 hS0 ?_;refine' ak 3 hS0 ?_;refine' ak 4 hS0 ?_;refine' bD 5 hS0 ?h ?_;case h=>(intro W hSw;have hc:=hSw.1;have hl:=hSw.2.1;go_simp;try(with_reducible rfl))
        refine' ak 6 hS0 ?_;refine' ak 7 hS0 ?_;refine' ak 8 hS0 ?_;refine' bD 9 hS0 ?h ?_;case h=>(intro W hSw;have hc:=(aa hSw.2.2).1;have hl:=ae hSw.2.2;go_simp;try(with_reducible rfl))
        refine wpC 10 (uJ.o _ hB0) ?_;rintro r w7 ⟨rfl,g7⟩;have bu:Bw W6 w7:=hB0.trans (g7.below.mono hB0.size);clear g7;refine⟨_,rfl,gK.o _ bu, ?_⟩;refine fV 11 fun K hK=> ?_;go_simp;have iZ:Bw W6 (w7.alloc (.cells #[iV ((pi:Nat):Int)] 3)):=bu.trans (((Gr.refl w7).alloc _).below.mono bu.size);refine hK.o _ _ (fun hD=>gK.o _ iZ) ?_;clear hK K;try simp only[Act.put,qI,q0,qS]
        refine fV 12 fun K hK=> ?_;refine bT EI Tryz.underlying97 mr rfl (by decide) rfl _ _ rfl w.heap.size (.slice xq xm xc) LL.length (fl EI LL) rfl (ag HRW.o bu) ((pi:Nat):Int) (by first|rfl|simp) (by have:=uY.o;omega) (by have:=uY.o;unfold maxLen;omega) (nT jK.o bu.size) _ rfl _ ?_;intro g8 bF w8 h8 k8 n8;have ST:Hid (Sg w n gg (pl++[(fr,pi)]) (w8.setCell ⟨gg,fr,none⟩ (sO g8 (LL.length+1) bF))/\(w8.setCell ⟨gg,fr,none⟩ (sO g8 (LL.length+1) bF)).ownsRow B1 205 5 (.slice (some ⟨b1,o1,none⟩) cl cc) cl (fl EC cs)):=by
         have hf:=HF.o.1.below bu;rw[vO.o]at h8⊢;obtain⟨h1,h2⟩:=hf.step HF.o.2.2 (by rw[HF.o.2.1]) h8.o k8.o n8.o;refine⟨⟨_,h1.re (fun k _=>(xS pl (fr,pi) k).symm),by rw[lZ];exact HF.o.2.1,(vP.o.trans (bu.mono vP.o.size)).trans (h2.below (nT vP.o.size bu.size) (hf.blocks HF.o.2.2))⟩, ?_⟩;exact hf.other HF.o.2.2 h2 (ag YN.o bu) (by decide) (by decide)
        have dP:=(Kp.grownBy (S:=fun k=>(Value.slice xq xm xc).ownBlock=some k) k8.o (fun _ h=>h));have F8:Hid (w8.frozen? ⟨gg,fr,none⟩=false/\gg<w8.heap.size/\aj w8 gg fr (.slice xq xm xc)/\w8.heap[yb]? =some (.cells (dh y) 205 (0,0))):=by
         have hf:=HF.o.1.below bu;have hne:=aH hf.row (hf.each fr _ HF.o.2.2) (by decide);have JK:=ax dP hf.row (fun j e e2=>hne j e e2);rw[HF.o.2.1]at JK;exact⟨JK.frozenAt _,nL HC.o.2.1 (nT bu.size dP.size),(dP.cell (nL HC.o.2.1 bu.size) (fun e=>hne gg rfl e)).trans ((bu.cell (p:=⟨gg,fr,none⟩) HC.o.2.1).trans HC.o.1),(dP.block _ (nL (ae HD.o) bu.size) (fun e=>aJ (ag HRW.o bu) (gK.o _ bu).2.2 (by decide) yb e rfl)).trans (gK.o _ bu).2.2⟩
        clear h8 k8 n8 dP;generalize LL.length+1=ll at ST⊢;refine hK.o _ _ (fun hD=>⟨F8.o.2.2.1,F8.o.2.1,F8.o.2.2.2⟩) ?_;clear hK K;try simp only[Act.put,qI,q0,qS]
        refine' ak 13 ⟨F8.o.2.2.1,F8.o.2.1,F8.o.2.2.2⟩ ?_;refine fV 14 fun K hK=> ?_;have c8:=F8.o.2.2.1;have f8:=F8.o.1;have l8:=F8.o.2.1;go_simp;generalize (w8.setCell ⟨gg,fr,none⟩ (sO g8 ll bF))=w9 at ST⊢;clear c8 f8 l8;refine hK.o _ _ (fun hD=>absurd (by decide) hD) ?_;clear hK K;try simp only[Act.put,qI,q0,qS]
        refine av (by kernel_rfl) ?_ _;have FIN:Hid (Sg w n gg (j6 g.nodes es++lI g.nodes j++pJ g.nodes j (cs.take (k+1))) w9/\w9.ownsRow B1 205 5 (.slice (some ⟨b1,o1,none⟩) cl cc) cl (fl EC cs)):=(by rw[<-uG.o];exact ST.o);clear ST uG hS0 bu hB0 gK;go_upto_region 17 with fail;go_wp2_with fail;go_roundw;case rel=>exact⟨k+1,by omega,by go_num,FIN.o⟩
        case measure=>simp[intOf];omega
       ·have FIN:Hid (Sg w n gg (j6 g.nodes es++lI g.nodes j++pJ g.nodes j (cs.take (k+1))) W5/\W5.ownsRow B1 205 5 (.slice (some ⟨b1,o1,none⟩) cl cc) cl (fl EC cs)):=by
          have e1:pJ g.nodes j (cs.take (k+1))=pJ g.nodes j (cs.take k):=by
           rw[tO,HY.o];simp[pJ,Ti,hE]
          rw[e1];exact⟨P5.o.1,P5.o.2.1⟩
        clear P5;have hne:¬(y.via.1=0/\y.via.2.1=0/\y.via.2.2=0):=fun e=>hE (Prod.ext e.1 (Prod.ext e.2.1 e.2.2));clear hE;have abE:y.via.1≠0\/(y.via.1=0/\y.via.2.1≠0)\/(y.via.1=0/\y.via.2.1=0/\y.via.2.2≠0):=(by omega);clear hne;rcases abE with h1|⟨h1,h2⟩|⟨h1,h2,h3⟩
        ·go_wp2_with fail;go_roundw;case rel=>exact⟨k+1,by omega,by go_num,FIN.o⟩
         case measure=>simp[intOf];omega
        ·go_wp2_with fail;go_roundw;case rel=>exact⟨k+1,by omega,by go_num,FIN.o⟩
         case measure=>simp[intOf];omega
        ·go_wp2_with fail;go_roundw;case rel=>exact⟨k+1,by omega,by go_num,FIN.o⟩
         case measure=>simp[intOf];omega
      ·have Cb:¬(k:Int)<(cl:Int):=(by omega);have FIN:Hid (Sg w n gg (j6 g.nodes es++lI g.nodes (j+1)) wr):=by
        have h:=HI.o.1;rw[tL (by have:=Kc.o;omega),HCS.o,aA]at h;exact h
       clear HI;go_wp2_with fail;go_roundw;case rel=>exact⟨j+1,by omega,by go_num,FIN.o⟩
       case measure=>simp[intOf];omega
    ·have Xk:¬(j:Int)<(nl:Int):=(by omega);have S20:Hid (∃vs,Fo w.heap.size wr (sO gg n n) vs (fun k=>if k<0 then ik (bB (iT g) k)else bB (iT g) k)/\vs.length=n/\Bw w wr):=by
      have h:=HI.o;obtain rfl:j=nl:=(by omega);have e1:j6 g.nodes es++lI g.nodes j=iT g:=(by unfold iT;rw[HES.o,mf.o]);rw[e1]at h;obtain⟨vs,h1,h2,h3⟩:=h;exact⟨vs,h1.re (fun k _=>by rw[if_neg (nW _)]),h2,h3⟩
     clear HI;go_wp2_with fail;go_loopw [86] (fun s86 wr=>∃i:Nat,i<=n/\s86=iV (i:Nat)/\Hid (∃vs,Fo w.heap.size wr (sO gg n n) vs (fun k=>if k<i then ik (bB (iT g) k)else bB (iT g) k)/\vs.length=n/\Bw w wr)) (fun s86 _=>n-(intOf s86).toNat)
     case atStart=>exact⟨0,zL _,rfl,S20.o⟩
     case round=>
      clear S20;obtain⟨k,hk,rfl,HI⟩:=hrel;by_cases hlk:k<n
      ·have Cb:(k:Int)<(n:Int):=(by omega);have hk1:(0:Int)<=(k:Int):=(by omega);obtain⟨vs,f1,f2,f3⟩:=HI.o;obtain⟨x,hx⟩:∃x,vs[k]? =some x:=⟨vs[k]'(by omega),by simp⟩;obtain⟨b,off,c,hv,hb,hc⟩:=qp (aK (E:=EL) f1.row) hx;simp only[vS,oI,aI]at hv;obtain⟨⟨rfl,rfl,-⟩,-,-⟩:=hv;rw[nZ]at hc;have he:=f1.each k x hx;rw[if_neg (Nat.lt_irrefl k)]at he;have HF:Hid (Fo w.heap.size wr (sO gg n n) vs (fun j=>if j<k then ik (bB (iT g) j)else bB (iT g) j)/\vs.length=n/\Bw w wr/\vs[k]? =some x):=⟨f1,f2,f3,hx⟩
       have hll:(bB (iT g) k).length<=432:=nT (oU _ _) (Jb iP.o);have UE:Hid (∀W,Fo w.heap.size W (sO gg n n) vs (fun j=>if j=k then ik (bB (iT g) k)else if j<k then ik (bB (iT g) j)else bB (iT g) j)->Bw w W->∃vs,Fo w.heap.size W (sO gg n n) vs (fun j=>if j<k+1 then ik (bB (iT g) j)else bB (iT g) j)/\vs.length=n/\Bw w W):=fun W h1 h2=>⟨vs,h1.re (fun j _=>by
        by_cases e1:j=k
        ·subst e1;rw[if_pos rfl,if_pos (Nat.lt_succ_self _)]
        ·rw[if_neg e1];by_cases e2:j<k
         ·rw[if_pos e2,if_pos (by omega)]
         ·rw[if_neg e2,if_neg (by omega)]),HF.o.2.1,h2⟩
       obtain⟨q,m,c2⟩:=x;rcases Sq he with⟨e0,eq,em⟩|⟨gk,eq,em⟩
       ·dsimp only at eq em;subst eq;subst em;have hs:=AnyM.slices_Sort_int_none Tryz.lSort none c2 wr;change CL 181 _ _ _ at hs;have FIN:=hid (UE.o wr (HF.o.1.re (fun j _=>by
         by_cases e1:j=k
         ·subst e1;rw[if_pos rfl,if_neg (Nat.lt_irrefl _),e0];simp[ik]
         ·rw[if_neg e1])) HF.o.2.2.1)
        clear HF UE f1 f2 f3 hx he HI;go_wp2_with fail;refine hs.mono ?_;clear hs;rintro r ZG ⟨rfl,hw⟩;subst hw;go_wp2_with fail;go_roundw;case rel=>exact⟨k+1,by omega,by go_num,FIN.o⟩
        case measure=>simp[intOf];omega
       ·dsimp only at eq em;subst eq;subst em;have hs:=AnyM.slices_Sort_int Tryz.lSort gk 0 c2 (bB (iT g) k) wr (Ag he).1 (Ag he).2 (by omega);change CL 181 _ _ _ at hs;have HE:=hid he;generalize hgl:(bB (iT g) k).length=ll at hs hc hll;have Mw:=hid hgl;clear f1 f2 f3 hx he HI hgl;go_wp2_with fail;refine hs.mono ?_;clear hs;rintro r ZG ⟨rfl,nn,os,hw⟩;have FIN:Hid (∃vs,Fo w.heap.size ZG (sO gg n n) vs (fun j=>if j<k+1 then ik (bB (iT g) j)else bB (iT g) j)/\vs.length=n/\Bw w ZG):=by
         obtain⟨h1,h2⟩:=Gs HE.o (w':=ZG) (n:=nn) (os:=os) hw;obtain⟨h3,h4⟩:=HF.o.1.put HF.o.2.2.2 h2 h1;exact UE.o ZG h3 (HF.o.2.2.1.trans (h4.below HF.o.2.2.1.size (fun j e=>(aM HE.o j e).1)))
        clear hw HF UE HE;go_wp2_with fail;go_roundw;case rel=>exact⟨k+1,by omega,by go_num,FIN.o⟩
        case measure=>simp[intOf];omega
      ·have Cb:¬(k:Int)<(n:Int):=(by omega);have FIN:Hid (Bw w wr/\Ff wr.heap.size wr (sO gg n n) (iq g)):=by
        obtain⟨vs,h1,h2,h3⟩:=HI.o;refine⟨h3,h1.ff (by rw[vC,h2,HN.o]) (fun j l hl=> ?_)⟩;have hj:=(lG.1 hl).1;rw[vC]at hj;rw[Be hj]at hl;rw[if_pos (by have:=HN.o;omega)];exact(oJ hl).symm
       clear HI;go_wp2_with fail;go_ret;exact⟨_,rfl,FIN.o⟩
end Go.Proofs.YtiiefcalkjeieaaGreat.Df
