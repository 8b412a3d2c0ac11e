import Derived.Test.YteekbpokkjjipaaGreatJ21
import Derived.Deep.CutBlock
variable{n q m:Nat}{w:Go.World}
set_option maxHeartbeats 4000000
set_option maxRecDepth 100000
namespace Go.Proofs.YteekbpokkjjipaaGreat
section
open Go.RowKit Go.Sort
attribute [local go_sem ↓] Go.wp_at_zero Go.wp_at_succ
end
namespace Df
open Go.RowKit Go.Sort
attribute [local go_sem ↓] Go.wp_at_zero Go.wp_at_succ
def sC(ns:List df)(i:Nat)(c:dF):dF:=⟨((OQ ns i c:Nat):Int),((cOut ns i c:Nat):Int),c.via⟩
def ji(ns:List df):Nat->List dF
 | 0 => []
 | i + 1 => ji ns i++(cZ ns (i:Int)).map (sC ns i)
def sE(ns:List df)(d:dI):dF:=⟨((dW ns d:Nat):Int),((iF ns d:Nat):Int),(0,0,0)⟩
def qH(g:bI):List dF:=ji g.nodes g.nodes.length++g.aL.map (sE g.nodes)
def emR(g:bI):List dF:=(qH g).filter Qr
theorem BR{g:bI}(h:gI g)(m:Nat):(ji g.nodes m).length<=16*m:=by
 induction m with
 | zero => simp[ji]
 | succ m ih=>
  unfold ji;rw[dH,fG];have h2:=h.Ar m;omega
theorem Pn{g:bI}(h:gI g):(qH g).length<=432:=by
 unfold qH;rw[dH,fG];have h1:=BR h g.nodes.length;have h2:=h.nl;have h3:=h.el;omega
theorem uZ{ns:List df}{x:dF}:x∈ji ns m↔∃i c,i<m/\c∈cZ ns ((i:Nat):Int)/\x=sC ns i c:=by
 induction m with
 | zero => simp[ji]
 | succ m ih=>
  unfold ji;rw[jQ,ih];constructor
  ·rintro(⟨i,c,h1,h2⟩|h)
   ·exact⟨i,c,by omega,h2⟩
   ·obtain⟨c,hc,rfl⟩:=mM.1 h;exact⟨m,c,by omega,hc,rfl⟩
  ·rintro⟨i,c,h1,h2,rfl⟩;by_cases e:i=m
   ·subst e;exact Or.inr (mM.2 ⟨c,h2,rfl⟩)
   ·exact Or.inl ⟨i,c,by omega,h2,rfl⟩
theorem QW{g:bI}{x:dF}:x∈emR g↔∃p q:Nat,x=⟨(p:Int),(q:Int),(0,0,0)⟩/\(p,q)∈iD g:=by
 unfold emR qH iD;rw[mF,jQ,uZ];constructor
 ·rintro⟨⟨i,c,h1,h2,rfl⟩|h,he⟩
  ·have hv:c.via=(0,0,0):=of_decide_eq_true he;exact⟨OQ g.nodes i c,cOut g.nodes i c,by simp[sC,hv],jQ.2 (Or.inr (uY.2 ⟨i,c,h1,h2,by simp[Qr,hv],rfl⟩))⟩
  ·obtain⟨d,hd,rfl⟩:=mM.1 h;exact⟨dW g.nodes d,iF g.nodes d,rfl,jQ.2 (Or.inl (mM.2 ⟨d,hd,rfl⟩))⟩
 ·rintro⟨p,q,rfl,h⟩;refine⟨?_,by simp[Qr]⟩;rcases jQ.1 h with h|h
  ·obtain⟨d,hd,e⟩:=mM.1 h;unfold QY at e;simp only[Prod.mk.injEq]at e;exact Or.inr (mM.2 ⟨d,hd,by unfold sE;rw[e.1,e.2]⟩)
  ·obtain⟨i,c,h1,h2,h3,e⟩:=uY.1 h;unfold NT at e;simp only[Prod.mk.injEq]at e;have hv:c.via=(0,0,0):=of_decide_eq_true h3;exact Or.inl ⟨i,c,h1,h2,by unfold sC;rw[<-e.1,<-e.2,hv]⟩
end Df
namespace Lf
open Go.RowKit Go.Sort Pt
open Df (dF bI df dI mW gH bg qH ji sE sC OQ cOut dW iF gI cZ fE)
instance (p:mW):Decidable (gH p):=by unfold Df.gH Df.Dq;infer_instance
def IY(p:mW):ah:=if h:gH p then⟨((p.1:Int),(p.2.1:Int),(p.2.2:Int)),by
 obtain⟨h1,h2,h3⟩:=h;unfold Df.Dq at h1 h2 h3;exact⟨(kE _).2 ⟨by simp only;omega,by simp only;omega⟩,(kE _).2 ⟨by simp only;omega,by simp only;omega⟩,(kE _).2 ⟨by simp only;omega,by simp only;omega⟩⟩⟩else PX.z
theorem sU{p:mW}(h:gH p):(IY p).1.1=(p.1:Int)/\(IY p).1.2.1=(p.2.1:Int)/\(IY p).1.2.2=(p.2.2:Int):=by
 unfold IY;rw[dif_pos h];exact⟨rfl,rfl,rfl⟩
theorem RX:IY (0,0,0)=PX.z:=by
 have h:gH (0,0,0):=⟨by unfold Df.Dq;simp,by unfold Df.Dq;simp,by unfold Df.Dq;simp⟩;obtain⟨h1,h2,h3⟩:=sU h;exact bU (by rw[h1];rfl) (by rw[h2];rfl) (by rw[h3];rfl)
def th(c:dF):Hf.Th:=(c.o,IY c.via)
def lU(l:List dF)(q:Nat):List Hf.Th:=(l.filter (fun c=>c.cO==(q:Int))).map th
theorem Ps(l m:List dF)(q:Nat):lU (l++m) q=lU l q++lU m q:=by simp[lU]
theorem Pq(c:dF)(q:Nat):lU [c] q=if c.cO=(q:Int)then[th c]else[]:=by
 unfold lU;by_cases h:c.cO=(q:Int)
 ·simp[h]
 ·simp[h]
theorem kM{l:List dF}{x:Hf.Th}:x∈lU l q↔∃c∈l,c.cO=(q:Int)/\x=th c:=by
 unfold lU;rw[mM];constructor
 ·rintro⟨c,hc,rfl⟩;obtain⟨h1,h2⟩:=mF.1 hc;exact⟨c,h1,by simpa using h2,rfl⟩
 ·rintro⟨c,h1,h2,rfl⟩;exact⟨c,mF.2 ⟨h1,by simpa using h2⟩,rfl⟩
theorem zy(l:List dF)(q:Nat):(lU l q).length<=l.length:=by
 unfold lU;rw[fG];exact List.length_filter_le _ _
def En(n:Nat)(l:List dF):List (List Hf.Th):=(List.range n).map (lU l)
theorem jv(n:Nat)(l:List dF):(En n l).length=n:=by simp[En]
theorem GM(l:List dF)(h:q<n):(En n l)[q]? =some (lU l q):=by simp[En,h]
theorem kH{l:List dF}{q':Nat}{b:ah}:IL (En n l) q q' b↔q<n/\∃c∈l,c.cO=(q:Int)/\c.o=(q':Int)/\IY c.via=b:=by
 unfold IL;constructor
 ·rintro⟨s,hs,hm⟩;have hq:q<n:=by
   have:=(lG.1 hs).1
   rwa [jv]at this
  rw[GM l hq]at hs;cases hs;obtain⟨c,h1,h2,h3⟩:=kM.1 hm;simp only[th,Prod.mk.injEq]at h3;exact⟨hq,c,h1,h2,h3.1.symm,h3.2.symm⟩
 ·rintro⟨hq,c,h1,h2,h3,h4⟩;exact⟨_,GM l hq,kM.2 ⟨c,h1,h2,by simp[th,h3,h4]⟩⟩
def tF(g:bI):List dF:=g.aL.map (sE g.nodes)++ji g.nodes g.nodes.length
theorem kI{g:bI}{c:dF}:c∈tF g↔c∈qH g:=by
 unfold tF qH;rw[jQ,jQ];exact Or.comm
theorem Bt(g:bI)(n:Nat):IL (En n (tF g))=IL (En n (qH g)):=by
 funext q q' b
 refine propext ?_;rw[kH,kH];exact and_congr_right fun _=>exists_congr fun c=>and_congr_left fun _=>kI
theorem zm{g:bI}(h:gI g):(tF g).length<=432:=by
 have:=Df.Pn h;unfold qH at this;unfold tF;rw[dH]at this⊢;omega
def sD(g:bI):Prop:=∀n∈g.nodes,gH n.via/\∀c∈n.bP,gH c.via
theorem xH:gH (0,0,0):=⟨by unfold Df.Dq;simp,by unfold Df.Dq;simp,by unfold Df.Dq;simp⟩
theorem sD.VU{g:bI}(h:sD g){i:Nat}{c:dF}(hc:c∈cZ g.nodes (i:Int)):gH c.via:=by
 rw[Df.mR]at hc;cases e:g.nodes[i]? with
 | none => rw[e]at hc;simp at hc
 | some n=>
  rw[e]at hc;have hn:=h n (lM e);have hc:c∈fE n:=hc;unfold fE at hc;split at hc
  ·simp only[wY]at hc;subst hc;exact hn.1
  ·split at hc
   ·exact hn.2 c hc
   ·have:c.via=(0,0,0):=by
      clear hn e;generalize n.ins.toNat=ii at hc
      induction ii with
      | zero => simp[Df.kv]at hc
      | succ k ih=>
       simp only[Df.kv,jQ]at hc;rcases hc with hc|hc
       ·exact ih hc
       ·simp only[Df.nP,mM]at hc;obtain⟨o,_,rfl⟩:=hc;rfl
    rw[this];exact xH
theorem Pm{g:bI}(h:sD g){c:dF}(hc:c∈qH g):gH c.via:=by
 unfold qH at hc;rcases jQ.1 hc with k|k
 ·obtain⟨i,d,_,h2,rfl⟩:=Df.uZ.1 k;exact(h.VU h2:gH d.via)
 ·obtain⟨d,_,rfl⟩:=mM.1 k;exact xH
theorem zk{g:bI}(h:gI g){c:dF}(hc:c∈qH g):(∃p:Nat,p<bg g.nodes/\c.cO=(p:Int))/\∃q:Nat,q<bg g.nodes/\c.o=(q:Int):=by
 unfold qH at hc;rcases jQ.1 hc with k|k
 ·obtain⟨i,d,_,h2,rfl⟩:=Df.uZ.1 k;obtain⟨h3,h4⟩:=h.VU h2;exact⟨⟨_,Df.wJ h3,rfl⟩,_,Df.Aw h4,rfl⟩
 ·obtain⟨d,h1,rfl⟩:=mM.1 k;obtain⟨j,hj⟩:=List.mem_iff_getElem?.1 h1;obtain⟨h3,h4⟩:=h.ends hj;exact⟨⟨_,Df.mh h3,rfl⟩,_,Df.Ab h4,rfl⟩
theorem KR{g:bI}(h:gI g){l:List dF}(hl:∀c∈l,c∈qH g):∀s∈En (bg g.nodes) l,∀x∈s,∃q:Nat,q<(En (bg g.nodes) l).length/\x.1=(q:Int):=fun s hs x hx=>by
 obtain⟨k,_,rfl⟩:=mM.1 hs;obtain⟨c,h1,_,rfl⟩:=kM.1 hx;rw[jv];exact(zk h (hl c h1)).2
theorem KS{l:List dF}(h:l.length<=m):∀s∈En n l,s.length<=m:=fun s hs=>by
 obtain⟨k,_,rfl⟩:=mM.1 hs;exact nT (zy l k) h
section
variable {ss:List (List Hf.Th)} {s:List Hf.Th} {p d q0 k np DL:Nat} {w:ah} {rows:Nat->List ah} {R L L':List Hf.It}
end
end Lf
namespace Lf
open Go.RowKit Go.Sort Pt
attribute [local go_sem ↓] Go.wp_at_zero Go.wp_at_succ
def LfA(w:World)(ss:List (List Hf.Th))(p:Nat)(e:Ending)(w':World):Prop:=Below w.heap.size w w'/\∃r,rA PX (IL ss) p r/\((r=none/\e= .returned (.tuple #[.slice none 0 0, .int .i64 28]))\/∃rows v vs,r=some rows/\e= .returned (.tuple #[v, .int .i64 0])/\Tb w.heap.size w' v vs ((List.range ss.length).map rows))
theorem Tb.base{b b':Nat}{v:Value}{vs:List Vw}{ts:List (List Tm)}(h:Tb b w v vs ts)(hb:b'<=b):Tb b' w v vs ts:=⟨aK h.row hb,h.len,fun i u t hu ht=>⟨aK (h.each i u t hu ht).1 hb,(h.each i u t hu ht).2⟩⟩
theorem Pu.bd2{ss:List (List Hf.Th)}{p d q0 np:Nat}{t2:ah}{rows:Nat->List ah}{L:List Hf.It}(h:Pu ss p d rows L np)(hq:q0<ss.length)(h64:(rows q0).length+1<=64):np+d<=64*ss.length*(d+1)+1:=by
 have h1:=yZ (n:=ss.length) (m:=64) (rows:=dG rows q0 t2) (fun q _=>by
  unfold dG;split
  ·rename_i e;subst e;simpa using h64
  ·exact h.sm q)
 rw[uA,if_pos hq]at h1;have h2:(tot ss.length rows+1)*d<=64*ss.length*(d+1):=Nat.mul_le_mul h1 (Nat.le_succ d);rw[Nat.add_mul,Nat.one_mul]at h2;have h3:=h.nb;omega
theorem nX(p n d:Nat)(su:Value)(ss:List (List Hf.Th))(w:World)(hS:Sp w su ss)(hn:ss.length=n)(hp:p<n)(hr:∀s∈ss,∀x∈s,∃q:Nat,q<n/\x.1=(q:Int))(hd:∀s∈ss,s.length<=d)(hM:(64*n*(d+1)+2)*40<=140737488355328):
    Calls Tryz.prog 74 #[.int .i64 p,su] w (LfA w ss p):=by
 have hmx:Tryz.prog.follows .mixedOrders=true:=by kernel_rfl
 obtain⟨ps,cs0,rfl⟩:=hS.form;subst hn;have hnb:ss.length*2560<=140737488355328:=by
  have h1:64*ss.length*1<=64*ss.length*(d+1):=Nat.mul_le_mul (nR _) (by omega);omega
 obtain⟨iB,hiB,hb0,hb1,hb2⟩:=info_parts UK;obtain⟨w1,hmk,ho1,hg1⟩:=run_make_full (P:=Tryz.prog) w 0 217 218 iB _ 1 Tryz.underlying217 hiB hb0 hb1 .i64 .i64 ss.length (by rw[hb2];omega) (by unfold maxLen;omega) (Nat.zero_le _);rw[XU]at ho1;obtain⟨g,hg⟩:=aB (w.heap.size);rw[<-hg]at hmk ho1;have HF1:Hid (OG w (fun k=>if k=g then 2 else 0) g ss.length [] w1):=by
  refine⟨(Kp.grownBy (S:=fun _=>False) hg1 (fun _ h=>by cases h)).below (nR _) (fun _ h=>h.elim),fun k hk=>if_neg (by omega),Nat.zero_le _,ho1,if_pos rfl,fun i c hc=>by simp at hc⟩
 have HS:Hid (Sp w (.slice ps ss.length cs0) ss):=hS;have HR:Hid (∀s∈ss,∀x∈s,∃q:Nat,q<ss.length/\x.1=(q:Int)):=hr;have HD:Hid (∀s∈ss,s.length<=d):=hd;have HM:Hid ((64*ss.length*(d+1)+2)*40<=140737488355328):=hM;have HPl:Hid (p<ss.length):=hp;clear hS hr hd hM hp hiB hb0 hb1 hb2 ho1 hg1 hg;go_enter Tryz.func74,Tryz.ntmps74;go_wp2_with fail;clear hmk;go_loopw [7,20] (fun _ s20 wr=>∃(i:Nat) (tag:Nat->Nat) (cs:List Nat),i<=ss.length/\s20= .int .i64 i/\Hid (cs.length=i/\OG w tag g ss.length cs wr)) (fun _ s20 _=>ss.length-(RowKit.intOf s20).toNat);case atStart=>exact⟨0,_,[],Nat.zero_le _,rfl,rfl,HF1.o⟩
 case round=>
  clear HF1;obtain⟨i,tag,cs,hi,rfl,HI⟩:=hrel;by_cases hlt:i<ss.length
  ·have hltz:(i:Int)<(ss.length:Int):=(by omega);have hi0:(0:Int)<=(i:Int):=(by omega);have hgl:=HI.o.2.gl;have hny:=Pc.Cn.BP wr;have hfz:∀W,Gr wr W->W.frozen? ⟨g,i,none⟩=false:=fun W h=>Hf.nD (ag HI.o.2.ro h.below) i;go_wp2_with fail;refine hny.mono ?_;rintro e w5 ⟨rfl,hC5,hg5⟩;have hgl5:=nL hgl hg5.size;have hfz5:=hfz _ hg5;have hce5:w5.cell? ⟨g,i,none⟩=some (.pointer none):=by
    have:=HI.o.2.cell (by rw[HI.o.1];exact hlt) hg5;rw[HI.o.1]at this;exact this
   have RL:=Hf.hid (HI.o.2.step (by rw[HI.o.1];exact hlt) hC5 hg5);rw[HI.o.1]at RL;clear hC5 hg5 hfz hny;go_wp2_with fail;go_roundw;case rel=>exact⟨i+1,_,_,by omega,by first|rfl|go_num,by rw[dH,HI.o.1];rfl,RL.o⟩
   case measure=>simp[RowKit.intOf];omega
  ·have hltz:¬(i:Int)<(ss.length:Int):=(by omega);have hce:cs.length=ss.length:=(by rw[HI.o.1];omega);go_wp2_with fail;refine(hnew wr tag 1).mono ?_;rintro e w8 ⟨hb,rfl,hbw,hm8,Sy⟩;have HL8:=Hf.hid (HI.o.2.done hce ⟨Kp.aU Sy,fun _ hk=>ak hk⟩ hm8);clear hm8 Sy hbw HI;go_wp2_with fail;refine((HL8.o.hm).push ((p:Int),PX.z) (by simp) (by simp)).mono ?_;rintro e w9 ⟨L9,rfl,U3,hp9,U0⟩;have e9:L9=[(((p:Int),PX.z),0)]:=(by simpa using hp9);subst e9;have HL9:=Hf.hid (HL8.o.heap U3 U0);clear U3 hp9 U0 HL8;go_wp2_with fail;refine(HL9.o.hm.pop rfl (by simp)).mono ?_;rintro e fH ⟨L10,rfl,Yz,Yq,hk10,Yx⟩;have e10:L10=[]:=by
    have:=Yq.length_eq;simpa using this
   subst e10;have HLA:=Hf.hid (HL9.o.heap Yz Yx);clear Yz Yq hk10 Yx HL9;generalize tg (tg (tg tag wr 1) w8 1) w9 1=tagA at HLA;go_wp2_with fail;obtain⟨hl0,hx0⟩:=HLA.o.box ((p:Int),PX.z);have Ox:Hid (Lf w (tg tagA fH 0) hb g ss.length cs (fun _=>[]) [] 1 (fH.alloc (.cells #[.int .i64 (p:Int), .int .u64 PX.z.1.1, .int .u64 PX.z.1.2.1, .int .u64 PX.z.1.2.2] 215))/\Bx w (tg tagA fH 0) fH.heap.size ((p:Int),PX.z) (fH.alloc (.cells #[.int .i64 (p:Int), .int .u64 PX.z.1.1, .int .u64 PX.z.1.2.1, .int .u64 PX.z.1.2.2] 215))):=⟨hl0,hx0⟩;clear hl0 hx0 HLA;go_loopg [9,10,12,13,14] (64*ss.length*(d+1)+1) (fun gk s9 s10 _ _ _ wx=>∃(tag:Nat->Nat) (rows:Nat->List ah) (R L0:List Hf.It) (np B:Nat) (b:Bool) (t:Hf.Th) (k:Nat),s9= .pointer (some ⟨B,0,none⟩)/\s10= .bool b/\
    Hid (Lf w tag hb g ss.length cs rows R np wx/\Bx w tag B t wx/\Pu ss p d rows L0 np/\Hu ss.length d rows L0.length<=gk)/\Hid ((b=true->((t,k)::R).Perm L0/\∀x∈R,Hf.kf t<Hf.kf x.1\/(Hf.kf t=Hf.kf x.1/\k<x.2))/\(b=false->L0=[]/\R=[])))
   case atStart=>exact⟨_,fun _=>[],[],[(((p:Int),PX.z),0)],1,_,true,((p:Int),PX.z),0,rfl,rfl,⟨Ox.o.1,Ox.o.2,Pu.init HPl.o,Nat.le_of_eq Mi⟩,⟨fun _=>⟨List.Perm.refl _,fun x hx=>by simp at hx⟩,fun e=>by cases e⟩⟩
   case round=>
    clear Ox;obtain⟨tag,rows,R,L0,np,B,b,t,k,rfl,rfl,qK,HO0⟩:=hrel;cases b with
    | false=>
     have HE:=HO0.o.2 rfl;have hls:=Ca wr qK.o.1.lr qK.o.1.len qK.o.1.ch qK.o.2.2.1.sm hnb;go_wp2_with fail;refine hls.mono ?_;rintro e wQ ⟨v20,aad,rfl,ZL,Ag⟩;obtain⟨rfl,rfl⟩:=HE;have WH:Hid (LfA w ss p (.returned (.tuple #[v20, .int .i64 0])) wQ):=⟨qK.o.1.bl.trans (Ag.mono qK.o.1.bl.size),some rows,qK.o.2.2.1.fin,Or.inr ⟨rows,v20,aad,rfl,rfl,ZL.base qK.o.1.bl.size⟩⟩;clear ZL Ag;go_wp2;refine bodyPost_ret (v:= .tuple #[v20, .int .i64 0]) (by simp[results,Tryz.results74,go_sem]) rfl ?_;exact WH.o
    | true=>
     obtain⟨hpm,hod⟩:=HO0.o.1 rfl;obtain⟨gk,rfl⟩:∃g',gk=g'+1:=⟨gk-1,by
      have h1:=qK.o.2.2.2;have h2:R.length+1=L0.length:=(by simpa using hpm.length_eq);have h3:=UB (n:=ss.length) (d:=d) (k:=L0.length) (rows:=rows);omega⟩
     obtain⟨q0,hq0,ht0⟩:=qK.o.2.2.1.rg (t,k) (hpm.mem_iff.1 (List.mem_cons_self ..));obtain⟨t1,t2⟩:=t;simp only at ht0;subst ht0;obtain⟨c0,hc0⟩:∃c,cs[q0]? =some c:=⟨cs[q0]'(by rw[qK.o.1.len];exact hq0),by simp⟩;have hqz:(q0:Int)<(ss.length:Int):=(by omega);have hqz0:(0:Int)<=(q0:Int):=(by omega);have hins:∀W:World,Gr wr W->Calls Tryz.prog 128 #[.pointer (some ⟨c0,0,none⟩), .agg #[.int .u64 t2.1.1, .int .u64 t2.1.2.1, .int .u64 t2.1.2.2]] W fun e w'=>e= .returned (.bool (!bC ax (rows q0) t2))/\Hid (∃tag':Nat->Nat,Lf w tag' hb g ss.length cs (fun i=>if i=q0 then fQ ax dh (rows q0) t2 else rows i) R np w'/\Bx w tag' B ((q0:Int),t2) w')/\(w'.cell? ⟨g,q0,none⟩=some (.pointer (some ⟨c0,0,none⟩))/\w'.cell? ⟨B,0,none⟩=some (.int .i64 (q0:Int))/\w'.cell? ⟨B,1,none⟩=some (.int .u64 t2.1.1)/\w'.cell? ⟨B,2,none⟩=some (.int .u64 t2.1.2.1)/\w'.cell? ⟨B,3,none⟩=some (.int .u64 t2.1.2.2)/\g<w'.heap.size/\B<w'.heap.size):=by
      intro W hW;have hL:=qK.o.1.below hW.below;have hX:=qK.o.2.1.below hW.below;refine((hL.ch q0 c0 hc0).insert t2 (by have:=qK.o.2.2.1.sm q0;omega)).mono ?_;rintro e w' ⟨rfl,h1,h2⟩;have h3:=hL.chain hc0 h1 h2;have h4:=hX.nx h2 (by omega);obtain⟨z0,z1⟩:=DC h3.lr hc0;obtain⟨z2,z3,z4,z5⟩:=h4.cells;exact⟨rfl,⟨_,h3,h4⟩,z0,z2,z3,z4,z5,z1,h4.lt⟩
     have hcc:∃bb,bC ax (rows q0) t2=bb:=⟨_,rfl⟩;obtain⟨bb,hbb⟩:=hcc;rw[hbb]at hins;obtain⟨x0,x1⟩:=DC qK.o.1.lr hc0;obtain⟨y0,y1,y2,y3⟩:=qK.o.2.1.cells;have hBl:=qK.o.2.1.lt;have S0:(wr.drew.cell? ⟨g,q0,none⟩=some (.pointer (some ⟨c0,0,none⟩))/\wr.drew.cell? ⟨B,0,none⟩=some (.int .i64 (q0:Int))/\wr.drew.cell? ⟨B,1,none⟩=some (.int .u64 t2.1.1)/\wr.drew.cell? ⟨B,2,none⟩=some (.int .u64 t2.1.2.1)/\wr.drew.cell? ⟨B,3,none⟩=some (.int .u64 t2.1.2.2)/\g<wr.drew.heap.size/\B<wr.drew.heap.size):=⟨x0,y0,y1,y2,y3,x1,hBl⟩;have hgd:Gr wr wr.drew:=(Gr.refl _).drew;have HBB:Hid (bC ax (rows q0) t2=bb):=hbb;have Xq:Hid ((((q0:Int),t2),k)::R|>.Perm L0):=hpm;have Xt:Hid (∀x∈R,Hf.kf ((q0:Int),t2)<Hf.kf x.1\/(Hf.kf ((q0:Int),t2)=Hf.kf x.1/\k<x.2)):=hod;clear x0 y0 y1 y2 y3 hbb hod hpm;go_upto_region 12 with fail;go_cut [52] (fun XN wc=>XN= .bool bb/\Hid (∃tag':Nat->Nat,Lf w tag' hb g ss.length cs (fun i=>if i=q0 then fQ ax dh (rows q0) t2 else rows i) R np wc/\Bx w tag' B ((q0:Int),t2) wc))
     case first=>
      go_region_held3 (fun W=>W.cell? ⟨g,q0,none⟩=some (.pointer (some ⟨c0,0,none⟩))/\W.cell? ⟨B,0,none⟩=some (.int .i64 (q0:Int))/\W.cell? ⟨B,1,none⟩=some (.int .u64 t2.1.1)/\W.cell? ⟨B,2,none⟩=some (.int .u64 t2.1.2.1)/\W.cell? ⟨B,3,none⟩=some (.int .u64 t2.1.2.2)/\g<W.heap.size/\B<W.heap.size)
       (first|exact S0|assumption)
       (first|(go_at_call 128;refine(hins _ (by assumption)).mono ?_;rintro e w12 ⟨rfl,aa3,Ni⟩))
      go_wp2_with fail;go_meet;exact⟨by simp,aa3⟩
     case rest=>
      obtain⟨rfl,HC⟩:=hcut;obtain⟨XJ,LC,XC⟩:=HC.o;clear S0 hins HC;rw[qK.o.2.2.1.ins Xq.o]at LC;cases bb with
      | true=>
       have hrows:(fun i=>if i=q0 then(if bC ax (rows q0) t2 then rows q0 else rows q0++[t2])else rows i)=rows:=by
        rw[if_pos HBB.o]
        funext i
        split
        ·rename_i e;rw[e]
        ·rfl
       rw[hrows]at LC;obtain⟨y0,y1,y2,y3⟩:=XC.cells;have Y4:=XC.lt;obtain⟨LD,XD⟩:=LC.box ((q0:Int),t2);obtain⟨UX,hms⟩:=qK.o.2.2.1.skip Xq.o ((mU Pc.AO _ _).1 HBB.o);have Ot:Hid (Pu ss p d rows R np/\Hu ss.length d rows R.length<=gk):=⟨UX,by have:=qK.o.2.2.2;omega⟩;have hnx:=LD.next (by have:=(UX.bd HM.o).2.2.1;omega);have HXD:=Hf.hid XD;clear LC XC LD XD UX hms hrows;go_wp2_with fail;refine hnx.mono ?_;rintro e w30 ⟨b3,t3,k3,R3,sF,rfl,ZF,Zy,p31,p32⟩;have Oj:=HXD.o.nx Zy (by decide);obtain⟨z0,z1,z2,z3⟩:=Oj.cells;obtain⟨f0,f1,f2,f3⟩:=Oj.fz;have aaq:=Oj.lt;have H31:=Hf.hid (ZF.set Oj t3);have HP3:Hid ((b3=true->((t3,k3)::R3).Perm R/\∀x∈R3,Hf.kf t3<Hf.kf x.1\/(Hf.kf t3=Hf.kf x.1/\k3<x.2))/\(b3=false->R=[]/\R3=[])):=⟨p31,p32⟩;clear ZF Zy p31 p32 Oj hnx;go_wp2_with fail;go_roundg gk;case measure=>omega
       case rel=>exact⟨sF,rows,R3,R,np,_,b3,t3,k3,rfl,rfl,⟨H31.o.1,H31.o.2,Ot.o.1,Ot.o.2⟩,HP3.o⟩
      | false=>
       have hrows:(fun i=>if i=q0 then(if bC ax (rows q0) t2 then rows q0 else rows q0++[t2])else rows i)=dG rows q0 t2:=by
        rw[HBB.o]
        funext i
        unfold dG;split
        ·rename_i e;rw[e];rfl
        ·rfl
       rw[hrows]at LC;obtain⟨y0,y1,y2,y3⟩:=XC.cells;have Y4:=XC.lt;obtain⟨x0,x1⟩:=DC LC.lr hc0;have hln:=(LC.ch q0 c0 hc0).len;rw[show(dG rows q0 t2 q0).length=(rows q0).length+1 by unfold dG;rw[if_pos rfl];simp]at hln;obtain⟨ln,U6⟩:=aB ((rows q0).length+1);rw[<-U6]at hln;have r9:=Hf.hid U6;have Z4:=Hf.hid LC;have HXC:=Hf.hid XC;clear LC XC hrows U6;have hnc:¬nN PX (rows q0) t2:=fun h=>by
        have:=(mU Pc.AO _ _).2 h;rw[HBB.o]at this;cases this
       have Tn:=Hf.hid hnc;clear hnc;by_cases h64:64<ln
       ·have aaQ:(64:Int)<(ln:Int):=(by omega);have WH:Hid (LfA w ss p (.returned (.tuple #[.slice none 0 0, .int .i64 28])) wc):=⟨Z4.o.bl,none,qK.o.2.2.1.wide Xq.o Xt.o Tn.o (by rw[<-r9.o];exact h64),Or.inl ⟨rfl,rfl⟩⟩;go_wp2_with fail;refine hln.mono ?_;rintro e w13 ⟨rfl,MV⟩;rw[MV];clear MV;go_wp2;refine bodyPost_ret (v:= .tuple #[.slice none 0 0, .int .i64 28]) (by simp[results,Tryz.results74,go_sem]) rfl ?_;exact WH.o
       ·have aaQ:¬(64:Int)<(ln:Int):=(by omega);go_wp2_with fail;refine hln.mono ?_;rintro e w13 ⟨rfl,MV⟩;rw[MV];clear MV hln;obtain⟨s,hs⟩:∃s,ss[q0]? =some s:=⟨ss[q0]'hq0,by simp⟩;have uf:=Hf.hid hs;obtain⟨bs,os,qs,ms,hps,Vh,sc0,sl⟩:=HS.o.at hs;subst hps;have sc:=(Z4.o.bl.cell (p:=⟨bs,os+q0,none⟩) Vh).trans sc0;have hbs:=nL Vh Z4.o.bl.size;clear sc0 Vh;have hsl:s.length<=140737488355328:=by
         have h1:=HD.o s (lM hs);have h2:=HM.o;have h3:64*ss.length*1<=64*ss.length*(d+1):=Nat.mul_le_mul (nR _) (by omega);have h4:d+1<=64*ss.length*(d+1):=Nat.le_mul_of_pos_left _ (by omega);omega
        have HI0:Hid (Lf w XJ hb g ss.length cs (dG rows q0 t2) R np wc/\Bx w XJ B ((q0:Int),t2) wc/\nW s ss.length t2 (dG rows q0 t2) R R 0/\np<=np+0/\R.length<=np):=⟨Z4.o,HXC.o,nW.init (fun x hx=>qK.o.2.2.1.rg x (Xq.o.mem_iff.1 (List.mem_cons_of_mem _ hx))),nR _,by
         have h1:=qK.o.2.2.1.ln;have h2:R.length+1=L0.length:=(by simpa using Xq.o.length_eq);omega⟩
        have Kl:Hid (Ls EF w (.slice qs s.length ms) s):=sl;clear sl hs Z4 HXC;go_wp2_with fail;go_loopw [12,13,14,66] (fun _ _ _ s66 wx=>∃(j:Nat) (zg:Nat->Nat) (LI:List Hf.It) (ni:Nat),j<=s.length/\s66= .int .i64 j/\Hid (Lf w zg hb g ss.length cs (dG rows q0 t2) LI ni wx/\Bx w zg B ((q0:Int),t2) wx/\nW s ss.length t2 (dG rows q0 t2) R LI j/\ni<=np+j/\LI.length<=ni)) (fun _ _ _ s66 _=>s.length-(RowKit.intOf s66).toNat);case atStart=>exact⟨0,_,_,_,Nat.zero_le _,rfl,HI0.o⟩
        case round=>
         clear HI0 y0 y1 y2 y3 Y4 x0 x1 sc hbs;obtain⟨j,zg,LI,ni,hj,rfl,HI⟩:=hrel;by_cases hjl:j<s.length
         ·have hjz:(j:Int)<(s.length:Int):=(by omega);have hj0:(0:Int)<=(j:Int):=(by omega);obtain⟨⟨x1,x2⟩,hx⟩:∃x,s[j]? =some x:=⟨s[j],by simp⟩;obtain⟨qx,hqx,e1⟩:=HR.o s (lM uf.o) _ (lM hx);simp only at e1;subst e1;have HX:Hid (s[j]? =some ((qx:Int),x2)):=hx;obtain⟨cx,hcx⟩:∃c,cs[qx]? =some c:=⟨cs[qx]'(by rw[HI.o.1.len];exact hqx),by simp⟩;have hqxz:(qx:Int)<(ss.length:Int):=(by omega);have hqx0:(0:Int)<=(qx:Int):=(by omega);obtain⟨b1,o1,c1,hv1,hb1,u0,u1,u2,u3⟩:=aac (Kl.o.below HI.o.1.bl) hx;simp only[vS]at hv1;obtain⟨rfl,-,rfl⟩:=hv1;clear hx;have YR:=qK.o.2.2.1.bd2 (t2:=t2) hq0 (by rw[<-r9.o];omega);have uh:Hid ((LI.length+1)*40<=140737488355328/\ni+1<18446744073709551616):=by
           have h1:=HD.o s (lM uf.o);have h2:=HI.o.2.2.2;have h3:=HM.o;generalize 64*ss.length*(d+1)=X at h3 YR;exact⟨by omega,by omega⟩
          clear YR;obtain⟨bx,hbx⟩:=aB (wr.heap.size);obtain⟨Gi,FI⟩:=aB (wr.alloc (.cells #[.int .i64 (qx:Int), .int .u64 x2.1.1, .int .u64 x2.1.2.1, .int .u64 x2.1.2.2] 215));have tZ:Hid (Lf w zg hb g ss.length cs (dG rows q0 t2) LI ni Gi/\Bx w zg B ((q0:Int),t2) Gi/\Gi.heap[bx]? =some (.cells #[.int .i64 (qx:Int), .int .u64 x2.1.1, .int .u64 x2.1.2.1, .int .u64 x2.1.2.2] 215 (0,0))/\nW s ss.length t2 (dG rows q0 t2) R LI j/\ni<=np+j/\LI.length<=ni):=by
           have g5:=((Gr.refl wr).alloc (.cells #[.int .i64 (qx:Int), .int .u64 x2.1.1, .int .u64 x2.1.2.1, .int .u64 x2.1.2.2] 215)).below;rw[FI,hbx];exact⟨HI.o.1.below g5,HI.o.2.1.below g5,ai _ _,HI.o.2.2⟩
          have Gt:Hid (wr.alloc (.cells #[.int .i64 (qx:Int), .int .u64 x2.1.1, .int .u64 x2.1.2.1, .int .u64 x2.1.2.2] 215)=Gi/\wr.heap.size=bx):=⟨FI.symm,hbx.symm⟩;clear FI hbx HI;go_upto_region 18 with fail;rw[Gt.o.1,Gt.o.2];clear Gt u0 u1 u2 u3 hb1;obtain⟨y0,y1,y2,y3⟩:=tZ.o.2.1.cells;have Y4:=tZ.o.2.1.lt;have aaV:=(Df.aa tZ.o.2.2.1).1;have aan:=Df.ae tZ.o.2.2.1;obtain⟨cv,hcv⟩:=aB (qG t2 x2);obtain⟨ok,hok⟩:=aB ((bz t2 x2).isSome);have hth:=KG t2 x2 Gi;rw[<-hcv,<-hok]at hth;have HCV:Hid (cv=qG t2 x2/\ok=(bz t2 x2).isSome):=⟨hcv,hok⟩;clear hcv hok;unfold tv at hth;go_wp2_with fail;refine hth.mono ?_;rintro e XH ⟨rfl,Vi⟩;clear hth y0 y1 y2 y3 Y4 aaV aan;obtain⟨pb,hpb⟩:=aB (XH.heap.size);obtain⟨DW,Vm⟩:=aB (XH.alloc (.cells #[.int .u64 cv.1.1, .int .u64 cv.1.2.1, .int .u64 cv.1.2.2] 52));have RA:Hid (Lf w zg hb g ss.length cs (dG rows q0 t2) LI ni DW/\Bx w zg B ((q0:Int),t2) DW/\DW.heap[bx]? =some (.cells #[.int .i64 (qx:Int), .int .u64 x2.1.1, .int .u64 x2.1.2.1, .int .u64 x2.1.2.2] 215 (0,0))/\DW.heap[pb]? =some (.cells #[.int .u64 cv.1.1, .int .u64 cv.1.2.1, .int .u64 cv.1.2.2] 52 (0,0))):=by
           have g5:=((Gr.refl XH).alloc (.cells #[.int .u64 cv.1.1, .int .u64 cv.1.2.1, .int .u64 cv.1.2.2] 52)).below;have g6:=Vi.trans (g5.mono Vi.size);rw[Vm,hpb];exact⟨tZ.o.1.below g6,tZ.o.2.1.below g6,(g6.block _ (Df.ae tZ.o.2.2.1)).trans tZ.o.2.2.1,ai _ _⟩
          have Wv:Hid (XH.alloc (.cells #[.int .u64 cv.1.1, .int .u64 cv.1.2.1, .int .u64 cv.1.2.2] 52)=DW/\XH.heap.size=pb):=⟨Vm.symm,hpb.symm⟩;have si:=Hf.hid tZ.o.2.2.2;clear Vm hpb tZ Vi;go_upto_region 19 with fail;rw[Wv.o.1,Wv.o.2];clear Wv;obtain⟨cq,hcq⟩:=aB (bC ax (dG rows q0 t2 qx) cv);have Af:∀W:World,Below DW.heap.size DW W->Calls Tryz.prog 131 #[.pointer (some ⟨cx,0,none⟩), .agg #[.int .u64 cv.1.1, .int .u64 cv.1.2.1, .int .u64 cv.1.2.2]] W fun e w'=>e= .returned (.bool cq)/\Below W.heap.size W w':=fun W hW=>by
           refine(((RA.o.1.below hW).ch qx cx hcx).covers cv (by
            have h5:(dG rows q0 t2 qx).length<=65:=by
             unfold dG;have:=qK.o.2.2.1.sm qx;split
             ·simp;omega
             ·omega
            omega)).mono ?_
           rintro e w' ⟨rfl,hg⟩;exact⟨by rw[hcq],hg.below⟩
          have HCQ:=Hf.hid hcq;clear hcq;have dD:Hid (∀W,Below DW.heap.size DW W->W.cell? ⟨g,qx,none⟩=some (.pointer (some ⟨cx,0,none⟩))/\W.cell? ⟨bx,0,none⟩=some (.int .i64 (qx:Int))/\W.cell? ⟨pb,0,none⟩=some (.int .u64 cv.1.1)/\W.cell? ⟨pb,1,none⟩=some (.int .u64 cv.1.2.1)/\W.cell? ⟨pb,2,none⟩=some (.int .u64 cv.1.2.2)/\g<W.heap.size/\bx<W.heap.size/\pb<W.heap.size):=fun W hb=>by
           obtain⟨a0,a1⟩:=DC (RA.o.1.below hb).lr hcx;have h1:=(hb.block _ (Df.ae RA.o.2.2.1)).trans RA.o.2.2.1;have h2:=(hb.block _ (Df.ae RA.o.2.2.2)).trans RA.o.2.2.2;have h3:=(Df.aa h1).1;have h4:=(Df.aa h2).1;exact⟨a0,h3 0,h4 0,h4 1,h4 2,a1,Df.ae h1,Df.ae h2⟩
          have hB0:Below DW.heap.size DW DW.drew:=(Gr.refl DW).drew.below;have S0:=dD.o _ hB0;have HB0:=Hf.hid hB0;clear hB0;go_cut [88] (fun s88 wq=>s88= .bool (ok && !cq)/\Hid (Below DW.heap.size DW wq));case first=>
           cases ok with
           | true=>
            have hcv2:=fun W hW=>Af W (HB0.o.trans hW);go_region_held3 (fun W=>W.cell? ⟨g,qx,none⟩=some (.pointer (some ⟨cx,0,none⟩))/\W.cell? ⟨bx,0,none⟩=some (.int .i64 (qx:Int))/\W.cell? ⟨pb,0,none⟩=some (.int .u64 cv.1.1)/\W.cell? ⟨pb,1,none⟩=some (.int .u64 cv.1.2.1)/\W.cell? ⟨pb,2,none⟩=some (.int .u64 cv.1.2.2)/\g<W.heap.size/\bx<W.heap.size/\pb<W.heap.size)
             (first|exact S0|assumption)
             (first|(go_at_call 131;refine(Af _ HB0.o).mono ?_;rintro e wQ ⟨rfl,Ag⟩;have hS20:=dD.o _ (HB0.o.trans (Ag.mono HB0.o.size))))
            go_wp2_with fail;go_meet;exact⟨by simp,HB0.o.trans (Ag.mono HB0.o.size)⟩
           | false=>
            go_quiet (fail);go_wp2_with fail;go_meet;exact⟨by simp,((Gr.refl DW).drewN _).below⟩
          case rest=>
           obtain⟨rfl,HC⟩:=hcut;obtain⟨a0,a1,a2,a3,a4,a5,a6,a7⟩:=dD.o _ HC.o;have HLQ:=Hf.hid (RA.o.1.below HC.o);have HXQ:=Hf.hid (RA.o.2.1.below HC.o);have HTH:Hid (∀c,bz t2 x2=some c->c=cv/\ok=true):=fun c hc=>⟨by rw[HCV.o.1,lT hc],by rw[HCV.o.2,hc];rfl⟩;clear S0 Af dD RA HB0;obtain⟨bq,hbq⟩:=aB ((ok && !cq));rw[<-hbq];have HBQ:=Hf.hid hbq;clear hbq;cases bq with
           | true=>
            have hpush:=(HLQ.o.hm).push ((qx:Int),cv) uh.o.1 uh.o.2;go_wp2_with fail;refine hpush.mono ?_;rintro e wQ ⟨L20,rfl,Yy,UY,U1⟩;have FIN:Hid (Lf w (tg zg wc 1) hb g ss.length cs (dG rows q0 t2) L20 (ni+1) wQ/\Bx w (tg zg wc 1) B ((q0:Int),t2) wQ/\nW s ss.length t2 (dG rows q0 t2) R L20 (j+1)/\ni+1<=np+(j+1)/\L20.length<=ni+1):=by
             have hb:(ok && !cq)=true:=HBQ.o.symm;rw[Bool.and_eq_true]at hb;obtain⟨c,hc⟩:∃c,bz t2 x2=some c:=by
              have:=HCV.o.2;rw[hb.1]at this;exact Option.isSome_iff_exists.1 this.symm
             have hc2:=(HTH.o c hc).1;subst hc2;refine⟨HLQ.o.heap Yy U1,HXQ.o.nx U1 (by decide),si.o.1.push HX.o hqx hc UY,by have:=si.o.2.1;omega, ?_⟩;rw[UY.length_eq,dH,lS];have:=si.o.2.2;omega
            clear Yy UY U1 hpush;go_wp2_with fail;go_roundw;case rel=>exact⟨j+1,_,L20,ni+1,by omega,by first|rfl|go_num,FIN.o⟩
            case measure=>simp[RowKit.intOf];omega
           | false=>
            have FIN:Hid (nW s ss.length t2 (dG rows q0 t2) R LI (j+1)/\ni<=np+(j+1)/\LI.length<=ni):=by
             refine⟨si.o.1.skip HX.o (fun c hc=> ?_),by have:=si.o.2.1;omega,si.o.2.2⟩;obtain⟨h1,h2⟩:=HTH.o c hc;have hb:=HBQ.o;rw[h2,Bool.true_and]at hb;have hb2:cq=true:=(by simpa using hb.symm);rw[h1];rw[HCQ.o]at hb2;exact(mU Pc.AO _ _).1 hb2
            go_wp2_with fail;go_roundw;case rel=>exact⟨j+1,_,LI,ni,by omega,by first|rfl|go_num,HLQ.o,HXQ.o,FIN.o⟩
            case measure=>simp[RowKit.intOf];omega
         ·have hjz:¬(j:Int)<(s.length:Int):=(by omega);have hje:j=s.length:=(by omega);subst hje;obtain⟨UX,hms⟩:=qK.o.2.2.1.take Xq.o Xt.o Tn.o uf.o (HD.o s (lM uf.o)) (by rw[<-r9.o];omega) HI.o.2.2.1 HI.o.2.2.2.1 HI.o.2.2.2.2;obtain⟨y0,y1,y2,y3⟩:=HI.o.2.1.cells;have Y4:=HI.o.2.1.lt;obtain⟨LD,XD⟩:=HI.o.1.box ((q0:Int),t2);have Ot:Hid (Pu ss p d (dG rows q0 t2) LI ni/\Hu ss.length d (dG rows q0 t2) LI.length<=gk):=⟨UX,by have:=qK.o.2.2.2;omega⟩;have hnx:=LD.next (by have:=(UX.bd HM.o).2.2.1;omega);have HXD:=Hf.hid XD;clear LD XD UX hms;go_wp2_with fail;refine hnx.mono ?_;rintro e w30 ⟨b3,t3,k3,R3,sF,rfl,ZF,Zy,p31,p32⟩;have Oj:=HXD.o.nx Zy (by decide);obtain⟨z0,z1,z2,z3⟩:=Oj.cells;obtain⟨f0,f1,f2,f3⟩:=Oj.fz;have aaq:=Oj.lt;have H31:=Hf.hid (ZF.set Oj t3);have HP3:Hid ((b3=true->((t3,k3)::R3).Perm LI/\∀x∈R3,Hf.kf t3<Hf.kf x.1\/(Hf.kf t3=Hf.kf x.1/\k3<x.2))/\(b3=false->LI=[]/\R3=[])):=⟨p31,p32⟩;clear ZF Zy p31 p32 Oj hnx;go_wp2_with fail;go_roundg gk;case measure=>omega
          case rel=>exact⟨sF,_,R3,LI,ni,_,b3,t3,k3,rfl,rfl,⟨H31.o.1,H31.o.2,Ot.o.1,Ot.o.2⟩,HP3.o⟩
open Df (hid dF mW gH LV EC qV az bA aC aD aa ae)
end Lf
namespace Lf
open Go.RowKit Go.Sort Pt
attribute [local go_sem ↓] Go.wp_at_zero Go.wp_at_succ
end Lf
section
open Go.RowKit Go.Sort
theorem Am{α:Type}(E:El α)(zs:List α)(i k:Nat)(y y':α)(u:Value)(hi:zs[i]? =some y)(hk:k<E.k)(he:(E.enc y).set k u=E.enc y'):(fl E zs).set (i*E.k+k) u=fl E (zs.set i y'):=by
 induction zs generalizing i with
 | nil => simp at hi
 | cons z zs ih=>
  rw[aQ];cases i with
  | zero=>
   simp at hi;subst hi;rw[List.set_cons_zero,aQ,<-he,Nat.zero_mul,nZ,List.set_append_left _ _ (by rw[E.len];exact hk)]
  | succ i=>
   have e1:(i+1)*E.k+k=E.k+(i*E.k+k):=(by rw[Nat.succ_mul];omega);rw[List.set_cons_succ,aQ,<-ih i (by simpa using hi),e1,List.set_append_right _ _ (by rw[E.len];omega),E.len,Nat.add_sub_cancel_left]
theorem qQ{base:Nat}{e:TypeId}{size g cap:Nat}{xs:List Value}(h:w.ownsRow base e size (.slice (some ⟨g,0,none⟩) n cap) n xs)(j:Nat)(u:Value):(w.setCell ⟨g,j,none⟩ u).ownsRow base e size (.slice (some ⟨g,0,none⟩) n cap) n (xs.set j u)/\Kp (fun k=>k=g) w (w.setCell ⟨g,j,none⟩ u):=by
 obtain⟨hx,hr⟩:=h;rcases hr with⟨h0,_⟩|⟨g',cap',cur,hv,hg,hh,hn,hm,hs,ht⟩
 ·cases h0
 ·simp only[vS,oI,aI]at hv;obtain⟨⟨rfl,-,-⟩,-,rfl⟩:=hv;have h2:=setCell_eq_setRow w g j _ _ _ u hh;have hk:Kp (fun k=>k=g) w (w.setCell ⟨g,j,none⟩ u):=by
   rw[h2];exact⟨rfl,rfl,rfl,by simp[World.setRow],fun k _ hne=>setRow_other w g k _ (by omega)⟩
  refine⟨⟨by simp[hx],Or.inr ⟨g,cap,cur.setIfInBounds j u,rfl,hg,by rw[h2,setRow_heap w g _ _ _ _ hh],hn,hm,by simp[hs], ?_⟩⟩,hk⟩;rw[Array.toList_setIfInBounds,List.take_set,ht]
end
end Go.Proofs.YteekbpokkjjipaaGreat
