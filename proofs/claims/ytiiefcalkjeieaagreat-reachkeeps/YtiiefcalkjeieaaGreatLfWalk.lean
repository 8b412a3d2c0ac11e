import Derived.Test.YtiiefcalkjeieaaGreatJ20
set_option maxHeartbeats 4000000
set_option maxRecDepth 100000
namespace Go.Proofs.YtiiefcalkjeieaaGreat.Lf
open Go.RowKit Go.Sort Pt
attribute[local go_sem ↓]wp_at_zero wp_at_succ
def LfA(w:World)(ss:List (List Hf.Th))(p:Nat)(e:Ending)(w':World):Prop:=Below w.heap.size w w'/\∃r,rW PX (JX ss) p r/\((r=none/\e= .returned (.tuple #[.slice none 0 0, .int .i64 28]))\/∃rows v vs,r=some rows/\e= .returned (.tuple #[v, .int .i64 0])/\Tb w.heap.size w' v vs ((List.range ss.length).map rows))
theorem Tb.base{b b':Nat}{w:World}{v:Value}{vs:List Vw}{ts:List (List Tm)}(h:Tb b w v vs ts)(hb:b'<=b):Tb b' w v vs ts:=⟨aL h.row hb,h.len,fun i u t hu ht=>⟨aL (h.each i u t hu ht).1 hb,(h.each i u t hu ht).2⟩⟩
theorem Pu.bd2{ss:List (List Hf.Th)}{p d q0 np:Nat}{t2:ai}{rows:Nat->List ai}{L:List Hf.It}(h:Pu ss p d rows L np)(hq:q0<ss.length)(h64:(rows q0).length+1<=64):np+d<=64*ss.length*(d+1)+1:=by
 have h1:=Ay (n:=ss.length) (m:=64) (rows:=dM rows q0 t2) (fun q _=>by
  unfold dM;split
  ·rename_i e;subst e;simpa using h64
  ·exact h.sm q)
 rw[vW,if_pos hq]at h1;have h2:(tot ss.length rows+1)*d<=64*ss.length*(d+1):=Nat.mul_le_mul h1 (Nat.le_succ d);rw[Nat.add_mul,Nat.one_mul]at h2;have h3:=h.nb;omega
theorem pQ(p n d:Nat)(su:Value)(ss:List (List Hf.Th))(w:World)(hS:Sp w su ss)(hn:ss.length=n)(hp:p<n)(hr:∀s∈ss,∀x∈s,∃q:Nat,q<n/\x.1=(q:Int))(hd:∀s∈ss,s.length<=d)(hM:(64*n*(d+1)+2)*40<=140737488355328) :
    Calls Tryz.prog 74 #[.int .i64 p,su] w (LfA w ss p):=by
 have hmx:Tryz.prog.follows .mixedOrders=true:=by kernel_rfl
 obtain⟨ps,cs0,rfl⟩:=hS.form;subst hn;have hnb:ss.length*2560<=140737488355328:=by
  have h1:64*ss.length*1<=64*ss.length*(d+1):=Nat.mul_le_mul (nR _) (by omega);omega
 obtain⟨iB,hiB,hb0,hb1,hb2⟩:=info_parts WH;obtain⟨w1,hmk,ho1,hg1⟩:=run_make_full (P:=Tryz.prog) w 0 217 218 iB _ 1 Tryz.underlying217 hiB hb0 hb1 .i64 .i64 ss.length (by rw[hb2];omega) (by unfold maxLen;omega) (zL _);rw[ZO]at ho1;obtain⟨g,hg⟩:=aC (w.heap.size);rw[<-hg]at hmk ho1;have HF1:Hid (QE w (fun k=>if k=g then 2 else 0) g ss.length [] w1):=by
  refine⟨(Kp.grownBy (S:=fun _=>False) hg1 (fun _ h=>by cases h)).below (nR _) (fun _ h=>h.elim),fun k hk=>if_neg (by omega),zL _,ho1,if_pos rfl,fun i c hc=>by simp at hc⟩
 have HS:Hid (Sp w (.slice ps ss.length cs0) ss):=hS;have HR:Hid (∀s∈ss,∀x∈s,∃q:Nat,q<ss.length/\x.1=(q:Int)):=hr;have HD:Hid (∀s∈ss,s.length<=d):=hd;have HM:Hid ((64*ss.length*(d+1)+2)*40<=140737488355328):=hM;have HPl:Hid (p<ss.length):=hp;clear hS hr hd hM hp hiB hb0 hb1 hb2 ho1 hg1 hg;go_enter Tryz.func74,Tryz.ntmps74;go_wp2_with fail;clear hmk;go_loopw [7,20] (fun _ s20 wr=>∃(i:Nat) (tag:Nat->Nat) (cs:List Nat),i<=ss.length/\s20= .int .i64 i/\Hid (cs.length=i/\QE w tag g ss.length cs wr)) (fun _ s20 _=>ss.length-(intOf s20).toNat);case atStart=>exact⟨0,_,[],zL _,rfl,rfl,HF1.o⟩
 case round=>
  clear HF1;obtain⟨i,tag,cs,hi,rfl,HI⟩:=hrel;by_cases hlt:i<ss.length
  ·have hltz:(i:Int)<(ss.length:Int):=(by omega);have hi0:(0:Int)<=(i:Int):=(by omega);have hgl:=HI.o.2.gl;have hny:=Pc.Cn.DF wr;have hfz:∀W,Gr wr W->W.frozen? ⟨g,i,none⟩=false:=fun W h=>Hf.oL (ag HI.o.2.ro h.below) i;go_wp2_with fail;refine hny.mono ?_;rintro e w5 ⟨rfl,hC5,hg5⟩;have hgl5:=nL hgl hg5.size;have hfz5:=hfz _ hg5;have hce5:w5.cell? ⟨g,i,none⟩=some (.pointer none):=by
    have:=HI.o.2.cell (by rw[HI.o.1];exact hlt) hg5;rw[HI.o.1]at this;exact this
   have Uw:=Hf.hid (HI.o.2.step (by rw[HI.o.1];exact hlt) hC5 hg5);rw[HI.o.1]at Uw;clear hC5 hg5 hfz hny;go_wp2_with fail;go_roundw;case rel=>exact⟨i+1,_,_,by omega,by first|rfl|go_num,by rw[dO,HI.o.1];rfl,Uw.o⟩
   case measure=>simp[intOf];omega
  ·have hltz:¬(i:Int)<(ss.length:Int):=(by omega);have hce:cs.length=ss.length:=(by rw[HI.o.1];omega);go_wp2_with fail;refine(hnew wr tag 1).mono ?_;rintro e w8 ⟨hb,rfl,hbw,hm8,U0⟩;have HL8:=Hf.hid (HI.o.2.done hce ⟨Kp.aX U0,fun _ hk=>ak hk⟩ hm8);clear hm8 U0 hbw HI;go_wp2_with fail;refine((HL8.o.hm).push ((p:Int),PX.z) (by simp) (by simp)).mono ?_;rintro e w9 ⟨L9,rfl,WX,hp9,WU⟩;have e9:L9=[(((p:Int),PX.z),0)]:=(by simpa using hp9);subst e9;have HL9:=Hf.hid (HL8.o.heap WX WU);clear WX hp9 WU HL8;go_wp2_with fail;refine(HL9.o.hm.pop rfl (by simp)).mono ?_;rintro e dP ⟨L10,rfl,aap,aai,hk10,aan⟩;have e10:L10=[]:=by
    have:=aai.length_eq;simpa using this
   subst e10;have HLA:=Hf.hid (HL9.o.heap aap aan);clear aap aai hk10 aan HL9;generalize tg (tg (tg tag wr 1) w8 1) w9 1=tagA at HLA;go_wp2_with fail;obtain⟨hl0,hx0⟩:=HLA.o.box ((p:Int),PX.z);have Qu:Hid (Lf w (tg tagA dP 0) hb g ss.length cs (fun _=>[]) [] 1 (dP.alloc (.cells #[.int .i64 (p:Int), .int .u64 PX.z.1.1, .int .u64 PX.z.1.2.1, .int .u64 PX.z.1.2.2] 215))/\Bx w (tg tagA dP 0) dP.heap.size ((p:Int),PX.z) (dP.alloc (.cells #[.int .i64 (p:Int), .int .u64 PX.z.1.1, .int .u64 PX.z.1.2.1, .int .u64 PX.z.1.2.2] 215))):=⟨hl0,hx0⟩;clear hl0 hx0 HLA;go_loopg [9,10,12,13,14] (64*ss.length*(d+1)+1) (fun gk s9 s10 _ _ _ wx=>∃(tag:Nat->Nat) (rows:Nat->List ai) (R L0:List Hf.It) (np B:Nat) (b:Bool) (t:Hf.Th) (k:Nat),s9= .pointer (some ⟨B,0,none⟩)/\s10= .bool b/\
    Hid (Lf w tag hb g ss.length cs rows R np wx/\Bx w tag B t wx/\Pu ss p d rows L0 np/\Jo ss.length d rows L0.length<=gk)/\Hid ((b=true->((t,k)::R).Perm L0/\∀x∈R,Hf.kf t<Hf.kf x.1\/(Hf.kf t=Hf.kf x.1/\k<x.2))/\(b=false->L0=[]/\R=[])))
   case atStart=>exact⟨_,fun _=>[],[],[(((p:Int),PX.z),0)],1,_,true,((p:Int),PX.z),0,rfl,rfl,⟨Qu.o.1,Qu.o.2,Pu.init HPl.o,Nat.le_of_eq NZ⟩,⟨fun _=>⟨List.Perm.refl _,fun x hx=>by simp at hx⟩,fun e=>by cases e⟩⟩
   case round=>
    clear Qu;obtain⟨tag,rows,R,L0,np,B,b,t,k,rfl,rfl,rZ,HO0⟩:=hrel;cases b with
    | false=>
     have HE:=HO0.o.2 rfl;have hls:=DT wr rZ.o.1.lr rZ.o.1.len rZ.o.1.ch rZ.o.2.2.1.sm hnb;go_wp2_with fail;refine hls.mono ?_;rintro e Zz ⟨v20,abg,rfl,aa6,BS⟩;obtain⟨rfl,rfl⟩:=HE;have YC:Hid (LfA w ss p (.returned (.tuple #[v20, .int .i64 0])) Zz):=⟨rZ.o.1.bl.trans (BS.mono rZ.o.1.bl.size),some rows,rZ.o.2.2.1.fin,Or.inr ⟨rows,v20,abg,rfl,rfl,aa6.base rZ.o.1.bl.size⟩⟩;clear aa6 BS;go_wp2;refine bR (v:= .tuple #[v20, .int .i64 0]) (by simp[results,Tryz.results74,go_sem]) rfl ?_;exact YC.o
    | true=>
     obtain⟨hpm,hod⟩:=HO0.o.1 rfl;obtain⟨gk,rfl⟩:∃g',gk=g'+1:=⟨gk-1,by
      have h1:=rZ.o.2.2.2;have h2:R.length+1=L0.length:=(by simpa using hpm.length_eq);have h3:=Ws (n:=ss.length) (d:=d) (k:=L0.length) (rows:=rows);omega⟩
     obtain⟨q0,hq0,ht0⟩:=rZ.o.2.2.1.rg (t,k) (hpm.mem_iff.1 (mX ..));obtain⟨t1,t2⟩:=t;simp only at ht0;subst ht0;obtain⟨c0,hc0⟩:∃c,cs[q0]? =some c:=⟨cs[q0]'(by rw[rZ.o.1.len];exact hq0),by simp⟩;have hqz:(q0:Int)<(ss.length:Int):=(by omega);have hqz0:(0:Int)<=(q0:Int):=(by omega);have hins:∀W:World,Gr wr W->Calls Tryz.prog 128 #[.pointer (some ⟨c0,0,none⟩), .agg #[.int .u64 t2.1.1, .int .u64 t2.1.2.1, .int .u64 t2.1.2.2]] W fun e w'=>e= .returned (.bool (!bE ay (rows q0) t2))/\Hid (∃tag':Nat->Nat,Lf w tag' hb g ss.length cs (fun i=>if i=q0 then gB ay dI (rows q0) t2 else rows i) R np w'/\Bx w tag' B ((q0:Int),t2) w')/\(w'.cell? ⟨g,q0,none⟩=some (.pointer (some ⟨c0,0,none⟩))/\w'.cell? ⟨B,0,none⟩=some (.int .i64 (q0:Int))/\w'.cell? ⟨B,1,none⟩=some (.int .u64 t2.1.1)/\w'.cell? ⟨B,2,none⟩=some (.int .u64 t2.1.2.1)/\w'.cell? ⟨B,3,none⟩=some (.int .u64 t2.1.2.2)/\g<w'.heap.size/\B<w'.heap.size):=by
      intro W hW;have hL:=rZ.o.1.below hW.below;have hX:=rZ.o.2.1.below hW.below;refine((hL.ch q0 c0 hc0).insert t2 (by have:=rZ.o.2.2.1.sm q0;omega)).mono ?_;rintro e w' ⟨rfl,h1,h2⟩;have h3:=hL.chain hc0 h1 h2;have h4:=hX.nx h2 (by omega);obtain⟨z0,z1⟩:=Fq h3.lr hc0;obtain⟨z2,z3,z4,z5⟩:=h4.cells;exact⟨rfl,⟨_,h3,h4⟩,z0,z2,z3,z4,z5,z1,h4.lt⟩
     have hcc:∃bb,bE ay (rows q0) t2=bb:=⟨_,rfl⟩;obtain⟨bb,hbb⟩:=hcc;rw[hbb]at hins;obtain⟨x0,x1⟩:=Fq rZ.o.1.lr hc0;obtain⟨y0,y1,y2,y3⟩:=rZ.o.2.1.cells;have hBl:=rZ.o.2.1.lt;have S0:(wr.drew.cell? ⟨g,q0,none⟩=some (.pointer (some ⟨c0,0,none⟩))/\wr.drew.cell? ⟨B,0,none⟩=some (.int .i64 (q0:Int))/\wr.drew.cell? ⟨B,1,none⟩=some (.int .u64 t2.1.1)/\wr.drew.cell? ⟨B,2,none⟩=some (.int .u64 t2.1.2.1)/\wr.drew.cell? ⟨B,3,none⟩=some (.int .u64 t2.1.2.2)/\g<wr.drew.heap.size/\B<wr.drew.heap.size):=⟨x0,y0,y1,y2,y3,x1,hBl⟩;have hgd:Gr wr wr.drew:=(Gr.refl _).drew;have HBB:Hid (bE ay (rows q0) t2=bb):=hbb;have Zk:Hid ((((q0:Int),t2),k)::R|>.Perm L0):=hpm;have Zm:Hid (∀x∈R,Hf.kf ((q0:Int),t2)<Hf.kf x.1\/(Hf.kf ((q0:Int),t2)=Hf.kf x.1/\k<x.2)):=hod;clear x0 y0 y1 y2 y3 hbb hod hpm;go_upto_region 12 with fail;go_cut [52] (fun ZG wc=>ZG= .bool bb/\Hid (∃tag':Nat->Nat,Lf w tag' hb g ss.length cs (fun i=>if i=q0 then gB ay dI (rows q0) t2 else rows i) R np wc/\Bx w tag' B ((q0:Int),t2) wc))
     case first=>
      go_region_held3 (fun W=>W.cell? ⟨g,q0,none⟩=some (.pointer (some ⟨c0,0,none⟩))/\W.cell? ⟨B,0,none⟩=some (.int .i64 (q0:Int))/\W.cell? ⟨B,1,none⟩=some (.int .u64 t2.1.1)/\W.cell? ⟨B,2,none⟩=some (.int .u64 t2.1.2.1)/\W.cell? ⟨B,3,none⟩=some (.int .u64 t2.1.2.2)/\g<W.heap.size/\B<W.heap.size)
       (first|exact S0|assumption)
       (first|(go_at_call 128;refine(hins _ (by assumption)).mono ?_;rintro e yG ⟨rfl,ab7,Pn⟩))
      go_wp2_with fail;go_meet;exact⟨by simp,ab7⟩
     case rest=>
      obtain⟨rfl,HC⟩:=hcut;obtain⟨ZC,LC,XC⟩:=HC.o;clear S0 hins HC;rw[rZ.o.2.2.1.ins Zk.o]at LC;cases bb with
      | true=>
       have hrows:(fun i=>if i=q0 then(if bE ay (rows q0) t2 then rows q0 else rows q0++[t2])else rows i)=rows:=by
        rw[if_pos HBB.o]
        funext i
        split
        ·rename_i e;rw[e]
        ·rfl
       rw[hrows]at LC;obtain⟨y0,y1,y2,y3⟩:=XC.cells;have hBc:=XC.lt;obtain⟨LD,XD⟩:=LC.box ((q0:Int),t2);obtain⟨WR,hms⟩:=rZ.o.2.2.1.skip Zk.o ((rP Pc.Cv _ _).1 HBB.o);have Qp:Hid (Pu ss p d rows R np/\Jo ss.length d rows R.length<=gk):=⟨WR,by have:=rZ.o.2.2.2;omega⟩;have hnx:=LD.next (by have:=(WR.bd HM.o).2.2.1;omega);have HXD:=Hf.hid XD;clear LC XC LD XD WR hms hrows;go_wp2_with fail;refine hnx.mono ?_;rintro e w30 ⟨b3,t3,k3,R3,uH,rfl,L30,N30,p31,p32⟩;have Qm:=HXD.o.nx N30 (by decide);obtain⟨z0,z1,z2,z3⟩:=Qm.cells;obtain⟨f0,f1,f2,f3⟩:=Qm.fz;have abu:=Qm.lt;have LZ:=Hf.hid (L30.set Qm t3);have HP3:Hid ((b3=true->((t3,k3)::R3).Perm R/\∀x∈R3,Hf.kf t3<Hf.kf x.1\/(Hf.kf t3=Hf.kf x.1/\k3<x.2))/\(b3=false->R=[]/\R3=[])):=⟨p31,p32⟩;clear L30 N30 p31 p32 Qm hnx;go_wp2_with fail;go_roundg gk;case measure=>omega
       case rel=>exact⟨uH,rows,R3,R,np,_,b3,t3,k3,rfl,rfl,⟨LZ.o.1,LZ.o.2,Qp.o.1,Qp.o.2⟩,HP3.o⟩
      | false=>
       have hrows:(fun i=>if i=q0 then(if bE ay (rows q0) t2 then rows q0 else rows q0++[t2])else rows i)=dM rows q0 t2:=by
        rw[HBB.o]
        funext i
        unfold dM;split
        ·rename_i e;rw[e];rfl
        ·rfl
       rw[hrows]at LC;obtain⟨y0,y1,y2,y3⟩:=XC.cells;have hBc:=XC.lt;obtain⟨x0,x1⟩:=Fq LC.lr hc0;have hln:=(LC.ch q0 c0 hc0).len;rw[show(dM rows q0 t2 q0).length=(rows q0).length+1 by unfold dM;rw[if_pos rfl];simp]at hln;obtain⟨ln,Xb⟩:=aC ((rows q0).length+1);rw[<-Xb]at hln;have uC:=Hf.hid Xb;have HLC:=Hf.hid LC;have HXC:=Hf.hid XC;clear LC XC hrows Xb;have hnc:¬pV PX (rows q0) t2:=fun h=>by
        have:=(rP Pc.Cv _ _).2 h;rw[HBB.o]at this;cases this
       have Vo:=Hf.hid hnc;clear hnc;by_cases h64:64<ln
       ·have abT:(64:Int)<(ln:Int):=(by omega);have YC:Hid (LfA w ss p (.returned (.tuple #[.slice none 0 0, .int .i64 28])) wc):=⟨HLC.o.bl,none,rZ.o.2.2.1.wide Zk.o Zm.o Vo.o (by rw[<-uC.o];exact h64),Or.inl ⟨rfl,rfl⟩⟩;go_wp2_with fail;refine hln.mono ?_;rintro e CL ⟨rfl,OT⟩;rw[OT];clear OT;go_wp2;refine bR (v:= .tuple #[.slice none 0 0, .int .i64 28]) (by simp[results,Tryz.results74,go_sem]) rfl ?_;exact YC.o
       ·have abT:¬(64:Int)<(ln:Int):=(by omega);go_wp2_with fail;refine hln.mono ?_;rintro e CL ⟨rfl,OT⟩;rw[OT];clear OT hln;obtain⟨s,hs⟩:∃s,ss[q0]? =some s:=⟨ss[q0]'hq0,by simp⟩;have rY:=Hf.hid hs;obtain⟨bs,os,qs,ms,hps,Xl,sc0,sl⟩:=HS.o.at hs;subst hps;have sc:=(HLC.o.bl.cell (p:=⟨bs,os+q0,none⟩) Xl).trans sc0;have hbs:=nL Xl HLC.o.bl.size;clear sc0 Xl;have hsl:s.length<=140737488355328:=by
         have h1:=HD.o s (lM hs);have h2:=HM.o;have h3:64*ss.length*1<=64*ss.length*(d+1):=Nat.mul_le_mul (nR _) (by omega);have h4:d+1<=64*ss.length*(d+1):=Nat.le_mul_of_pos_left _ (by omega);omega
        have HI0:Hid (Lf w ZC hb g ss.length cs (dM rows q0 t2) R np wc/\Bx w ZC B ((q0:Int),t2) wc/\pK s ss.length t2 (dM rows q0 t2) R R 0/\np<=np+0/\R.length<=np):=⟨HLC.o,HXC.o,pK.init (fun x hx=>rZ.o.2.2.1.rg x (Zk.o.mem_iff.1 (mO _ hx))),nR _,by
         have h1:=rZ.o.2.2.1.ln;have h2:R.length+1=L0.length:=(by simpa using Zk.o.length_eq);omega⟩
        have Mj:Hid (Ls EF w (.slice qs s.length ms) s):=sl;clear sl hs HLC HXC;go_wp2_with fail;go_loopw [12,13,14,66] (fun _ _ _ s66 wx=>∃(j:Nat) (AU:Nat->Nat) (LI:List Hf.It) (ni:Nat),j<=s.length/\s66= .int .i64 j/\Hid (Lf w AU hb g ss.length cs (dM rows q0 t2) LI ni wx/\Bx w AU B ((q0:Int),t2) wx/\pK s ss.length t2 (dM rows q0 t2) R LI j/\ni<=np+j/\LI.length<=ni)) (fun _ _ _ s66 _=>s.length-(intOf s66).toNat);case atStart=>exact⟨0,_,_,_,zL _,rfl,HI0.o⟩
        case round=>
         clear HI0 y0 y1 y2 y3 hBc x0 x1 sc hbs;obtain⟨j,AU,LI,ni,hj,rfl,HI⟩:=hrel;by_cases hjl:j<s.length
         ·have hjz:(j:Int)<(s.length:Int):=(by omega);have hj0:(0:Int)<=(j:Int):=(by omega);obtain⟨⟨x1,x2⟩,hx⟩:∃x,s[j]? =some x:=⟨s[j],by simp⟩;obtain⟨qx,hqx,e1⟩:=HR.o s (lM rY.o) _ (lM hx);simp only at e1;subst e1;have HX:Hid (s[j]? =some ((qx:Int),x2)):=hx;obtain⟨cx,hcx⟩:∃c,cs[qx]? =some c:=⟨cs[qx]'(by rw[HI.o.1.len];exact hqx),by simp⟩;have hqxz:(qx:Int)<(ss.length:Int):=(by omega);have hqx0:(0:Int)<=(qx:Int):=(by omega);obtain⟨b1,o1,c1,hv1,hb1,u0,u1,u2,u3⟩:=abe (Mj.o.below HI.o.1.bl) hx;simp only[vS]at hv1;obtain⟨rfl,-,rfl⟩:=hv1;clear hx;have aaB:=rZ.o.2.2.1.bd2 (t2:=t2) hq0 (by rw[<-uC.o];omega);have vK:Hid ((LI.length+1)*40<=140737488355328/\ni+1<18446744073709551616):=by
           have h1:=HD.o s (lM rY.o);have h2:=HI.o.2.2.2;have h3:=HM.o;generalize 64*ss.length*(d+1)=X at h3 aaB;exact⟨by omega,by omega⟩
          clear aaB;obtain⟨bx,hbx⟩:=aC (wr.heap.size);obtain⟨W17,Xq⟩:=aC (wr.alloc (.cells #[.int .i64 (qx:Int), .int .u64 x2.1.1, .int .u64 x2.1.2.1, .int .u64 x2.1.2.2] 215));have QS:Hid (Lf w AU hb g ss.length cs (dM rows q0 t2) LI ni W17/\Bx w AU B ((q0:Int),t2) W17/\W17.heap[bx]? =some (.cells #[.int .i64 (qx:Int), .int .u64 x2.1.1, .int .u64 x2.1.2.1, .int .u64 x2.1.2.2] 215 (0,0))/\pK s ss.length t2 (dM rows q0 t2) R LI j/\ni<=np+j/\LI.length<=ni):=by
           have g5:=((Gr.refl wr).alloc (.cells #[.int .i64 (qx:Int), .int .u64 x2.1.1, .int .u64 x2.1.2.1, .int .u64 x2.1.2.2] 215)).below;rw[Xq,hbx];exact⟨HI.o.1.below g5,HI.o.2.1.below g5,ah _ _,HI.o.2.2⟩
          have Yt:Hid (wr.alloc (.cells #[.int .i64 (qx:Int), .int .u64 x2.1.1, .int .u64 x2.1.2.1, .int .u64 x2.1.2.2] 215)=W17/\wr.heap.size=bx):=⟨Xq.symm,hbx.symm⟩;clear Xq hbx HI;go_upto_region 18 with fail;rw[Yt.o.1,Yt.o.2];clear Yt u0 u1 u2 u3 hb1;obtain⟨y0,y1,y2,y3⟩:=QS.o.2.1.cells;have hBc:=QS.o.2.1.lt;have abY:=(Df.aa QS.o.2.2.1).1;have abq:=Df.ae QS.o.2.2.1;obtain⟨cv,hcv⟩:=aC (tY t2 x2);obtain⟨ok,hok⟩:=aC ((bH t2 x2).isSome);have hth:=MJ t2 x2 W17;rw[<-hcv,<-hok]at hth;have HCV:Hid (cv=tY t2 x2/\ok=(bH t2 x2).isSome):=⟨hcv,hok⟩;clear hcv hok;unfold tv at hth;go_wp2_with fail;refine hth.mono ?_;rintro e UF ⟨rfl,Xm⟩;clear hth y0 y1 y2 y3 hBc abY abq;obtain⟨pb,hpb⟩:=aC (UF.heap.size);obtain⟨FD,Xp⟩:=aC (UF.alloc (.cells #[.int .u64 cv.1.1, .int .u64 cv.1.2.1, .int .u64 cv.1.2.2] 52));have Um:Hid (Lf w AU hb g ss.length cs (dM rows q0 t2) LI ni FD/\Bx w AU B ((q0:Int),t2) FD/\FD.heap[bx]? =some (.cells #[.int .i64 (qx:Int), .int .u64 x2.1.1, .int .u64 x2.1.2.1, .int .u64 x2.1.2.2] 215 (0,0))/\FD.heap[pb]? =some (.cells #[.int .u64 cv.1.1, .int .u64 cv.1.2.1, .int .u64 cv.1.2.2] 52 (0,0))):=by
           have g5:=((Gr.refl UF).alloc (.cells #[.int .u64 cv.1.1, .int .u64 cv.1.2.1, .int .u64 cv.1.2.2] 52)).below;have g6:=Xm.trans (g5.mono Xm.size);rw[Xp,hpb];exact⟨QS.o.1.below g6,QS.o.2.1.below g6,(g6.block _ (Df.ae QS.o.2.2.1)).trans QS.o.2.2.1,ah _ _⟩
          have Yr:Hid (UF.alloc (.cells #[.int .u64 cv.1.1, .int .u64 cv.1.2.1, .int .u64 cv.1.2.2] 52)=FD/\UF.heap.size=pb):=⟨Xp.symm,hpb.symm⟩;have uD:=Hf.hid QS.o.2.2.2;clear Xp hpb QS Xm;go_upto_region 19 with fail;rw[Yr.o.1,Yr.o.2];clear Yr;obtain⟨cq,hcq⟩:=aC (bE ay (dM rows q0 t2 qx) cv);have BR:∀W:World,Below FD.heap.size FD W->Calls Tryz.prog 131 #[.pointer (some ⟨cx,0,none⟩), .agg #[.int .u64 cv.1.1, .int .u64 cv.1.2.1, .int .u64 cv.1.2.2]] W fun e w'=>e= .returned (.bool cq)/\Below W.heap.size W w':=fun W hW=>by
           refine(((Um.o.1.below hW).ch qx cx hcx).covers cv (by
            have h5:(dM rows q0 t2 qx).length<=65:=by
             unfold dM;have:=rZ.o.2.2.1.sm qx;split
             ·simp;omega
             ·omega
            omega)).mono ?_
           rintro e w' ⟨rfl,hg⟩;exact⟨by rw[hcq],hg.below⟩
          have HCQ:=Hf.hid hcq;clear hcq;have gG:Hid (∀W,Below FD.heap.size FD W->W.cell? ⟨g,qx,none⟩=some (.pointer (some ⟨cx,0,none⟩))/\W.cell? ⟨bx,0,none⟩=some (.int .i64 (qx:Int))/\W.cell? ⟨pb,0,none⟩=some (.int .u64 cv.1.1)/\W.cell? ⟨pb,1,none⟩=some (.int .u64 cv.1.2.1)/\W.cell? ⟨pb,2,none⟩=some (.int .u64 cv.1.2.2)/\g<W.heap.size/\bx<W.heap.size/\pb<W.heap.size):=fun W hb=>by
           obtain⟨a0,a1⟩:=Fq (Um.o.1.below hb).lr hcx;have h1:=(hb.block _ (Df.ae Um.o.2.2.1)).trans Um.o.2.2.1;have h2:=(hb.block _ (Df.ae Um.o.2.2.2)).trans Um.o.2.2.2;have h3:=(Df.aa h1).1;have h4:=(Df.aa h2).1;exact⟨a0,h3 0,h4 0,h4 1,h4 2,a1,Df.ae h1,Df.ae h2⟩
          have hB0:Below FD.heap.size FD FD.drew:=(Gr.refl FD).drew.below;have S0:=gG.o _ hB0;have HB0:=Hf.hid hB0;clear hB0;go_cut [88] (fun s88 wq=>s88= .bool (ok && !cq)/\Hid (Below FD.heap.size FD wq));case first=>
           cases ok with
           | true=>
            have hcv2:=fun W hW=>BR W (HB0.o.trans hW);go_region_held3 (fun W=>W.cell? ⟨g,qx,none⟩=some (.pointer (some ⟨cx,0,none⟩))/\W.cell? ⟨bx,0,none⟩=some (.int .i64 (qx:Int))/\W.cell? ⟨pb,0,none⟩=some (.int .u64 cv.1.1)/\W.cell? ⟨pb,1,none⟩=some (.int .u64 cv.1.2.1)/\W.cell? ⟨pb,2,none⟩=some (.int .u64 cv.1.2.2)/\g<W.heap.size/\bx<W.heap.size/\pb<W.heap.size)
             (first|exact S0|assumption)
             (first|(go_at_call 131;refine(BR _ HB0.o).mono ?_;rintro e Zz ⟨rfl,BS⟩;have hS20:=gG.o _ (HB0.o.trans (BS.mono HB0.o.size))))
            go_wp2_with fail;go_meet;exact⟨by simp,HB0.o.trans (BS.mono HB0.o.size)⟩
           | false=>
            go_quiet (fail);go_wp2_with fail;go_meet;exact⟨by simp,((Gr.refl FD).drewN _).below⟩
          case rest=>
           obtain⟨rfl,HC⟩:=hcut;obtain⟨a0,a1,a2,a3,a4,a5,a6,a7⟩:=gG.o _ HC.o;have HLQ:=Hf.hid (Um.o.1.below HC.o);have HXQ:=Hf.hid (Um.o.2.1.below HC.o);have HTH:Hid (∀c,bH t2 x2=some c->c=cv/\ok=true):=fun c hc=>⟨by rw[HCV.o.1,vX hc],by rw[HCV.o.2,hc];rfl⟩;clear S0 BR gG Um HB0;obtain⟨bq,hbq⟩:=aC ((ok && !cq));rw[<-hbq];have HBQ:=Hf.hid hbq;clear hbq;cases bq with
           | true=>
            have hpush:=(HLQ.o.hm).push ((qx:Int),cv) vK.o.1 vK.o.2;go_wp2_with fail;refine hpush.mono ?_;rintro e Zz ⟨L20,rfl,aao,WS,WV⟩;have FIN:Hid (Lf w (tg AU wc 1) hb g ss.length cs (dM rows q0 t2) L20 (ni+1) Zz/\Bx w (tg AU wc 1) B ((q0:Int),t2) Zz/\pK s ss.length t2 (dM rows q0 t2) R L20 (j+1)/\ni+1<=np+(j+1)/\L20.length<=ni+1):=by
             have hb:(ok && !cq)=true:=HBQ.o.symm;rw[bA]at hb;obtain⟨c,hc⟩:∃c,bH t2 x2=some c:=by
              have:=HCV.o.2;rw[hb.1]at this;exact Option.isSome_iff_exists.1 this.symm
             have hc2:=(HTH.o c hc).1;subst hc2;refine⟨HLQ.o.heap aao WV,HXQ.o.nx WV (by decide),uD.o.1.push HX.o hqx hc WS,by have:=uD.o.2.1;omega, ?_⟩;rw[WS.length_eq,dO,vL];have:=uD.o.2.2;omega
            clear aao WS WV hpush;go_wp2_with fail;go_roundw;case rel=>exact⟨j+1,_,L20,ni+1,by omega,by first|rfl|go_num,FIN.o⟩
            case measure=>simp[intOf];omega
           | false=>
            have FIN:Hid (pK s ss.length t2 (dM rows q0 t2) R LI (j+1)/\ni<=np+(j+1)/\LI.length<=ni):=by
             refine⟨uD.o.1.skip HX.o (fun c hc=> ?_),by have:=uD.o.2.1;omega,uD.o.2.2⟩;obtain⟨h1,h2⟩:=HTH.o c hc;have hb:=HBQ.o;rw[h2,Bool.true_and]at hb;have hb2:cq=true:=(by simpa using hb.symm);rw[h1];rw[HCQ.o]at hb2;exact(rP Pc.Cv _ _).1 hb2
            go_wp2_with fail;go_roundw;case rel=>exact⟨j+1,_,LI,ni,by omega,by first|rfl|go_num,HLQ.o,HXQ.o,FIN.o⟩
            case measure=>simp[intOf];omega
         ·have hjz:¬(j:Int)<(s.length:Int):=(by omega);have hje:j=s.length:=(by omega);subst hje;obtain⟨WR,hms⟩:=rZ.o.2.2.1.take Zk.o Zm.o Vo.o rY.o (HD.o s (lM rY.o)) (by rw[<-uC.o];omega) HI.o.2.2.1 HI.o.2.2.2.1 HI.o.2.2.2.2;obtain⟨y0,y1,y2,y3⟩:=HI.o.2.1.cells;have hBc:=HI.o.2.1.lt;obtain⟨LD,XD⟩:=HI.o.1.box ((q0:Int),t2);have Qp:Hid (Pu ss p d (dM rows q0 t2) LI ni/\Jo ss.length d (dM rows q0 t2) LI.length<=gk):=⟨WR,by have:=rZ.o.2.2.2;omega⟩;have hnx:=LD.next (by have:=(WR.bd HM.o).2.2.1;omega);have HXD:=Hf.hid XD;clear LD XD WR hms;go_wp2_with fail;refine hnx.mono ?_;rintro e w30 ⟨b3,t3,k3,R3,uH,rfl,L30,N30,p31,p32⟩;have Qm:=HXD.o.nx N30 (by decide);obtain⟨z0,z1,z2,z3⟩:=Qm.cells;obtain⟨f0,f1,f2,f3⟩:=Qm.fz;have abu:=Qm.lt;have LZ:=Hf.hid (L30.set Qm t3);have HP3:Hid ((b3=true->((t3,k3)::R3).Perm LI/\∀x∈R3,Hf.kf t3<Hf.kf x.1\/(Hf.kf t3=Hf.kf x.1/\k3<x.2))/\(b3=false->LI=[]/\R3=[])):=⟨p31,p32⟩;clear L30 N30 p31 p32 Qm hnx;go_wp2_with fail;go_roundg gk;case measure=>omega
          case rel=>exact⟨uH,_,R3,LI,ni,_,b3,t3,k3,rfl,rfl,⟨LZ.o.1,LZ.o.2,Qp.o.1,Qp.o.2⟩,HP3.o⟩
end Go.Proofs.YtiiefcalkjeieaaGreat.Lf
