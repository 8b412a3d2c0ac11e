import Derived.Test.YteekbpokkjjipaaGreatJ3
import Derived.Deep.LoopGhost
import Derived.Deep.DeepCutAuto
variable{w:Go.World}{z:Bool}{cb fb ff k:Nat}{v:Go.Value}{o:Go.Oper}{a:Go.Act}
set_option maxHeartbeats 2000000
set_option maxRecDepth 100000
namespace Go.Proofs.YteekbpokkjjipaaGreat
namespace Cz
open Go.RowKit Go.Sort
attribute[local go_sem ↓]wp_at_zero wp_at_succ
theorem Bd{l:List Tm}(h:l.length*24<=140737488355328):l.length<=maxLen:=by unfold maxLen;omega
theorem qg{l:List Tm}{au:Tm->Tm->Bool}(x:Tm)(w:World)(hc:Ch z w cb fb ff v l)(hl:l.length*24<=140737488355328)(hF:dW fb au):
    Calls Tryz.prog (nm z).cv #[.pointer (some ⟨cb,0,none⟩),tv x] w fun e w'=>e= .returned (.bool (bG au l x))/\Gr w w':=by
 let zq:=z
 rcases Bool.eq_false_or_eq_true z with rfl|rfl;all_goals
  (try dsimp only[nm])
  obtain⟨W2,hW2⟩:=aD ((w.alloc (.cells #[.pointer (some ⟨cb,0,none⟩)] (nm zq).t4)).alloc (.cells #[.int .u64 x.1.1, .int .u64 x.1.2.1, .int .u64 x.1.2.2] (nm zq).t1));dsimp only[nm,zq]at hW2;have G2:Gr w W2:=by rw[hW2];exact((Gr.refl _).alloc _).alloc _
  have hz:w.heap.size+1<W2.heap.size:=by rw[hW2];simp
  have b1:W2.cell? ⟨w.heap.size,0,none⟩=some (.pointer (some ⟨cb,0,none⟩)):=by rw[hW2];simp
  have b2:W2.cell? ⟨w.heap.size+1,0,none⟩=some (.int .u64 x.1.1):=by rw[hW2];simp
  have b3:W2.cell? ⟨w.heap.size+1,1,none⟩=some (.int .u64 x.1.2.1):=by rw[hW2];simp
  have b4:W2.cell? ⟨w.heap.size+1,2,none⟩=some (.int .u64 x.1.2.2):=by rw[hW2];simp
  have hc2:=hc.below G2.below;have hP:xV (nm zq).c1 #[.pointer (some ⟨w.heap.size,0,none⟩), .pointer (some ⟨w.heap.size+1,0,none⟩)] (fun y=>au y x) W2:=fun W y hg=>
   Eg zq fb au hF y x w.heap.size (w.heap.size+1) cb W (nL (by omega) hg.size) (nL hz hg.size) (nL hc2.lt hg.size)
    ((hg.cell (by omega)).trans b1) ((hg.cell hz).trans b2) ((hg.cell hz).trans b3) ((hg.cell hz).trans b4) ((hg.cell hc2.lt).trans hc2.c0)
  have h:=kH zq v l _ _ _ W2 hc2.qy (Bd hl) (AZ zq).1 hP;rw[show(l.any fun y=>au y x)=bG au l x from rfl]at h;generalize bG au l x=r at h⊢;have k2:=hc.c2;have kl:=hc.lt;clear hP hc2 b1 b2 b3 b4;subst hW2;first|go_enter Tryz.func91,Tryz.ntmps91|go_enter Tryz.func131,Tryz.ntmps131
  go_wp2_with fail;refine h.mono ?_;rintro e w1 ⟨rfl,hg⟩;go_wp2;go_ret;exact⟨rfl,G2.trans hg⟩
theorem Gt(p:Tm->Bool)(l:List Tm):(ic p l<0/\(l.length:Int)=(l.findIdx p:Int))\/(¬ic p l<0/\ic p l=(l.findIdx p:Int)):=by
 unfold ic;by_cases h:l.findIdx p<l.length
 ·rw[if_pos h];right;exact⟨by omega,rfl⟩
 ·rw[if_neg h];left;have:=List.findIdx_le_length (p:=p) (xs:=l);exact⟨by omega,by omega⟩
theorem J4{u:Value}{l m:List Tm}{fst:Tm->Tm->Bool}(x:Tm)(w:World)(hc:Ch z w cb fb ff v l)(hu:nK w u m)(hl:m.length*24<=140737488355328)(hF:dW ff fst):
    Calls Tryz.prog (nm z).pl #[.pointer (some ⟨cb,0,none⟩),u,tv x] w fun e w'=>e= .returned (.int .i64 (m.findIdx fun y=>fst x y:Nat))/\Gr w w':=by
 let zq:=z
 rcases Bool.eq_false_or_eq_true z with rfl|rfl;all_goals
  (try dsimp only[nm])
  obtain⟨W2,hW2⟩:=aD ((w.alloc (.cells #[.pointer (some ⟨cb,0,none⟩)] (nm zq).t4)).alloc (.cells #[.int .u64 x.1.1, .int .u64 x.1.2.1, .int .u64 x.1.2.2] (nm zq).t1));dsimp only[nm,zq]at hW2;have G2:Gr w W2:=by rw[hW2];exact((Gr.refl _).alloc _).alloc _
  have hz:w.heap.size+1<W2.heap.size:=by rw[hW2];simp
  have b1:W2.cell? ⟨w.heap.size,0,none⟩=some (.pointer (some ⟨cb,0,none⟩)):=by rw[hW2];simp
  have b2:W2.cell? ⟨w.heap.size+1,0,none⟩=some (.int .u64 x.1.1):=by rw[hW2];simp
  have b3:W2.cell? ⟨w.heap.size+1,1,none⟩=some (.int .u64 x.1.2.1):=by rw[hW2];simp
  have b4:W2.cell? ⟨w.heap.size+1,2,none⟩=some (.int .u64 x.1.2.2):=by rw[hW2];simp
  have hc2:=hc.below G2.below;have hP:xV (nm zq).p1 #[.pointer (some ⟨w.heap.size,0,none⟩), .pointer (some ⟨w.heap.size+1,0,none⟩)] (fun y=>fst x y) W2:=fun W y hg=>
   F4 zq ff fst hF y x w.heap.size (w.heap.size+1) cb W (nL (by omega) hg.size) (nL hz hg.size) (nL hc2.lt hg.size)
    ((hg.cell (by omega)).trans b1) ((hg.cell hz).trans b2) ((hg.cell hz).trans b3) ((hg.cell hz).trans b4) ((hg.cell hc2.lt).trans hc2.c1)
  have h:=iq zq u m _ _ _ W2 (hu.below G2.below) (Bd hl) (AZ zq).2.1 hP;have hi:=Gt (fun y=>fst x y) m;obtain⟨pu,cu,rfl⟩:=hu.form;generalize ic (fun y=>fst x y) m=r at h hi;generalize List.findIdx (fun y=>fst x y) m=q at hi⊢;have k2:=hc.c2;have kl:=hc.lt;clear hP hc2 b1 b2 b3 b4 hu;subst hW2;rcases hi with⟨h1,h2⟩|⟨h1,h2⟩
  ·have HQ:Hid ((m.length:Int)=(q:Int)):=h2;clear h2;first|go_enter Tryz.func255,Tryz.ntmps255|go_enter Tryz.func190,Tryz.ntmps190
   go_wp2_with fail;refine h.mono ?_;rintro e w1 ⟨rfl,hg⟩;go_wp2;go_ret;exact⟨by rw[<-HQ.o];rfl,G2.trans hg⟩
  ·have HQ:Hid (r=(q:Int)):=h2;clear h2;first|go_enter Tryz.func255,Tryz.ntmps255|go_enter Tryz.func190,Tryz.ntmps190
   go_wp2_with fail;refine h.mono ?_;rintro e w1 ⟨rfl,hg⟩;go_wp2;go_ret;exact⟨by rw[<-HQ.o];rfl,G2.trans hg⟩
theorem KN{au:Tm->Tm->Bool}{l:List Tm}{x:Tm}(h:¬l.findIdx (fun y=>au x y)<l.length):dF au l x=l:=by
 rw[List.findIdx_lt_length]at h;unfold dF;rw[List.filter_eq_self];intro a ha;cases hq:au x a with
 | false => rfl
 | true => exact absurd ⟨a,ha,hq⟩ h
theorem Tu{au:Tm->Tm->Bool}{l:List Tm}{x:Tm}{i:Nat}(hi:l.findIdx (fun y=>au x y)=i)(h:i<l.length):dF au l x=l.take i++dF au (l.drop (i+1)) x:=by
 have h1:l=l.take i++l[i]::l.drop (i+1):=by rw[<-List.drop_eq_getElem_cons h,List.take_append_drop]
 have hp:au x l[i]=true:=by
  subst hi;exact List.findIdx_getElem (w:=h)
 have h2:(l.take i).filter (fun y=> !au x y)=l.take i:=by
  rw[List.filter_eq_self];intro a ha;subst hi;rw[fZ (p:=fun y=>au x y) ha];rfl
 conv=>lhs;rw[h1]
 unfold dF;rw[List.filter_append,h2,List.filter_cons,hp];simp
theorem xQ{au:Tm->Tm->Bool}{m:List Tm}{x y:Tm}(h:m[k]? =some y):dF au (m.take (k+1)) x=dF au (m.take k) x++(if au x y then[]else[y]):=by
 unfold dF;rw[tO,h,List.filter_append];cases hq:au x y<;>simp[hq]
theorem Tn{au:Tm->Tm->Bool}{m:List Tm}{x:Tm}(k:Nat):(dF au (m.take k) x).length<=k:=nT (gF _ _) (List.length_take_le _ _)
theorem fU(z:Bool){ops:Array Oper}{rest:List Oper}{Q:Exit->Act->World->Prop}(hgd:o.guard=none)(s x:Operand)
    (ho:o.op= .call { callee:= .builtin .append,args:=#[s,x],argTypes:=#[(nm z).t2,(nm z).t2] })
    (base:Nat) (v:Value) (n:Nat) (xs:List Value) (hs:a.eval s=v) (hown:w.ownsRow base (nm z).t1 3 v n xs)
    (t:Tm) (hx:a.eval x= .slice (some ⟨w.heap.size,0,none⟩) 1 1) (hbig:(n+1)*24<=140737488355328) (hbase:base<=w.heap.size)
    (h:∀g cap w',w'.ownsRow base (nm z).t1 3 (.slice (some ⟨g,0,none⟩) (n+1) cap) (n+1) (xs++ET.enc t)->w.grownBy w' v.ownBlock->(v.ownBlock=some g\/w.heap.size<=g)->wpList Tryz.prog ops Q rest (a.put o.dst (.slice (some ⟨g,0,none⟩) (n+1) cap)) w') :
    wpList Tryz.prog ops Q (o::rest) a (w.alloc (.cells #[.int .u64 t.1.1, .int .u64 t.1.2.1, .int .u64 t.1.2.2] (nm z).t1)):=
 YteekbpokkjjipaaGreat.fU ET (Gf z) (I5 z) rfl (by decide) hgd s x ho base v n xs hs hown t hx hbig (by unfold maxLen;omega) hbase _ rfl _ h
theorem pJ(z:Bool){ops:Array Oper}{rest:List Oper}{Q:Exit->Act->World->Prop}(hgd:o.guard=none)(s x:Operand)
    (ho:o.op= .call { callee:= .builtin .append,args:=#[s,x],argTypes:=#[(nm z).t2,(nm z).t2] })
    (base:Nat) (v:Value) (n:Nat) (xs:List Value) (hs:a.eval s=v) (hown:w.ownsRow base (nm z).t1 3 v n xs)
    (v1:Value) (ts:List Tm) (hx:a.eval x=v1) (hv:nK w v1 ts) (hbig:(n+ts.length)*24<=140737488355328) (hbase:base<=w.heap.size)
    (h:∀v' w',w'.ownsRow base (nm z).t1 3 v' (n+ts.length) (xs++eG ts)->w.grownBy w' v.ownBlock->wpList Tryz.prog ops Q rest (a.put o.dst v') w'):wpList Tryz.prog ops Q (o::rest) a w:=
 YteekbpokkjjipaaGreat.pJ ET (Gf z) (I5 z) rfl (by decide) hgd s x ho base v n xs hs hown v1 ts hx hv hbig (by unfold maxLen;omega) hbase h
theorem tQ{l:List Tm}{au:Tm->Tm->Bool}(x:Tm)(w:World)(hc:Ch z w cb fb ff v l)(hl:l.length*24<=140737488355328)(hF:dW fb au):
    Calls Tryz.prog (nm z).st #[.pointer (some ⟨cb,0,none⟩),tv x] w fun e w'=>∃v',e= .returned v'/\w'.ownsRow 0 (nm z).t1 3 v' (dF au l x).length (eG (dF au l x))/\Below w.heap.size w w'/\(v'=v\/∀g,v'.ownBlock=some g->w.heap.size<=g):=by
 let zq:=z
 rcases Bool.eq_false_or_eq_true z with rfl|rfl;all_goals
  (try dsimp only[nm])
  obtain⟨W2,hW2⟩:=aD ((w.alloc (.cells #[.pointer (some ⟨cb,0,none⟩)] (nm zq).t4)).alloc (.cells #[.int .u64 x.1.1, .int .u64 x.1.2.1, .int .u64 x.1.2.2] (nm zq).t1));dsimp only[nm,zq]at hW2;have G2:Gr w W2:=by rw[hW2];exact((Gr.refl _).alloc _).alloc _
  have hz:w.heap.size+1<W2.heap.size:=by rw[hW2];simp
  have b1:W2.cell? ⟨w.heap.size,0,none⟩=some (.pointer (some ⟨cb,0,none⟩)):=by rw[hW2];simp
  have b2:W2.cell? ⟨w.heap.size+1,0,none⟩=some (.int .u64 x.1.1):=by rw[hW2];simp
  have b3:W2.cell? ⟨w.heap.size+1,1,none⟩=some (.int .u64 x.1.2.1):=by rw[hW2];simp
  have b4:W2.cell? ⟨w.heap.size+1,2,none⟩=some (.int .u64 x.1.2.2):=by rw[hW2];simp
  have hc2:=hc.below G2.below;have HPB:Hid (∀(W:World) (y:Tm),Below W2.heap.size W2 W->Calls Tryz.prog (nm zq).s1 #[tv y, .pointer (some ⟨w.heap.size,0,none⟩), .pointer (some ⟨w.heap.size+1,0,none⟩)] W fun e w'=>e= .returned (.bool (au x y))/\Gr W w'):=fun W y hg=>
   Ak zq fb au hF y x w.heap.size (w.heap.size+1) cb W (nL (by omega) hg.size) (nL hz hg.size) (nL hc2.lt hg.size)
    ((hg.cell (p:=⟨_,_,none⟩) (Nat.lt_of_succ_lt hz)).trans b1) ((hg.cell (p:=⟨_,_,none⟩) hz).trans b2) ((hg.cell (p:=⟨_,_,none⟩) hz).trans b3) ((hg.cell (p:=⟨_,_,none⟩) hz).trans b4) ((hg.cell (p:=⟨_,_,none⟩) hc2.lt).trans hc2.c0)
  have hP:xV (nm zq).s1 #[.pointer (some ⟨w.heap.size,0,none⟩), .pointer (some ⟨w.heap.size+1,0,none⟩)] (fun y=>au x y) W2:=fun W y hg=>HPB.o W y hg.below;have h:=iq zq v l _ _ _ W2 hc2.qy (Bd hl) (AZ zq).2.2 hP;clear hP;have eg:∀args w,(callFunc (nm zq).s1 args).run Tryz.prog w= .ok (.enter (nm zq).s1 args) w:=(AZ zq).2.2;have HB1:Hid (W2.cell? ⟨w.heap.size,0,none⟩=some (.pointer (some ⟨cb,0,none⟩))):=b1;have HB2:Hid (W2.cell? ⟨w.heap.size+1,0,none⟩=some (.int .u64 x.1.1)):=b2;have HB3:Hid (W2.cell? ⟨w.heap.size+1,1,none⟩=some (.int .u64 x.1.2.1)):=b3;have EB:Hid (W2.cell? ⟨w.heap.size+1,2,none⟩=some (.int .u64 x.1.2.2)):=b4;have HZ:Hid (w.heap.size+1<W2.heap.size):=hz;have Io:Hid (Ch zq W2 cb fb ff v l):=hc2;have U0:Hid (Ch zq w cb fb ff v l):=hc;have k2:=hc.c2;have kl:=hc.lt;clear b1 b2 b3 b4 hz hc2;by_cases hi:l.findIdx (fun y=>au x y)<l.length
  ·have hv:ic (fun y=>au x y) l=((l.findIdx fun y=>au x y:Nat):Int):=(by unfold ic;rw[if_pos hi]);have HC:=Tu (au:=au) (l:=l) (x:=x) rfl hi;rw[hv]at h;clear hv;generalize hq:List.findIdx (fun y=>au x y) l=i at *;clear hq;obtain⟨_,⟨_,h0⟩|⟨g,cap,cur,hvf,_,hgg,hn,hm,hcs,htk⟩⟩:=hc.own
   ·omega
   subst hvf;have hz1:¬(i:Int)<0:=(by omega);have hz2:(0:Int)<=(i:Int):=(by omega);have hz3:(i:Int)<=(cap:Int):=(by omega);have hz4:¬cap=0:=(by omega);obtain⟨m,hmD⟩:=aD (l.length-(i+1));obtain⟨D,hD⟩:=aD (l.drop (i+1));have hDl:D.length=m:=(by rw[hD,hmD];simp);have HD:Hid (D=l.drop (i+1)):=hD;rw[<-hD]at HC;have HCT:Hid (dF au l x=l.take i++dF au D x):=HC;have hlt:(l.take i).length=i:=(by simp;omega);have q8:i+m+1=l.length:=(by omega);unfold maxLen at hm;clear HC hD hmD hc hgg hcs htk;subst hW2;first|go_enter Tryz.func252,Tryz.ntmps252|go_enter Tryz.func189,Tryz.ntmps189
   go_wp2_with fail;refine h.mono ?_;rintro e w1 ⟨rfl,hg⟩;have k3:=(hg.cell (b:=w.heap.size) (o:=0) (Nat.lt_of_succ_lt HZ.o)).trans HB1.o;have k4:=(hg.cell (b:=cb) (o:=2) Io.o.lt).trans Io.o.c2;have k6:w.heap.size<w1.heap.size:=nL (Nat.lt_of_succ_lt HZ.o) hg.size;have k7:cb<w1.heap.size:=nL Io.o.lt hg.size;have UX:Hid (nK w1 (.slice (some ⟨g,0,none⟩) l.length cap) l):=Io.o.qy.below hg.below;have YU:Hid (nK w1 (.slice (some ⟨g,0,none⟩) i cap) (l.take i)):=by
    have:=UX.o.cut (k:=i) (by omega) cap;exact this
   clear h;go_upto_region 6 with(at_builtin;refine pJ zq rfl _ _ rfl w1.heap.size (.slice none 0 0) 0 [] rfl (oN _ _ _ _) (.slice (some ⟨g,0,none⟩) i cap) (l.take i) rfl YU.o (by omega) (nR _) ?_;intro v5 w5 DF hg5);have hb5:Below w1.heap.size w1 w5:=(Kp.grownBy (S:=fun _=>False) hg5 (fun k hk=>by cases hk)).below (nR _) (fun _ h=>h.elim);have k3':=(hb5.cell (p:=⟨w.heap.size,0,none⟩) k6).trans k3;have k4':=(hb5.cell (p:=⟨cb,2,none⟩) k7).trans k4;have k6':w.heap.size<w5.heap.size:=nL k6 hb5.size;have k7':cb<w5.heap.size:=nL k7 hb5.size;have HL5:Hid (nK w5 (.slice (some ⟨g,0,none⟩) l.length cap) l):=UX.o.below hb5;have Uj:((i:Int)+1)<=(l.length:Int):=(by omega);have hz6:(0:Int)<=(i:Int)+1:=(by omega);clear k3 k4 k6 k7;go_cut [36,37,38] (fun s36 s37 QV w'=>∃q c,s36= .slice q m c/\Hid (nK w1 (.slice q m c) D)/\s37= .int .i64 (m:Int)/\QV= .int .i64 0/\w'=w5);case first=>
    have hmm:l.length-(i+1)=m:=(by omega);by_cases hcc:cap=i+1
    ·go_wp2_with fail;go_meet;have h1:=UX.o.void (k:=i+1) (by omega) 0;rw[<-HD.o,hmm]at h1;exact⟨_,_,rfl,h1,rfl,rfl,rfl⟩
    ·go_wp2_with fail;go_meet;have h1:=UX.o.tail (k:=i+1) (cap-(i+1));rw[<-HD.o,hmm,nZ]at h1;exact⟨_,_,rfl,h1,rfl,rfl,rfl⟩
   case rest=>
    obtain⟨q,c,rfl,abP,rfl,rfl,hwc⟩:=hcut;rw[hwc];clear hwc k3' k4' k6' k7' HL5 YU UX Uj hz6;rw[hlt,List.nil_append]at DF;rw[nZ]at DF;have HW:Hid (Below ((w.alloc (.cells #[.pointer (some ⟨cb,0,none⟩)] (nm zq).t4)).alloc (.cells #[.int .u64 x.1.1, .int .u64 x.1.2.1, .int .u64 x.1.2.2] (nm zq).t1)).heap.size ((w.alloc (.cells #[.pointer (some ⟨cb,0,none⟩)] (nm zq).t4)).alloc (.cells #[.int .u64 x.1.1, .int .u64 x.1.2.1, .int .u64 x.1.2.2] (nm zq).t1)) w1):=hg.below;have HGW:Hid (Gr w w1):=G2.trans hg;have hzz:=HGW.o.size;have hsz2:=hg.size;clear hg G2 hg5;go_wp2_with fail;go_loopw [7,9,38] (fun s7 _ QV wr=>∃k:Nat,k<=m/\QV= .int .i64 k/\wr.ownsRow w1.heap.size (nm zq).t1 3 s7 (i+(dF au (D.take k) x).length) (eG (l.take i++dF au (D.take k) x))/\Below w1.heap.size w1 wr) (fun _ _ QV _=>m-(intOf QV).toNat);case atStart=>exact⟨0,zL _,rfl,by simpa[dF]using DF,hb5⟩
    case round=>
     obtain⟨k,hk,rfl,hown,hbw⟩:=hrel;clear DF;have uy:Hid (Below ((w.alloc (.cells #[.pointer (some ⟨cb,0,none⟩)] (nm zq).t4)).alloc (.cells #[.int .u64 x.1.1, .int .u64 x.1.2.1, .int .u64 x.1.2.2] (nm zq).t1)).heap.size ((w.alloc (.cells #[.pointer (some ⟨cb,0,none⟩)] (nm zq).t4)).alloc (.cells #[.int .u64 x.1.1, .int .u64 x.1.2.1, .int .u64 x.1.2.2] (nm zq).t1)) wr):=HW.o.trans (hbw.mono hsz2);have hsz:=hbw.size;by_cases hlt2:k<m
     ·have hltz:(k:Int)<(m:Int):=(by omega);obtain⟨y,hy⟩:∃y,D[k]? =some y:=⟨D[k]'(by omega),by simp⟩;have HLw:nK wr (.slice q m c) D:=abP.o.below hbw;obtain⟨b1,o1,c1,e1,z1,x1,x2,x3⟩:=HLw.at3 hy;simp only[vS]at e1;obtain⟨rfl,-,rfl⟩:=e1;clear HLw;have HY:Hid (dF au (D.take (k+1)) x=dF au (D.take k) x++(if au x y then[]else[y])):=xQ hy;have hcl:=Tn (au:=au) (m:=D) (x:=x) k;clear hy;generalize dF au (D.take k) x=f at *;have hcall:=HPB.o (wr.alloc (.cells #[.int .u64 y.1.1, .int .u64 y.1.2.1, .int .u64 y.1.2.2] (nm zq).t1)) y (uy.o.trans ((Below.refl _ _).alloc uy.o.size _));cases hq:au x y with
      | true=>
       rw[hq]at hcall;have HE:Hid (dF au (D.take (k+1)) x=f):=(by rw[HY.o,hq];simp[Hid]);go_wp2_with ((first|go_at_call 279|go_at_call 248);refine hcall.mono ?_;rintro e w3 ⟨rfl,hg3⟩);refine⟨⟨k+1,by omega,by go_num,by rw[HE.o];exact ag (hown.alloc _) hg3.below,(hbw.alloc hsz _).trans (hg3.below.mono (by simp;omega))⟩,by simp[intOf];omega⟩
      | false=>
       rw[hq]at hcall;have HE:Hid (dF au (D.take (k+1)) x=f++[y]):=(by rw[HY.o,hq];simp[Hid]);go_wp2_with fail
       (first|go_at_call 279|go_at_call 248)
       refine hcall.mono ?_;rintro e w3 ⟨rfl,hg3⟩;have q1:w3.cell? ⟨wr.heap.size,0,none⟩=some (.int .u64 y.1.1):=(hg3.cell (by simp)).trans (by simp);have q2:w3.cell? ⟨wr.heap.size,1,none⟩=some (.int .u64 y.1.2.1):=(hg3.cell (by simp)).trans (by simp);have q2b:w3.cell? ⟨wr.heap.size,2,none⟩=some (.int .u64 y.1.2.2):=(hg3.cell (by simp)).trans (by simp);have q3:wr.heap.size<w3.heap.size:=nL (by simp) hg3.size;have hown3:=ag (hown.alloc _) hg3.below;clear x1 x2 x3 hcall;go_wp2_with (at_builtin;refine fU zq rfl _ _ rfl w1.heap.size _ (i+f.length) _ rfl hown3 y rfl (by omega) (by omega) ?_);intro g9 c9 w9 Lc hg9 hl9;go_wp2;refine⟨⟨k+1,by omega,by go_num, ?_, ?_⟩,by simp[intOf];omega⟩
       ·rw[HE.o];simpa[jy,vv,Nat.add_assoc]using Lc
       ·exact((hbw.alloc hsz _).trans (hg3.below.mono (by simp;omega))).trans ((Kp.grownBy (S:=fun k=>w1.heap.size<=k) hg9 (fun k hk=>(hown3.lt k hk).1)).below (by omega) (fun _ h=>h))
     ·have hltz:¬(k:Int)<(m:Int):=(by omega);have hkm:k=m:=(by omega);subst hkm;rw[tL (by omega)]at hown;go_wp2;go_ret;refine⟨_,rfl, ?_,HGW.o.below.trans (hbw.mono hzz),Or.inr fun g' hg'=>nT hzz (hown.lt g' hg').1⟩;rw[HCT.o,dK,hlt];exact aM hown (zL _)
  ·have hv:ic (fun y=>au x y) l= -1:=(by unfold ic;rw[if_neg hi]);rw[KN hi];rw[hv]at h;clear hv hi eg HPB;clear hc;subst hW2;first|go_enter Tryz.func252,Tryz.ntmps252|go_enter Tryz.func189,Tryz.ntmps189
   go_wp2_with fail;refine h.mono ?_;rintro e w1 ⟨rfl,hg⟩;have k3:=(hg.cell (b:=w.heap.size) (o:=0) (Nat.lt_of_succ_lt HZ.o)).trans HB1.o;have k4:=(hg.cell (b:=cb) (o:=2) Io.o.lt).trans Io.o.c2;have k6:w.heap.size<w1.heap.size:=nL (Nat.lt_of_succ_lt HZ.o) hg.size;have k7:cb<w1.heap.size:=nL Io.o.lt hg.size;clear h;go_wp2;go_ret;exact⟨_,rfl,ag U0.o.own (G2.trans hg).below,(G2.trans hg).below,Or.inl rfl⟩
theorem copied(cur:List Value)(M:List Tm)(n k o:Nat)(hM:M.length=n+1)(hk:k<=n)(hc:cur.take ((n+1)*3)=eG M)(ho:o=(k+1)*3\/n=k):
    (cur.take o++eG ((M.drop k).take (n-k))++cur.drop (o+(n-k)*3)).take ((n+1)*3)=eG (M.take (k+1)++(M.drop k).take (n-k)):=by
 have hl:(n+1)*3<=cur.length:=by
  have h1:=congrArg List.length hc;rw[ig,hM,lK]at h1;omega
 rcases ho with rfl|rfl
 ·have h2:cur.take ((k+1)*3)=eG (M.take (k+1)):=by
    rw[<-D5,<-hc,List.take_take,Nat.min_eq_left (by omega)]
  rw[h2,jy,List.take_append_of_le_length (by simp[ig];omega),tL (by simp[ig];omega)]
 ·simp only[Nat.sub_self,tZ,SE,EN,Nat.zero_mul,nO,List.take_append_drop];rw[hc,tL (by omega)]
theorem vR(z:Bool){ops:Array Oper}{K:Act->World->Prop}{Q:Exit->Act->World->Prop}{E:Prop}(hgd:o.guard=none)(d s:Operand)
    (hop:o.op= .call { callee:= .builtin .copy,args:=#[d,s],argTypes:=#[(nm z).t2,(nm z).t2] })
    (g n cap k off dc sc:Nat) (M:List Tm) (hM:M.length=n+1) (hk:k<=n) (hd:a.eval d= .slice (some ⟨g,off,none⟩) (n-k) dc) (ho:off=(k+1)*3\/(n=k/\off=0)) (hs:a.eval s= .slice (some ⟨g,k*3,none⟩) (n+1-k) sc)
    (hown:w.ownsRow 0 (nm z).t1 3 (.slice (some ⟨g,0,none⟩) (n+1) cap) (n+1) (eG M))
    (h:∀w',w'.ownsRow 0 (nm z).t1 3 (.slice (some ⟨g,0,none⟩) (n+1) cap) (n+1) (eG (M.take (k+1)++(M.drop k).take (n-k)))->Kp (fun j=>j=g) w w'->K (a.put o.dst (goInt (n-k:Nat))) w') :
    if Region.wanted o (yielded ops a.tmps)=true then Oper.wp Tryz.prog o a w K Q else E:=by
 have hw:Region.wanted o (yielded ops a.tmps)=true:=by simp[Region.wanted,hgd]
 rw[if_pos hw];obtain⟨hlen,⟨h0,_⟩|⟨g',cap',cur,hv,_,hgg,hn,hm,hcs,htk⟩⟩:=id hown
 ·cases h0
 cases hv;have hcl:(eG ((M.drop k).take (n-k))).length=(n-k)*3:=by rw[ig];simp;omega
 have hmin:Nat.min (n+1-k) (n-k)=n-k:=Nat.min_eq_right (by omega);have hrun:=yt (P:=Tryz.prog) w (nm z).t2 (nm z).t2 o.type (nm z).t1 3 g off (n-k) dc ⟨g,k*3,none⟩ (n+1-k) sc cur (nm z).t1 (eG ((M.drop k).take (n-k))) (Gf z) (by cases z<;>kernel_rfl) hgg (by rw[hcl,hmin])
  (fun j v hj=>by
   rw[KR];have h1:(eG M)[k*3+j]? =some v:=by
    rw[<-List.getElem?_drop,O5];rw[<-D5,List.getElem?_take]at hj;split at hj
    ·exact hj
    ·cases hj
   have:=hown.cells (g:=g) rfl _ _ h1
   rwa [KR,nZ]at this)
  (by rw[hcl,hcs];rcases ho with rfl|⟨rfl,rfl⟩<;>omega) (D6 _)
 rw[hmin]at hrun;unfold Oper.wp;simp[execOp,hop,resolve,invoke,builtin,hd,hs,hrun,Result.andThen];refine h _ ⟨?_,Or.inr ⟨g,cap,_,rfl,zL _,setRow_heap w g _ _ _ _ hgg,hn,hm, ?_, ?_⟩⟩ ⟨rfl,rfl,rfl,by simp[World.setRow],fun j _ hne=>setRow_other w g j _ (by omega)⟩
 ·rw[ig];simp;omega
 ·simp[hcl];rw[hcs];rcases ho with rfl|⟨rfl,rfl⟩<;>omega
 ·rw[hcl,List.toList_toArray,<-aA];exact copied cur.toList M n k off hM hk htk (ho.imp id (fun h=>h.1))
theorem M4(m:List Tm)(x:Tm)(n k:Nat)(hn:m.length=n)(hk:k<=n):(((m++[x]).take (k+1)++((m++[x]).drop k).take (n-k))).set k x=m.take k++x::m.drop k:=by
 subst hn;have h1:((m++[x]).drop k).take (m.length-k)=m.drop k:=by
  rw[List.drop_append_of_le_length hk,List.take_append_of_le_length (by simp),tL (by simp)]
 rw[h1];have h2:(m++[x]).take k=m.take k:=List.take_append_of_le_length hk;have h3:((m++[x]).take (k+1))=m.take k++[(m++[x])[k]'(by simp;omega)]:=by
  rw[tO,h2,qw (by simp;omega)];rfl
 rw[h3];generalize (m++[x])[k]'(by simp;omega)=y;rw[aA,List.set_append_right _ _ (by rw[lK];exact Nat.min_le_left _ _)];simp[Nat.min_eq_left hk]
theorem SC(L:List Tm)(k:Nat)(x:Tm):(((eG L).set (k*3) (.int .u64 x.1.1)).set (k*3+1) (.int .u64 x.1.2.1)).set (k*3+2) (.int .u64 x.1.2.2)=eG (L.set k x):=by
 induction L generalizing k with
 | nil => simp[eG,fl]
 | cons y L ih=>
  show List.set (List.set (List.set (fl ET (y::L)) _ _) _ _) _ _=_;rw[aV];cases k with
  | zero => simp[ET,fl]
  | succ k=>
   rw[jD];show _=fl ET (y::L.set k x);rw[aV,show fl ET (L.set k x)=eG (L.set k x)from rfl,<-ih k,show(k+1)*3=k*3+3 by omega];simp[ET];rfl
theorem yZ(z:Bool){g N cap:Nat}{L:List Tm}(x:Tm)(h:w.ownsRow 0 (nm z).t1 3 (.slice (some ⟨g,0,none⟩) N cap) N (eG L)):
    (((w.setCell ⟨g,k*3,none⟩ (.int .u64 x.1.1)).setCell ⟨g,k*3+1,none⟩ (.int .u64 x.1.2.1)).setCell ⟨g,k*3+2,none⟩ (.int .u64 x.1.2.2)).ownsRow 0 (nm z).t1 3 (.slice (some ⟨g,0,none⟩) N cap) N (eG (L.set k x))/\Kp (fun j=>j=g) w (((w.setCell ⟨g,k*3,none⟩ (.int .u64 x.1.1)).setCell ⟨g,k*3+1,none⟩ (.int .u64 x.1.2.1)).setCell ⟨g,k*3+2,none⟩ (.int .u64 x.1.2.2)):=by
 obtain⟨hlen,⟨h0,_⟩|⟨g',cap',cur,hv,_,hgg,hn,hm,hcs,htk⟩⟩:=id h
 ·cases h0
 cases hv;have e1:=setCell_eq_setRow w g (k*3) _ _ _ (.int .u64 x.1.1) hgg;have hg2:=setRow_heap w g _ (cur.setIfInBounds (k*3) (.int .u64 x.1.1)) _ _ hgg;have e2:=setCell_eq_setRow (w.setRow g (cur.setIfInBounds (k*3) (.int .u64 x.1.1))) g (k*3+1) _ _ _ (.int .u64 x.1.2.1) hg2;have hg3:=setRow_heap (w.setRow g (cur.setIfInBounds (k*3) (.int .u64 x.1.1))) g _ ((cur.setIfInBounds (k*3) (.int .u64 x.1.1)).setIfInBounds (k*3+1) (.int .u64 x.1.2.1)) _ _ hg2;have e3:=setCell_eq_setRow ((w.setRow g (cur.setIfInBounds (k*3) (.int .u64 x.1.1))).setRow g ((cur.setIfInBounds (k*3) (.int .u64 x.1.1)).setIfInBounds (k*3+1) (.int .u64 x.1.2.1))) g (k*3+2) _ _ _ (.int .u64 x.1.2.2) hg3;rw[e1,e2,e3];have hg4:=setRow_heap ((w.setRow g (cur.setIfInBounds (k*3) (.int .u64 x.1.1))).setRow g ((cur.setIfInBounds (k*3) (.int .u64 x.1.1)).setIfInBounds (k*3+1) (.int .u64 x.1.2.1))) g _ (((cur.setIfInBounds (k*3) (.int .u64 x.1.1)).setIfInBounds (k*3+1) (.int .u64 x.1.2.1)).setIfInBounds (k*3+2) (.int .u64 x.1.2.2)) _ _ hg3;refine⟨⟨by rw[ig]at hlen⊢;simpa using hlen,Or.inr ⟨g,cap,_,rfl,zL _,hg4,hn,hm,by simpa using hcs, ?_⟩⟩,⟨rfl,rfl,rfl,by simp[World.setRow],fun j _ hne=> ?_⟩⟩
 ·rw[Array.toList_setIfInBounds,Array.toList_setIfInBounds,Array.toList_setIfInBounds,List.take_set,List.take_set,List.take_set,htk];exact SC L k x
 ·rw[setRow_other _ g j _ (by omega),setRow_other _ g j _ (by omega),setRow_other _ g j _ (by omega)]
theorem Q9(z:Bool)(u:Value)(m:List Tm)(k:Nat)(x:Tm)(w:World)(hown:w.ownsRow 0 (nm z).t1 3 u m.length (eG m))(hk:k<=m.length)(hl:(m.length+1)*24<=140737488355328):
    Calls Tryz.prog (nm z).pt #[u, .int .i64 k,tv x] w fun e w'=>∃g cap,e= .returned (.slice (some ⟨g,0,none⟩) (m.length+1) cap)/\w'.ownsRow 0 (nm z).t1 3 (.slice (some ⟨g,0,none⟩) (m.length+1) cap) (m.length+1) (eG (m.take k++x::m.drop k))/\Kp (fun j=>u.ownBlock=some j) w w'/\(u.ownBlock=some g\/w.heap.size<=g):=by
 let zq:=z
 rcases Bool.eq_false_or_eq_true z with rfl|rfl;all_goals
  (try dsimp only[nm])
  have hmx:Tryz.prog.follows .mixedOrders=true:=by kernel_rfl
  generalize hn:m.length=n at *;have HN:Hid (m.length=n):=hn;clear hn;first|go_enter Tryz.func256,Tryz.ntmps256|go_enter Tryz.func191,Tryz.ntmps191
  go_wp2_with (at_builtin;refine fU zq rfl _ _ rfl 0 u n (eG m) rfl (hown.alloc _) x (by show Value.slice (some ⟨w.heap.size+1,0,none⟩) 1 1=_;simp) (by omega) (zL _) ?_);intro g cap w1 ho1 hg1 hl1;have hb1:Kp (fun j=>u.ownBlock=some j) w w1:=(Kp.of_below ((Gr.refl w).alloc _).below).trans (Kp.grownBy (S:=fun j=>u.ownBlock=some j) hg1 (fun _ h=>h)) (fun _ _ h=>h);have hlt1:w.heap.size<w1.heap.size:=nL (by simp) hg1.size;have hne:u.ownBlock≠some w.heap.size:=fun h=>by have:=(hown.lt _ h).2;omega
  have q1:w1.cell? ⟨w.heap.size,0,none⟩=some (.int .u64 x.1.1):=hg1.cell (a:=⟨w.heap.size,0,none⟩) (by simp) (fun h=>hne h.symm);have q2:w1.cell? ⟨w.heap.size,1,none⟩=some (.int .u64 x.1.2.1):=hg1.cell (a:=⟨w.heap.size,1,none⟩) (by simp) (fun h=>hne h.symm);have q3:w1.cell? ⟨w.heap.size,2,none⟩=some (.int .u64 x.1.2.2):=hg1.cell (a:=⟨w.heap.size,2,none⟩) (by simp) (fun h=>hne h.symm);have ZZ:Hid (w1.ownsRow 0 (nm zq).t1 3 (.slice (some ⟨g,0,none⟩) (n+1) cap) (n+1) (eG (m++[x]))):=by
   show World.ownsRow _ _ _ _ _ _ _;rw[jy,vv];exact ho1
  obtain⟨hcp1,hcp2⟩:n+1<=cap/\cap<=maxLen:=by
   obtain⟨_,⟨h0,_⟩|⟨g',cap',cur,hv,_,_,hn,hm,_⟩⟩:=ho1
   ·cases h0
   ·cases hv;exact⟨hn,hm⟩
  have hgl:g<w1.heap.size:=(ho1.lt g rfl).2;have hgn:g≠w.heap.size:=by
   rcases hl1 with h|h
   ·have:=(hown.lt g h).2;omega
   ·first|omega|(simp at h;omega)
  unfold maxLen at hcp2;clear ho1 hg1;have z1:(0:Int)<=(k:Int):=by omega
  have z2:(k:Int)+1<=((n+1:Nat):Int):=by omega
  have z3:(k:Int)<=((n+1:Nat):Int):=by omega
  have z4:¬cap=k:=by omega
  have hwk:IntKind.i64.wrap ((k:Int)+1)=(k:Int)+1:=by rw[IntKind.wrap_i64];omega
  have z6:(0:Int)<=(k:Int)+1:=by omega
  have z7:(k:Int)+1<=(n:Int)+1:=by omega
  have z8:(k:Int)<=(n:Int)+1:=by omega
  have z9:((k:Int)+1).toNat=k+1:=by omega
  have z5:n+1-(k+1)=n-k:=by omega
  have HMX:Hid ((m++[x]).length=n+1):=by simp[Hid,HN.o]
  go_upto_region 2 with fail;go_cut [18] (fun _ w'=>w'.ownsRow 0 (nm zq).t1 3 (.slice (some ⟨g,0,none⟩) (n+1) cap) (n+1) (eG ((m++[x]).take (k+1)++((m++[x]).drop k).take (n-k)))/\Kp (fun j=>j=g) w1 w');case first=>
   by_cases hcc:cap=k+1
   ·subst hcc;go_region_law (refine vR zq rfl (.tmp 14) (.tmp 17) rfl g n (k+1) k 0 0 1 (m++[x]) HMX.o hk (by simp[Act.eval,Act.put]) (Or.inr ⟨by omega,rfl⟩) (by simp[Act.eval,Act.put]) ZZ.o ?_;intro w2 ho2 hk2);all_goals (go_wp2_with fail;go_meet;exact⟨ho2,⟨hk2.os,hk2.tape,hk2.output,hk2.size,hk2.block⟩⟩)
   ·go_region_law (refine vR zq rfl (.tmp 14) (.tmp 17) rfl g n cap k ((k+1)*3) (cap-(k+1)) (cap-k) (m++[x]) HMX.o hk (by simp[Act.eval,Act.put]) (Or.inl rfl) (by simp[Act.eval,Act.put]) ZZ.o ?_;intro w2 ho2 hk2);all_goals (go_wp2_with fail;go_meet;exact⟨ho2,⟨hk2.os,hk2.tape,hk2.output,hk2.size,hk2.block⟩⟩)
  case rest=>
   obtain⟨ho2,hk2⟩:=hcut;have HS:Hid (((m++[x]).take (k+1)++((m++[x]).drop k).take (n-k)).set k x=m.take k++x::m.drop k):=M4 m x n k HN.o hk;have hL:((m++[x]).take (k+1)++((m++[x]).drop k).take (n-k)).length=n+1:=by
    have:=HMX.o;simp at this⊢;omega
   generalize (m++[x]).take (k+1)++((m++[x]).drop k).take (n-k)=L2 at *;obtain⟨y,hy⟩:∃y,L2[k]? =some y:=⟨L2[k]'(by omega),by simp⟩;have HT:=(dC (ts:=L2) (by rw[hL];exact ho2)).at3 hy;obtain⟨b1,o1,c1,e1,zz,y1,y2,y3⟩:=HT;simp only[vS,oI,aI]at e1;obtain⟨⟨rfl,rfl,-⟩,-,rfl⟩:=e1;rw[nZ]at y1 y2 y3;obtain⟨f1,f2,f3⟩:wc.frozen? ⟨g,k*3,none⟩=false/\wc.frozen? ⟨g,k*3+1,none⟩=false/\wc.frozen? ⟨g,k*3+2,none⟩=false:=by
    obtain⟨_,⟨h0,_⟩|⟨g',cap',cur,hv,_,hgg,_⟩⟩:=id ho2
    ·cases h0
    ·cases hv;simp[World.frozen?,hgg]
   have q1':wc.cell? ⟨w.heap.size,0,none⟩=some (.int .u64 x.1.1):=(yJ (a:=⟨w.heap.size,0,none⟩) (hk2.block w.heap.size hlt1 (fun h=>hgn h.symm))).trans q1;have q2':wc.cell? ⟨w.heap.size,1,none⟩=some (.int .u64 x.1.2.1):=(yJ (a:=⟨w.heap.size,1,none⟩) (hk2.block w.heap.size hlt1 (fun h=>hgn h.symm))).trans q2;have q3':wc.cell? ⟨w.heap.size,2,none⟩=some (.int .u64 x.1.2.2):=(yJ (a:=⟨w.heap.size,2,none⟩) (hk2.block w.heap.size hlt1 (fun h=>hgn h.symm))).trans q3;have zl:(k:Int)<(n:Int)+1:=(by omega);have zl2:(k:Int)<((n+1:Nat):Int):=(by omega);clear q1 q2 q3 hwk z6 z7 z8 z9 z4 z5 z2 z3 hy;go_wp2;go_ret;obtain⟨ho3,hk3⟩:=yZ zq (k:=k) x ho2;rw[HS.o]at ho3;refine⟨g,cap,rfl,ho3, ?_,hl1.imp id (fun h=>by first|omega|(simp at h;omega))⟩;refine hb1.trans ((hk2.trans hk3 (fun _ _ h=>h))) (fun j hj h=> ?_);subst h;rcases hl1 with h|h
   ·exact h
   ·exact absurd hj (by first|omega|(simp at h;omega))
end Cz
end Go.Proofs.YteekbpokkjjipaaGreat
