import Derived.Test.YtiiefcalkjeieaaGreatJ19
import Derived.Sort.OwnSorted
import Derived.Shelf.GgSortFunc.InsertionK
import Derived.Shelf.SlSortCmp.Kit1
import Derived.Test.YtiiefcalkjeieaaGreatMSo
import Derived.Test.YtiiefcalkjeieaaGreatJ22
import Derived.Test.YtiiefcalkjeieaaGreatRsSo
variable{n g tb b base cap:Nat}{w:Go.World}{e:Go.TypeId}
set_option maxHeartbeats 4000000
set_option maxRecDepth 100000
namespace Go.Proofs.YtiiefcalkjeieaaGreat
section
open Go.RowKit Go.Sort Go.Maps
open Tt (Tl dW dK)
attribute[local go_sem ↓]wp_at_zero wp_at_succ
def sm(ds:List Dl):Tm->Int:=ds.foldl (fun g d=>upd g d.1 (wrap64 (g d.1+d.2))) (fun _=>0)
theorem Bf{ds:List Dl}{k:Nat}{d:Dl}(h:ds[k]? =some d):sm (ds.take (k+1))=upd (sm (ds.take k)) d.1 (wrap64 (sm (ds.take k) d.1+d.2)):=by
 unfold sm;rw[tO,h,List.foldl_append];rfl
def bS(f:Tm->Int)(ds:List Dl)(t:Tm):Int:=wrap64 (sm ds t+f t)
def bad(f:Tm->Int)(ds:List Dl):Bool:=ds.any (fun d=>dW d.2)|| ds.any (fun d=>dW (bS f ds d.1))
theorem wf_wrap(z:Int):(Lit.int .i64 (wrap64 z)).wf=true:=WalkArith.wf_i64 (by unfold wrap64;omega)
theorem oD.all{P:Program}{k:TypeId}{K:Type}[DecidableEq K]{Z:KK P k K}{D:DataW Unit}{left:Lit->Bool}{ss ks:List K}(h:oD Z D left ss)(h2:∀s,Maps.has D (Z.lit s)=true↔s∈ks)(hl:∀kl,left kl=false):ss.Nodup/\∀s,s∈ss↔s∈ks:=
 ⟨h.1,fun s=>by rw[h.2 s,hl,h2];simp⟩
theorem MJ{key:Value}{kl:Lit}(h:keyOf Tryz.prog 45 key=some kl):∃x,key=tv x:=by
 obtain⟨x,hx,_⟩:=ZT.inv _ _ h;exact⟨x,hx⟩
theorem IP{f:Tm->Int}(ds:List Dl)(v:Value)(w:World)(h:Tl w tb b g n f)(hv:Ls ED w v ds)(hl:ds.length*32<=140737488355328):
    CL 139 #[cv tb,v] w fun e w'=>Bw w w'/\
     ((bad f ds=true/\e= .returned (.tuple #[.slice none 0 0, .bool false]))\/
      (bad f ds=false/\∃(ks:List Tm) (v':Value),(ks.Nodup/\∀t,t∈ks↔t∈ds.map Prod.fst)/\e= .returned (.tuple #[v', .bool true])/\w'.ownsRow w.heap.size 163 4 v' ks.length (fl ED (ks.map fun t=>(t,bS f ds t))))):=by
 have hmx:Tryz.prog.follows .mixedOrders=true:=by kernel_rfl
 have hmm:=@run_makeMap Tryz.prog;obtain⟨pl,cl,rfl⟩:=hv.form;obtain⟨W1,hW1⟩:=aF ((w.alloc (.cells #[aB tb] 176)).alloc (.map #[] 0));have G1:Gr w W1:=by rw[hW1];exact((Gr.refl _).alloc _).alloc _
 obtain⟨B0,hB0⟩:=aF (w.heap.size);obtain⟨mb,hmb⟩:=aF (w.heap.size+1);have hz:B0<W1.heap.size:=by rw[hW1];simp;omega
 have c0:W1.cell? ⟨B0,0,none⟩=some (aB tb):=by rw[hW1,hB0];simp
 have QB:Hid (Mq ZT 2 W1 mb 0 (fun _=>0) []):=by
  have:=Mq.made (Z:=ZT) (e:=2) (w.alloc (.cells #[aB tb] 176));rw[hW1,hmb];simpa[Hid]using this
 have HL:Hid (Ls ED W1 (.slice pl ds.length cl) ds):=hv.below G1.below;have HLB:Hid (∀k,(Value.slice pl ds.length cl).ownBlock=some k->k<w.heap.size):=hv.blk;have HT:Hid (Tl w tb b g n f):=h;have HG:Hid (Gr w W1):=G1;have hbm:B0≠mb:=by omega
 have hbw:w.heap.size<=mb:=by omega
 have HBB:Hid (B0=w.heap.size):=hB0;clear h hv G1;go_enter Tryz.func139,Tryz.ntmps139;go_wp2_with fail;rw[<-hW1,<-hmb,<-hB0];clear hW1 hmb hB0;go_loopw [8,15] (fun _ s15 wr=>∃k:Nat,k<=ds.length/\s15=iV k/\Hid (Mq ZT 2 wr mb k (sm (ds.take k)) ((ds.take k).map Prod.fst)/\Kp (fun j=>j=mb) W1 wr/\∀d∈ds.take k,dW d.2=false)) (fun _ s15 _=>ds.length-(intOf s15).toNat);case atStart=>exact⟨0,zL _,rfl,by simpa[sm]using QB.o,Kp.refl _ _,by simp⟩
 case round=>
  obtain⟨k,hk,rfl,HI⟩:=hrel;have jK:Hid (Bw w wr):=HG.o.below.trans (HI.o.2.1.below HG.o.size (fun j hj=>by omega));by_cases hlt:k<ds.length
  ·have hltz:(k:Int)<(ds.length:Int):=(by omega);obtain⟨d,hd⟩:∃d,ds[k]? =some d:=⟨ds[k],by simp⟩;have Ia:d∈ds:=lM hd;obtain⟨b1,o1,c1,e1,z1,x1,x2,x3,x4⟩:=(HI.o.2.1.ls HL.o (fun j hj hs=>by have:=HLB.o j hj;omega)).at4 hd;simp only[vS]at e1;obtain⟨rfl,-,rfl⟩:=e1;have HS:Hid (sm (ds.take (k+1))=upd (sm (ds.take k)) d.1 (wrap64 (sm (ds.take k) d.1+d.2))):=Bf hd;have si:Hid (ds.take (k+1)=ds.take k++[d]):=(by rw[tO,hd];rfl);have hbe:=uz d.2;have HD:Hid (ds[k]? =some d):=hd;have HDM:Hid (d∈ds):=Ia;clear hd Ia;cases hq:dW d.2 with
   | true=>
    rw[hq]at hbe;go_wp2_with (go_at_call 198;refine(hbe _).mono ?_;rintro e w2 ⟨rfl,rfl⟩);go_ret2;refine⟨jK.o.trans (((Gr.refl _).alloc _).below.mono jK.o.size),Or.inl ⟨?_,rfl⟩⟩;unfold bad;rw[Bool.or_eq_true];exact Or.inl (List.any_eq_true.2 ⟨d,HDM.o,hq⟩)
   | false=>
    rw[hq]at hbe;obtain⟨W2,hW2⟩:=aF (wr.alloc (.cells #[uV d.1.1.1,uV d.1.1.2.1,uV d.1.1.2.2,iV d.2] 163));obtain⟨nb,hnb⟩:=aF (wr.heap.size);have G2:Gr wr W2:=(by rw[hW2];exact(Gr.refl _).alloc _);have Xe:mb<wr.heap.size:=HI.o.1.lt;have hM2:Mq ZT 2 W2.drew mb k (sm (ds.take k)) ((ds.take k).map Prod.fst):=HI.o.1.kept (G2.drew.below.block mb Xe);obtain⟨v0,st,w1,w2,hL0,hE,hL1,hSt,hM3,hg1,hg2⟩:=hM2.bump (t:=301) Oz Tryz.underlying301 Tryz.underlying2 Tt.zeroE (by unfold maxLen;omega) d.1 (wrap64 (sm (ds.take k) d.1+d.2)) (wf_wrap _);have HW2:Hid (Mq ZT 2 w2 mb (k+1) (sm (ds.take (k+1))) ((ds.take (k+1)).map Prod.fst)/\Kp (fun j=>j=mb) W1 w2/\∀d∈ds.take (k+1),dW d.2=false):=by
     refine⟨?_,HI.o.2.1.trans ((Kp.bg (S:=fun j=>j=mb) G2.drew).tr (Kp.grownBy (S:=fun j=>j=mb) hg2 (fun j hj=>by simpa using hj.symm))) (fun _ _ h=>h), ?_⟩
     ·rw[HS.o,si.o];simpa using hM3
     ·rw[si.o];intro e he;rcases kr.1 he with he|he
      ·exact HI.o.2.2 e he
      ·simp at he;subst he;exact hq
    have hblk:W2.heap[nb]? =some (.cells #[uV d.1.1.1,uV d.1.1.2.1,uV d.1.1.2.2,iV d.2] 163 (0,0)):=(by rw[hW2,hnb];exact ah _ _);have hnl:nb<W2.drew.heap.size:=(aG.1 hblk).1;have y0:∀q,w1.cell? ⟨nb,q,none⟩=W2.drew.cell? ⟨nb,q,none⟩:=fun q=>zh (a:=⟨nb,q,none⟩) (hg1.block nb hnl (by simp;omega));have q0:W2.cell? ⟨nb,0,none⟩=some (uV d.1.1.1):=(by simp only[World.cell?];rw[hblk];rfl);have q1:W2.cell? ⟨nb,1,none⟩=some (uV d.1.1.2.1):=(by simp only[World.cell?];rw[hblk];rfl);have q2:W2.cell? ⟨nb,2,none⟩=some (uV d.1.1.2.2):=(by simp only[World.cell?];rw[hblk];rfl);have q3:W2.cell? ⟨nb,3,none⟩=some (iV d.2):=(by simp only[World.cell?];rw[hblk];rfl);have r0:=(y0 0).trans q0;have r1:=(y0 1).trans q1;have r2:=(y0 2).trans q2;have r3:=(y0 3).trans q3;have hL0:(Instr.lookup 301 (.map (some mb)) (tv d.1) false).run Tryz.prog W2.drew= .ok (iV (sm (ds.take k) d.1)) W2.drew:=hL0;have hL1:(Instr.lookup 301 (.map (some mb)) (tv d.1) false).run Tryz.prog w1= .ok (iV (sm (ds.take k) d.1)) w1:=hL1;have hE:(Instr.mapEntry 301 (.map (some mb)) (tv d.1)).run Tryz.prog W2.drew= .ok (.tuple #[v0,iV st]) w1:=hE;have hSt:(Instr.entryStore 301 (.map (some mb)) (iV st) (iV (wrap64 (sm (ds.take k) d.1+d.2)))).run Tryz.prog w1= .ok () w2:=hSt;generalize sm (ds.take k) d.1=c at hL0 hL1 hSt;go_wp2_with (go_at_call 198;refine(hbe _).mono ?_;rintro e w2 ⟨rfl,rfl⟩);rw[<-hW2,<-hnb];clear hW2 hnb x1 x2 x3 x4 hblk y0 hM2 hM3 hg1 hg2 G2;go_region;all_goals go_wp2
    all_goals exact⟨⟨k+1,by omega,by go_num,HW2.o⟩,by simp[intOf];omega⟩
  ·have hltz:¬(k:Int)<(ds.length:Int):=(by omega);have hk':k=ds.length:=(by omega);subst hk';have hD:=HI.o.1;have vQ:Hid (∀d∈ds,dW d.2=false):=(by have:=HI.o.2.2;rw[tK]at this;exact this);rw[tK]at hD;obtain⟨D,hown,h1,h2⟩:=hD;have h1':Hid (∀s,D.atKey (ZT.lit s) (nd 0)=nd (sm ds s)):=h1;have hsz:=hown.size_le;have hlen:=fun ty=>hown.len Tryz.underlying301 ty;have H2:Hid (∀s,Maps.has D (ZT.lit s)=true↔s∈ds.map Prod.fst):=h2;have c0r:aj wr B0 0 (aB tb):=(HI.o.2.1.cell hz hbm).trans c0;have hzr:B0<wr.heap.size:=nL hz HI.o.2.1.size;have hbl:mb<wr.heap.size:=hown.lt;clear HI h1 h2 hltz hlt hk QB c0 hz HL HLB HG;obtain⟨i0,hi,hz0,hz1,hz2⟩:=info_parts Ha;obtain⟨wL,hwL⟩:∃x,x=wr:=⟨wr,rfl⟩;subst hwL;go_wp2_with (first
    | (at_make;refine wpList_make_own _ rfl _ _ 159 rfl wL.heap.size 163 i0 (.agg #[.int .u64 0, .int .u64 0, .int .u64 0, .int .i64 0]) 4 Tryz.underlying159 hi hz0 hz1 _ _ _ (Maps.size D) rfl rfl rfl (by rw[hz2];omega) (by unfold maxLen;omega) (nR _) ?_;intro w1 Ei hg1)
    | (at_range;refine wpList_range_own _ rfl _ 301 rfl 45 2 ZT.law Tryz.underlying301 _ mb ds.length _ rfl (hown.kept hg1 (by simp)) ?_;intro w0 hrg0 hg0 hs0)
    | go_in)
   go_frame;go_loopw [9,10,11] (fun v _ _ wr=>∃(left:Lit->Bool) (cnt:Nat) (ss:List Tm),wr.ranges Tryz.prog 45 (plainElem Tryz.prog 2) mb w1.heap.size ds.length D left cnt/\ss.length+cnt<=Maps.size D/\
       wr.ownsRow wL.heap.size 163 4 v ss.length (fl ED (ss.map fun t=>(t,bS f ds t)))/\v≠ .slice none 0 0/\oD ZT D left ss/\Bw wL wr/\Hid (∀t∈ss,dW (bS f ds t)=false))
    (fun _ _ _ wr=>wr.rangeLeft mb w1.heap.size)
   case atStart=>
    exact⟨_,_,[],hrg0,by simp,Ei.kept hg0 (Or.inr (by simp[Value.ownBlock])),by simp,oD.start D,
     ((Below.refl _ _).grown hg1 (nR _) (fun j hj=>by cases hj)).grown hg0 hg1.size (fun j hj=>by cases hj),by simp[Hid]⟩
   case round=>
    obtain⟨left,cnt,ss,hrg,hcs,hrow,hnn,hC,hnx,HB⟩:=hrel;go_wp2_with (first
     | (at_next; refine wpList_next_ranges _ rfl _ rfl 45 ZT.law (plainElem Tryz.prog 2) tv (Value.int .i64) (fun key kl hk => MJ hk) (fun v y hv=>by obtain⟨c,rfl,_⟩:=plainElem_int_inv Tryz.underlying2 hv;exact⟨c,rfl⟩) mb w1.heap.size ds.length _ _ _ rfl hrg ?_ ?_)
     | go_in)
    ·intro hc0 hl0;have hA:=hC.all H2.o hl0;go_wp2;go_ret2;refine⟨jK.o.trans (hnx.mono jK.o.size),Or.inr ⟨?_,ss,_,hA,rfl,aN hrow jK.o.size⟩⟩;unfold bad;rw[Bool.or_eq_false_iff,List.any_eq_false,List.any_eq_false];refine⟨fun d hd=>by rw[vQ.o d hd];simp,fun d hd=>by rw[HB.o d.1 ((hA.2 d.1).2 (List.mem_map_of_mem hd))];simp⟩
    ·intro ta mG tc tp c kl yd yp w2 cnt2 hkey hlk hv hat hrg2 hlt2 hg2 hs2 hen;obtain⟨x,hx⟩:∃x:Tm,x=⟨(ta,mG,tc),tp⟩:=⟨_,rfl⟩;rw[<-hx]at hkey hen⊢;clear hx tp ta mG tc;obtain rfl:kl=ZT.lit x:=by
      have h7:=(ZT.key x).symm.trans hkey;exact(oJ h7).symm
     obtain rfl:c=sm ds x:=by
      obtain⟨c',e1,e2,_⟩:=plainElem_int_inv Tryz.underlying2 hv;have e3:=(h1'.o x).symm.trans (hat _);cases e1;cases e2;simpa using e3.symm
     have HXM:Hid (x∈ds.map Prod.fst):=(H2.o x).1 (has_true_of_atKey hat);have hrow2:=hrow.kept hg2 (Or.inr (row_ne_iter hrow hrg).symm);have B2:Bw wL w2:=hnx.grown hg2 hnx.size (fun j hj=>by cases hj;exact hg1.size);have IZ:=hC.step hlk hat;have c02:aj w2 B0 0 (aB tb):=(B2.cell (p:=⟨B0,0,none⟩) hzr).trans c0r;have hz2':B0<w2.heap.size:=nL hzr B2.size;obtain⟨W3,hW3⟩:=aF (w2.alloc (.cells #[uV x.1.1,uV x.1.2.1,uV x.1.2.2] 45));obtain⟨nb,hnb⟩:=aF (w2.heap.size);have G3:Gr w2 W3:=(by rw[hW3];exact(Gr.refl _).alloc _);have B3:Bw wL W3:=B2.trans (G3.below.mono B2.size);have hco:=lJ x W3 ((HT.o.below jK.o).below B3);have hblk:W3.heap[nb]? =some (.cells #[uV x.1.1,uV x.1.2.1,uV x.1.2.2] 45 (0,0)):=(by rw[hW3,hnb];exact ah _ _);have hnl:nb<W3.heap.size:=(aG.1 hblk).1;have q0:W3.cell? ⟨nb,0,none⟩=some (uV x.1.1):=(by simp only[World.cell?];rw[hblk];rfl);have q1:W3.cell? ⟨nb,1,none⟩=some (uV x.1.2.1):=(by simp only[World.cell?];rw[hblk];rfl);have q2:W3.cell? ⟨nb,2,none⟩=some (uV x.1.2.2):=(by simp only[World.cell?];rw[hblk];rfl);have c03:=(G3.cell hz2').trans c02;have hrow3:=ag hrow2 G3.below;have hrg3:=hrg2.kept (row:=none) ⟨G3.below.os,G3.below.tape,G3.below.output,G3.below.size,fun k hk _=>G3.below.block k hk⟩ (by simp) (by simp);have hbe:=uz (bS f ds x);have hnc:bS f ds x=wrap64 (sm ds x+f x):=rfl;rw[hnc]at hbe;have sj:Hid (fl ED ((ss++[x]).map fun t=>(t,bS f ds t))=fl ED (ss.map fun t=>(t,bS f ds t))++ED.enc (x,wrap64 (sm ds x+f x))):=by
      rw[De,aT,<-hnc];simp[Hid,fl]
     have Vz:Hid (bS f ds x=wrap64 (sm ds x+f x)):=hnc;clear hnc;generalize sm ds x=sx at *;generalize f x=fx at *;clear hs2 hblk hrow2 hrg2 hv hat hkey hlk;cases hq:dW (wrap64 (sx+fx))with
     | true=>
      rw[hq]at hbe;go_wp2_with fail;rw[<-hW3];refine hco.mono ?_;rintro e w4 ⟨rfl,hg4⟩;go_wp2_with (go_at_call 198;refine(hbe _).mono ?_;rintro e w5 ⟨rfl,rfl⟩);go_ret2;refine⟨jK.o.trans ((B3.trans (hg4.below.mono B3.size)).mono jK.o.size),Or.inl ⟨?_,rfl⟩⟩;unfold bad;rw[Bool.or_eq_true];obtain⟨d,hd,hdx⟩:=mM.1 HXM.o;exact Or.inr (List.any_eq_true.2 ⟨d,hd,by rw[hdx,Vz.o];exact hq⟩)
     | false=>
      rw[hq]at hbe;go_wp2_with fail;rw[<-hW3];refine hco.mono ?_;rintro e w4 ⟨rfl,hg4⟩;have r0:=(hg4.cell hnl).trans q0;have r1:=(hg4.cell hnl).trans q1;have r2:=(hg4.cell hnl).trans q2;have abD:=nL hnl hg4.size;rw[hnb]at r0 r1 r2 abD;have B4:Bw wL w4:=B3.trans (hg4.below.mono B3.size);have hrow4:=ag hrow3 hg4.below;have O9:=hrg3.kept (row:=none) ⟨hg4.below.os,hg4.below.tape,hg4.below.output,hg4.below.size,fun k hk _=>hg4.below.block k hk⟩ (by simp) (by simp);clear q0 q1 q2 hrow3 hrg3 hco hg4;go_wp2_with (first
       | (go_at_call 198;refine(hbe _).mono ?_;rintro e w5 ⟨rfl,rfl⟩)
       | (at_builtin;refine qK rfl _ _ rfl wL.heap.size _ ss.length _ rfl hrow4 (x,wrap64 (sx+fx)) rfl (by omega) B4.size ?_;intro g' cap' w6 qG nQ En)
       | go_in)
      have aah:=O9.kept nQ (row_ne_low hrow4 hbl) (row_ne_iter hrow4 O9);go_roundw;case rel=>
       refine⟨_,cnt2,ss++[x],aah,by simp;omega, ?_,by simp,IZ, ?_,fun t ht=> ?_⟩
       ·rw[sj.o,dQ];exact qG
       ·exact B4.trans ((Kp.grownBy (S:=fun k=>wL.heap.size<=k) nQ (fun k hk=>(hrow4.lt k hk).1)).below B4.size (fun _ h=>h))
       ·rcases kr.1 ht with h|h
        ·exact HB.o t h
        ·simp at h;subst h;rw[Vz.o];exact hq
      case measure=>rw[aah.left_eq,hrg.left_eq];exact hlt2
end
section
open Go.RowKit Go.Sort Go.Shelf Go.Lib
section
variable {α:Type} [Inhabited α] {E:El α}
theorem EB(hk:0<E.k)(ts:List α):flatK E.enc E.k ts.toArray=(fl E ts).toArray:=by
 refine ext_get! (by rw[size_flatK];simp[fP]) fun t ht=> ?_;rw[size_flatK]at ht;have ht':t<ts.length*E.k:=by simpa using ht
 have hq:t/E.k<ts.length:=(Nat.div_lt_iff_lt_mul hk).2 ht';rw[get_flatK _ _ _ t ht];have h1:=jE E ts (t/E.k) (t%E.k) ts[t/E.k] (by simp) (Nat.mod_lt _ hk);rw[Nat.div_add_mod']at h1;have h3:(ts.toArray)[t/E.k]! =ts[t/E.k]:=by simp[hq]
 rw[h3];have h4:((fl E ts).toArray)[t]! =((fl E ts)[t]?).getD default:=by simp
 rw[h4,h1];simp
theorem nN(hk:0<E.k){ts:List α}(h:w.ownsRow base e E.k (sO g ts.length cap) ts.length (fl E ts)):HoldsK E.enc E.k w g 0 ts.toArray:=by
 obtain⟨_,⟨h0,_⟩|⟨g',cap',cur,hv,hg,hh,hc1,hc2,hsz,htk⟩⟩:=id h
 ·cases h0
 cases hv;unfold HoldsK;rw[EB hk];intro j hj;have hj':j<(fl E ts).length:=by simpa using hj
 refine⟨?_, ?_⟩
 ·have:=h.cells (g:=g) rfl j _ (p8 hj');rw[ze]at this;rw[this];simp[hj']
 ·simp only[World.frozen?,hh];simp
theorem uR(hk:0<E.k){os:Array Obj}{cur:Array Value}(us:List α)(hb:w.heap[g]? =some (.cells cur e (0,0))):
    (sortWorldK E.enc E.k w g 0 n us.toArray os).heap[g]? =some (.cells (putCells id 0 (fl E us).toArray cur) e (0,0)):=by
 have hg:g<w.heap.size:=(aG.1 hb).1;unfold sortWorldK putRowK;rw[EB hk,heap_grow_old _ _ (by simpa using hg)];simp[putRow,mapBlock,Sort.ahead,Array.getElem?_modify,hb,onCells]
theorem Dr(cur:Array Value)(vs:List Value)(h:vs.length<=cur.size):(putCells id 0 vs.toArray cur).toList.take vs.length=vs:=by
 apply List.ext_getElem?;intro j;by_cases hj:j<vs.length
 ·rw[List.getElem?_take_of_lt hj,Array.getElem?_toList];simp[putCells,hj,show j<cur.size by omega]
 ·rw[List.getElem?_take_eq_none (by omega),lQ (by omega)]
theorem uw(hk:0<E.k){ts us:List α}{os:Array Obj}(h:w.ownsRow base e E.k (sO g ts.length cap) ts.length (fl E ts))(hl:us.length=ts.length):
    (sortWorldK E.enc E.k w g 0 n us.toArray os).ownsRow base e E.k (sO g ts.length cap) ts.length (fl E us):=by
 obtain⟨_,⟨h0,_⟩|⟨g',cap',cur,hv,hg,hh,hc1,hc2,hsz,htk⟩⟩:=id h
 ·cases h0
 cases hv;have hle:(fl E us).length<=cur.size:=by rw[fP,hl,hsz];exact nM _ hc1
 refine⟨by rw[fP,hl], .inr ⟨g,cap,_,rfl,hg,uR hk us hh,hc1,hc2,by simp[putCells,hsz], ?_⟩⟩;have:=Dr cur (fl E us) hle
 rwa [fP,hl]at this
theorem zT{us:List α}{os:Array Obj}:Kp (fun k=>k=g) w (sortWorldK E.enc E.k w g 0 n us.toArray os):=by
 refine⟨rfl,rfl,rfl,by simp[sortWorldK,putRowK,putRow,mapBlock,Sort.ahead,grow],fun k hk hne=> ?_⟩;unfold sortWorldK putRowK;rw[heap_grow_old _ _ (by simpa[putRow,mapBlock,Sort.ahead]using hk)];have:g≠k:=fun e=>hne e.symm;simp[putRow,mapBlock,Sort.ahead,Array.getElem?_modify,this]
end
section
variable {K:Type}
def qP(cf:K->K->Int)(ks:List K):List K:=ks.mergeSort fun x y=> !(ltOf cf) y x
theorem dF(cf:K->K->Int)(ks:List K):(qP cf ks).length=ks.length:=List.length_mergeSort ..
theorem iw(cf:K->K->Int)(ks:List K):(qP cf ks).Perm ks:=List.mergeSort_perm ..
theorem jr{cf:K->K->Int}{ks:List K}{x:K}:x∈qP cf ks↔x∈ks:=(iw cf ks).mem_iff
theorem jc{cf:K->K->Int}(hO:SWO (ltOf cf))(a:List K):(qP cf a).Pairwise fun x y=>(!(ltOf cf) y x)=true:=by
 refine List.pairwise_mergeSort (fun x y z h1 h2=> ?_) (fun x y=> ?_) a
 ·simp only[Bool.not_eq_true']at *;exact hO.ntrans z y x h2 h1
 ·cases h1:ltOf cf y x with
  | false => simp
  | true=>
   cases h2:ltOf cf x y with
   | false => simp
   | true => have:=hO.trans x y x h2 h1;rw[hO.irrefl]at this;cases this
theorem yN{cf:K->K->Int}(hO:SWO (ltOf cf))(hT:∀x y,ltOf cf x y=false->ltOf cf y x=false->x=y){a b:List K}(h:a.Perm b):qP cf a=qP cf b:=by
 refine List.Perm.eq_of_pairwise (le:=fun x y=>(!(ltOf cf) y x)=true) (fun x y _ _ h1 h2=> ?_) (jc hO a) (jc hO b) (((iw cf a).trans h).trans (iw cf b).symm);simp only[Bool.not_eq_true']at h1 h2;exact hT x y h2 h1
end
end
section
open Go.RowKit Go.Sort Go.Maps Go.Shelf Go.Lib
open Tt (Tl dW dK)
attribute[local go_sem ↓]wp_at_zero wp_at_succ
theorem xD(x y:Tm):ltOf A7 x y=dL x y:=rfl
theorem VN:SWO (ltOf A7) where
 irrefl x:=pG.qy x
 trans x y z h1 h2:=pG.tr x y z h1 h2
 ntrans x y z h1 h2:=by
  rw[xD,AU]at *;omega
theorem ZJ(x y:Tm)(h1:ltOf A7 x y=false)(h2:ltOf A7 y x=false):x=y:=by
 by_cases e:x=y
 ·exact e
 ·have:=pG.tot x y e h1;rw[xD]at h2;rw[this]at h2;cases h2
theorem Qg(blk off size:Nat)(w:World):CmpLays Tryz.prog 17 #[] ET.enc 3 A7 blk off size w:=
 fun _ _ _ _ x y=>gP x.1.1 x.1.2.1 x.1.2.2 y.1.1 y.1.2.1 y.1.2.2 _
abbrev jq(ks:List Tm):List Tm:=qP A7 ks
theorem qh{ks:List Tm}(h:ks.Nodup):(jq ks).Pairwise fun a b=>dL a b=true:=by
 have h1:=jc VN ks;have h2:(jq ks).Nodup:=(iw A7 ks).nodup_iff.2 h;refine List.Pairwise.imp₂ (R:=fun x y=>(!(ltOf A7) y x)=true) (S:=fun x y=>x≠y) (fun {a b} ha hb=> ?_) h1 h2;have ha':dL b a=false:=by simpa[xD]using ha
 exact pG.tot b a (fun e=>hb e.symm) ha'
theorem wJ(g cap base:Nat)(ts:List Tm)(w:World)(h:w.ownsRow base 45 3 (sO g ts.length cap) ts.length (eQ ts))(hsz:ts.length<4611686018427387904):
    CL 211 #[sO g ts.length cap, .func (.func 17) #[] #[]] w fun e w'=>e= .returned (.tuple #[])/\w'.ownsRow base 45 3 (sO g ts.length cap) ts.length (eQ (jq ts))/\Kp (fun k=>k=g) w w':=by
 have eg:∀args w,(callFunc 17 args).run Tryz.prog w= .ok (.enter 17 args) w:=enters_of Tryz.func17 (by kernel_rfl) rfl;have hg:g<w.heap.size:=(h.lt g rfl).2;have hcon:=AnyQ.slices_SortFunc_total Tryz.lSortT 3 Tryz.isAgg45 Tryz.sizeOf45 ET.enc (fun _=>rfl) ET.one A7 VN 17 #[] g 0 cap ts.toArray w eg (Qg g 0 _ w) (nN (E:=ET) (by decide) h) hg (by simpa using hsz) ZJ;change CL 211 _ _ _ at hcon;rw[List.size_toArray]at hcon;refine hcon.mono ?_;rintro e w' ⟨rfl,n,os,rfl⟩;exact⟨rfl,uw (E:=ET) (by decide) h (dF A7 ts),zT (E:=ET)⟩
theorem xH{f:Tm->Int}(w:World)(h:Tl w tb b 17 n f)(hn:n*24<=140737488355328):
    CL 151 #[aB tb] w fun e w'=>∃(v:Value) (ks:List Tm),qC f ks/\e= .returned v/\
     w'.ownsRow w.heap.size 45 3 v (jq ks).length (eQ (jq ks))/\v≠ .slice none 0 0/\Bw w w':=by
 obtain⟨i0,hi,hz0,hz1,hz2⟩:=info_parts G8;have HT:Hid (Tl w tb b 17 n f):=h;have c0:=h.c0;have c1:=h.c1;have hlt:=h.lt;obtain⟨D,hown,h1,h2⟩:=h.ta;have hbl:=hown.lt;have hsz:=hown.size_le;have hlen:=fun ty=>hown.len Tryz.underlying301 ty;clear h h1;go_enter Tryz.func151,Tryz.ntmps151;go_wp2_with (first
  | (at_make;refine wpList_make_own _ rfl _ _ 39 rfl w.heap.size 45 i0 (.agg #[.int .u64 0, .int .u64 0, .int .u64 0]) 3 Tryz.underlying39 hi hz0 hz1 _ _ _ (Maps.size D) rfl rfl rfl (by rw[hz2];omega) (by unfold maxLen;omega) (nR _) ?_;intro w1 Ei hg1
     have c1b:=(HT.o.kp (Kp.grownBy (S:=fun _=>False) hg1 (fun k hk=>by cases hk)) (fun h=>h) (fun h=>h)).c1)
  | (at_range;refine wpList_range_own _ rfl _ 301 rfl 45 2 ZT.law Tryz.underlying301 _ b n _ rfl (hown.kept hg1 (by simp)) ?_;intro w0 hrg0 hg0 hs0)
  | go_in)
 go_frame;go_loopw [3,4] (fun v _ wr=>∃(left:Lit->Bool) (cnt:Nat) (ss:List Tm),wr.ranges Tryz.prog 45 (plainElem Tryz.prog 2) b w1.heap.size n D left cnt/\ss.length+cnt<=Maps.size D/\
     wr.ownsRow w.heap.size 45 3 v ss.length (eQ ss)/\v≠ .slice none 0 0/\oD ZT D left ss/\Bw w wr)
  (fun _ _ wr=>wr.rangeLeft b w1.heap.size)
 case atStart=>
  exact⟨_,_,[],hrg0,by simp,Ei.kept hg0 (Or.inr (by simp[Value.ownBlock])),by simp,oD.start D,
   ((Below.refl _ _).grown hg1 (nR _) (fun j hj=>by cases hj)).grown hg0 hg1.size (fun j hj=>by cases hj)⟩
 case round=>
  obtain⟨left,cnt,ss,hrg,hcs,hrow,hnn,hC,hnx⟩:=hrel;go_wp2_with (first
   | (at_next; refine wpList_next_ranges _ rfl _ rfl 45 ZT.law (plainElem Tryz.prog 2) tv (Value.int .i64) (fun key kl hk => MJ hk) (fun v y hv=>by obtain⟨c,rfl,_⟩:=plainElem_int_inv Tryz.underlying2 hv;exact⟨c,rfl⟩) b w1.heap.size n _ _ _ rfl hrg ?_ ?_)
   | go_in)
  ·intro hc0 hl0;rcases hrow.2 with⟨hnil,_⟩|⟨gb,cap,cur,rfl,hbase,hb,h3,h4,h5,h6⟩
   ·exact absurd hnil hnn
   have hS:=hC.sup h2 hl0;have c0r:=(hnx.cell (p:=⟨tb,0,none⟩) hlt).trans c0;have hc:=wJ gb cap w.heap.size ss wr hrow (by omega);clear h6 hb h5;go_wp2_with (go_at_call 211;refine hc.mono ?_;rintro e w' ⟨rfl,ho',hk'⟩);go_ret;refine⟨_,ss,hS,rfl,by rw[dF];exact ho',by simp, ?_⟩;exact hnx.trans (hk'.below hnx.size (fun k hk=>by rw[hk];exact hbase))
  ·intro ta mG tc tp c kl yd yp w2 cnt2 hkey hlk hv hat hrg2 hlt2 hg2 hs2 hen;obtain⟨x,hx⟩:∃x:Tm,x=⟨(ta,mG,tc),tp⟩:=⟨_,rfl⟩;rw[<-hx]at hkey hen⊢;clear hx tp ta mG tc;obtain rfl:kl=ZT.lit x:=by
    have h7:=(ZT.key x).symm.trans hkey;exact(oJ h7).symm
   have hrow2:=hrow.kept hg2 (Or.inr (row_ne_iter hrow hrg).symm);have B2:Bw w w2:=hnx.grown hg2 hnx.size (fun j hj=>by cases hj;exact hg1.size);have IZ:=hC.step hlk hat;clear hs2 hv hat hkey hlk;go_wp2_with (first
    | (at_builtin;refine Cz.gB true rfl _ _ rfl w.heap.size _ ss.length _ rfl (hrow2.alloc _) x (by show Value.slice (some ⟨w2.heap.size+1,0,none⟩) 1 1=_;simp) (by omega) (by have:=B2.size;simp;omega) ?_;intro g' cap' w3 ho3 hg3 hl3)
    | go_in)
   have hrg3:=(hrg2.alloc _).kept hg3 (row_ne_low hrow2 hbl) (row_ne_iter hrow2 hrg2);go_roundw;case rel=>
    refine⟨_,cnt2,ss++[x],hrg3,by simp;omega, ?_,by simp,IZ, ?_⟩
    ·rw[jF,vL,dQ];exact ho3
    ·exact(B2.alloc B2.size _).grown hg3 (by have:=B2.size;simp;omega) (fun j hj=>(hrow2.lt j hj).1)
   case measure=>rw[hrg3.left_eq,hrg.left_eq];exact hlt2
theorem xB{f:Tm->Int}(w:World)(h:Tl w tb b 17 n f)(hn:n*24<=140737488355328):
    CL 88 #[cv tb] w fun e w'=>∃(v:Value) (ks:List Tm),qC f ks/\e= .returned v/\
     w'.ownsRow w.heap.size 45 3 v (jq ks).length (eQ (jq ks))/\v≠ .slice none 0 0/\Bw w w':=by
 have hk:=fun o=>xH _ (h.gr ((Gr.refl w).alloc o)) hn;have HG:Hid (∀o,Gr w (w.alloc o)):=fun o=>(Gr.refl w).alloc o;clear h;go_enter Tryz.func88,Tryz.ntmps88;go_wp2_with fail;refine(hk _).mono ?_;rintro e w1 ⟨v,ks,hS,rfl,ho,hv,hb⟩;go_wp2;go_ret;exact⟨_,ks,hS,rfl,aN ho (by simp),hv,(HG.o _).below.trans (hb.mono (by simp))⟩
end
namespace Rs
open Go.RowKit Go.Sort Go.Maps
attribute[local go_sem ↓]wp_at_zero wp_at_succ
theorem Su(p q:Int)(b:Nat)(w:World)(h0:w.cell? ⟨b,0,none⟩=some (iV p))(h1:w.cell? ⟨b,1,none⟩=some (iV q)):
    CL 50 #[sO b 2 2] w fun e w'=>e= .returned (iV (Wu p q))/\w'=w:=by
 by_cases e0:p=0
 ·subst e0;by_cases e1:q=0
  ·subst e1;go_enter Tryz.func50,Tryz.ntmps50;go_wp2;refine wp_loop_rounds 3 ?_;rw[rounds_succ];go_wp2;rw[rounds_succ];go_wp2;rw[rounds_succ];go_wp2;go_ret;exact⟨rfl,rfl⟩
  ·have b1:(q != 0)=true:=(by rw[bne_iff_ne];exact e1);have hr:Wu 0 q=q:=(by simp[Wu]);rw[hr];clear hr;go_enter Tryz.func50,Tryz.ntmps50;go_wp2;refine wp_loop_rounds 2 ?_;rw[rounds_succ];go_wp2;rw[rounds_succ];go_wp2;go_ret;exact⟨rfl,rfl⟩
 ·have b0:(p != 0)=true:=by rw[bne_iff_ne];exact e0
  have hr:Wu p q=p:=by simp[Wu,e0]
  rw[hr];clear hr;go_enter Tryz.func50,Tryz.ntmps50;go_wp2;refine wp_loop_rounds 1 ?_;rw[rounds_succ];go_wp2;go_ret;exact⟨rfl,rfl⟩
theorem qw(x:Int)(w:World):CL 195 #[iV x] w fun e w'=>e= .returned (.bool false)/\w'=w:=by
 go_enter Tryz.func195,Tryz.ntmps195;go_wp2;go_ret;exact⟨rfl,rfl⟩
theorem rR(x y:Int)(w:World):CL 136 #[iV x,iV y] w fun e w'=>e= .returned (iV (c64 x y))/\w'=w:=by
 have H:=fun v W=>qw v W;go_enter Tryz.func136,Tryz.ntmps136;go_wp2_with (go_at_call 195;refine(H _ _).mono ?_;rintro e w1 ⟨rfl,rfl⟩);all_goals go_ret
 all_goals refine⟨?_,rfl⟩
 all_goals refine Bq ?_
 all_goals unfold c64
 all_goals (repeat split)<;>omega
theorem jv(s t:Sm)(w:World):CL 78 #[mv s,mv t] w fun e w'=>e= .returned (iV (Gu s t))/\Gr w w':=by
 have hmx:Tryz.prog.follows .mixedOrders=true:=by kernel_rfl
 have H1:=fun W=>rR s.1.1 t.1.1 W;have H2:=fun W=>gP s.1.2.1 s.1.2.2.1 s.1.2.2.2 t.1.2.1 t.1.2.2.1 t.1.2.2.2 W;unfold Gu;generalize c64 s.1.1 t.1.1=p at *;generalize mE s.1.2.1 s.1.2.2.1 s.1.2.2.2 t.1.2.1 t.1.2.2.1 t.1.2.2.2=q at *;obtain⟨W0,hW0⟩:=aF (((w.alloc (.cells #[iV s.1.1,uV s.1.2.1,uV s.1.2.2.1,uV s.1.2.2.2] 47)).alloc (.cells #[iV t.1.1,uV t.1.2.1,uV t.1.2.2.1,uV t.1.2.2.2] 47)).drew);have hz0:w.heap.size+1<W0.heap.size:=by rw[hW0];show _<((w.alloc _).alloc _).heap.size;simp
 have S0:(W0.cell? ⟨w.heap.size,0,none⟩=some (iV s.1.1)/\W0.cell? ⟨w.heap.size,1,none⟩=some (uV s.1.2.1)/\W0.cell? ⟨w.heap.size,2,none⟩=some (uV s.1.2.2.1)/\W0.cell? ⟨w.heap.size,3,none⟩=some (uV s.1.2.2.2)/\W0.cell? ⟨w.heap.size+1,0,none⟩=some (iV t.1.1)/\W0.cell? ⟨w.heap.size+1,1,none⟩=some (uV t.1.2.1)/\W0.cell? ⟨w.heap.size+1,2,none⟩=some (uV t.1.2.2.1)/\W0.cell? ⟨w.heap.size+1,3,none⟩=some (uV t.1.2.2.2))/\Gr W0 W0:=by
  refine⟨?_,Gr.refl _⟩;rw[hW0];have b0:((w.alloc (.cells #[iV s.1.1,uV s.1.2.1,uV s.1.2.2.1,uV s.1.2.2.2] 47)).alloc (.cells #[iV t.1.1,uV t.1.2.1,uV t.1.2.2.1,uV t.1.2.2.2] 47)).drew.heap[w.heap.size]? =some (.cells #[iV s.1.1,uV s.1.2.1,uV s.1.2.2.1,uV s.1.2.2.2] 47 (0,0)):=(Below.heap_alloc _ _ _ (by simp)).trans (ah _ _);have b1:((w.alloc (.cells #[iV s.1.1,uV s.1.2.1,uV s.1.2.2.1,uV s.1.2.2.2] 47)).alloc (.cells #[iV t.1.1,uV t.1.2.1,uV t.1.2.2.1,uV t.1.2.2.2] 47)).drew.heap[w.heap.size+1]? =some (.cells #[iV t.1.1,uV t.1.2.1,uV t.1.2.2.1,uV t.1.2.2.2] 47 (0,0)):=by
   have:=ah (w.alloc (.cells #[iV s.1.1,uV s.1.2.1,uV s.1.2.2.1,uV s.1.2.2.2] 47)) (.cells #[iV t.1.1,uV t.1.2.1,uV t.1.2.2.1,uV t.1.2.2.2] 47);rw[show(w.alloc (.cells #[iV s.1.1,uV s.1.2.1,uV s.1.2.2.1,uV s.1.2.2.2] 47)).heap.size=w.heap.size+1 by simp]at this;exact this
  refine⟨?_, ?_, ?_, ?_, ?_, ?_, ?_, ?_⟩<;>(simp only[World.cell?,b0,b1];rfl)
 have kN:∀W W':World,((W.cell? ⟨w.heap.size,0,none⟩=some (iV s.1.1)/\W.cell? ⟨w.heap.size,1,none⟩=some (uV s.1.2.1)/\W.cell? ⟨w.heap.size,2,none⟩=some (uV s.1.2.2.1)/\W.cell? ⟨w.heap.size,3,none⟩=some (uV s.1.2.2.2)/\W.cell? ⟨w.heap.size+1,0,none⟩=some (iV t.1.1)/\W.cell? ⟨w.heap.size+1,1,none⟩=some (uV t.1.2.1)/\W.cell? ⟨w.heap.size+1,2,none⟩=some (uV t.1.2.2.1)/\W.cell? ⟨w.heap.size+1,3,none⟩=some (uV t.1.2.2.2))/\Gr W0 W)->Gr W W'->((W'.cell? ⟨w.heap.size,0,none⟩=some (iV s.1.1)/\W'.cell? ⟨w.heap.size,1,none⟩=some (uV s.1.2.1)/\W'.cell? ⟨w.heap.size,2,none⟩=some (uV s.1.2.2.1)/\W'.cell? ⟨w.heap.size,3,none⟩=some (uV s.1.2.2.2)/\W'.cell? ⟨w.heap.size+1,0,none⟩=some (iV t.1.1)/\W'.cell? ⟨w.heap.size+1,1,none⟩=some (uV t.1.2.1)/\W'.cell? ⟨w.heap.size+1,2,none⟩=some (uV t.1.2.2.1)/\W'.cell? ⟨w.heap.size+1,3,none⟩=some (uV t.1.2.2.2))/\Gr W0 W'):=fun W W' h hb=>by
  have q0:w.heap.size<W.heap.size:=by have:=h.2.size;omega
  have q1:w.heap.size+1<W.heap.size:=by have:=h.2.size;omega
  exact⟨⟨(hb.cell q0).trans h.1.1,(hb.cell q0).trans h.1.2.1,(hb.cell q0).trans h.1.2.2.1,(hb.cell q0).trans h.1.2.2.2.1,(hb.cell q1).trans h.1.2.2.2.2.1,(hb.cell q1).trans h.1.2.2.2.2.2.1,(hb.cell q1).trans h.1.2.2.2.2.2.2.1,(hb.cell q1).trans h.1.2.2.2.2.2.2.2⟩,h.2.trans hb⟩
 have HG:Gr w W0:=by rw[hW0];exact(((Gr.refl _).alloc _).alloc _).drew
 go_enter Tryz.func78,Tryz.ntmps78;go_wp2_with fail;go_region_held3 (fun W=>(W.cell? ⟨w.heap.size,0,none⟩=some (iV s.1.1)/\W.cell? ⟨w.heap.size,1,none⟩=some (uV s.1.2.1)/\W.cell? ⟨w.heap.size,2,none⟩=some (uV s.1.2.2.1)/\W.cell? ⟨w.heap.size,3,none⟩=some (uV s.1.2.2.2)/\W.cell? ⟨w.heap.size+1,0,none⟩=some (iV t.1.1)/\W.cell? ⟨w.heap.size+1,1,none⟩=some (uV t.1.2.1)/\W.cell? ⟨w.heap.size+1,2,none⟩=some (uV t.1.2.2.1)/\W.cell? ⟨w.heap.size+1,3,none⟩=some (uV t.1.2.2.2))/\Gr W0 W)
  (first|(rw[<-hW0];exact S0)|exact kN _ _ (by assumption) (by assumption)|exact kN _ _ (by assumption) ((Gr.refl _).alloc _)|assumption)
  (first|(go_at_call 136;refine(H1 _).mono ?_;rintro e w1 ⟨rfl,rfl⟩)|(go_at_call 17;refine(H2 _).mono ?_;rintro e w2 ⟨rfl,g2⟩)|(go_at_call 50;refine(Su p q _ _ (by simp) (by simp)).mono ?_;rintro e w3 ⟨rfl,rfl⟩))
 go_wp2;go_ret;rw[<-hW0]at g2;exact⟨rfl,HG.trans (g2.alloc _)⟩
end Rs
namespace Rs
open Go.RowKit Go.Sort Go.Maps Go.Shelf
def slt(s t:Sm):Bool:=ltOf Gu s t
theorem oM(s t:Sm):slt s t=true↔s.1.1<t.1.1\/(s.1.1=t.1.1/\(s.1.2.1<t.1.2.1\/(s.1.2.1=t.1.2.1/\(s.1.2.2.1<t.1.2.2.1\/(s.1.2.2.1=t.1.2.2.1/\s.1.2.2.2<t.1.2.2.2))))):=by
 unfold slt ltOf Gu;have h1:=iI s.1.1 t.1.1;have h2:=gy s.1.1 t.1.1;have h3:=qN s.1.2.1 s.1.2.2.1 s.1.2.2.2 t.1.2.1 t.1.2.2.1 t.1.2.2.2;rw[decide_eq_true_iff];unfold Wu;generalize c64 s.1.1 t.1.1=p at *;generalize mE s.1.2.1 s.1.2.2.1 s.1.2.2.2 t.1.2.1 t.1.2.2.1 t.1.2.2.2=q at *;split<;>omega
theorem Bj(s t:Sm):slt s t=false↔¬(s.1.1<t.1.1\/(s.1.1=t.1.1/\(s.1.2.1<t.1.2.1\/(s.1.2.1=t.1.2.1/\(s.1.2.2.1<t.1.2.2.1\/(s.1.2.2.1=t.1.2.2.1/\s.1.2.2.2<t.1.2.2.2)))))):=by
 rw[<-oM,Bool.not_eq_true]
theorem rz(x y:Sm):ltOf Gu x y=slt x y:=rfl
theorem ZK(x y:Sm)(h1:ltOf Gu x y=false)(h2:ltOf Gu y x=false):x=y:=by
 rw[rz,Bj]at h1 h2;exact Nb (by omega) (by omega) (by omega) (by omega)
theorem ZN:SWO (ltOf Gu) where
 irrefl x:=by rw[rz,Bj];omega
 trans x y z h1 h2:=by rw[rz,oM]at *;omega
 ntrans x y z h1 h2:=by rw[rz,Bj]at *;omega
abbrev iT(ks:List Sm):List Sm:=qP Gu ks
theorem Gj{ks:List Sm}(h:ks.Nodup):(iT ks).Pairwise fun a b=>slt a b=true:=by
 have h1:=jc ZN ks;have h2:(iT ks).Nodup:=(iw Gu ks).nodup_iff.2 h;refine List.Pairwise.imp₂ (R:=fun x y=>(!(ltOf Gu) y x)=true) (S:=fun x y=>x≠y) (fun {a b} ha hb=> ?_) h1 h2;have ha':ltOf Gu b a=false:=by simpa using ha
 cases hq:slt a b with
 | true => rfl
 | false => exact absurd (ZK a b hq ha') hb
end Rs
namespace Rs
open Go.RowKit Go.Sort Go.Maps Go.Shelf Go.Lib
open Rs.Tt (Tl)
attribute[local go_sem ↓]wp_at_zero wp_at_succ
theorem Qh(blk off size:Nat)(w:World):CmpLays Tryz.prog 78 #[] ES.enc 4 Gu blk off size w:=
 fun _ _ _ _ x y=>jv x y _
theorem wJ(g cap base:Nat)(ts:List Sm)(w:World)(h:w.ownsRow base 47 4 (sO g ts.length cap) ts.length (fl ES ts))(hsz:ts.length<4611686018427387904):
    CL 210 #[sO g ts.length cap, .func (.func 78) #[] #[]] w fun e w'=>e= .returned (.tuple #[])/\w'.ownsRow base 47 4 (sO g ts.length cap) ts.length (fl ES (iT ts))/\Kp (fun k=>k=g) w w':=by
 have eg:∀args w,(callFunc 78 args).run Tryz.prog w= .ok (.enter 78 args) w:=enters_of Tryz.func78 (by kernel_rfl) rfl;have hg:g<w.heap.size:=(h.lt g rfl).2;have hcon:=AnyQ.slices_SortFunc_total Tryz.lSortS 4 Tryz.isAgg47 Tryz.sizeOf47 ES.enc (fun _=>rfl) ES.one Gu ZN 78 #[] g 0 cap ts.toArray w eg (Qh g 0 _ w) (nN (E:=ES) (by decide) h) hg (by simpa using hsz) ZK;change CL 210 _ _ _ at hcon;rw[List.size_toArray]at hcon;refine hcon.mono ?_;rintro e w' ⟨rfl,n,os,rfl⟩;exact⟨rfl,uw (E:=ES) (by decide) h (dF Gu ts),zT (E:=ES)⟩
theorem xH{f:Sm->Int}(w:World)(h:Tl w tb b 78 n f)(hn:n*32<=140737488355328):
    CL 148 #[aB tb] w fun e w'=>∃(v:Value) (ks:List Sm),qC f ks/\e= .returned v/\
     w'.ownsRow w.heap.size 47 4 v (iT ks).length (fl ES (iT ks))/\v≠ .slice none 0 0/\Bw w w':=by
 obtain⟨i0,hi,hz0,hz1,hz2⟩:=info_parts Eb;have HT:Hid (Tl w tb b 78 n f):=h;have c0:=h.c0;have c1:=h.c1;have hlt:=h.lt;obtain⟨D,hown,h1,h2⟩:=h.ta;have hbl:=hown.lt;have hsz:=hown.size_le;have hlen:=fun ty=>hown.len Tryz.underlying235 ty;clear h h1;go_enter Tryz.func148,Tryz.ntmps148;go_wp2_with (first
  | (at_make;refine wpList_make_own _ rfl _ _ 190 rfl w.heap.size 47 i0 (.agg #[.int .i64 0, .int .u64 0, .int .u64 0, .int .u64 0]) 4 Tryz.underlying190 hi hz0 hz1 _ _ _ (Maps.size D) rfl rfl rfl (by rw[hz2];omega) (by unfold maxLen;omega) (nR _) ?_;intro w1 Ei hg1
     have c1b:=(HT.o.kp (Kp.grownBy (S:=fun _=>False) hg1 (fun k hk=>by cases hk)) (fun h=>h) (fun h=>h)).c1)
  | (at_range;refine wpList_range_own _ rfl _ 235 rfl 47 2 ZM.law Tryz.underlying235 _ b n _ rfl (hown.kept hg1 (by simp)) ?_;intro w0 hrg0 hg0 hs0)
  | go_in)
 go_frame;go_loopw [3,4] (fun v _ wr=>∃(left:Lit->Bool) (cnt:Nat) (ss:List Sm),wr.ranges Tryz.prog 47 (plainElem Tryz.prog 2) b w1.heap.size n D left cnt/\ss.length+cnt<=Maps.size D/\
     wr.ownsRow w.heap.size 47 4 v ss.length (fl ES ss)/\v≠ .slice none 0 0/\oD ZM D left ss/\Bw w wr)
  (fun _ _ wr=>wr.rangeLeft b w1.heap.size)
 case atStart=>
  exact⟨_,_,[],hrg0,by simp,Ei.kept hg0 (Or.inr (by simp[Value.ownBlock])),by simp,oD.start D,
   ((Below.refl _ _).grown hg1 (nR _) (fun j hj=>by cases hj)).grown hg0 hg1.size (fun j hj=>by cases hj)⟩
 case round=>
  obtain⟨left,cnt,ss,hrg,hcs,hrow,hnn,hC,hnx⟩:=hrel;go_wp2_with (first
   | (at_next; refine wpList_next_ranges _ rfl _ rfl 47 ZM.law (plainElem Tryz.prog 2) mv (Value.int .i64) (fun key kl hk => U0 key kl hk) (fun v y hv=>by obtain⟨c,rfl,_⟩:=plainElem_int_inv Tryz.underlying2 hv;exact⟨c,rfl⟩) b w1.heap.size n _ _ _ rfl hrg ?_ ?_)
   | go_in)
  ·intro hc0 hl0;rcases hrow.2 with⟨hnil,_⟩|⟨gb,cap,cur,rfl,hbase,hb,h3,h4,h5,h6⟩
   ·exact absurd hnil hnn
   have hS:=hC.sup h2 hl0;have c0r:=(hnx.cell (p:=⟨tb,0,none⟩) hlt).trans c0;have hc:=wJ gb cap w.heap.size ss wr hrow (by omega);clear h6 hb h5;go_wp2_with (go_at_call 210;refine hc.mono ?_;rintro e w' ⟨rfl,ho',hk'⟩);go_ret;refine⟨_,ss,hS,rfl,by rw[dF];exact ho',by simp, ?_⟩;exact hnx.trans (hk'.below hnx.size (fun k hk=>by rw[hk];exact hbase))
  ·intro ta mG tc td tp c kl yd yp w2 cnt2 hkey hlk hv hat hrg2 hlt2 hg2 hs2 hen;obtain⟨x,hx⟩:∃x:Sm,x=⟨(ta,mG,tc,td),tp⟩:=⟨_,rfl⟩;rw[<-hx]at hkey hen⊢;clear hx tp ta mG tc td;obtain rfl:kl=ZM.lit x:=by
    have h7:=(ZM.key x).symm.trans hkey;exact(oJ h7).symm
   have hrow2:=hrow.kept hg2 (Or.inr (row_ne_iter hrow hrg).symm);have B2:Bw w w2:=hnx.grown hg2 hnx.size (fun j hj=>by cases hj;exact hg1.size);have IZ:=hC.step hlk hat;clear hs2 hv hat hkey hlk;go_wp2_with (first
    | (at_builtin;refine gB (E:=ES) Tryz.underlying190 Eb rfl (by decide) rfl _ _ rfl w.heap.size _ ss.length _ rfl (hrow2.alloc _) x (by show Value.slice (some ⟨w2.heap.size+1,0,none⟩) 1 1=_;simp) (by omega) (by unfold maxLen;omega) (by have:=B2.size;simp;omega) _ rfl _ ?_;intro g' cap' w3 ho3 hg3 hl3)
    | go_in)
   have hrg3:=(hrg2.alloc _).kept hg3 (row_ne_low hrow2 hbl) (row_ne_iter hrow2 hrg2);go_roundw;case rel=>
    refine⟨_,cnt2,ss++[x],hrg3,by simp;omega, ?_,by simp,IZ, ?_⟩
    ·rw[aT,dM,dQ];exact ho3
    ·exact(B2.alloc B2.size _).grown hg3 (by have:=B2.size;simp;omega) (fun j hj=>(hrow2.lt j hj).1)
   case measure=>rw[hrg3.left_eq,hrg.left_eq];exact hlt2
end Rs
section
open Go.RowKit Go.Sort
theorem TQ{α:Type}(E:El α)(zs:List α)(i k:Nat)(y y':α)(u:Value)(hi:zs[i]? =some y)(hk:k<E.k)(he:(E.enc y).set k u=E.enc y'):(fl E zs).set (i*E.k+k) u=fl E (zs.set i y'):=by
 induction zs generalizing i with
 | nil => simp at hi
 | cons z zs ih=>
  rw[aR];cases i with
  | zero=>
   simp at hi;subst hi;rw[List.set_cons_zero,aR,<-he,Nat.zero_mul,nZ,List.set_append_left _ _ (by rw[E.len];exact hk)]
  | succ i=>
   have e1:(i+1)*E.k+k=E.k+(i*E.k+k):=(by rw[Nat.succ_mul];omega);rw[List.set_cons_succ,aR,<-ih i (by simpa using hi),e1,List.set_append_right _ _ (by rw[E.len];omega),E.len,Nat.add_sub_cancel_left]
theorem KC{size:Nat}{xs:List Value}(h:w.ownsRow base e size (sO g n cap) n xs)(j:Nat)(u:Value):(w.setCell ⟨g,j,none⟩ u).ownsRow base e size (sO g n cap) n (xs.set j u)/\Kp (fun k=>k=g) w (w.setCell ⟨g,j,none⟩ u):=by
 obtain⟨hx,hr⟩:=h;rcases hr with⟨h0,_⟩|⟨g',cap',cur,hv,hg,hh,hn,hm,hs,ht⟩
 ·cases h0
 ·simp only[vS,oI,aI]at hv;obtain⟨⟨rfl,-,-⟩,-,rfl⟩:=hv;have h2:=setCell_eq_setRow w g j _ _ _ u hh;have hk:Kp (fun k=>k=g) w (w.setCell ⟨g,j,none⟩ u):=by
   rw[h2];exact⟨rfl,rfl,rfl,by simp[World.setRow],fun k _ hne=>setRow_other w g k _ (by omega)⟩
  refine⟨⟨by simp[hx],Or.inr ⟨g,cap,cur.setIfInBounds j u,rfl,hg,by rw[h2,setRow_heap w g _ _ _ _ hh],hn,hm,by simp[hs], ?_⟩⟩,hk⟩;rw[Array.toList_setIfInBounds,List.take_set,ht]
end
end Go.Proofs.YtiiefcalkjeieaaGreat
