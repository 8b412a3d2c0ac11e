import Derived.Test.YtiiefcalkjeieaaGreatJ11
import Derived.Lib.SliceRun
variable{cb fb ff k:Nat}{v:Go.Value}{w:Go.World}{z:Bool}
set_option maxHeartbeats 2000000
set_option maxRecDepth 100000
namespace Go.Proofs.YtiiefcalkjeieaaGreat
namespace Cz
open Go.RowKit Go.Sort
attribute[local go_sem ↓]wp_at_zero wp_at_succ
theorem copied(cur:List Value)(M:List Tm)(n k o:Nat)(hM:M.length=n+1)(hk:k<=n)(hc:cur.take ((n+1)*3)=eO M)(ho:o=(k+1)*3\/n=k):
    (cur.take o++eO ((M.drop k).take (n-k))++cur.drop (o+(n-k)*3)).take ((n+1)*3)=eO (M.take (k+1)++(M.drop k).take (n-k)):=by
 have hl:(n+1)*3<=cur.length:=by
  have h1:=congrArg List.length hc;rw[iq,hM,lK]at h1;omega
 rcases ho with rfl|rfl
 ·have h2:cur.take ((k+1)*3)=eO (M.take (k+1)):=by
    rw[<-Es,<-hc,List.take_take,Nat.min_eq_left (by omega)]
  rw[h2,jB,List.take_append_of_le_length (by simp[iq];omega),tL (by simp[iq];omega)]
 ·simp only[Nat.sub_self,List.take_zero,TJ,FP,Nat.zero_mul,nO,List.take_append_drop];rw[hc,tL (by omega)]
theorem vZ(z:Bool){ops:Array Oper}{o:Oper}{a:Act}{K:Act->World->Prop}{Q:Exit->Act->World->Prop}{E:Prop}(hgd:o.guard=none)(d s:Operand)
    (hop:o.op= .call { callee:= .builtin .copy,args:=#[d,s],argTypes:=#[(nm z).t2,(nm z).t2] })
    (g n cap k off dc sc:Nat) (M:List Tm) (hM:M.length=n+1) (hk:k<=n) (hd:a.eval d= .slice (some ⟨g,off,none⟩) (n-k) dc) (ho:off=(k+1)*3\/(n=k/\off=0)) (hs:a.eval s= .slice (some ⟨g,k*3,none⟩) (n+1-k) sc)
    (hown:w.ownsRow 0 (nm z).t1 3 (.slice (some ⟨g,0,none⟩) (n+1) cap) (n+1) (eO M))
    (h:∀w',w'.ownsRow 0 (nm z).t1 3 (.slice (some ⟨g,0,none⟩) (n+1) cap) (n+1) (eO (M.take (k+1)++(M.drop k).take (n-k)))->Kp (fun j=>j=g) w w'->K (a.put o.dst (goInt (n-k:Nat))) w') :
    if Region.wanted o (yielded ops a.tmps)=true then Oper.wp Tryz.prog o a w K Q else E:=by
 have hw:Region.wanted o (yielded ops a.tmps)=true:=by simp[Region.wanted,hgd]
 rw[if_pos hw];obtain⟨hlen,⟨h0,_⟩|⟨g',cap',cur,hv,_,hgg,hn,hm,hcs,htk⟩⟩:=id hown
 ·cases h0
 cases hv;have hcl:(eO ((M.drop k).take (n-k))).length=(n-k)*3:=by rw[iq];simp;omega
 have hmin:Nat.min (n+1-k) (n-k)=n-k:=Nat.min_eq_right (by omega);have hrun:=yJ (P:=Tryz.prog) w (nm z).t2 (nm z).t2 o.type (nm z).t1 3 g off (n-k) dc ⟨g,k*3,none⟩ (n+1-k) sc cur (nm z).t1 (eO ((M.drop k).take (n-k))) (GI z) (by cases z<;>kernel_rfl) hgg (by rw[hcl,hmin])
  (fun j v hj=>by
   rw[yV];have h1:(eO M)[k*3+j]? =some v:=by
    rw[<-List.getElem?_drop,PI];rw[<-Es,List.getElem?_take]at hj;split at hj
    ·exact hj
    ·cases hj
   have:=hown.cells (g:=g) rfl _ _ h1
   rwa [yV,nZ]at this)
  (by rw[hcl,hcs];rcases ho with rfl|⟨rfl,rfl⟩<;>omega) (Et _)
 rw[hmin]at hrun;unfold Oper.wp;simp[execOp,hop,resolve,invoke,builtin,hd,hs,hrun,Result.andThen];refine h _ ⟨?_,Or.inr ⟨g,cap,_,rfl,zL _,setRow_heap w g _ _ _ _ hgg,hn,hm, ?_, ?_⟩⟩ ⟨rfl,rfl,rfl,by simp[World.setRow],fun j _ hne=>setRow_other w g j _ (by omega)⟩
 ·rw[iq];simp;omega
 ·simp[hcl];rw[hcs];rcases ho with rfl|⟨rfl,rfl⟩<;>omega
 ·rw[hcl,List.toList_toArray,<-aA];exact copied cur.toList M n k off hM hk htk (ho.imp id (fun h=>h.1))
theorem Ny(m:List Tm)(x:Tm)(n k:Nat)(hn:m.length=n)(hk:k<=n):(((m++[x]).take (k+1)++((m++[x]).drop k).take (n-k))).set k x=m.take k++x::m.drop k:=by
 subst hn;have h1:((m++[x]).drop k).take (m.length-k)=m.drop k:=by
  rw[List.drop_append_of_le_length hk,List.take_append_of_le_length (by simp),tL (by simp)]
 rw[h1];have h2:(m++[x]).take k=m.take k:=List.take_append_of_le_length hk;have h3:((m++[x]).take (k+1))=m.take k++[(m++[x])[k]'(by simp;omega)]:=by
  rw[tO,h2,pW (by simp;omega)];rfl
 rw[h3];generalize (m++[x])[k]'(by simp;omega)=y;rw[aA,List.set_append_right _ _ (by rw[lK];exact Nat.min_le_left _ _)];simp[Nat.min_eq_left hk]
theorem TI(L:List Tm)(k:Nat)(x:Tm):(((eO L).set (k*3) (.int .u64 x.1.1)).set (k*3+1) (.int .u64 x.1.2.1)).set (k*3+2) (.int .u64 x.1.2.2)=eO (L.set k x):=by
 induction L generalizing k with
 | nil => simp[eO,fl]
 | cons y L ih=>
  show List.set (List.set (List.set (fl ET (y::L)) _ _) _ _) _ _=_;rw[aO];cases k with
  | zero => simp[ET,fl]
  | succ k=>
   rw[List.set_cons_succ];show _=fl ET (y::L.set k x);rw[aO,show fl ET (L.set k x)=eO (L.set k x)from rfl,<-ih k,show(k+1)*3=k*3+3 by omega];simp[ET];rfl
theorem zC(z:Bool){g N cap:Nat}{L:List Tm}(x:Tm)(h:w.ownsRow 0 (nm z).t1 3 (.slice (some ⟨g,0,none⟩) N cap) N (eO L)):
    (((w.setCell ⟨g,k*3,none⟩ (.int .u64 x.1.1)).setCell ⟨g,k*3+1,none⟩ (.int .u64 x.1.2.1)).setCell ⟨g,k*3+2,none⟩ (.int .u64 x.1.2.2)).ownsRow 0 (nm z).t1 3 (.slice (some ⟨g,0,none⟩) N cap) N (eO (L.set k x))/\Kp (fun j=>j=g) w (((w.setCell ⟨g,k*3,none⟩ (.int .u64 x.1.1)).setCell ⟨g,k*3+1,none⟩ (.int .u64 x.1.2.1)).setCell ⟨g,k*3+2,none⟩ (.int .u64 x.1.2.2)):=by
 obtain⟨hlen,⟨h0,_⟩|⟨g',cap',cur,hv,_,hgg,hn,hm,hcs,htk⟩⟩:=id h
 ·cases h0
 cases hv;have e1:=setCell_eq_setRow w g (k*3) _ _ _ (.int .u64 x.1.1) hgg;have hg2:=setRow_heap w g _ (cur.setIfInBounds (k*3) (.int .u64 x.1.1)) _ _ hgg;have e2:=setCell_eq_setRow (w.setRow g (cur.setIfInBounds (k*3) (.int .u64 x.1.1))) g (k*3+1) _ _ _ (.int .u64 x.1.2.1) hg2;have hg3:=setRow_heap (w.setRow g (cur.setIfInBounds (k*3) (.int .u64 x.1.1))) g _ ((cur.setIfInBounds (k*3) (.int .u64 x.1.1)).setIfInBounds (k*3+1) (.int .u64 x.1.2.1)) _ _ hg2;have e3:=setCell_eq_setRow ((w.setRow g (cur.setIfInBounds (k*3) (.int .u64 x.1.1))).setRow g ((cur.setIfInBounds (k*3) (.int .u64 x.1.1)).setIfInBounds (k*3+1) (.int .u64 x.1.2.1))) g (k*3+2) _ _ _ (.int .u64 x.1.2.2) hg3;rw[e1,e2,e3];have hg4:=setRow_heap ((w.setRow g (cur.setIfInBounds (k*3) (.int .u64 x.1.1))).setRow g ((cur.setIfInBounds (k*3) (.int .u64 x.1.1)).setIfInBounds (k*3+1) (.int .u64 x.1.2.1))) g _ (((cur.setIfInBounds (k*3) (.int .u64 x.1.1)).setIfInBounds (k*3+1) (.int .u64 x.1.2.1)).setIfInBounds (k*3+2) (.int .u64 x.1.2.2)) _ _ hg3;refine⟨⟨by rw[iq]at hlen⊢;simpa using hlen,Or.inr ⟨g,cap,_,rfl,zL _,hg4,hn,hm,by simpa using hcs, ?_⟩⟩,⟨rfl,rfl,rfl,by simp[World.setRow],fun j _ hne=> ?_⟩⟩
 ·rw[Array.toList_setIfInBounds,Array.toList_setIfInBounds,Array.toList_setIfInBounds,List.take_set,List.take_set,List.take_set,htk];exact TI L k x
 ·rw[setRow_other _ g j _ (by omega),setRow_other _ g j _ (by omega),setRow_other _ g j _ (by omega)]
theorem RZ(z:Bool)(u:Value)(m:List Tm)(k:Nat)(x:Tm)(w:World)(hown:w.ownsRow 0 (nm z).t1 3 u m.length (eO m))(hk:k<=m.length)(hl:(m.length+1)*24<=140737488355328):
    Calls Tryz.prog (nm z).pt #[u, .int .i64 k,tv x] w fun e w'=>∃g cap,e= .returned (.slice (some ⟨g,0,none⟩) (m.length+1) cap)/\w'.ownsRow 0 (nm z).t1 3 (.slice (some ⟨g,0,none⟩) (m.length+1) cap) (m.length+1) (eO (m.take k++x::m.drop k))/\Kp (fun j=>u.ownBlock=some j) w w'/\(u.ownBlock=some g\/w.heap.size<=g):=by
 let zq:=z
 rcases Bool.eq_false_or_eq_true z with rfl|rfl;all_goals
  (try dsimp only[nm])
  have hmx:Tryz.prog.follows .mixedOrders=true:=by kernel_rfl
  generalize hn:m.length=n at *;have HN:Hid (m.length=n):=hn;clear hn;first|go_enter Tryz.func256,Tryz.ntmps256|go_enter Tryz.func191,Tryz.ntmps191
  go_wp2_with (at_builtin;refine gu zq rfl _ _ rfl 0 u n (eO m) rfl (hown.alloc _) x (by show Value.slice (some ⟨w.heap.size+1,0,none⟩) 1 1=_;simp) (by omega) (zL _) ?_);intro g cap w1 ho1 hg1 hl1;have hb1:Kp (fun j=>u.ownBlock=some j) w w1:=(Kp.of_below ((Gr.refl w).alloc _).below).trans (Kp.grownBy (S:=fun j=>u.ownBlock=some j) hg1 (fun _ h=>h)) (fun _ _ h=>h);have hlt1:w.heap.size<w1.heap.size:=nL (by simp) hg1.size;have hne:u.ownBlock≠some w.heap.size:=fun h=>by have:=(hown.lt _ h).2;omega
  have q1:w1.cell? ⟨w.heap.size,0,none⟩=some (.int .u64 x.1.1):=hg1.cell (a:=⟨w.heap.size,0,none⟩) (by simp) (fun h=>hne h.symm);have q2:w1.cell? ⟨w.heap.size,1,none⟩=some (.int .u64 x.1.2.1):=hg1.cell (a:=⟨w.heap.size,1,none⟩) (by simp) (fun h=>hne h.symm);have q3:w1.cell? ⟨w.heap.size,2,none⟩=some (.int .u64 x.1.2.2):=hg1.cell (a:=⟨w.heap.size,2,none⟩) (by simp) (fun h=>hne h.symm);have aak:Hid (w1.ownsRow 0 (nm zq).t1 3 (.slice (some ⟨g,0,none⟩) (n+1) cap) (n+1) (eO (m++[x]))):=by
   show World.ownsRow _ _ _ _ _ _ _;rw[jB,vF];exact ho1
  obtain⟨hcp1,hcp2⟩:n+1<=cap/\cap<=maxLen:=by
   obtain⟨_,⟨h0,_⟩|⟨g',cap',cur,hv,_,_,hn,hm,_⟩⟩:=ho1
   ·cases h0
   ·cases hv;exact⟨hn,hm⟩
  have hgl:g<w1.heap.size:=(ho1.lt g rfl).2;have hgn:g≠w.heap.size:=by
   rcases hl1 with h|h
   ·have:=(hown.lt g h).2;omega
   ·first|omega|(simp at h;omega)
  unfold maxLen at hcp2;clear ho1 hg1;have z1:(0:Int)<=(k:Int):=by omega
  have z2:(k:Int)+1<=((n+1:Nat):Int):=by omega
  have z3:(k:Int)<=((n+1:Nat):Int):=by omega
  have z4:¬cap=k:=by omega
  have hwk:IntKind.i64.wrap ((k:Int)+1)=(k:Int)+1:=by rw[IntKind.wrap_i64];omega
  have z6:(0:Int)<=(k:Int)+1:=by omega
  have z7:(k:Int)+1<=(n:Int)+1:=by omega
  have z8:(k:Int)<=(n:Int)+1:=by omega
  have z9:((k:Int)+1).toNat=k+1:=by omega
  have z5:n+1-(k+1)=n-k:=by omega
  have HMX:Hid ((m++[x]).length=n+1):=by simp[Hid,HN.o]
  go_upto_region 2 with fail;go_cut [18] (fun _ w'=>w'.ownsRow 0 (nm zq).t1 3 (.slice (some ⟨g,0,none⟩) (n+1) cap) (n+1) (eO ((m++[x]).take (k+1)++((m++[x]).drop k).take (n-k)))/\Kp (fun j=>j=g) w1 w');case first=>
   by_cases hcc:cap=k+1
   ·subst hcc;go_region_law (refine vZ zq rfl (.tmp 14) (.tmp 17) rfl g n (k+1) k 0 0 1 (m++[x]) HMX.o hk (by simp[Act.eval,Act.put]) (Or.inr ⟨by omega,rfl⟩) (by simp[Act.eval,Act.put]) aak.o ?_;intro w2 ho2 hk2);all_goals (go_wp2_with fail;go_meet;exact⟨ho2,⟨hk2.os,hk2.tape,hk2.output,hk2.size,hk2.block⟩⟩)
   ·go_region_law (refine vZ zq rfl (.tmp 14) (.tmp 17) rfl g n cap k ((k+1)*3) (cap-(k+1)) (cap-k) (m++[x]) HMX.o hk (by simp[Act.eval,Act.put]) (Or.inl rfl) (by simp[Act.eval,Act.put]) aak.o ?_;intro w2 ho2 hk2);all_goals (go_wp2_with fail;go_meet;exact⟨ho2,⟨hk2.os,hk2.tape,hk2.output,hk2.size,hk2.block⟩⟩)
  case rest=>
   obtain⟨ho2,hk2⟩:=hcut;have HS:Hid (((m++[x]).take (k+1)++((m++[x]).drop k).take (n-k)).set k x=m.take k++x::m.drop k):=Ny m x n k HN.o hk;have hL:((m++[x]).take (k+1)++((m++[x]).drop k).take (n-k)).length=n+1:=by
    have:=HMX.o;simp at this⊢;omega
   generalize (m++[x]).take (k+1)++((m++[x]).drop k).take (n-k)=L2 at *;obtain⟨y,hy⟩:∃y,L2[k]? =some y:=⟨L2[k]'(by omega),by simp⟩;have HT:=(dC (ts:=L2) (by rw[hL];exact ho2)).at3 hy;obtain⟨b1,o1,c1,e1,zz,y1,y2,y3⟩:=HT;simp only[vS,oI,aI]at e1;obtain⟨⟨rfl,rfl,-⟩,-,rfl⟩:=e1;rw[nZ]at y1 y2 y3;obtain⟨f1,f2,f3⟩:wc.frozen? ⟨g,k*3,none⟩=false/\wc.frozen? ⟨g,k*3+1,none⟩=false/\wc.frozen? ⟨g,k*3+2,none⟩=false:=by
    obtain⟨_,⟨h0,_⟩|⟨g',cap',cur,hv,_,hgg,_⟩⟩:=id ho2
    ·cases h0
    ·cases hv;simp[World.frozen?,hgg]
   have q1':wc.cell? ⟨w.heap.size,0,none⟩=some (.int .u64 x.1.1):=(yY (a:=⟨w.heap.size,0,none⟩) (hk2.block w.heap.size hlt1 (fun h=>hgn h.symm))).trans q1;have q2':wc.cell? ⟨w.heap.size,1,none⟩=some (.int .u64 x.1.2.1):=(yY (a:=⟨w.heap.size,1,none⟩) (hk2.block w.heap.size hlt1 (fun h=>hgn h.symm))).trans q2;have q3':wc.cell? ⟨w.heap.size,2,none⟩=some (.int .u64 x.1.2.2):=(yY (a:=⟨w.heap.size,2,none⟩) (hk2.block w.heap.size hlt1 (fun h=>hgn h.symm))).trans q3;have zl:(k:Int)<(n:Int)+1:=(by omega);have zl2:(k:Int)<((n+1:Nat):Int):=(by omega);clear q1 q2 q3 hwk z6 z7 z8 z9 z4 z5 z2 z3 hy;go_wp2;go_ret;obtain⟨ho3,hk3⟩:=zC zq (k:=k) x ho2;rw[HS.o]at ho3;refine⟨g,cap,rfl,ho3, ?_,hl1.imp id (fun h=>by first|omega|(simp at h;omega))⟩;refine hb1.trans ((hk2.trans hk3 (fun _ _ h=>h))) (fun j hj h=> ?_);subst h;rcases hl1 with h|h
   ·exact h
   ·exact absurd hj (by first|omega|(simp at h;omega))
def UD(z:Bool)(w:World)(cb fb ff:Nat)(v:Value):Prop:=w.heap[cb]? =some (.cells #[fv fb,fv ff,v] (nm z).t3 (0,0))
theorem UD.set{v2:Value}{l2:List Tm}(h:UD z w cb fb ff v)(ho:w.ownsRow 0 (nm z).t1 3 v2 l2.length (eO l2))(hoff:v2.ownBlock≠some cb):Ch z (w.setCell ⟨cb,2,none⟩ v2) cb fb ff v2 l2/\Kp (fun k=>k=cb) w (w.setCell ⟨cb,2,none⟩ v2):=by
 have e:=setCell_eq_setRow w cb 2 _ _ _ v2 h;have hk:Kp (fun k=>k=cb) w (w.setCell ⟨cb,2,none⟩ v2):=by
  rw[e];exact⟨rfl,rfl,rfl,by simp[World.setRow],fun k _ hne=>setRow_other w cb k _ (by omega)⟩
 refine⟨⟨?_,av hk ho (fun k hk he=>hoff (he ▸ hk)),hoff⟩,hk⟩;rw[e,setRow_heap w cb _ _ _ _ h];simp
theorem UD.cells(h:UD z w cb fb ff v):w.cell? ⟨cb,2,none⟩=some v/\w.frozen? ⟨cb,2,none⟩=false/\cb<w.heap.size:=by
 unfold UD at h;exact⟨by simp[World.cell?,h],by simp[World.frozen?,h],(aG.1 h).1⟩
theorem jw{l:List Tm}{ay fst:Tm->Tm->Bool}(x:Tm)(w:World)(hc:Ch z w cb fb ff v l)(hl:(l.length+1)*24<=140737488355328)(hB:dY fb ay)(hF:dY ff fst):
    Calls Tryz.prog (nm z).is #[.pointer (some ⟨cb,0,none⟩),tv x] w fun e w'=>∃v',e= .returned (.bool (!bE ay l x))/\Ch z w' cb fb ff v' (gB ay fst l x)/\dW cb v v' w w':=by
 let zq:=z
 rcases Bool.eq_false_or_eq_true z with rfl|rfl;all_goals
  (try dsimp only[nm])
  obtain⟨W1,hW1⟩:=aC (w.alloc (.cells #[.int .u64 x.1.1, .int .u64 x.1.2.1, .int .u64 x.1.2.2] (nm zq).t1));dsimp only[nm,zq]at hW1;have G1:Gr w W1:=by rw[hW1];exact(Gr.refl _).alloc _
  have hz:w.heap.size<W1.heap.size:=by rw[hW1];simp
  have HB1:Hid (W1.cell? ⟨w.heap.size,0,none⟩=some (.int .u64 x.1.1)):=by rw[hW1];simp[Hid]
  have HB2:Hid (W1.cell? ⟨w.heap.size,1,none⟩=some (.int .u64 x.1.2.1)):=by rw[hW1];simp[Hid]
  have HB3:Hid (W1.cell? ⟨w.heap.size,2,none⟩=some (.int .u64 x.1.2.2)):=by rw[hW1];simp[Hid]
  have hc1:=hc.below G1.below;have h1:=qy x W1 hc1 (by omega) hB;have HC:Hid (Ch zq w cb fb ff v l):=hc;have HZ:Hid (w.heap.size<W1.heap.size):=hz;cases hcv:bE ay l x with
  | true=>
   have HE:Hid (gB ay fst l x=l):=(by unfold gB;rw[hcv];simp[Hid]);rw[hcv]at h1;rw[HE.o];clear hcv hc hc1 hz;subst hW1;first|go_enter Tryz.func207,Tryz.ntmps207|go_enter Tryz.func128,Tryz.ntmps128
   go_wp2_with fail;refine h1.mono ?_;rintro e w2 ⟨rfl,hg2⟩;go_wp2;go_ret;exact⟨v,rfl,HC.o.below (G1.trans hg2).below,dW.of_below (G1.trans hg2).below⟩
  | false=>
   have HE:Hid (gB ay fst l x=xS fst (dG ay l x) x):=(by unfold gB;rw[hcv];simp[Hid]);rw[hcv]at h1;rw[HE.o];have h2:=fun(W:World) (hW:Gr W1 W)=>uf (ay:=ay) x W (hc1.below hW.below) (by omega) hB;have ru:=gH (ay:=ay) l x;generalize hm:dG ay l x=m at *;clear hcv hc hc1 hz hm;subst hW1;first|go_enter Tryz.func207,Tryz.ntmps207|go_enter Tryz.func128,Tryz.ntmps128
   go_wp2_with fail;refine h1.mono ?_;rintro e w2 ⟨rfl,hg2⟩;have a1:=(hg2.cell HZ.o).trans HB1.o;have a2:=(hg2.cell HZ.o).trans HB2.o;have a4:=(hg2.cell HZ.o).trans HB3.o;have a3:=nL HZ.o hg2.size;have h2':=h2 w2 hg2;have A2:Hid (Below w.heap.size w w2):=(G1.trans hg2).below;clear h1 h2;go_wp2_with fail;refine h2'.mono ?_;rintro e w3 ⟨v3,rfl,ho3,hb3,hor⟩;have b1:=(hb3.cell (p:=⟨w.heap.size,0,none⟩) a3).trans a1;have b2:=(hb3.cell (p:=⟨w.heap.size,1,none⟩) a3).trans a2;have b4:=(hb3.cell (p:=⟨w.heap.size,2,none⟩) a3).trans a4;have b3:=nL a3 hb3.size;have A3:Hid (Below w.heap.size w w3):=A2.o.trans (hb3.mono (nE a3));have hc3:Hid (Ch zq w3 cb fb ff v l):=HC.o.below A3.o;have h3:=Kr x w3 hc3.o (dC ho3) (by omega) hF;have hpl:m.findIdx (fun y=>fst x y)<=m.length:=List.findIdx_le_length;have FH:Hid (xS fst m x=m.take (m.findIdx fun y=>fst x y)++x::m.drop (m.findIdx fun y=>fst x y)):=rfl;generalize List.findIdx (fun y=>fst x y) m=at_ at *;have Vl:Hid (w3.ownsRow 0 (nm zq).t1 3 v3 m.length (eO m)):=ho3;have HOR:Hid (v3=v\/∀g,v3.ownBlock=some g->w2.heap.size<=g):=hor;clear a1 a2 a4 h2' ho3 hor;go_wp2_with fail;refine h3.mono ?_;rintro e w4 ⟨rfl,hg4⟩;have c1:=(hg4.cell b3).trans b1;have c2:=(hg4.cell b3).trans b2;have c4:=(hg4.cell b3).trans b4;have c3:=nL b3 hg4.size;have h4:=RZ zq v3 m at_ x w4 (ag Vl.o hg4.below) hpl (by omega);clear b1 b2 b4 h3;go_wp2_with fail;refine h4.mono ?_;rintro e w5 ⟨g,cap,rfl,Eb,hk5,aaj⟩;have hlt:=HC.o.lt;have JF:v3.ownBlock≠some cb:=by
    intro h;rcases HOR.o with rfl|h'
    ·exact HC.o.off h
    ·have:=h' cb h;omega
   have A4:Hid (Below w.heap.size w w4):=A3.o.trans (hg4.below.mono (nE b3));have aaz:UD zq w4 cb fb ff v:=(HC.o.below A4.o).blk;have hblk5:UD zq w5 cb fb ff v:=(hk5.block cb (nU hlt c3) JF).trans aaz;obtain⟨d1,d2,d3⟩:=hblk5.cells;clear c1 c2 c4 h4;go_wp2;go_ret;have abJ:(Value.slice (some ⟨g,0,none⟩) (m.length+1) cap).ownBlock≠some cb:=by
    simp only[Value.ownBlock];intro h;rcases aaj with h'|h'
    ·exact JF (h'.trans h)
    ·simp at h;omega
   have hlen:(xS fst m x).length=m.length+1:=uy m x;obtain⟨hch,hks⟩:=hblk5.set (v2:= .slice (some ⟨g,0,none⟩) (m.length+1) cap) (l2:=xS fst m x) (by rw[hlen,FH.o];exact Eb) abJ;refine⟨_,rfl,hch,⟨?_, ?_⟩⟩
   ·refine((Kp.of_below A4.o).trans hk5 (fun j hj h=> ?_)).trans hks (fun j _ h=>Or.inl h);rcases HOR.o with rfl|h'
    ·exact Or.inr h
    ·have:=h' j h;omega
   ·intro g' hg';simp[Value.ownBlock]at hg';subst hg';rcases aaj with h'|h'
    ·rcases HOR.o with rfl|h''
     ·exact Or.inl h'
     ·right;have:=h'' _ h';omega
    ·right;omega
end Cz
namespace Cn
open Cz
open Go.RowKit Go.Sort
attribute[local go_sem ↓]wp_at_zero wp_at_succ
theorem tH(v:Value)(l:List Tm)(w:World)(hv:og w v l)(hl:l.length*24<=140737488355328):
    Calls Tryz.prog 150 #[v] w fun e w'=>∃v',e= .returned v'/\w'.ownsRow w.heap.size 45 3 v' l.length (eO l)/\Below w.heap.size w w':=by
 have HV:Hid (og w v l):=hv;have hen:=fun(W:World) (a:Option Addr) (n c:Nat)=>Lib.run_eql_slice_nil (P:=Tryz.prog) W 39 45 a n c 0 0 Tryz.underlying39;rcases hv with⟨rfl,rfl⟩|⟨b,off,c,rfl,hb,ht⟩
 ·go_enter Tryz.func150,Tryz.ntmps150;go_wp2;go_ret;exact⟨_,rfl,oN _ _ _ _,Below.refl _ _⟩
 ·clear ht;go_enter Tryz.func150,Tryz.ntmps150;go_wp2_with (at_builtin;refine Cz.jV true rfl _ _ rfl w.heap.size (.slice (some ⟨w.heap.size,0,none⟩) 0 0) 0 [] rfl (World.ownsRow_made w #[] 0 (nR _) (by unfold maxLen;omega) rfl) _ l rfl (HV.o.below ((Gr.refl w).alloc _).below) (by omega) (by simp) ?_);intro v' w' h1 h2;go_wp2;go_ret;refine⟨_,rfl,by simpa using h1, ?_⟩;exact((Gr.refl w).alloc _).below.trans ((Kp.grownBy (S:=fun k=>w.heap.size<=k) h2 (fun k hk=>by simp[Value.ownBlock]at hk;omega)).below (by simp) (fun _ h=>h))
theorem kJ{l:List Tm}(w:World)(hc:Ch true w cb fb ff v l)(hl:l.length*24<=140737488355328):
    Calls Tryz.prog 87 #[.pointer (some ⟨cb,0,none⟩)] w fun e w'=>∃v',e= .returned v'/\w'.ownsRow w.heap.size 45 3 v' l.length (eO l)/\Below w.heap.size w w':=by
 have h:=tH v l w hc.qC hl;have k2:=hc.c2;have kl:=hc.lt;clear hc;go_enter Tryz.func87,Tryz.ntmps87;go_wp2_with fail;refine h.mono ?_;rintro e w1 ⟨v',rfl,h1,h2⟩;go_wp2;go_ret;exact⟨_,rfl,h1,h2⟩
theorem EN{ay fst:Tm->Tm->Bool}(l vs us:List Tm):kN ay fst l (vs++us)=kN ay fst l vs+kN ay fst (bg ay fst l vs) us:=by
 induction vs generalizing l with
 | nil => simp[kN,bg]
 | cons v vs ih => rw[List.cons_append,kN,ih,kN,yc,Nat.add_assoc]
theorem xW{ay fst:Tm->Tm->Bool}{l vs:List Tm}{x:Tm}(h:vs[k]? =some x):kN ay fst l (vs.take (k+1))=kN ay fst l (vs.take k)+(if bE ay (bg ay fst l (vs.take k)) x then 0 else 1):=by
 rw[tO,h,EN];simp[kN]
theorem TY{ay fst:Tm->Tm->Bool}(l vs:List Tm):kN ay fst l vs<=vs.length:=by
 induction vs generalizing l with
 | nil => simp[kN]
 | cons v vs ih => rw[kN,lC];have:=ih (gB ay fst l v);split <;> omega
theorem OC{u:Value}{l vs:List Tm}{ay fst:Tm->Tm->Bool}(w:World)(hc:Ch true w cb fb ff v l)(hu:og w u vs)(hap:∀k,u.ownBlock=some k->k≠cb/\v.ownBlock≠some k)(hl:(l.length+vs.length)*24<=140737488355328)(hB:dY fb ay)(hF:dY ff fst):
    Calls Tryz.prog 203 #[.pointer (some ⟨cb,0,none⟩),u] w fun e w'=>e= .returned (.int .i64 (kN ay fst l vs:Nat))/\∃v',Ch true w' cb fb ff v' (bg ay fst l vs)/\dW cb v v' w w':=by
 obtain⟨pu,cu,rfl⟩:=hu.form;have HU:Hid (og w (.slice pu vs.length cu) vs):=hu;have HA:Hid (∀k,(Value.slice pu vs.length cu).ownBlock=some k->k≠cb/\v.ownBlock≠some k):=hap;have HC:Hid (Ch true w cb fb ff v l):=hc;clear hu hap hc;go_enter Tryz.func203,Tryz.ntmps203;go_wp2_with fail;go_loopw [5,7,10] (fun s5 _ s10 wr=>∃(k:Nat) (vr:Value),k<=vs.length/\s10= .int .i64 k/\s5= .int .i64 (kN ay fst l (vs.take k):Nat)/\Hid (Ch true wr cb fb ff vr (bg ay fst l (vs.take k))/\dW cb v vr w wr)) (fun _ _ s10 _=>vs.length-(intOf s10).toNat);case atStart=>exact⟨0,v,zL _,rfl,rfl,HC.o,dW.refl _ _ _⟩
 case round=>
  obtain⟨k,vr,hk,rfl,rfl,HI⟩:=hrel;obtain⟨hch,htu⟩:=HI.o;by_cases hlt:k<vs.length
  ·have hltz:(k:Int)<(vs.length:Int):=(by omega);obtain⟨x,hx⟩:∃x,vs[k]? =some x:=⟨vs[k],by simp⟩;have HLw:og wr (.slice pu vs.length cu) vs:=htu.1.ls HU.o (fun j hj hs=>by
    obtain⟨h1,h2⟩:=HA.o j hj;rcases hs with hs|hs
    ·exact h1 hs
    ·exact h2 hs)
   obtain⟨b1,o1,c1,e1,z1,x1,x2,x3⟩:=HLw.at3 hx;simp only[vS]at e1;obtain⟨rfl,-,rfl⟩:=e1;clear HLw;have hjl:=gV (ay:=ay) (fst:=fst) l (vs.take k);have htl:(vs.take k).length=k:=(by simp;omega);have HJ:Hid (bg ay fst l (vs.take (k+1))=gB ay fst (bg ay fst l (vs.take k)) x):=uP hx;have HN:Hid (kN ay fst l (vs.take (k+1))=kN ay fst l (vs.take k)+(if bE ay (bg ay fst l (vs.take k)) x then 0 else 1)):=xW hx
   have hnl:=TY (ay:=ay) (fst:=fst) l (vs.take k);rw[htl]at hjl hnl;clear hx;generalize bg ay fst l (vs.take k)=f at *;generalize kN ay fst l (vs.take k)=q at *;have hi:=jw x (wr.alloc (.cells #[.int .u64 x.1.1, .int .u64 x.1.2.1, .int .u64 x.1.2.2] 45)) (hch.below ((Gr.refl _).alloc _).below) (by omega) hB hF;have HT:Hid (dW cb v vr w (wr.alloc (.cells #[.int .u64 x.1.1, .int .u64 x.1.2.1, .int .u64 x.1.2.2] 45))):=htu.trans (dW.of_below ((Gr.refl _).alloc _).below);clear hch htu HI;cases hq:bE ay f x with
   | true=>
    rw[hq]at hi;have HN':Hid (kN ay fst l (vs.take (k+1))=q):=(by rw[HN.o,hq];simp[Hid]);go_wp2_with fail;refine hi.mono ?_;rintro e w2 ⟨v2,rfl,Xj,WL⟩;go_wp2;refine⟨⟨k+1,v2,by omega,by go_num,by rw[HN'.o],by rw[HJ.o];exact Xj,HT.o.trans WL⟩,by simp[intOf];omega⟩
   | false=>
    rw[hq]at hi;have HN':Hid (kN ay fst l (vs.take (k+1))=q+1):=(by rw[HN.o,hq];simp[Hid]);go_wp2_with fail;refine hi.mono ?_;rintro e w2 ⟨v2,rfl,Xj,WL⟩;go_wp2;refine⟨⟨k+1,v2,by omega,by go_num,by rw[HN'.o];go_num,by rw[HJ.o];exact Xj,HT.o.trans WL⟩,by simp[intOf];omega⟩
  ·have hltz:¬(k:Int)<(vs.length:Int):=(by omega);rw[tL (by omega)]at hch;have HE:Hid (vs.take k=vs):=tL (by omega);go_wp2;go_ret;exact⟨by rw[HE.o];rfl,vr,hch,htu⟩
theorem JQ{l:List Tm}{ay:Tm->Tm->Bool}(x:Tm)(w:World)(hc:Ch true w cb fb ff v l)(hl:l.length*24<=140737488355328)(hB:dY fb ay):
    Calls Tryz.prog 200 #[.pointer (some ⟨cb,0,none⟩),tv x] w fun e w'=>∃v',e= .returned (.int .i64 ((l.length-(dG ay l x).length:Nat):Int))/\Ch true w' cb fb ff v' (dG ay l x)/\Kp (fun k=>k=cb) w w'/\∀g,v'.ownBlock=some g->v.ownBlock=some g\/w.heap.size<=g:=by
 obtain⟨W1,hW1⟩:=aC (w.alloc (.cells #[.int .u64 x.1.1, .int .u64 x.1.2.1, .int .u64 x.1.2.2] 45));have G1:Gr w W1:=by rw[hW1];exact(Gr.refl _).alloc _
 have HZ:Hid (w.heap.size<W1.heap.size):=by rw[hW1];simp[Hid]
 have hc1:=hc.below G1.below;have h1:=uf (ay:=ay) x W1 hc1 hl hB;have ru:=gH (ay:=ay) l x;generalize hm:dG ay l x=m at *;have HC:Hid (Ch true w cb fb ff v l):=hc;obtain⟨pl,cl,rfl⟩:=hc.qC.form;clear hm hc hc1;subst hW1;go_enter Tryz.func200,Tryz.ntmps200;go_wp2_with fail;refine h1.mono ?_;rintro e w3 ⟨v3,rfl,ho3,hb3,hor⟩;have A3:Hid (Below w.heap.size w w3):=G1.below.trans (hb3.mono (nE HZ.o));obtain⟨d1,d2,d3⟩:=UD.cells (HC.o.below A3.o).blk;obtain⟨p3,c3,rfl⟩:=(dC ho3).form;have zz:IntKind.i64.wrap ((l.length:Int)-(m.length:Int))=((l.length-m.length:Nat):Int):=by rw[IntKind.wrap_i64];omega
 clear h1;go_wp2;go_ret;have hlt:=HC.o.lt;have JF:(Value.slice p3 m.length c3).ownBlock≠some cb:=by
  intro h;rcases hor with h'|h'
  ·exact HC.o.off (h' ▸ h)
  ·have:=h' cb h;have:=HZ.o;omega
 obtain⟨hch,hks⟩:=UD.set (HC.o.below A3.o).blk (v2:= .slice p3 m.length c3) (l2:=m) ho3 JF;refine⟨_,by first|rfl|simp,hch,(Kp.of_below A3.o).trans hks (fun _ _ h=>h),fun g hg=> ?_⟩;rcases hor with h'|h'
 ·left;rw[<-h'];exact hg
 ·right;have:=h' g hg;have:=HZ.o;omega
theorem gQ{l:List Tm}(w:World)(hc:Ch true w cb fb ff v l):
    Calls Tryz.prog 201 #[.pointer (some ⟨cb,0,none⟩)] w fun e w'=>e= .returned (.int .i64 (l.length:Nat))/\w'=w:=by
 obtain⟨pl,cl,rfl⟩:=hc.qC.form;have k2:=hc.c2;have kl:=hc.lt;go_enter Tryz.func201,Tryz.ntmps201;go_wp2;go_ret;exact⟨rfl,rfl⟩
end Cn
end Go.Proofs.YtiiefcalkjeieaaGreat
