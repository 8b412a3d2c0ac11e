import Derived.Test.YtiiefcalkjeieaaGreatGCopd
variable{z:Bool}{i m cb k fb ff p:Nat}{v:Go.Value}{w:Go.World}{o:Go.Oper}{a:Go.Act}
set_option maxHeartbeats 2000000
set_option maxRecDepth 100000
namespace Go.Proofs.YtiiefcalkjeieaaGreat
namespace Df
open Go.RowKit Go.Sort
abbrev Vg:=Nat×Nat×Bool
def kX(i:Nat)(n:dx):List Vg:=(List.range n.ins.toNat).map (fun p=>(i,p,true))++(List.range n.outs.toNat).map (fun p=>(i,p,false))
def aV(ns:List dx):Nat->List Vg
 | 0 => []
 | i + 1 => aV ns i++match ns[i]? with | some n=>kX i n | none=>[]
def bM(ns:List dx)(i:Nat):Nat:=(aV ns i).length
def bO(ns:List dx)(i:Nat):List Int:=(List.range i).map fun k=>(bM ns k:Int)
theorem jL{ns:List dx}{n:dx}(hi:ns[i]? =some n):aV ns (i+1)=aV ns i++kX i n:=by simp[aV,hi]
theorem wB(i:Nat)(n:dx):(kX i n).length=n.ins.toNat+n.outs.toNat:=by simp[kX]
theorem uw{ns:List dx}{n:dx}(hi:ns[i]? =some n):bM ns (i+1)=bM ns i+(n.ins.toNat+n.outs.toNat):=by simp[bM,jL hi,wB]
theorem Eu(ns:List dx)(i:Nat):bO ns (i+1)=bO ns i++[(bM ns i:Int)]:=by simp[bO,List.range_succ]
theorem iC(ns:List dx)(i:Nat):(bO ns i).length=i:=by simp[bO]
theorem xN(ns:List dx)(h:i<m):(bO ns m)[i]? =some (bM ns i:Int):=by simp[bO,h]
theorem Gg(ns:List dx)(h:i<=m):∃l,aV ns m=aV ns i++l:=by
 induction m with
 | zero => obtain rfl:i=0:=by omega
           exact⟨[],by simp⟩
 | succ m ih=>
  by_cases e:i=m+1
  ·subst e;exact⟨[],by simp⟩
  ·obtain⟨l,hl⟩:=ih (by omega);exact⟨l++_,by rw[aV,hl,aA]⟩
def Vi(ns:List dx):Prop:=∀n∈ns,0<=n.ins/\n.ins<=4/\0<=n.outs/\n.outs<=4
theorem oP{ns:List dx}(h:Vi ns)(i:Nat):bM ns i<=8*i:=by
 induction i with
 | zero => simp[bM,aV]
 | succ i ih=>
  cases hi:ns[i]? with
  | none => simp only[bM,aV,hi,FP]at ih⊢;omega
  | some n=>
   rw[uw hi];have:=h n (lM hi);omega
theorem zk{ns:List dx}{t:Vg}(h:i<=m)(hk:(aV ns i)[k]? =some t):(aV ns m)[k]? =some t:=by
 obtain⟨l,hl⟩:=Gg ns h;rw[hl,gL (lG.1 hk).1];exact hk
theorem Dp{ns:List dx}{n:dx}(hi:ns[i]? =some n)(hm:i<m)(hp:p<n.ins.toNat):(aV ns m)[bM ns i+p]? =some (i,p,true):=by
 refine zk (i:=i+1) hm ?_;rw[jL hi,Vv (by simp[bM]),bM,Nat.add_sub_cancel_left,kX,gL (by simpa using hp)];simp[hp]
theorem zn{ns:List dx}{n:dx}(hi:ns[i]? =some n)(hm:i<m)(hp:p<n.outs.toNat):(aV ns m)[bM ns i+n.ins.toNat+p]? =some (i,p,false):=by
 refine zk (i:=i+1) hm ?_;rw[jL hi,Vv (by simp[bM];omega),bM,show(aV ns i).length+n.ins.toNat+p-(aV ns i).length=n.ins.toNat+p by omega,kX,Vv (by simp)];simp[hp]
def eB(ns:List dx)(d:dQ):Nat:=bM ns d.src.toNat+(match ns[d.src.toNat]? with|some n=>n.ins.toNat|none=>0)+d.o.toNat
def iR(ns:List dx)(d:dQ):Nat:=bM ns d.dst.toNat+d.df.toNat
def iw(ns:List dx)(es:List dQ)(k:Nat):Nat->List Int
 | 0 => []
 | j + 1 => iw ns es k j++match es[j]? with | some d=>if eB ns d=k\/iR ns d=k then[(j:Int)]else[] | none=>[]
theorem yS(ns:List dx)(es:List dQ)(k j:Nat):(iw ns es k j).length<=j:=by
 induction j with
 | zero => simp[iw]
 | succ j ih=>
  rw[iw,dO];have:(match es[j]? with|some d=>if eB ns d=k\/iR ns d=k then[(j:Int)]else[]|none=>[]).length<=1:=by
   split
   ·split<;>simp
   ·simp
  omega
theorem rz{ns:List dx}{i p:Int}(h:fD ns i p=true):∃n,ns[i.toNat]? =some n/\0<=i/\i.toNat<ns.length/\0<=p/\p<n.outs:=by
 unfold fD jv at h;by_cases h0:0<=i
 ·rw[if_pos h0]at h;cases e:ns[i.toNat]? with
  | none => rw[e]at h;cases h
  | some n=>
   rw[e]at h;simp at h;exact⟨n,rfl,h0,(lG.1 e).1,h.1,h.2⟩
 ·rw[if_neg h0]at h;cases h
theorem xG{ns:List dx}{i p:Int}(h:fE ns i p=true):∃n,ns[i.toNat]? =some n/\0<=i/\i.toNat<ns.length/\0<=p/\p<n.ins:=by
 unfold fE jv at h;by_cases h0:0<=i
 ·rw[if_pos h0]at h;cases e:ns[i.toNat]? with
  | none => rw[e]at h;cases h
  | some n=>
   rw[e]at h;simp at h;exact⟨n,rfl,h0,(lG.1 e).1,h.1,h.2⟩
 ·rw[if_neg h0]at h;cases h
theorem La{ns:List dx}{l:List dQ}{d:dQ}(h:jC ns l d=0):fD ns d.src d.o=true/\fE ns d.dst d.df=true/\yj l d=false:=by
 unfold jC at h;split at h
 ·cases h
 ·rename_i hn;simp only[not_or,Bool.not_eq_false,Bool.not_eq_true]at hn;exact hn
theorem wW{ns:List dx}{d:dQ}(h:fD ns d.src d.o=true):(aV ns ns.length)[eB ns d]? =some (d.src.toNat,d.o.toNat,false):=by
 obtain⟨n,hn,_,hl,h1,h2⟩:=rz h;unfold eB;rw[hn];exact zn hn hl (by omega)
theorem BM{ns:List dx}{d:dQ}(h:fE ns d.dst d.df=true):(aV ns ns.length)[iR ns d]? =some (d.dst.toNat,d.df.toNat,true):=by
 obtain⟨n,hn,_,hl,h1,h2⟩:=xG h;exact Dp hn hl (by omega)
theorem TL{ns:List dx}{d:dQ}(h:fD ns d.src d.o=true)(h':fE ns d.dst d.df=true):eB ns d≠iR ns d:=fun e=>by
 have h1:=wW h;have h2:=BM h';rw[e,h2]at h1;simp at h1
def QH(ns:List dx)(i p:Int):Int:=if fE ns i p=true then bM ns i.toNat+p else -1
def yL(ns:List dx)(i p:Int):Int:=if fD ns i p=true then bM ns i.toNat+(match ns[i.toNat]? with|some n=>n.ins|none=>0)+p else -1
theorem jQ{a:Int}{n:dx}(h:eH a n=0):0<=n.ins/\n.ins<=4/\0<=n.outs/\n.outs<=4:=by
 unfold eH at h;split at h
 ·cases h
 ·split at h
  ·cases h
  ·rename_i h1 h2;have h2:=Classical.not_not.1 h2;obtain⟨h3,h4⟩:=h2;unfold Jj at h3;unfold qW at h4;constructor
   ·split at h3
    ·simp at h3;omega
    ·split at h3
     ·simp at h3;omega
     ·split at h3<;>simp at h3<;>omega
   ·constructor
    ·split at h3
     ·simp at h3;omega
     ·split at h3
      ·simp at h3;omega
      ·split at h3<;>simp at h3<;>omega
    ·split at h4
     ·simp at h4;omega
     ·split at h4<;>simp at h4<;>omega
theorem gY.kF{g:bD}(h:gY g):Vi g.nodes:=fun n hn=>by
 obtain⟨i,hi,rfl⟩:=List.mem_iff_getElem.1 hn;exact jQ (h.ng i _ hi (by simp))
theorem gY.ends{g:bD}(h:gY g){j:Nat}{d:dQ}(hj:g.aM[j]? =some d):fD g.nodes d.src d.o=true/\fE g.nodes d.dst d.df=true:=by
 have:=La (h.eg j d (lG.1 hj).1 hj);exact⟨this.1,this.2.1⟩
end Df
namespace Cz
open Go.RowKit Go.Sort
attribute[local go_sem ↓]wp_at_zero wp_at_succ
structure Num where
 c1:Nat
 p1:Nat
 s1:Nat
 cf:Nat
 xf:Nat
 cv:Nat
 pl:Nat
 st:Nat
 pt:Nat
 is:Nat
 t1:Nat
 t2:Nat
 t3:Nat
 t4:Nat
abbrev nm:Bool->Num
 | true => ⟨154,280,279,153,213,91,255,252,256,207,45,39,257,177⟩
 | false => ⟨193,250,248,192,249,131,190,189,191,128,52,50,297,218⟩
theorem GI(z:Bool):Tryz.prog.underlying (nm z).t2=some (.slice (nm z).t1):=by
 cases z
 ·exact Tryz.underlying50
 ·exact Tryz.underlying39
theorem Jm(z:Bool):(Tryz.prog.info? (nm z).t1).map (fun i=>(i.zero,i.size,i.bytes))=some (some (.agg #[.int .u64 0, .int .u64 0, .int .u64 0]),3,24):=by
 cases z
 ·kernel_rfl
 ·kernel_rfl
theorem Br(z:Bool):(∀args w,(callFunc (nm z).c1 args).run Tryz.prog w= .ok (.enter (nm z).c1 args) w)/\(∀args w,(callFunc (nm z).p1 args).run Tryz.prog w= .ok (.enter (nm z).p1 args) w)/\(∀args w,(callFunc (nm z).s1 args).run Tryz.prog w= .ok (.enter (nm z).s1 args) w):=by
 cases z
 ·exact⟨enters_of Tryz.func193 (by kernel_rfl) rfl,enters_of Tryz.func250 (by kernel_rfl) rfl,enters_of Tryz.func248 (by kernel_rfl) rfl⟩
 ·exact⟨enters_of Tryz.func154 (by kernel_rfl) rfl,enters_of Tryz.func280 (by kernel_rfl) rfl,enters_of Tryz.func279 (by kernel_rfl) rfl⟩
theorem EK(z:Bool)(fb:Nat)(ay:Tm->Tm->Bool)(hF:dY fb ay)(x v:Tm)(B1 B2 cb:Nat)(w:World)(h1:B1<w.heap.size)(h2:B2<w.heap.size)(hc:cb<w.heap.size)
    (c1:w.cell? ⟨B1,0,none⟩=some (.pointer (some ⟨cb,0,none⟩))) (c20:w.cell? ⟨B2,0,none⟩=some (.int .u64 v.1.1)) (c21:w.cell? ⟨B2,1,none⟩=some (.int .u64 v.1.2.1)) (Va:w.cell? ⟨B2,2,none⟩=some (.int .u64 v.1.2.2)) (cf:w.cell? ⟨cb,0,none⟩=some (fv fb)) :
    Calls Tryz.prog (nm z).c1 #[tv x, .pointer (some ⟨B1,0,none⟩), .pointer (some ⟨B2,0,none⟩)] w fun e w'=>e= .returned (.bool (ay x v))/\Gr w w':=by
 let zq:=z
 rcases Bool.eq_false_or_eq_true z with rfl|rfl;all_goals
  (try dsimp only[nm])
  have he:=hF.enter;have hcall:=hF.calls x v;generalize ay x v=r at hcall⊢;have hm:Tryz.prog.follows .mixedOrders=true:=by kernel_rfl
  obtain⟨W1,hW1⟩:=aC (w.alloc (.cells #[.int .u64 x.1.1, .int .u64 x.1.2.1, .int .u64 x.1.2.2] (nm zq).t1));dsimp only[nm,zq]at hW1;have G1:Gr w W1:=by rw[hW1];exact(Gr.refl _).alloc _
  have hz:w.heap.size<W1.heap.size:=by rw[hW1];simp
  obtain⟨nb,hnb⟩:=aC (w.heap.size);have k1:=cell_grown (a:=⟨B1,0,none⟩) (nU h1 hz) ((G1.cell h1).trans c1);have k2:=cell_grown (a:=⟨B2,0,none⟩) (nU h2 hz) ((G1.cell h2).trans c20);have k3:=cell_grown (a:=⟨B2,1,none⟩) (nU h2 hz) ((G1.cell h2).trans c21);have k3b:=cell_grown (a:=⟨B2,2,none⟩) (nU h2 hz) ((G1.cell h2).trans Va);have k4:=cell_grown (a:=⟨cb,0,none⟩) (nU hc hz) ((G1.cell hc).trans cf);have k5:=cell_grown (w:=W1) (a:=⟨nb,0,none⟩) (v:= .int .u64 x.1.1) (by rw[hnb];exact hz) (by rw[hW1,hnb];simp);have k6:=cell_grown (w:=W1) (a:=⟨nb,1,none⟩) (v:= .int .u64 x.1.2.1) (by rw[hnb];exact hz) (by rw[hW1,hnb];simp);have k7:=cell_grown (w:=W1) (a:=⟨nb,2,none⟩) (v:= .int .u64 x.1.2.2) (by rw[hnb];exact hz) (by rw[hW1,hnb];simp);first|go_enter Tryz.func154,Tryz.ntmps154|go_enter Tryz.func193,Tryz.ntmps193
  go_wp2_with fail;rw[<-hW1,<-hnb];clear hW1 hnb c1 c20 c21 Va cf;go_quiet_grown (first|(go_at_fn fb;refine Calls.grown_of (v:= .bool r) (hcall _)));go_wp2;go_ret;exact⟨rfl,(G1.drewN _).grown _⟩
theorem AX(z:Bool)(fb:Nat)(ay:Tm->Tm->Bool)(hF:dY fb ay)(x v:Tm)(B1 B2 cb:Nat)(w:World)(h1:B1<w.heap.size)(h2:B2<w.heap.size)(hc:cb<w.heap.size)
    (c1:w.cell? ⟨B1,0,none⟩=some (.pointer (some ⟨cb,0,none⟩))) (c20:w.cell? ⟨B2,0,none⟩=some (.int .u64 v.1.1)) (c21:w.cell? ⟨B2,1,none⟩=some (.int .u64 v.1.2.1)) (Va:w.cell? ⟨B2,2,none⟩=some (.int .u64 v.1.2.2)) (cf:w.cell? ⟨cb,0,none⟩=some (fv fb)) :
    Calls Tryz.prog (nm z).s1 #[tv x, .pointer (some ⟨B1,0,none⟩), .pointer (some ⟨B2,0,none⟩)] w fun e w'=>e= .returned (.bool (ay v x))/\Gr w w':=by
 let zq:=z
 rcases Bool.eq_false_or_eq_true z with rfl|rfl;all_goals
  (try dsimp only[nm])
  have he:=hF.enter;have hcall:=hF.calls v x;generalize ay v x=r at hcall⊢;have hm:Tryz.prog.follows .mixedOrders=true:=by kernel_rfl
  obtain⟨W1,hW1⟩:=aC (w.alloc (.cells #[.int .u64 x.1.1, .int .u64 x.1.2.1, .int .u64 x.1.2.2] (nm zq).t1));dsimp only[nm,zq]at hW1;have G1:Gr w W1:=by rw[hW1];exact(Gr.refl _).alloc _
  have hz:w.heap.size<W1.heap.size:=by rw[hW1];simp
  obtain⟨nb,hnb⟩:=aC (w.heap.size);have k1:=cell_grown (a:=⟨B1,0,none⟩) (nU h1 hz) ((G1.cell h1).trans c1);have k2:=cell_grown (a:=⟨B2,0,none⟩) (nU h2 hz) ((G1.cell h2).trans c20);have k3:=cell_grown (a:=⟨B2,1,none⟩) (nU h2 hz) ((G1.cell h2).trans c21);have k3b:=cell_grown (a:=⟨B2,2,none⟩) (nU h2 hz) ((G1.cell h2).trans Va);have k4:=cell_grown (a:=⟨cb,0,none⟩) (nU hc hz) ((G1.cell hc).trans cf);have k5:=cell_grown (w:=W1) (a:=⟨nb,0,none⟩) (v:= .int .u64 x.1.1) (by rw[hnb];exact hz) (by rw[hW1,hnb];simp);have k6:=cell_grown (w:=W1) (a:=⟨nb,1,none⟩) (v:= .int .u64 x.1.2.1) (by rw[hnb];exact hz) (by rw[hW1,hnb];simp);have k7:=cell_grown (w:=W1) (a:=⟨nb,2,none⟩) (v:= .int .u64 x.1.2.2) (by rw[hnb];exact hz) (by rw[hW1,hnb];simp);first|go_enter Tryz.func279,Tryz.ntmps279|go_enter Tryz.func248,Tryz.ntmps248
  go_wp2_with fail;rw[<-hW1,<-hnb];clear hW1 hnb c1 c20 c21 Va cf;go_quiet_grown (first|(go_at_fn fb;refine Calls.grown_of (v:= .bool r) (hcall _)));go_wp2;go_ret;exact⟨rfl,(G1.drewN _).grown _⟩
theorem Gu(z:Bool)(fb:Nat)(ay:Tm->Tm->Bool)(hF:dY fb ay)(x v:Tm)(B1 B2 cb:Nat)(w:World)(h1:B1<w.heap.size)(h2:B2<w.heap.size)(hc:cb<w.heap.size)
    (c1:w.cell? ⟨B1,0,none⟩=some (.pointer (some ⟨cb,0,none⟩))) (c20:w.cell? ⟨B2,0,none⟩=some (.int .u64 v.1.1)) (c21:w.cell? ⟨B2,1,none⟩=some (.int .u64 v.1.2.1)) (Va:w.cell? ⟨B2,2,none⟩=some (.int .u64 v.1.2.2)) (cf:w.cell? ⟨cb,1,none⟩=some (fv fb)) :
    Calls Tryz.prog (nm z).p1 #[tv x, .pointer (some ⟨B1,0,none⟩), .pointer (some ⟨B2,0,none⟩)] w fun e w'=>e= .returned (.bool (ay v x))/\Gr w w':=by
 let zq:=z
 rcases Bool.eq_false_or_eq_true z with rfl|rfl;all_goals
  (try dsimp only[nm])
  have he:=hF.enter;have hcall:=hF.calls v x;generalize ay v x=r at hcall⊢;have hm:Tryz.prog.follows .mixedOrders=true:=by kernel_rfl
  obtain⟨W1,hW1⟩:=aC (w.alloc (.cells #[.int .u64 x.1.1, .int .u64 x.1.2.1, .int .u64 x.1.2.2] (nm zq).t1));dsimp only[nm,zq]at hW1;have G1:Gr w W1:=by rw[hW1];exact(Gr.refl _).alloc _
  have hz:w.heap.size<W1.heap.size:=by rw[hW1];simp
  obtain⟨nb,hnb⟩:=aC (w.heap.size);have k1:=cell_grown (a:=⟨B1,0,none⟩) (nU h1 hz) ((G1.cell h1).trans c1);have k2:=cell_grown (a:=⟨B2,0,none⟩) (nU h2 hz) ((G1.cell h2).trans c20);have k3:=cell_grown (a:=⟨B2,1,none⟩) (nU h2 hz) ((G1.cell h2).trans c21);have k3b:=cell_grown (a:=⟨B2,2,none⟩) (nU h2 hz) ((G1.cell h2).trans Va);have k4:=cell_grown (a:=⟨cb,1,none⟩) (nU hc hz) ((G1.cell hc).trans cf);have k5:=cell_grown (w:=W1) (a:=⟨nb,0,none⟩) (v:= .int .u64 x.1.1) (by rw[hnb];exact hz) (by rw[hW1,hnb];simp);have k6:=cell_grown (w:=W1) (a:=⟨nb,1,none⟩) (v:= .int .u64 x.1.2.1) (by rw[hnb];exact hz) (by rw[hW1,hnb];simp);have k7:=cell_grown (w:=W1) (a:=⟨nb,2,none⟩) (v:= .int .u64 x.1.2.2) (by rw[hnb];exact hz) (by rw[hW1,hnb];simp);first|go_enter Tryz.func280,Tryz.ntmps280|go_enter Tryz.func250,Tryz.ntmps250
  go_wp2_with fail;rw[<-hW1,<-hnb];clear hW1 hnb c1 c20 c21 Va cf;go_quiet_grown (first|(go_at_fn fb;refine Calls.grown_of (v:= .bool r) (hcall _)));go_wp2;go_ret;exact⟨rfl,(G1.drewN _).grown _⟩
def ym(g:Nat)(lb:Array Value)(p:Tm->Bool)(w:World):Prop:=∀(W:World) (x:Tm),Gr w W->Calls Tryz.prog g (#[tv x]++lb) W fun e w'=>e= .returned (.bool (p x))/\Gr W w'
def il(p:Tm->Bool)(l:List Tm):Int:=if l.findIdx p<l.length then(l.findIdx p:Int)else -1
theorem D5{p:Tm->Bool}{l:List Tm}{x:Tm}(hx:l[k]? =some x)(hp:p x=true)(hn:∀j y,j<k->l[j]? =some y->p y=false):il p l=(k:Int):=by
 obtain⟨hk,rfl⟩:=lG.1 hx;have:l.findIdx p=k:=by
  rw[List.findIdx_eq hk];exact⟨hp,fun j hj=>by simpa using hn j _ hj (pW (nU hj hk))⟩
 unfold il;rw[this,if_pos hk]
theorem zY{p:Tm->Bool}{l:List Tm}(hn:∀j y,j<l.length->l[j]? =some y->p y=false):il p l= -1:=by
 have:l.findIdx p=l.length:=by
  rw[List.findIdx_eq_length];intro x hx;obtain⟨j,hj⟩:=iG.1 hx;exact hn j x (lG.1 hj).1 hj
 unfold il;rw[this,if_neg (Nat.lt_irrefl _)]
theorem DZ(p:Tm->Bool)(l:List Tm):decide (0<=il p l)=l.any p:=by
 unfold il;by_cases h:l.findIdx p<l.length
 ·rw[if_pos h];have:l.any p=true:=by
   rw[List.findIdx_lt_length]at h;simpa using h
  rw[this];simp
 ·rw[if_neg h];have:l.any p=false:=by
   rw[List.findIdx_lt_length]at h;simpa using h
  rw[this];simp
theorem iA(z:Bool)(v:Value)(l:List Tm)(g:Nat)(lb:Array Value)(p:Tm->Bool)(w:World)(hv:og w v l)(hl:l.length<=maxLen)(eg:∀args w,(callFunc g args).run Tryz.prog w= .ok (.enter g args) w)(hp:ym g lb p w):
    Calls Tryz.prog (nm z).xf #[v, .func (.func g) #[] lb] w fun e w'=>e= .returned (.int .i64 (il p l))/\Gr w w':=by
 let zq:=z
 rcases Bool.eq_false_or_eq_true z with rfl|rfl;all_goals
  (try dsimp only[nm])
  unfold maxLen at hl;obtain⟨pl,cl,rfl⟩:=hv.form;have HL:Hid (og w (.slice pl l.length cl) l):=hv;have HP:Hid (ym g lb p w):=hp;clear hv hp;obtain⟨r,hr⟩:=aC (il p l);rw[<-hr];have HRR:Hid (r=il p l):=hr;clear hr;first|go_enter Tryz.func213,Tryz.ntmps213|go_enter Tryz.func249,Tryz.ntmps249
  go_wp2_with fail;go_loopw [5,8] (fun s5 s8 wr=>∃k:Nat,k<=l.length/\s8= .int .i64 k/\Gr w wr/\Hid (∀j y,j<k->l[j]? =some y->p y=false)) (fun _ s8 _=>l.length-(intOf s8).toNat);case atStart=>exact⟨0,zL _,rfl,Gr.refl _,fun j _ hj=>absurd hj (nW _)⟩
  case round=>
   obtain⟨k,hk,rfl,hgr,A⟩:=hrel;by_cases hlt:k<l.length
   ·have hltz:(k:Int)<(l.length:Int):=(by omega);obtain⟨x,hx⟩:∃x,l[k]? =some x:=⟨l[k],by simp⟩;obtain⟨b1,o1,c1,e1,z1,x1,x2,x3⟩:=(HL.o.below hgr.below).at3 hx;simp only[vS]at e1;obtain⟨rfl,-,rfl⟩:=e1;have HX:Hid (l[k]? =some x):=hx;clear hx;have hcall:=HP.o wr x hgr;cases hq:p x with
    | true=>
     rw[hq]at hcall;go_wp2_with (go_at_fn g;refine hcall.mono ?_;rintro e w' ⟨rfl,hb'⟩);go_ret;exact⟨by rw[HRR.o,D5 HX.o hq A.o];rfl,hgr.trans hb'⟩
    | false=>
     rw[hq]at hcall;go_wp2_with (go_at_fn g;refine hcall.mono ?_;rintro e w' ⟨rfl,hb'⟩);refine⟨⟨k+1,by omega,by go_num,hgr.trans hb',fun j y hj hy=> ?_⟩,by simp[intOf];omega⟩;by_cases e:j=k
     ·subst e;have:=HX.o;rw[hy]at this;cases this;exact hq
     ·exact A.o j y (by omega) hy
   ·have hltz:¬(k:Int)<(l.length:Int):=(by omega);have hk':k=l.length:=(by omega);subst hk';go_wp2;go_ret;exact⟨by rw[HRR.o,zY A.o];rfl,hgr⟩
theorem kM(z:Bool)(v:Value)(l:List Tm)(g:Nat)(lb:Array Value)(p:Tm->Bool)(w:World)(hv:og w v l)(hl:l.length<=maxLen)(eg:∀args w,(callFunc g args).run Tryz.prog w= .ok (.enter g args) w)(hp:ym g lb p w):
    Calls Tryz.prog (nm z).cf #[v, .func (.func g) #[] lb] w fun e w'=>e= .returned (.bool (l.any p))/\Gr w w':=by
 let zq:=z
 rcases Bool.eq_false_or_eq_true z with rfl|rfl;all_goals
  (try dsimp only[nm])
  have h:=iA zq v l g lb p w hv hl eg hp;rw[<-DZ];generalize il p l=r at h⊢;first|go_enter Tryz.func153,Tryz.ntmps153|go_enter Tryz.func192,Tryz.ntmps192
  go_wp2_with fail;refine h.mono ?_;rintro e w1 ⟨rfl,hg⟩;go_wp2;go_ret;exact⟨by first|rfl|simp,hg⟩
structure Ch(z:Bool)(w:World)(cb fb ff:Nat)(v:Value)(l:List Tm):Prop where
 blk:w.heap[cb]? =some (.cells #[fv fb,fv ff,v] (nm z).t3 (0,0))
 own:w.ownsRow 0 (nm z).t1 3 v l.length (eO l)
 off:v.ownBlock≠some cb
section
variable {w w':World} {cb fb ff:Nat} {v:Value} {l:List Tm}
theorem Ch.lt(h:Ch z w cb fb ff v l):cb<w.heap.size:=(aG.1 h.blk).1
theorem Ch.c0(h:Ch z w cb fb ff v l):w.cell? ⟨cb,0,none⟩=some (fv fb):=by simp[World.cell?,h.blk]
theorem Ch.c1(h:Ch z w cb fb ff v l):w.cell? ⟨cb,1,none⟩=some (fv ff):=by simp[World.cell?,h.blk]
theorem Ch.c2(h:Ch z w cb fb ff v l):w.cell? ⟨cb,2,none⟩=some v:=by simp[World.cell?,h.blk]
theorem Ch.qC(h:Ch z w cb fb ff v l):og w v l:=dC h.own
theorem Ch.row(h:Ch z w cb fb ff v l):∀k,v.ownBlock=some k->k<w.heap.size:=fun k hk=>(h.own.lt k hk).2
theorem Ch.kp{S:Nat->Prop}(h:Ch z w cb fb ff v l)(hk:Kp S w w')(h1:¬S cb)(h2:∀k,v.ownBlock=some k->¬S k):Ch z w' cb fb ff v l:=
 ⟨(hk.block cb h.lt h1).trans h.blk,av hk h.own h2,h.off⟩
theorem Ch.below(h:Ch z w cb fb ff v l)(hb:Below w.heap.size w w'):Ch z w' cb fb ff v l:=h.kp (S:=fun _=>False) (Kp.of_below hb) (fun h=>h) (fun _ _ h=>h)
end
def dW(cb:Nat)(v v':Value)(w w':World):Prop:=Kp (fun k=>k=cb\/v.ownBlock=some k) w w'/\∀g,v'.ownBlock=some g->v.ownBlock=some g\/w.heap.size<=g
theorem dW.refl(cb:Nat)(v:Value)(w:World):dW cb v v w w:=⟨Kp.refl _ _,fun _ h=>Or.inl h⟩
theorem dW.of_below{w':World}(h:Below w.heap.size w w'):dW cb v v w w':=⟨Kp.of_below h,fun _ h=>Or.inl h⟩
theorem dW.trans{v1 v2 v3:Value}{a b c:World}(h:dW cb v1 v2 a b)(k:dW cb v2 v3 b c):dW cb v1 v3 a c:=by
 refine⟨h.1.trans k.1 fun j hj hs=> ?_,fun g hg=> ?_⟩
 ·rcases hs with hs|hs
  ·exact Or.inl hs
  ·rcases h.2 j hs with h1|h1
   ·exact Or.inr h1
   ·exact absurd h1 (Nat.not_le.2 hj)
 ·rcases k.2 g hg with h1|h1
  ·exact h.2 g h1
  ·exact Or.inr (nT h.1.size h1)
theorem BC{l:List Tm}(h:l.length*24<=140737488355328):l.length<=maxLen:=by unfold maxLen;omega
theorem qy{l:List Tm}{ay:Tm->Tm->Bool}(x:Tm)(w:World)(hc:Ch z w cb fb ff v l)(hl:l.length*24<=140737488355328)(hF:dY fb ay):
    Calls Tryz.prog (nm z).cv #[.pointer (some ⟨cb,0,none⟩),tv x] w fun e w'=>e= .returned (.bool (bE ay l x))/\Gr w w':=by
 let zq:=z
 rcases Bool.eq_false_or_eq_true z with rfl|rfl;all_goals
  (try dsimp only[nm])
  obtain⟨W2,hW2⟩:=aC ((w.alloc (.cells #[.pointer (some ⟨cb,0,none⟩)] (nm zq).t4)).alloc (.cells #[.int .u64 x.1.1, .int .u64 x.1.2.1, .int .u64 x.1.2.2] (nm zq).t1));dsimp only[nm,zq]at hW2;have G2:Gr w W2:=by rw[hW2];exact((Gr.refl _).alloc _).alloc _
  have hz:w.heap.size+1<W2.heap.size:=by rw[hW2];simp
  have b1:W2.cell? ⟨w.heap.size,0,none⟩=some (.pointer (some ⟨cb,0,none⟩)):=by rw[hW2];simp
  have b2:W2.cell? ⟨w.heap.size+1,0,none⟩=some (.int .u64 x.1.1):=by rw[hW2];simp
  have b3:W2.cell? ⟨w.heap.size+1,1,none⟩=some (.int .u64 x.1.2.1):=by rw[hW2];simp
  have b4:W2.cell? ⟨w.heap.size+1,2,none⟩=some (.int .u64 x.1.2.2):=by rw[hW2];simp
  have hc2:=hc.below G2.below;have hP:ym (nm zq).c1 #[.pointer (some ⟨w.heap.size,0,none⟩), .pointer (some ⟨w.heap.size+1,0,none⟩)] (fun y=>ay y x) W2:=fun W y hg=>
   EK zq fb ay hF y x w.heap.size (w.heap.size+1) cb W (nL (by omega) hg.size) (nL hz hg.size) (nL hc2.lt hg.size)
    ((hg.cell (by omega)).trans b1) ((hg.cell hz).trans b2) ((hg.cell hz).trans b3) ((hg.cell hz).trans b4) ((hg.cell hc2.lt).trans hc2.c0)
  have h:=kM zq v l _ _ _ W2 hc2.qC (BC hl) (Br zq).1 hP;rw[show(l.any fun y=>ay y x)=bE ay l x from rfl]at h;generalize bE ay l x=r at h⊢;have k2:=hc.c2;have kl:=hc.lt;clear hP hc2 b1 b2 b3 b4;subst hW2;first|go_enter Tryz.func91,Tryz.ntmps91|go_enter Tryz.func131,Tryz.ntmps131
  go_wp2_with fail;refine h.mono ?_;rintro e w1 ⟨rfl,hg⟩;go_wp2;go_ret;exact⟨rfl,G2.trans hg⟩
theorem GY(p:Tm->Bool)(l:List Tm):(il p l<0/\(l.length:Int)=(l.findIdx p:Int))\/(¬il p l<0/\il p l=(l.findIdx p:Int)):=by
 unfold il;by_cases h:l.findIdx p<l.length
 ·rw[if_pos h];right;exact⟨by omega,rfl⟩
 ·rw[if_neg h];left;have:=List.findIdx_le_length (p:=p) (xs:=l);exact⟨by omega,by omega⟩
theorem Kr{u:Value}{l m:List Tm}{fst:Tm->Tm->Bool}(x:Tm)(w:World)(hc:Ch z w cb fb ff v l)(hu:og w u m)(hl:m.length*24<=140737488355328)(hF:dY ff fst):
    Calls Tryz.prog (nm z).pl #[.pointer (some ⟨cb,0,none⟩),u,tv x] w fun e w'=>e= .returned (.int .i64 (m.findIdx fun y=>fst x y:Nat))/\Gr w w':=by
 let zq:=z
 rcases Bool.eq_false_or_eq_true z with rfl|rfl;all_goals
  (try dsimp only[nm])
  obtain⟨W2,hW2⟩:=aC ((w.alloc (.cells #[.pointer (some ⟨cb,0,none⟩)] (nm zq).t4)).alloc (.cells #[.int .u64 x.1.1, .int .u64 x.1.2.1, .int .u64 x.1.2.2] (nm zq).t1));dsimp only[nm,zq]at hW2;have G2:Gr w W2:=by rw[hW2];exact((Gr.refl _).alloc _).alloc _
  have hz:w.heap.size+1<W2.heap.size:=by rw[hW2];simp
  have b1:W2.cell? ⟨w.heap.size,0,none⟩=some (.pointer (some ⟨cb,0,none⟩)):=by rw[hW2];simp
  have b2:W2.cell? ⟨w.heap.size+1,0,none⟩=some (.int .u64 x.1.1):=by rw[hW2];simp
  have b3:W2.cell? ⟨w.heap.size+1,1,none⟩=some (.int .u64 x.1.2.1):=by rw[hW2];simp
  have b4:W2.cell? ⟨w.heap.size+1,2,none⟩=some (.int .u64 x.1.2.2):=by rw[hW2];simp
  have hc2:=hc.below G2.below;have hP:ym (nm zq).p1 #[.pointer (some ⟨w.heap.size,0,none⟩), .pointer (some ⟨w.heap.size+1,0,none⟩)] (fun y=>fst x y) W2:=fun W y hg=>
   Gu zq ff fst hF y x w.heap.size (w.heap.size+1) cb W (nL (by omega) hg.size) (nL hz hg.size) (nL hc2.lt hg.size)
    ((hg.cell (by omega)).trans b1) ((hg.cell hz).trans b2) ((hg.cell hz).trans b3) ((hg.cell hz).trans b4) ((hg.cell hc2.lt).trans hc2.c1)
  have h:=iA zq u m _ _ _ W2 (hu.below G2.below) (BC hl) (Br zq).2.1 hP;have hi:=GY (fun y=>fst x y) m;obtain⟨pu,cu,rfl⟩:=hu.form;generalize il (fun y=>fst x y) m=r at h hi;generalize List.findIdx (fun y=>fst x y) m=q at hi⊢;have k2:=hc.c2;have kl:=hc.lt;clear hP hc2 b1 b2 b3 b4 hu;subst hW2;rcases hi with⟨h1,h2⟩|⟨h1,h2⟩
  ·have HQ:Hid ((m.length:Int)=(q:Int)):=h2;clear h2;first|go_enter Tryz.func255,Tryz.ntmps255|go_enter Tryz.func190,Tryz.ntmps190
   go_wp2_with fail;refine h.mono ?_;rintro e w1 ⟨rfl,hg⟩;go_wp2;go_ret;exact⟨by rw[<-HQ.o];rfl,G2.trans hg⟩
  ·have HQ:Hid (r=(q:Int)):=h2;clear h2;first|go_enter Tryz.func255,Tryz.ntmps255|go_enter Tryz.func190,Tryz.ntmps190
   go_wp2_with fail;refine h.mono ?_;rintro e w1 ⟨rfl,hg⟩;go_wp2;go_ret;exact⟨by rw[<-HQ.o];rfl,G2.trans hg⟩
theorem Lt{ay:Tm->Tm->Bool}{l:List Tm}{x:Tm}(h:¬l.findIdx (fun y=>ay x y)<l.length):dG ay l x=l:=by
 rw[List.findIdx_lt_length]at h;unfold dG;rw[List.filter_eq_self];intro a ha;cases hq:ay x a with
 | false => rfl
 | true => exact absurd ⟨a,ha,hq⟩ h
theorem Ue{ay:Tm->Tm->Bool}{l:List Tm}{x:Tm}(hi:l.findIdx (fun y=>ay x y)=i)(h:i<l.length):dG ay l x=l.take i++dG ay (l.drop (i+1)) x:=by
 have h1:l=l.take i++l[i]::l.drop (i+1):=by rw[<-List.drop_eq_getElem_cons h,List.take_append_drop]
 have hp:ay x l[i]=true:=by
  subst hi;exact List.findIdx_getElem (w:=h)
 have h2:(l.take i).filter (fun y=> !ay x y)=l.take i:=by
  rw[List.filter_eq_self];intro a ha;subst hi;rw[gz (p:=fun y=>ay x y) ha];rfl
 conv=>lhs;rw[h1]
 unfold dG;rw[List.filter_append,h2,List.filter_cons,hp];simp
theorem yg{ay:Tm->Tm->Bool}{m:List Tm}{x y:Tm}(h:m[k]? =some y):dG ay (m.take (k+1)) x=dG ay (m.take k) x++(if ay x y then[]else[y]):=by
 unfold dG;rw[tO,h,List.filter_append];cases hq:ay x y<;>simp[hq]
theorem Ud{ay:Tm->Tm->Bool}{m:List Tm}{x:Tm}(k:Nat):(dG ay (m.take k) x).length<=k:=nT (gH _ _) (List.length_take_le _ _)
theorem gu(z:Bool){ops:Array Oper}{rest:List Oper}{Q:Exit->Act->World->Prop}(hgd:o.guard=none)(s x:Operand)
    (ho:o.op= .call { callee:= .builtin .append,args:=#[s,x],argTypes:=#[(nm z).t2,(nm z).t2] })
    (base:Nat) (v:Value) (n:Nat) (xs:List Value) (hs:a.eval s=v) (hown:w.ownsRow base (nm z).t1 3 v n xs)
    (t:Tm) (hx:a.eval x= .slice (some ⟨w.heap.size,0,none⟩) 1 1) (hbig:(n+1)*24<=140737488355328) (hbase:base<=w.heap.size)
    (h:∀g cap w',w'.ownsRow base (nm z).t1 3 (.slice (some ⟨g,0,none⟩) (n+1) cap) (n+1) (xs++ET.enc t)->w.grownBy w' v.ownBlock->(v.ownBlock=some g\/w.heap.size<=g)->wpList Tryz.prog ops Q rest (a.put o.dst (.slice (some ⟨g,0,none⟩) (n+1) cap)) w') :
    wpList Tryz.prog ops Q (o::rest) a (w.alloc (.cells #[.int .u64 t.1.1, .int .u64 t.1.2.1, .int .u64 t.1.2.2] (nm z).t1)):=
 YtiiefcalkjeieaaGreat.gu ET (GI z) (Jm z) rfl (by decide) hgd s x ho base v n xs hs hown t hx hbig (by unfold maxLen;omega) hbase _ rfl _ h
theorem jV(z:Bool){ops:Array Oper}{rest:List Oper}{Q:Exit->Act->World->Prop}(hgd:o.guard=none)(s x:Operand)
    (ho:o.op= .call { callee:= .builtin .append,args:=#[s,x],argTypes:=#[(nm z).t2,(nm z).t2] })
    (base:Nat) (v:Value) (n:Nat) (xs:List Value) (hs:a.eval s=v) (hown:w.ownsRow base (nm z).t1 3 v n xs)
    (v1:Value) (ts:List Tm) (hx:a.eval x=v1) (hv:og w v1 ts) (hbig:(n+ts.length)*24<=140737488355328) (hbase:base<=w.heap.size)
    (h:∀v' w',w'.ownsRow base (nm z).t1 3 v' (n+ts.length) (xs++eO ts)->w.grownBy w' v.ownBlock->wpList Tryz.prog ops Q rest (a.put o.dst v') w'):wpList Tryz.prog ops Q (o::rest) a w:=
 YtiiefcalkjeieaaGreat.jV ET (GI z) (Jm z) rfl (by decide) hgd s x ho base v n xs hs hown v1 ts hx hv hbig (by unfold maxLen;omega) hbase h
theorem uf{l:List Tm}{ay:Tm->Tm->Bool}(x:Tm)(w:World)(hc:Ch z w cb fb ff v l)(hl:l.length*24<=140737488355328)(hF:dY fb ay):
    Calls Tryz.prog (nm z).st #[.pointer (some ⟨cb,0,none⟩),tv x] w fun e w'=>∃v',e= .returned v'/\w'.ownsRow 0 (nm z).t1 3 v' (dG ay l x).length (eO (dG ay l x))/\Below w.heap.size w w'/\(v'=v\/∀g,v'.ownBlock=some g->w.heap.size<=g):=by
 let zq:=z
 rcases Bool.eq_false_or_eq_true z with rfl|rfl;all_goals
  (try dsimp only[nm])
  obtain⟨W2,hW2⟩:=aC ((w.alloc (.cells #[.pointer (some ⟨cb,0,none⟩)] (nm zq).t4)).alloc (.cells #[.int .u64 x.1.1, .int .u64 x.1.2.1, .int .u64 x.1.2.2] (nm zq).t1));dsimp only[nm,zq]at hW2;have G2:Gr w W2:=by rw[hW2];exact((Gr.refl _).alloc _).alloc _
  have hz:w.heap.size+1<W2.heap.size:=by rw[hW2];simp
  have b1:W2.cell? ⟨w.heap.size,0,none⟩=some (.pointer (some ⟨cb,0,none⟩)):=by rw[hW2];simp
  have b2:W2.cell? ⟨w.heap.size+1,0,none⟩=some (.int .u64 x.1.1):=by rw[hW2];simp
  have b3:W2.cell? ⟨w.heap.size+1,1,none⟩=some (.int .u64 x.1.2.1):=by rw[hW2];simp
  have b4:W2.cell? ⟨w.heap.size+1,2,none⟩=some (.int .u64 x.1.2.2):=by rw[hW2];simp
  have hc2:=hc.below G2.below;have HPB:Hid (∀(W:World) (y:Tm),Below W2.heap.size W2 W->Calls Tryz.prog (nm zq).s1 #[tv y, .pointer (some ⟨w.heap.size,0,none⟩), .pointer (some ⟨w.heap.size+1,0,none⟩)] W fun e w'=>e= .returned (.bool (ay x y))/\Gr W w'):=fun W y hg=>
   AX zq fb ay hF y x w.heap.size (w.heap.size+1) cb W (nL (by omega) hg.size) (nL hz hg.size) (nL hc2.lt hg.size)
    ((hg.cell (p:=⟨_,_,none⟩) (Nat.lt_of_succ_lt hz)).trans b1) ((hg.cell (p:=⟨_,_,none⟩) hz).trans b2) ((hg.cell (p:=⟨_,_,none⟩) hz).trans b3) ((hg.cell (p:=⟨_,_,none⟩) hz).trans b4) ((hg.cell (p:=⟨_,_,none⟩) hc2.lt).trans hc2.c0)
  have hP:ym (nm zq).s1 #[.pointer (some ⟨w.heap.size,0,none⟩), .pointer (some ⟨w.heap.size+1,0,none⟩)] (fun y=>ay x y) W2:=fun W y hg=>HPB.o W y hg.below;have h:=iA zq v l _ _ _ W2 hc2.qC (BC hl) (Br zq).2.2 hP;clear hP;have eg:∀args w,(callFunc (nm zq).s1 args).run Tryz.prog w= .ok (.enter (nm zq).s1 args) w:=(Br zq).2.2;have HB1:Hid (W2.cell? ⟨w.heap.size,0,none⟩=some (.pointer (some ⟨cb,0,none⟩))):=b1;have HB2:Hid (W2.cell? ⟨w.heap.size+1,0,none⟩=some (.int .u64 x.1.1)):=b2;have HB3:Hid (W2.cell? ⟨w.heap.size+1,1,none⟩=some (.int .u64 x.1.2.1)):=b3;have Fj:Hid (W2.cell? ⟨w.heap.size+1,2,none⟩=some (.int .u64 x.1.2.2)):=b4;have HZ:Hid (w.heap.size+1<W2.heap.size):=hz;have IQ:Hid (Ch zq W2 cb fb ff v l):=hc2;have FL:Hid (Ch zq w cb fb ff v l):=hc;have k2:=hc.c2;have kl:=hc.lt;clear b1 b2 b3 b4 hz hc2;by_cases hi:l.findIdx (fun y=>ay x y)<l.length
  ·have hv:il (fun y=>ay x y) l=((l.findIdx fun y=>ay x y:Nat):Int):=(by unfold il;rw[if_pos hi]);have HC:=Ue (ay:=ay) (l:=l) (x:=x) rfl hi;rw[hv]at h;clear hv;generalize hq:List.findIdx (fun y=>ay x y) l=i at *;clear hq;obtain⟨_,⟨_,h0⟩|⟨g,cap,cur,hvf,_,hgg,hn,hm,hcs,htk⟩⟩:=hc.own
   ·omega
   subst hvf;have hz1:¬(i:Int)<0:=(by omega);have hz2:(0:Int)<=(i:Int):=(by omega);have hz3:(i:Int)<=(cap:Int):=(by omega);have hz4:¬cap=0:=(by omega);obtain⟨m,hmD⟩:=aC (l.length-(i+1));obtain⟨D,hD⟩:=aC (l.drop (i+1));have hDl:D.length=m:=(by rw[hD,hmD];simp);have HD:Hid (D=l.drop (i+1)):=hD;rw[<-hD]at HC;have HCT:Hid (dG ay l x=l.take i++dG ay D x):=HC;have hlt:(l.take i).length=i:=(by simp;omega);have ru:i+m+1=l.length:=(by omega);unfold maxLen at hm;clear HC hD hmD hc hgg hcs htk;subst hW2;first|go_enter Tryz.func252,Tryz.ntmps252|go_enter Tryz.func189,Tryz.ntmps189
   go_wp2_with fail;refine h.mono ?_;rintro e w1 ⟨rfl,hg⟩;have k3:=(hg.cell (b:=w.heap.size) (o:=0) (Nat.lt_of_succ_lt HZ.o)).trans HB1.o;have k4:=(hg.cell (b:=cb) (o:=2) IQ.o.lt).trans IQ.o.c2;have k6:w.heap.size<w1.heap.size:=nL (Nat.lt_of_succ_lt HZ.o) hg.size;have k7:cb<w1.heap.size:=nL IQ.o.lt hg.size;have J4:Hid (og w1 (.slice (some ⟨g,0,none⟩) l.length cap) l):=IQ.o.qC.below hg.below;have HLT:Hid (og w1 (.slice (some ⟨g,0,none⟩) i cap) (l.take i)):=by
    have:=J4.o.cut (k:=i) (by omega) cap;exact this
   clear h;go_upto_region 6 with(at_builtin;refine jV zq rfl _ _ rfl w1.heap.size (.slice none 0 0) 0 [] rfl (oN _ _ _ _) (.slice (some ⟨g,0,none⟩) i cap) (l.take i) rfl HLT.o (by omega) (nR _) ?_;intro v5 w5 Eb hg5);have hb5:Below w1.heap.size w1 w5:=(Kp.grownBy (S:=fun _=>False) hg5 (fun k hk=>by cases hk)).below (nR _) (fun _ h=>h.elim);have k3':=(hb5.cell (p:=⟨w.heap.size,0,none⟩) k6).trans k3;have k4':=(hb5.cell (p:=⟨cb,2,none⟩) k7).trans k4;have k6':w.heap.size<w5.heap.size:=nL k6 hb5.size;have k7':cb<w5.heap.size:=nL k7 hb5.size;have HL5:Hid (og w5 (.slice (some ⟨g,0,none⟩) l.length cap) l):=J4.o.below hb5;have UT:((i:Int)+1)<=(l.length:Int):=(by omega);have hz6:(0:Int)<=(i:Int)+1:=(by omega);clear k3 k4 k6 k7;go_cut [36,37,38] (fun s36 s37 RO w'=>∃q c,s36= .slice q m c/\Hid (og w1 (.slice q m c) D)/\s37= .int .i64 (m:Int)/\RO= .int .i64 0/\w'=w5);case first=>
    have hmm:l.length-(i+1)=m:=(by omega);by_cases hcc:cap=i+1
    ·go_wp2_with fail;go_meet;have h1:=J4.o.void (k:=i+1) (by omega) 0;rw[<-HD.o,hmm]at h1;exact⟨_,_,rfl,h1,rfl,rfl,rfl⟩
    ·go_wp2_with fail;go_meet;have h1:=J4.o.tail (k:=i+1) (cap-(i+1));rw[<-HD.o,hmm,nZ]at h1;exact⟨_,_,rfl,h1,rfl,rfl,rfl⟩
   case rest=>
    obtain⟨q,c,rfl,ab6,rfl,rfl,hwc⟩:=hcut;rw[hwc];clear hwc k3' k4' k6' k7' HL5 HLT J4 UT hz6;rw[hlt,List.nil_append]at Eb;rw[nZ]at Eb;have HW:Hid (Below ((w.alloc (.cells #[.pointer (some ⟨cb,0,none⟩)] (nm zq).t4)).alloc (.cells #[.int .u64 x.1.1, .int .u64 x.1.2.1, .int .u64 x.1.2.2] (nm zq).t1)).heap.size ((w.alloc (.cells #[.pointer (some ⟨cb,0,none⟩)] (nm zq).t4)).alloc (.cells #[.int .u64 x.1.1, .int .u64 x.1.2.1, .int .u64 x.1.2.2] (nm zq).t1)) w1):=hg.below;have HGW:Hid (Gr w w1):=G2.trans hg;have hzz:=HGW.o.size;have hsz2:=hg.size;clear hg G2 hg5;go_wp2_with fail;go_loopw [7,9,38] (fun s7 _ RO wr=>∃k:Nat,k<=m/\RO= .int .i64 k/\wr.ownsRow w1.heap.size (nm zq).t1 3 s7 (i+(dG ay (D.take k) x).length) (eO (l.take i++dG ay (D.take k) x))/\Below w1.heap.size w1 wr) (fun _ _ RO _=>m-(intOf RO).toNat);case atStart=>exact⟨0,zL _,rfl,by simpa[dG]using Eb,hb5⟩
    case round=>
     obtain⟨k,hk,rfl,hown,hbw⟩:=hrel;clear Eb;have uD:Hid (Below ((w.alloc (.cells #[.pointer (some ⟨cb,0,none⟩)] (nm zq).t4)).alloc (.cells #[.int .u64 x.1.1, .int .u64 x.1.2.1, .int .u64 x.1.2.2] (nm zq).t1)).heap.size ((w.alloc (.cells #[.pointer (some ⟨cb,0,none⟩)] (nm zq).t4)).alloc (.cells #[.int .u64 x.1.1, .int .u64 x.1.2.1, .int .u64 x.1.2.2] (nm zq).t1)) wr):=HW.o.trans (hbw.mono hsz2);have hsz:=hbw.size;by_cases hlt2:k<m
     ·have hltz:(k:Int)<(m:Int):=(by omega);obtain⟨y,hy⟩:∃y,D[k]? =some y:=⟨D[k]'(by omega),by simp⟩;have HLw:og wr (.slice q m c) D:=ab6.o.below hbw;obtain⟨b1,o1,c1,e1,z1,x1,x2,x3⟩:=HLw.at3 hy;simp only[vS]at e1;obtain⟨rfl,-,rfl⟩:=e1;clear HLw;have HY:Hid (dG ay (D.take (k+1)) x=dG ay (D.take k) x++(if ay x y then[]else[y])):=yg hy;have hcl:=Ud (ay:=ay) (m:=D) (x:=x) k;clear hy;generalize dG ay (D.take k) x=f at *;have hcall:=HPB.o (wr.alloc (.cells #[.int .u64 y.1.1, .int .u64 y.1.2.1, .int .u64 y.1.2.2] (nm zq).t1)) y (uD.o.trans ((Below.refl _ _).alloc uD.o.size _));cases hq:ay x y with
      | true=>
       rw[hq]at hcall;have HE:Hid (dG ay (D.take (k+1)) x=f):=(by rw[HY.o,hq];simp[Hid]);go_wp2_with ((first|go_at_call 279|go_at_call 248);refine hcall.mono ?_;rintro e w3 ⟨rfl,hg3⟩);refine⟨⟨k+1,by omega,by go_num,by rw[HE.o];exact ag (hown.alloc _) hg3.below,(hbw.alloc hsz _).trans (hg3.below.mono (by simp;omega))⟩,by simp[intOf];omega⟩
      | false=>
       rw[hq]at hcall;have HE:Hid (dG ay (D.take (k+1)) x=f++[y]):=(by rw[HY.o,hq];simp[Hid]);go_wp2_with fail
       (first|go_at_call 279|go_at_call 248)
       refine hcall.mono ?_;rintro e w3 ⟨rfl,hg3⟩;have q1:w3.cell? ⟨wr.heap.size,0,none⟩=some (.int .u64 y.1.1):=(hg3.cell (by simp)).trans (by simp);have q2:w3.cell? ⟨wr.heap.size,1,none⟩=some (.int .u64 y.1.2.1):=(hg3.cell (by simp)).trans (by simp);have q2b:w3.cell? ⟨wr.heap.size,2,none⟩=some (.int .u64 y.1.2.2):=(hg3.cell (by simp)).trans (by simp);have q3:wr.heap.size<w3.heap.size:=nL (by simp) hg3.size;have hown3:=ag (hown.alloc _) hg3.below;clear x1 x2 x3 hcall;go_wp2_with (at_builtin;refine gu zq rfl _ _ rfl w1.heap.size _ (i+f.length) _ rfl hown3 y rfl (by omega) (by omega) ?_);intro g9 c9 w9 Md hg9 hl9;go_wp2;refine⟨⟨k+1,by omega,by go_num, ?_, ?_⟩,by simp[intOf];omega⟩
       ·rw[HE.o];simpa[jB,vF,Nat.add_assoc]using Md
       ·exact((hbw.alloc hsz _).trans (hg3.below.mono (by simp;omega))).trans ((Kp.grownBy (S:=fun k=>w1.heap.size<=k) hg9 (fun k hk=>(hown3.lt k hk).1)).below (by omega) (fun _ h=>h))
     ·have hltz:¬(k:Int)<(m:Int):=(by omega);have hkm:k=m:=(by omega);subst hkm;rw[tL (by omega)]at hown;go_wp2;go_ret;refine⟨_,rfl, ?_,HGW.o.below.trans (hbw.mono hzz),Or.inr fun g' hg'=>nT hzz (hown.lt g' hg').1⟩;rw[HCT.o,dO,hlt];exact aL hown (zL _)
  ·have hv:il (fun y=>ay x y) l= -1:=(by unfold il;rw[if_neg hi]);rw[Lt hi];rw[hv]at h;clear hv hi eg HPB;clear hc;subst hW2;first|go_enter Tryz.func252,Tryz.ntmps252|go_enter Tryz.func189,Tryz.ntmps189
   go_wp2_with fail;refine h.mono ?_;rintro e w1 ⟨rfl,hg⟩;have k3:=(hg.cell (b:=w.heap.size) (o:=0) (Nat.lt_of_succ_lt HZ.o)).trans HB1.o;have k4:=(hg.cell (b:=cb) (o:=2) IQ.o.lt).trans IQ.o.c2;have k6:w.heap.size<w1.heap.size:=nL (Nat.lt_of_succ_lt HZ.o) hg.size;have k7:cb<w1.heap.size:=nL IQ.o.lt hg.size;clear h;go_wp2;go_ret;exact⟨_,rfl,ag FL.o.own (G2.trans hg).below,(G2.trans hg).below,Or.inl rfl⟩
end Cz
end Go.Proofs.YtiiefcalkjeieaaGreat
