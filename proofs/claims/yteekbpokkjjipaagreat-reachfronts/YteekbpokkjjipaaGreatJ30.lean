import Derived.Test.YteekbpokkjjipaaGreatJ28
import Derived.Test.YteekbpokkjjipaaGreatRcTak
import Derived.Test.YteekbpokkjjipaaGreatJ29
variable{w:Go.World}{j b n mb k tb cb N DL:Nat}{v:Go.Value}{tag:Nat->Nat}{rs:List Nat}
set_option maxHeartbeats 1000000
namespace Go.Proofs.YteekbpokkjjipaaGreat
section
open Go.RowKit Go.Sort Go.Maps
open Tt (Tl dQ dP)
attribute [local go_sem ↓] Go.wp_at_zero Go.wp_at_succ
theorem wE(w:World):Calls Tryz.prog 108 #[fv fA,fv fN] w fun e w'=>e= .returned (.pointer (some ⟨w.heap.size,0,none⟩))/\Cz.Ch true w' w.heap.size fA fN (.slice none 0 0) []/\Gr w w':=by
 go_enter Tryz.func108,Tryz.ntmps108;go_wp2;go_ret;exact⟨rfl,⟨ai _ _,World.ownsRow_nil _ _ _ _,by simp[Value.ownBlock]⟩,(Gr.refl _).alloc _⟩
theorem zM(w:World):Calls Tryz.prog 107 #[] w fun e w'=>∃tb b,e= .returned (cv tb)/\Tl w' tb b fC 0 (fun _=>0)/\w.heap.size<=tb/\w.heap.size<=b/\Kp (fun _=>False) w w':=by
 have h:=fun W=>Tt.dB fC W;obtain⟨W1,hW1⟩:=aB (w.alloc (.cells #[.pointer none] 176));have G1:Gr w W1:=by rw[hW1];exact(Gr.refl _).alloc _
 have hblk:W1.heap[w.heap.size]? =some (.cells #[.pointer none] 176 (0,0)):=by rw[hW1];exact ai _ _
 have hlt:w.heap.size<W1.heap.size:=(aG.1 hblk).1;go_enter Tryz.func107,Tryz.ntmps107;go_wp2_with fail;rw[<-hW1];refine(h _).mono ?_;rintro e w2 ⟨rfl,ht,hg⟩;have c0:w2.cell? ⟨w.heap.size,0,none⟩=some (.pointer none):=(hg.cell hlt).trans (by simp[World.cell?,hblk]);have f0:w2.frozen? ⟨w.heap.size,0,none⟩=false:=(hg.frozen hlt).trans (by simp[World.frozen?,hblk]);have hl2:=nL hlt hg.size;have YQ:=(hg.below.block _ hlt).trans hblk;clear h;have hz1:W1.heap.size=w.heap.size+1:=by rw[hW1];simp
 clear hW1;go_wp2;have e2:=setCell_eq_setRow w2 w.heap.size 0 _ _ _ (.pointer (some ⟨w.heap.size+1+1,0,none⟩)) YQ;have hk:Kp (fun k=>k=w.heap.size) w2 (w2.setCell ⟨w.heap.size,0,none⟩ (.pointer (some ⟨w.heap.size+1+1,0,none⟩))):=by
  rw[e2];exact⟨rfl,rfl,rfl,by simp[World.setRow],fun k _ hne=>setRow_other _ _ k _ hne⟩
 have c9:(w2.setCell ⟨w.heap.size,0,none⟩ (.pointer (some ⟨w.heap.size+1+1,0,none⟩))).cell? ⟨w.heap.size,0,none⟩=some (.pointer (some ⟨w.heap.size+1+1,0,none⟩)):=by
  have:=setRow_heap w2 w.heap.size _ ((#[Value.pointer none]:Array Value).setIfInBounds 0 (.pointer (some ⟨w.heap.size+1+1,0,none⟩))) _ _ YQ;rw[e2];simp only[World.cell?];rw[this];rfl
 rw[hz1]at ht;refine bodyPost_ret (v:=cv (w.heap.size+1+1)) (by simp[results,Tryz.results107,go_sem,c9]) rfl ?_;refine⟨_,_,rfl,ht.kp hk (by omega) (by omega),by omega,by omega, ?_⟩;exact(Kp.aU (G1.trans hg)).trans hk (fun j hj e=>by omega)
theorem BS(w:World):Calls Tryz.prog 67 #[] w fun e w'=>∃mb tb b cb,e= .returned (.pointer (some ⟨mb,0,none⟩))/\Mu w' mb tb b cb 0 (.slice none 0 0) (fun _=>0) []/\(w.heap.size<=mb/\w.heap.size<=tb/\w.heap.size<=b/\w.heap.size<=cb)/\Below w.heap.size w w':=by
 have h1:=zM w;have h2:=fun W=>wE W;go_enter Tryz.func67,Tryz.ntmps67;go_wp2_with fail;refine h1.mono ?_;rintro e w1 ⟨tb,b,rfl,ht,hz1,hz2,hk⟩;go_wp2_with fail;refine(h2 _).mono ?_;rintro e w2 ⟨rfl,hc,hg⟩;go_wp2;go_ret;have z1:=hk.size;have z2:=hg.size;refine⟨_,tb,b,_,rfl,⟨ai _ _,(ht.gr hg).gr ((Gr.refl _).alloc _),hc.below ((Gr.refl _).alloc _).below⟩,⟨by omega,hz1,hz2,by omega⟩, ?_⟩;have b1:Below w.heap.size w w1:=hk.below (nR _) (fun _ h=>h.elim);exact b1.trans ((hg.trans ((Gr.refl _).alloc _)).below.mono z1)
section
variable {mb tb b cb n:Nat} {v:Value} {f:Tm->Int} {fr:List Tm}
theorem rf(w:World)(h:Mu w mb tb b cb n v f fr)(hl:fr.length*24<=140737488355328):
    Calls Tryz.prog 41 #[.pointer (some ⟨mb,0,none⟩)] w fun e w'=>∃v',e= .returned v'/\w'.ownsRow w.heap.size 45 3 v' fr.length (eu fr)/\Below w.heap.size w w':=by
 have hl:=Cn.j4 w h.ch hl;have m1:=h.c1;have rU:=h.lt;clear h;go_enter Tryz.func41,Tryz.ntmps41;go_wp2_with fail;refine hl.mono ?_;rintro e w1 ⟨v1,rfl,ho,hb⟩;go_wp2;go_ret;exact⟨_,rfl,ho,hb⟩
theorem dM(x:Tm)(w:World)(h:Mu w mb tb b cb n v f fr):
    Calls Tryz.prog 44 #[.pointer (some ⟨mb,0,none⟩),tv x] w fun e w'=>e= .returned (.int .i64 (f x))/\Gr w w':=by
 have hmx:Tryz.prog.follows .mixedOrders=true:=by kernel_rfl
 obtain⟨W1,hW1⟩:=aB (w.alloc (.cells #[.int .u64 x.1.1, .int .u64 x.1.2.1, .int .u64 x.1.2.2] 45));obtain⟨nb,hnb⟩:=aB (w.heap.size);have G1:Gr w W1:=by rw[hW1];exact(Gr.refl _).alloc _
 have HG:Hid (Gr w W1.drew):=G1.drew;have hco:=kT x W1.drew (h.tl.gr G1.drew);have hblk:W1.heap[nb]? =some (.cells #[.int .u64 x.1.1, .int .u64 x.1.2.1, .int .u64 x.1.2.2] 45 (0,0)):=by rw[hW1,hnb];exact ai _ _
 have S0:(W1.drew.cell? ⟨mb,0,none⟩=some (.pointer (some ⟨tb,0,none⟩))/\W1.drew.cell? ⟨nb,0,none⟩=some (.int .u64 x.1.1)/\W1.drew.cell? ⟨nb,1,none⟩=some (.int .u64 x.1.2.1)/\W1.drew.cell? ⟨nb,2,none⟩=some (.int .u64 x.1.2.2)/\mb<W1.drew.heap.size/\nb<W1.drew.heap.size):=by
  refine⟨(G1.drew.cell h.lt).trans h.c0, ?_, ?_, ?_,nL h.lt G1.size,(aG.1 hblk).1⟩;all_goals (show W1.cell? _=_;simp only[World.cell?];rw[hblk];rfl)
 have gQ:∀W W':World,(W.cell? ⟨mb,0,none⟩=some (.pointer (some ⟨tb,0,none⟩))/\W.cell? ⟨nb,0,none⟩=some (.int .u64 x.1.1)/\W.cell? ⟨nb,1,none⟩=some (.int .u64 x.1.2.1)/\W.cell? ⟨nb,2,none⟩=some (.int .u64 x.1.2.2)/\mb<W.heap.size/\nb<W.heap.size)->Gr W W'->(W'.cell? ⟨mb,0,none⟩=some (.pointer (some ⟨tb,0,none⟩))/\W'.cell? ⟨nb,0,none⟩=some (.int .u64 x.1.1)/\W'.cell? ⟨nb,1,none⟩=some (.int .u64 x.1.2.1)/\W'.cell? ⟨nb,2,none⟩=some (.int .u64 x.1.2.2)/\mb<W'.heap.size/\nb<W'.heap.size):=fun W W' h hg=>
  ⟨(hg.cell h.2.2.2.2.1).trans h.1,(hg.cell h.2.2.2.2.2).trans h.2.1,(hg.cell h.2.2.2.2.2).trans h.2.2.1,(hg.cell h.2.2.2.2.2).trans h.2.2.2.1,nL h.2.2.2.2.1 hg.size,nL h.2.2.2.2.2 hg.size⟩
 generalize f x=c at hco⊢;clear h hblk;go_enter Tryz.func44,Tryz.ntmps44;go_wp2_with fail;rw[<-hW1,<-hnb];clear hW1 hnb G1;go_region_held3 (fun w'=>w'.cell? ⟨mb,0,none⟩=some (.pointer (some ⟨tb,0,none⟩))/\w'.cell? ⟨nb,0,none⟩=some (.int .u64 x.1.1)/\w'.cell? ⟨nb,1,none⟩=some (.int .u64 x.1.2.1)/\w'.cell? ⟨nb,2,none⟩=some (.int .u64 x.1.2.2)/\mb<w'.heap.size/\nb<w'.heap.size)
  (first|exact S0|exact gQ _ _ (by assumption) (by assumption))
  (first|(go_at_call 89;refine hco.mono ?_;rintro e w5 ⟨rfl,hg5⟩))
 go_wp2;go_ret;exact⟨rfl,HG.o.trans hg5⟩
theorem uX(x:Tm)(w:World)(h:Mu w mb tb b cb n v f fr)(hl:fr.length*24<=140737488355328):
    Calls Tryz.prog 47 #[.pointer (some ⟨mb,0,none⟩),tv x] w fun e w'=>e= .returned (.bool (bC ax fr x))/\Gr w w':=by
 have hmx:Tryz.prog.follows .mixedOrders=true:=by kernel_rfl
 obtain⟨W1,hW1⟩:=aB (w.alloc (.cells #[.int .u64 x.1.1, .int .u64 x.1.2.1, .int .u64 x.1.2.2] 45));obtain⟨nb,hnb⟩:=aB (w.heap.size);have G1:Gr w W1:=by rw[hW1];exact(Gr.refl _).alloc _
 have HG:Hid (Gr w W1.drew):=G1.drew;have hco:=Cz.oQ x W1.drew (h.ch.below G1.drew.below) hl eU;have hblk:W1.heap[nb]? =some (.cells #[.int .u64 x.1.1, .int .u64 x.1.2.1, .int .u64 x.1.2.2] 45 (0,0)):=by rw[hW1,hnb];exact ai _ _
 have S0:(W1.drew.cell? ⟨mb,1,none⟩=some (.pointer (some ⟨cb,0,none⟩))/\W1.drew.cell? ⟨nb,0,none⟩=some (.int .u64 x.1.1)/\W1.drew.cell? ⟨nb,1,none⟩=some (.int .u64 x.1.2.1)/\W1.drew.cell? ⟨nb,2,none⟩=some (.int .u64 x.1.2.2)/\mb<W1.drew.heap.size/\nb<W1.drew.heap.size):=by
  refine⟨(G1.drew.cell h.lt).trans h.c1, ?_, ?_, ?_,nL h.lt G1.size,(aG.1 hblk).1⟩;all_goals (show W1.cell? _=_;simp only[World.cell?];rw[hblk];rfl)
 have gQ:∀W W':World,(W.cell? ⟨mb,1,none⟩=some (.pointer (some ⟨cb,0,none⟩))/\W.cell? ⟨nb,0,none⟩=some (.int .u64 x.1.1)/\W.cell? ⟨nb,1,none⟩=some (.int .u64 x.1.2.1)/\W.cell? ⟨nb,2,none⟩=some (.int .u64 x.1.2.2)/\mb<W.heap.size/\nb<W.heap.size)->Gr W W'->(W'.cell? ⟨mb,1,none⟩=some (.pointer (some ⟨cb,0,none⟩))/\W'.cell? ⟨nb,0,none⟩=some (.int .u64 x.1.1)/\W'.cell? ⟨nb,1,none⟩=some (.int .u64 x.1.2.1)/\W'.cell? ⟨nb,2,none⟩=some (.int .u64 x.1.2.2)/\mb<W'.heap.size/\nb<W'.heap.size):=fun W W' h hg=>
  ⟨(hg.cell h.2.2.2.2.1).trans h.1,(hg.cell h.2.2.2.2.2).trans h.2.1,(hg.cell h.2.2.2.2.2).trans h.2.2.1,(hg.cell h.2.2.2.2.2).trans h.2.2.2.1,nL h.2.2.2.2.1 hg.size,nL h.2.2.2.2.2 hg.size⟩
 generalize bC ax fr x=c at hco⊢;clear h hblk;go_enter Tryz.func47,Tryz.ntmps47;go_wp2_with fail;rw[<-hW1,<-hnb];clear hW1 hnb G1;go_region_held3 (fun w'=>w'.cell? ⟨mb,1,none⟩=some (.pointer (some ⟨cb,0,none⟩))/\w'.cell? ⟨nb,0,none⟩=some (.int .u64 x.1.1)/\w'.cell? ⟨nb,1,none⟩=some (.int .u64 x.1.2.1)/\w'.cell? ⟨nb,2,none⟩=some (.int .u64 x.1.2.2)/\mb<w'.heap.size/\nb<w'.heap.size)
  (first|exact S0|exact gQ _ _ (by assumption) (by assumption))
  (first|(go_at_call 91;refine hco.mono ?_;rintro e w5 ⟨rfl,hg5⟩))
 go_wp2;go_ret;exact⟨rfl,HG.o.trans hg5⟩
end
end
namespace Rc
open Go.RowKit Go.Sort Go.Maps Pt Hc
def tg(tag:Nat->Nat)(w:World)(j:Nat):Nat->Nat:=fun k=>if k<w.heap.size then tag k else j
theorem ak(h:k<w.heap.size):tg tag w j k=tag k:=if_pos h
theorem aO(h:w.heap.size<=k):tg tag w j k=j:=if_neg (by omega)
theorem Br{P:Program}{k e:TypeId}{K:Type}[DecidableEq K]{Z:KK P k K}{f:K->Int}(h:Ta Z e w b n f){ms:List K}(hs:∀s,f s≠0->s∈ms):Ta Z e w b ms.length f:=by
 obtain⟨D,h1,h2,h3⟩:=h;obtain⟨ks,hk,hl⟩:=mg h1 h3;have hle:=hk.le hs;refine⟨D, ?_,h2,h3⟩;obtain⟨es,clock,hb,F,hz,rfl⟩:=h1;refine⟨es,clock,hb,F, ?_,rfl⟩;have e1:ks.length=es.size:=by
  rw[hl];show(List.foldr DataW.insert [] _).length=_;rw[length_sorted];simp
 omega
theorem Mc{f:Tm->Int}{fr:List Tm}(h:Mu w mb tb b cb n v f fr){ms:List Tm}(hs:∀s,f s≠0->s∈ms):Mu w mb tb b cb ms.length v f fr:=⟨h.blk,⟨h.tl.blk,Br h.tl.ta hs,h.tl.bd⟩,h.ch⟩
theorem E8{f:Tm->Int}{fr:List Tm}(h:Mu w mb tb b cb n v f fr):mb<w.heap.size/\tb<w.heap.size/\b<w.heap.size/\cb<w.heap.size/\∀k,v.ownBlock=some k->k<w.heap.size:=
 ⟨h.lt,h.tl.lt,h.tl.ta.lt,(aG.1 h.ch.blk).1,fun k hk=>by obtain⟨cur,hc⟩:=h.row hk;exact ae hc⟩
def Ml(w:World)(tag:Nat->Nat)(j mb n:Nat)(f:Tm->Int)(fr:List Tm):Prop:=∃tb b cb v,Mu w mb tb b cb n v f fr/\fD f fr/\tag mb=j/\tag tb=j/\tag b=j/\tag cb=j/\∀k,v.ownBlock=some k->tag k=j
section
variable {w w':World} {tag tag':Nat->Nat} {j mb n:Nat} {f:Tm->Int} {fr:List Tm} {S:Nat->Prop}
theorem Ml.keep(h:Ml w tag j mb n f fr)(hK:Kp S w w')(hS:∀k,k<w.heap.size->S k->tag k≠j)(hT:∀k,k<w.heap.size->tag' k=tag k):Ml w' tag' j mb n f fr:=by
 obtain⟨tb,b,cb,v,h1,h2,t1,t2,t3,t4,t5⟩:=h;obtain⟨l1,l2,l3,l4,l5⟩:=E8 h1;exact⟨tb,b,cb,v,h1.kp hK (fun e=>hS _ l1 e t1) (fun e=>hS _ l2 e t2) (fun e=>hS _ l3 e t3) (fun e=>hS _ l4 e t4) (fun k hk e=>hS k (l5 k hk) e (t5 k hk)),h2,by rw[hT _ l1,t1],by rw[hT _ l2,t2],by rw[hT _ l3,t3],by rw[hT _ l4,t4],fun k hk=>by rw[hT _ (l5 k hk)];exact t5 k hk⟩
theorem Ml.tight(h:Ml w tag j mb n f fr){ms:List Tm}(hs:∀s,f s≠0->s∈ms):Ml w tag j mb ms.length f fr:=by
 obtain⟨tb,b,cb,v,h1,h2⟩:=h;exact⟨tb,b,cb,v,Mc h1 hs,h2⟩
theorem Ht(hf:∀u,-2147483647<=f u/\f u<=2147483647)(t:Tm)(N:Int)(hs: -2147483647<=f t+N/\f t+N<=2147483647):bR f [(t,N)]=fun u=>if u=t then f t+N else f u:=by
 funext u
 have e:sm [(t,N)]=upd (fun _=>0) t (wrap64 (0+N)):=rfl;unfold bR;rw[e];by_cases k:u=t
 ·subst k;rw[upd_same,if_pos rfl];unfold wrap64;omega
 ·rw[bX _ _ k,if_neg k];have:=hf u;unfold wrap64;omega
theorem Ml.apply(h:Ml w tag j mb n f fr)(t:Tm)(N:Int)(u:Value)(hu:Ls ED w u [(t,N)])(hN: -2147483647<=N/\N<=2147483647)(hs: -2147483647<=f t+N/\f t+N<=2147483647)(hn:n<=1099511627776):
    Calls Tryz.prog 80 #[.pointer (some ⟨mb,0,none⟩),u] w fun e w'=>∃(vo:Value) (fr':List Tm),e= .returned (.tuple #[vo, .int .i64 0])/\Hid (Ml w' (tg tag w j) j mb (n+2) (fun u=>if u=t then f t+N else f u) fr'/\w'.ownsRow w.heap.size 163 4 vo (nI fr fr').length (fl ED (nI fr fr'))/\Kp (fun k=>tag k=j) w w'):=by
 obtain⟨tb,b,cb,v,h1,h2,t1,t2,t3,t4,t5⟩:=h;have hc:=Ht h1.tl.bd t N hs;have hb:bad f [(t,N)]=false:=by
  unfold bad;rw[hc];have e1:Tt.dQ N=false:=Tt.dP.2 hN;have e2:Tt.dQ (f t+N)=false:=Tt.dP.2 hs;simp[e1,e2]
 refine(yO [(t,N)] u w h1 h2 hu (by simp;omega)).mono ?_;rintro e w' (⟨k,_⟩|⟨_,vo,v',fr',k1,rfl,k2,k3,k4,k5,_⟩)
 ·rw[hb]at k;cases k
 ·rw[hc]at k1 k3;obtain⟨l1,l2,l3,l4,l5⟩:=E8 h1;refine⟨vo,fr',rfl,⟨tb,b,cb,v',k3,k1,by rw[ak l1,t1],by rw[ak l2,t2],by rw[ak l3,t3],by rw[ak l4,t4],fun k hk=> ?_⟩,k2,k4.mono fun k hk=> ?_⟩
  ·rcases k5 k hk with e|e
   ·rw[ak (l5 k e),t5 k e]
   ·exact aO e
  ·rcases hk with rfl|rfl|hk
   ·exact t3
   ·exact t4
   ·exact t5 k hk
end
abbrev Sv:=Option Addr×Nat×Nat
abbrev XM(x:Sv):Value:= .slice x.1 x.2.1 x.2.2
def EV:El Sv where
 k:=1
 enc x:=[XM x]
 len _:=rfl
 one x u hu:=by simp at hu;rw[hu];rfl
def EP:El (Nat×ah) where
 k:=4
 enc x:=[.int .i64 (x.1:Nat), .int .u64 x.2.1.1, .int .u64 x.2.1.2.1, .int .u64 x.2.1.2.2]
 len _:=rfl
 one x u hu:=by
  simp at hu;rcases hu with rfl|rfl|rfl|rfl<;>rfl
def EA:El Nat where
 k:=1
 enc x:=[.pointer (some ⟨x,0,none⟩)]
 len _:=rfl
 one x u hu:=by simp at hu;rw[hu];rfl
theorem XX{ts:List Sv}(h:Ls EV w v ts){x:Sv}(hj:ts[j]? =some x):∃b off c,v= .slice (some ⟨b,off,none⟩) ts.length c/\b<w.heap.size/\w.cell? ⟨b,off+j,none⟩=some (XM x):=by
 obtain⟨b,off,c,hv,hb,hc⟩:=h.get hj;have:=hc 0 _ (by decide) rfl;rw[show EV.k=1 from rfl,Nat.mul_one]at this;exact⟨b,off,c,hv,hb,this⟩
theorem qW{ts:List Nat}(h:Ls EA w v ts){x:Nat}(hj:ts[j]? =some x):∃b off c,v= .slice (some ⟨b,off,none⟩) ts.length c/\b<w.heap.size/\w.cell? ⟨b,off+j,none⟩=some (.pointer (some ⟨x,0,none⟩)):=by
 obtain⟨b,off,c,hv,hb,hc⟩:=h.get hj;have:=hc 0 _ (by decide) rfl;rw[show EA.k=1 from rfl,Nat.mul_one]at this;exact⟨b,off,c,hv,hb,this⟩
theorem aao{ts:List (Nat×ah)}(h:Ls EP w v ts){x:Nat×ah}(hj:ts[j]? =some x):∃b off c,v= .slice (some ⟨b,off,none⟩) ts.length c/\b<w.heap.size/\w.cell? ⟨b,off+j*4,none⟩=some (.int .i64 (x.1:Nat))/\w.cell? ⟨b,off+j*4+1,none⟩=some (.int .u64 x.2.1.1)/\w.cell? ⟨b,off+j*4+2,none⟩=some (.int .u64 x.2.1.2.1)/\w.cell? ⟨b,off+j*4+3,none⟩=some (.int .u64 x.2.1.2.2):=by
 obtain⟨b,off,c,hv,hb,hc⟩:=h.get hj;exact⟨b,off,c,hv,hb,hc 0 _ (by decide) rfl,hc 1 _ (by decide) rfl,hc 2 _ (by decide) rfl,hc 3 _ (by decide) rfl⟩
structure Rd(w:World)(tag:Nat->Nat)(rb:Nat)(ar:Int)(sv rv ov cv uv:Value)(N:Nat)(L:Nat->List (Nat×ah))(rs ms:List Nat):Prop where
 blk:w.heap[rb]? =some (.cells #[.int .i64 ar,sv,rv,ov,cv,uv] 102 (0,0))
 st:∃us:List Sv,Ls EV w sv us/\us.length=N/\∀p x,us[p]? =some x->Ls EP w (XM x) (L p)/\∀k,(XM x).ownBlock=some k->tag k=0
 rk:Ls ER w rv rs
 cm:Ls EA w cv ms
 tb:tag rb=0
 ts:∀k,sv.ownBlock=some k->tag k=0
 tr:∀k,rv.ownBlock=some k->tag k=0
 tc:∀k,cv.ownBlock=some k->tag k=0
theorem Rd.keep{w':World}{tag':Nat->Nat}{rb:Nat}{ar:Int}{sv rv ov cv uv:Value}{L:Nat->List (Nat×ah)}{ms:List Nat}{S:Nat->Prop}(h:Rd w tag rb ar sv rv ov cv uv N L rs ms)(hK:Kp S w w')(hS:∀k,k<w.heap.size->S k->tag k≠0)(hT:∀k,k<w.heap.size->tag' k=tag k):Rd w' tag' rb ar sv rv ov cv uv N L rs ms:=by
 obtain⟨us,u1,u2,u3⟩:=h.st;have key:∀{α:Type} {E:El α} {v:Value} {l:List α},Ls E w v l->(∀k,v.ownBlock=some k->tag k=0)->Ls E w' v l:=fun {α E v l} hl ht=>hK.ls hl fun k hk e=>hS k (hl.blk k hk) e (ht k hk);exact⟨(hK.block rb (ae h.blk) fun e=>hS rb (ae h.blk) e h.tb).trans h.blk,⟨us,key u1 h.ts,u2,fun p x hx=>⟨key (u3 p x hx).1 (u3 p x hx).2,fun k hk=>by rw[hT k ((u3 p x hx).1.blk k hk)];exact(u3 p x hx).2 k hk⟩⟩,key h.rk h.tr,key h.cm h.tc,by rw[hT rb (ae h.blk)];exact h.tb,fun k hk=>by rw[hT k (u1.blk k hk)];exact h.ts k hk,fun k hk=>by rw[hT k (h.rk.blk k hk)];exact h.tr k hk,fun k hk=>by rw[hT k (h.cm.blk k hk)];exact h.tc k hk⟩
theorem LW(a b:ah)(w:World):Calls Tryz.prog 15 #[.agg #[.int .u64 a.1.1, .int .u64 a.1.2.1, .int .u64 a.1.2.2], .agg #[.int .u64 b.1.1, .int .u64 b.1.2.1, .int .u64 b.1.2.2]] w fun e w'=>e= .returned (.tuple #[.agg #[.int .u64 (Lf.qG a b).1.1, .int .u64 (Lf.qG a b).1.2.1, .int .u64 (Lf.qG a b).1.2.2], .bool (bz a b).isSome])/\Below w.heap.size w w':=by
 obtain⟨x1,x2,x3,y1,y2,y3,⟨e1,e2,e3⟩,⟨f1,f2,f3⟩,⟨g1,g2,g3⟩,⟨h1,h2,h3⟩,k0,k1,k2,k3⟩:=Lf.zb a b;have h:=Gn x1 x2 x3 y1 y2 y3 w g1 g2 g3 h1 h2 h3;rw[k1,k2,k3,k0]at h;rw[e1,e2,e3,f1,f2,f3];exact h
def Tko(N:Nat)(rs:List Nat)(Q:List It)(c:Th)(b:Bool)(Q':List It):Prop:=(b=false/\Q=[]/\Q'=[])\/(b=true/\∃M,(M++Q').Perm Q/\M≠[]/\(∀x∈M,GL x.1 c)/\c.2.2=mD M/\∀x∈Q',¬GL x.1 c/\kC N rs c<kC N rs x.1)
def Hm(w:World)(tag:Nat->Nat)(hb:Nat)(ff:Value)(f:Th->Int)(Q:List It)(np:Nat):Prop:=∃v,Hq w hb ff v f Q np/\tag hb=1/\∀k,v.ownBlock=some k->tag k=1
section
variable {w w':World} {tag tag':Nat->Nat} {hb np:Nat} {ff:Value} {f:Th->Int} {Q:List It} {S:Nat->Prop}
theorem Hm.keep(h:Hm w tag hb ff f Q np)(hK:Kp S w w')(hS:∀k,k<w.heap.size->S k->tag k≠1)(hT:∀k,k<w.heap.size->tag' k=tag k):Hm w' tag' hb ff f Q np:=by
 obtain⟨v,h1,h2,h3⟩:=h;exact⟨v,h1.kp hK (fun e=>hS _ h1.h.lt e h2) (fun k hk e=>hS k (h1.h.row k hk) e (h3 k hk)),by rw[hT _ h1.h.lt,h2],fun k hk=>by rw[hT k (h1.h.row k hk),h3 k hk]⟩
theorem Hm.turn{v':Value}{Q':List It}(h:Hq w hb ff v f Q np)(h2:tag hb=1)(h3:∀k,v.ownBlock=some k->tag k=1)(hq:Hq w' hb ff v' f Q' DL)(ht:dO hb v v' w w'):Hm w' (tg tag w 1) hb ff f Q' DL/\Kp (fun k=>tag k=1) w w':=by
 refine⟨⟨v',hq,by rw[ak h.h.lt,h2],fun k hk=> ?_⟩,ht.1.mono fun k hk=> ?_⟩
 ·rcases ht.2 k hk with e|e
  ·rw[ak (h.h.row k e),h3 k e]
  ·exact aO e
 ·rcases hk with rfl|hk
  ·exact h2
  ·exact h3 k hk
theorem Hm.push(h:Hm w tag hb ff f Q np)(x:Th)(hl:(Q.length+1)*48<=140737488355328)(Qx:np+1<18446744073709551616){K:World->Prop}{V:Th->Prop}(hF:Hc.dS K V ff (key f))(hk:K w)(hV:∀y∈Q,V y.1)(hx:V x):
    Calls Tryz.prog 82 #[.pointer (some ⟨hb,0,none⟩), .agg #[.int .i64 x.1, .int .u64 x.2.1.1.1, .int .u64 x.2.1.1.2.1, .int .u64 x.2.1.1.2.2, .int .i64 x.2.2]] w fun e w'=>∃Q',e= .returned (.tuple #[])/\Hid (Hm w' (tg tag w 1) hb ff f Q' (np+1)/\Kp (fun k=>tag k=1) w w')/\Hid (Q'.Perm (Q++[(x,np)])):=by
 obtain⟨v,h1,h2,h3⟩:=h;refine(qP x w h1 hl Qx hF hk hV hx).mono ?_;rintro e w' ⟨v',Q',rfl,k1,k2,k3⟩;exact⟨Q',rfl,Hm.turn h1 h2 h3 k1 k3,k2⟩
theorem Hm.taken(h:Hm w tag hb ff (kC N rs) Q np)(hl:Q.length<=1099511627776)(hr:∀x∈rs,x<=N){K:World->Prop}(hF:Hc.dS K (Vp N) ff (key (kC N rs)))(hK:∀W,Kp (fun k=>tag k=1) w W->K W)(hV:∀y∈Q,Vp N y.1/\-1<=y.1.2.2/\y.1.2.2<=1):
    Calls Tryz.prog 79 #[.pointer (some ⟨hb,0,none⟩)] w fun e w'=>∃c b Q',e= .returned (ans c b)/\Hid (Hm w' (tg tag w 1) hb ff (kC N rs) Q' np/\Kp (fun k=>tag k=1) w w')/\Hid (Tko N rs Q c b Q'):=by
 obtain⟨v,h1,h2,h3⟩:=h;have hKv:∀W,Kp (fun k=>k=hb\/v.ownBlock=some k) w W->K W:=fun W hW=>hK W (hW.mono fun k hk=>hk.elim (fun e=>by rw[e];exact h2) (h3 k));refine(I5 w h1 hl hr hF hKv (fun y hy=>(hV y hy).1) (fun y hy=>(hV y hy).2)).mono ?_;rintro e w' (⟨k0,rfl,k1,k2⟩|⟨c,v',Q',M,rfl,k1,k2,k3,k4,k5,k6,k7⟩)
 ·subst k0;refine⟨zt,false,[],rfl,⟨⟨v,k1,by rw[ak h1.h.lt,h2],fun k hk=>by rw[ak (h1.h.row k hk),h3 k hk]⟩,(Kp.of_below (S:=fun _=>False) k2).mono (fun _ h=>h.elim)⟩, .inl ⟨rfl,rfl,rfl⟩⟩
 ·exact⟨c,true,Q',rfl,Hm.turn h1 h2 h3 k1 k7, .inr ⟨rfl,M,k2,k3,k4,k5,k6⟩⟩
end
def Tg(w:World)(tag:Nat->Nat)(tb nt:Nat)(g:Rs.Sm->Int):Prop:=∃bb,Rs.Tt.Tl w tb bb 78 nt g/\tag tb=2/\tag bb=2
section
variable {w w':World} {tag tag':Nat->Nat} {tb nt:Nat} {g:Rs.Sm->Int} {S:Nat->Prop}
theorem Tg.keep(h:Tg w tag tb nt g)(hK:Kp S w w')(hS:∀k,k<w.heap.size->S k->tag k≠2)(hT:∀k,k<w.heap.size->tag' k=tag k):Tg w' tag' tb nt g:=by
 obtain⟨bb,h1,h2,h3⟩:=h;have l1:=h1.lt;have l2:=h1.ta.lt;exact⟨bb,h1.kp hK (fun e=>hS _ l1 e h2) (fun e=>hS _ l2 e h3),by rw[hT _ l1,h2],by rw[hT _ l2,h3]⟩
theorem Tg.tight(h:Tg w tag tb nt g){ks:List Rs.Sm}(hs:∀s,g s≠0->s∈ks):Tg w tag tb ks.length g:=by
 obtain⟨bb,h1,h2⟩:=h;exact⟨bb,⟨h1.blk,Br h1.ta hs,h1.bd⟩,h2⟩
theorem Tg.add(h:Tg w tag tb nt g)(x:Rs.Sm)(v:Int)(hn:nt<maxLen)(hv: -2147483647<=v/\v<=2147483647)(hs: -2147483647<=g x+v/\g x+v<=2147483647):
    Calls Tryz.prog 81 #[.pointer (some ⟨tb,0,none⟩),Rs.mv x, .int .i64 v] w fun e w'=>e= .returned (.int .i64 0)/\Hid (Tg w' (tg tag w 2) tb (nt+1) (fun s=>if s=x then g x+v else g s)/\Kp (fun k=>tag k=2) w w'):=by
 obtain⟨bb,h1,h2,h3⟩:=h;refine(Rs.Tt.nM x v w h1 hn).mono ?_;rintro e w' ⟨rfl,k1,k2⟩;have e1:¬(Rs.Tt.dQ v=true\/Rs.Tt.dQ (g x+v)=true):=by
  rw[Rs.Tt.je,Rs.Tt.je];omega
 have e2:Rs.Tt.wM g x v=fun s=>if s=x then g x+v else g s:=by
  unfold Rs.Tt.wM;rw[if_neg e1]
  funext s
  by_cases k:s=x
  ·subst k;rw[upd_same,if_pos rfl]
  ·rw[bX _ _ k,if_neg k]
 rw[e2]at k1;have l1:=h1.lt;have l2:=h1.ta.lt;refine⟨by unfold Rs.Tt.Dp;rw[if_neg e1],⟨bb,k1,by rw[ak l1,h2],by rw[ak l2,h3]⟩,k2.mono fun k hk=>by rw[hk];exact h3⟩
end
structure Ss(w0:World)(aF:Nat->Nat)(w:World)(tag:Nat->Nat)(hb tb rb:Nat)(ar:Int)(sv rv ov cv uv:Value)(N:Nat)(L:Nat->List (Nat×ah))(rs ms:List Nat)(S:Nat->List ah)(Q:List It)(np nt:Nat)(g:Rs.Sm->Int)(C:Nat->ah->Int)(F:Nat->List ah):Prop where
 rd:Rd w tag rb ar sv rv ov cv uv N L rs ms
 hm:Hm w tag hb (wv ar sv rv) (kC N rs) Q np
 tg:Tg w tag tb nt g
 mm:∀p mb,ms[p]? =some mb->Ml w tag (3+p) mb (S p).length (C p) (F p)
 kp:Kp (fun k=>aF k≠0) w0 w
 old:∀k,k<w0.heap.size->tag k=aF k
section
variable {w0 w w':World} {aF tag:Nat->Nat} {hb tb rb:Nat} {ar:Int} {sv rv ov cv uv:Value} {N:Nat} {L:Nat->List (Nat×ah)} {rs ms:List Nat} {S:Nat->List ah} {Q:List It} {np nt:Nat} {g:Rs.Sm->Int} {C:Nat->ah->Int} {F:Nat->List ah}
theorem Ss.kp'(h:Ss w0 aF w tag hb tb rb ar sv rv ov cv uv N L rs ms S Q np nt g C F)(hj:j≠0)(hK:Kp (fun k=>tag k=j) w w'):Kp (fun k=>aF k≠0) w0 w':=h.kp.trans hK fun k hk e=>by rw[<-h.old k hk,e];exact hj
theorem Ss.old'(h:Ss w0 aF w tag hb tb rb ar sv rv ov cv uv N L rs ms S Q np nt g C F)(j:Nat):∀k,k<w0.heap.size->Rc.tg tag w j k=aF k:=fun k hk=>by rw[ak (nL hk h.kp.size),h.old k hk]
theorem Ss.heap(h:Ss w0 aF w tag hb tb rb ar sv rv ov cv uv N L rs ms S Q np nt g C F){Q':List It}(hm:Hm w' (Rc.tg tag w 1) hb (wv ar sv rv) (kC N rs) Q' DL)(hK:Kp (fun k=>tag k=1) w w'):Ss w0 aF w' (Rc.tg tag w 1) hb tb rb ar sv rv ov cv uv N L rs ms S Q' DL nt g C F:=
 ⟨h.rd.keep hK (fun k _ e=>by omega) (fun k hk=>ak hk),hm,h.tg.keep hK (fun k _ e=>by omega) (fun k hk=>ak hk),fun p mb hp=>(h.mm p mb hp).keep hK (fun k _ e=>by omega) (fun k hk=>ak hk),h.kp' (by decide) hK,h.old' 1⟩
theorem Ss.tally(h:Ss w0 aF w tag hb tb rb ar sv rv ov cv uv N L rs ms S Q np nt g C F){g':Rs.Sm->Int}{nt':Nat}(ht:Tg w' (Rc.tg tag w 2) tb nt' g')(hK:Kp (fun k=>tag k=2) w w'):Ss w0 aF w' (Rc.tg tag w 2) hb tb rb ar sv rv ov cv uv N L rs ms S Q np nt' g' C F:=
 ⟨h.rd.keep hK (fun k _ e=>by omega) (fun k hk=>ak hk),h.hm.keep hK (fun k _ e=>by omega) (fun k hk=>ak hk),ht,fun p mb hp=>(h.mm p mb hp).keep hK (fun k _ e=>by omega) (fun k hk=>ak hk),h.kp' (by decide) hK,h.old' 2⟩
theorem Ss.Ma(h:Ss w0 aF w tag hb tb rb ar sv rv ov cv uv N L rs ms S Q np nt g C F){p:Nat}(hp:ms[p]? =some mb){f':ah->Int}{fr':List ah}(hm:Ml w' (Rc.tg tag w (3+p)) (3+p) mb (S p).length f' fr')(hK:Kp (fun k=>tag k=3+p) w w'):Ss w0 aF w' (Rc.tg tag w (3+p)) hb tb rb ar sv rv ov cv uv N L rs ms S Q np nt g (bG C p f') (bG F p fr'):=
 ⟨h.rd.keep hK (fun k _ e=>by omega) (fun k hk=>ak hk),h.hm.keep hK (fun k _ e=>by omega) (fun k hk=>ak hk),h.tg.keep hK (fun k _ e=>by omega) (fun k hk=>ak hk),fun q mq hq=>by
  by_cases e:q=p
  ·subst e;rw[hp]at hq;rw[<-Option.some.inj hq,bJ,bJ];exact hm
  ·rw[bH C f' e,bH F fr' e];exact(h.mm q mq hq).keep hK (fun k _ e2=>by omega) (fun k hk=>ak hk),h.kp' (by omega) hK,h.old' (3+p)⟩
theorem Ss.grow(h:Ss w0 aF w tag hb tb rb ar sv rv ov cv uv N L rs ms S Q np nt g C F)(j:Nat)(hB:Below w.heap.size w w'):Ss w0 aF w' (Rc.tg tag w j) hb tb rb ar sv rv ov cv uv N L rs ms S Q np nt g C F:=by
 have hK:=Kp.of_below (S:=fun _=>False) hB;exact⟨h.rd.keep hK (fun k _ e=>e.elim) (fun k hk=>ak hk),h.hm.keep hK (fun k _ e=>e.elim) (fun k hk=>ak hk),h.tg.keep hK (fun k _ e=>e.elim) (fun k hk=>ak hk),fun p mb hp=>(h.mm p mb hp).keep hK (fun k _ e=>e.elim) (fun k hk=>ak hk),h.kp.trans hK fun k _ e=>e.elim,h.old' j⟩
theorem Ss.set(h:Ss w0 aF w tag hb tb rb ar sv rv ov cv uv N L rs ms S Q np nt g C F)(hb0:w0.heap.size<=b)(hd:tag b=4294967296)(hK:Kp (fun k=>k=b) w w')(hms:ms.length<=1000000):Ss w0 aF w' tag hb tb rb ar sv rv ov cv uv N L rs ms S Q np nt g C F:=
 ⟨h.rd.keep hK (fun k _ e=>by rw[e,hd];decide) (fun k hk=>rfl),h.hm.keep hK (fun k _ e=>by rw[e,hd];decide) (fun k hk=>rfl),h.tg.keep hK (fun k _ e=>by rw[e,hd];decide) (fun k hk=>rfl),fun p mb hp=>(h.mm p mb hp).keep hK (fun k _ e=>by
  have:=(lG.1 hp).1;rw[e,hd];omega) (fun k hk=>rfl),h.kp.trans hK fun k hk e=>by omega,h.old⟩
end
end Rc
end Go.Proofs.YteekbpokkjjipaaGreat
