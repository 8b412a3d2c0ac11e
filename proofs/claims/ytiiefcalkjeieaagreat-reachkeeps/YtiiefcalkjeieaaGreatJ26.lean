import Derived.Test.YtiiefcalkjeieaaGreatJ25
variable{w w':Go.World}{N p j b n mb np k tb cb x FI nc q i:Nat}{v:Go.Value}{tag tag':Nat->Nat}{S:Nat->Prop}{e:Go.TypeId}{rs:List Nat}
set_option maxHeartbeats 1000000
namespace Go.Proofs.YtiiefcalkjeieaaGreat
section
open Go.RowKit Go.Sort Go.Maps
open Tt (Tl dW dK)
attribute[local go_sem ↓]wp_at_zero wp_at_succ
theorem yl(w:World):CL 108 #[fv fA,fv fN] w fun e w'=>e= .returned (aB w.heap.size)/\Cz.Ch true w' w.heap.size fA fN (.slice none 0 0) []/\Gr w w':=by
 go_enter Tryz.func108,Tryz.ntmps108;go_wp2;go_ret;exact⟨rfl,⟨ah _ _,oN _ _ _ _,by simp[Value.ownBlock]⟩,(Gr.refl _).alloc _⟩
theorem BB(w:World):CL 107 #[] w fun e w'=>∃tb b,e= .returned (cv tb)/\Tl w' tb b fC 0 (fun _=>0)/\w.heap.size<=tb/\w.heap.size<=b/\Kp (fun _=>False) w w':=by
 have h:=fun W=>Tt.dI fC W;obtain⟨W1,hW1⟩:=aF (w.alloc (.cells #[.pointer none] 176));have G1:Gr w W1:=by rw[hW1];exact(Gr.refl _).alloc _
 have hblk:W1.heap[w.heap.size]? =some (.cells #[.pointer none] 176 (0,0)):=by rw[hW1];exact ah _ _
 have hlt:w.heap.size<W1.heap.size:=(aG.1 hblk).1;go_enter Tryz.func107,Tryz.ntmps107;go_wp2_with fail;rw[<-hW1];refine(h _).mono ?_;rintro e w2 ⟨rfl,ht,hg⟩;have c0:w2.cell? ⟨w.heap.size,0,none⟩=some (.pointer none):=(hg.cell hlt).trans (by simp[World.cell?,hblk]);have f0:w2.frozen? ⟨w.heap.size,0,none⟩=false:=(hg.frozen hlt).trans (by simp[World.frozen?,hblk]);have hl2:=nL hlt hg.size;have aaE:=(hg.below.block _ hlt).trans hblk;clear h;have hz1:W1.heap.size=w.heap.size+1:=by rw[hW1];simp
 clear hW1;go_wp2;have e2:=setCell_eq_setRow w2 w.heap.size 0 _ _ _ (.pointer (some ⟨w.heap.size+1+1,0,none⟩)) aaE;have hk:Kp (fun k=>k=w.heap.size) w2 (w2.setCell ⟨w.heap.size,0,none⟩ (.pointer (some ⟨w.heap.size+1+1,0,none⟩))):=by
  rw[e2];exact⟨rfl,rfl,rfl,by simp[World.setRow],fun k _ hne=>setRow_other _ _ k _ hne⟩
 have c9:(w2.setCell ⟨w.heap.size,0,none⟩ (.pointer (some ⟨w.heap.size+1+1,0,none⟩))).cell? ⟨w.heap.size,0,none⟩=some (.pointer (some ⟨w.heap.size+1+1,0,none⟩)):=by
  have:=setRow_heap w2 w.heap.size _ ((#[Value.pointer none]:Array Value).setIfInBounds 0 (.pointer (some ⟨w.heap.size+1+1,0,none⟩))) _ _ aaE;rw[e2];simp only[World.cell?];rw[this];rfl
 rw[hz1]at ht;refine bR (v:=cv (w.heap.size+1+1)) (by simp[results,Tryz.results107,go_sem,c9]) rfl ?_;refine⟨_,_,rfl,ht.kp hk (by omega) (by omega),by omega,by omega, ?_⟩;exact(Kp.bg (G1.trans hg)).trans hk (fun j hj e=>by omega)
theorem DY(w:World):CL 67 #[] w fun e w'=>∃mb tb b cb,e= .returned (aB mb)/\Mu w' mb tb b cb 0 (.slice none 0 0) (fun _=>0) []/\(w.heap.size<=mb/\w.heap.size<=tb/\w.heap.size<=b/\w.heap.size<=cb)/\Bw w w':=by
 have h1:=BB w;have h2:=fun W=>yl W;go_enter Tryz.func67,Tryz.ntmps67;go_wp2_with fail;refine h1.mono ?_;rintro e w1 ⟨tb,b,rfl,ht,hz1,hz2,hk⟩;go_wp2_with fail;refine(h2 _).mono ?_;rintro e w2 ⟨rfl,hc,hg⟩;go_wp2;go_ret;have z1:=hk.size;have z2:=hg.size;refine⟨_,tb,b,_,rfl,⟨ah _ _,(ht.gr hg).gr ((Gr.refl _).alloc _),hc.below ((Gr.refl _).alloc _).below⟩,⟨by omega,hz1,hz2,by omega⟩, ?_⟩;have b1:Bw w w1:=hk.below (nR _) (fun _ h=>h.elim);exact b1.trans ((hg.trans ((Gr.refl _).alloc _)).below.mono z1)
section
variable {mb tb b cb n:Nat} {v:Value} {f:Tm->Int} {fr:List Tm}
theorem tH(w:World)(h:Mu w mb tb b cb n v f fr)(hl:fr.length*24<=140737488355328):
    CL 41 #[aB mb] w fun e w'=>∃v',e= .returned v'/\w'.ownsRow w.heap.size 45 3 v' fr.length (eQ fr)/\Bw w w':=by
 have hl:=Cn.kM w h.ch hl;have m1:=h.c1;have rC:=h.lt;clear h;go_enter Tryz.func41,Tryz.ntmps41;go_wp2_with fail;refine hl.mono ?_;rintro e w1 ⟨v1,rfl,ho,hb⟩;go_wp2;go_ret;exact⟨_,rfl,ho,hb⟩
theorem dV(x:Tm)(w:World)(h:Mu w mb tb b cb n v f fr):
    CL 44 #[aB mb,tv x] w fun e w'=>e= .returned (iV (f x))/\Gr w w':=by
 have hmx:Tryz.prog.follows .mixedOrders=true:=by kernel_rfl
 obtain⟨W1,hW1⟩:=aF (w.alloc (.cells #[uV x.1.1,uV x.1.2.1,uV x.1.2.2] 45));obtain⟨nb,hnb⟩:=aF (w.heap.size);have G1:Gr w W1:=by rw[hW1];exact(Gr.refl _).alloc _
 have HG:Hid (Gr w W1.drew):=G1.drew;have hco:=lJ x W1.drew (h.tl.gr G1.drew);have hblk:W1.heap[nb]? =some (.cells #[uV x.1.1,uV x.1.2.1,uV x.1.2.2] 45 (0,0)):=by rw[hW1,hnb];exact ah _ _
 have S0:(W1.drew.cell? ⟨mb,0,none⟩=some (aB tb)/\W1.drew.cell? ⟨nb,0,none⟩=some (uV x.1.1)/\W1.drew.cell? ⟨nb,1,none⟩=some (uV x.1.2.1)/\W1.drew.cell? ⟨nb,2,none⟩=some (uV x.1.2.2)/\mb<W1.drew.heap.size/\nb<W1.drew.heap.size):=by
  refine⟨(G1.drew.cell h.lt).trans h.c0, ?_, ?_, ?_,nL h.lt G1.size,(aG.1 hblk).1⟩;all_goals (show W1.cell? _=_;simp only[World.cell?];rw[hblk];rfl)
 have il:∀W W':World,(aj W mb 0 (aB tb)/\aj W nb 0 (uV x.1.1)/\aj W nb 1 (uV x.1.2.1)/\aj W nb 2 (uV x.1.2.2)/\mb<W.heap.size/\nb<W.heap.size)->Gr W W'->(aj W' mb 0 (aB tb)/\aj W' nb 0 (uV x.1.1)/\aj W' nb 1 (uV x.1.2.1)/\aj W' nb 2 (uV x.1.2.2)/\mb<W'.heap.size/\nb<W'.heap.size):=fun W W' h hg=>
  ⟨(hg.cell h.2.2.2.2.1).trans h.1,(hg.cell h.2.2.2.2.2).trans h.2.1,(hg.cell h.2.2.2.2.2).trans h.2.2.1,(hg.cell h.2.2.2.2.2).trans h.2.2.2.1,nL h.2.2.2.2.1 hg.size,nL h.2.2.2.2.2 hg.size⟩
 generalize f x=c at hco⊢;clear h hblk;go_enter Tryz.func44,Tryz.ntmps44;go_wp2_with fail;rw[<-hW1,<-hnb];clear hW1 hnb G1;go_region_held3 (fun w'=>aj w' mb 0 (aB tb)/\aj w' nb 0 (uV x.1.1)/\aj w' nb 1 (uV x.1.2.1)/\aj w' nb 2 (uV x.1.2.2)/\mb<w'.heap.size/\nb<w'.heap.size)
  (first|exact S0|exact il _ _ (by assumption) (by assumption))
  (first|(go_at_call 89;refine hco.mono ?_;rintro e w5 ⟨rfl,hg5⟩))
 go_wp2;go_ret;exact⟨rfl,HG.o.trans hg5⟩
theorem xn(x:Tm)(w:World)(h:Mu w mb tb b cb n v f fr)(hl:fr.length*24<=140737488355328):
    CL 47 #[aB mb,tv x] w fun e w'=>e= .returned (.bool (bH aC fr x))/\Gr w w':=by
 have hmx:Tryz.prog.follows .mixedOrders=true:=by kernel_rfl
 obtain⟨W1,hW1⟩:=aF (w.alloc (.cells #[uV x.1.1,uV x.1.2.1,uV x.1.2.2] 45));obtain⟨nb,hnb⟩:=aF (w.heap.size);have G1:Gr w W1:=by rw[hW1];exact(Gr.refl _).alloc _
 have HG:Hid (Gr w W1.drew):=G1.drew;have hco:=Cz.qB x W1.drew (h.ch.below G1.drew.below) hl fJ;have hblk:W1.heap[nb]? =some (.cells #[uV x.1.1,uV x.1.2.1,uV x.1.2.2] 45 (0,0)):=by rw[hW1,hnb];exact ah _ _
 have S0:(W1.drew.cell? ⟨mb,1,none⟩=some (aB cb)/\W1.drew.cell? ⟨nb,0,none⟩=some (uV x.1.1)/\W1.drew.cell? ⟨nb,1,none⟩=some (uV x.1.2.1)/\W1.drew.cell? ⟨nb,2,none⟩=some (uV x.1.2.2)/\mb<W1.drew.heap.size/\nb<W1.drew.heap.size):=by
  refine⟨(G1.drew.cell h.lt).trans h.c1, ?_, ?_, ?_,nL h.lt G1.size,(aG.1 hblk).1⟩;all_goals (show W1.cell? _=_;simp only[World.cell?];rw[hblk];rfl)
 have il:∀W W':World,(aj W mb 1 (aB cb)/\aj W nb 0 (uV x.1.1)/\aj W nb 1 (uV x.1.2.1)/\aj W nb 2 (uV x.1.2.2)/\mb<W.heap.size/\nb<W.heap.size)->Gr W W'->(aj W' mb 1 (aB cb)/\aj W' nb 0 (uV x.1.1)/\aj W' nb 1 (uV x.1.2.1)/\aj W' nb 2 (uV x.1.2.2)/\mb<W'.heap.size/\nb<W'.heap.size):=fun W W' h hg=>
  ⟨(hg.cell h.2.2.2.2.1).trans h.1,(hg.cell h.2.2.2.2.2).trans h.2.1,(hg.cell h.2.2.2.2.2).trans h.2.2.1,(hg.cell h.2.2.2.2.2).trans h.2.2.2.1,nL h.2.2.2.2.1 hg.size,nL h.2.2.2.2.2 hg.size⟩
 generalize bH aC fr x=c at hco⊢;clear h hblk;go_enter Tryz.func47,Tryz.ntmps47;go_wp2_with fail;rw[<-hW1,<-hnb];clear hW1 hnb G1;go_region_held3 (fun w'=>aj w' mb 1 (aB cb)/\aj w' nb 0 (uV x.1.1)/\aj w' nb 1 (uV x.1.2.1)/\aj w' nb 2 (uV x.1.2.2)/\mb<w'.heap.size/\nb<w'.heap.size)
  (first|exact S0|exact il _ _ (by assumption) (by assumption))
  (first|(go_at_call 91;refine hco.mono ?_;rintro e w5 ⟨rfl,hg5⟩))
 go_wp2;go_ret;exact⟨rfl,HG.o.trans hg5⟩
end
end
namespace Rc
open Go.RowKit Go.Sort Go.Maps Pt Hc
def tg(tag:Nat->Nat)(w:World)(j:Nat):Nat->Nat:=fun k=>if k<w.heap.size then tag k else j
theorem au(h:k<w.heap.size):tg tag w j k=tag k:=if_pos h
theorem aU(h:w.heap.size<=k):tg tag w j k=j:=if_neg (by omega)
theorem Dv{P:Program}{k:TypeId}{K:Type}[DecidableEq K]{Z:KK P k K}{f:K->Int}(h:Ta Z e w b n f){ms:List K}(hs:∀s,f s≠0->s∈ms):Ta Z e w b ms.length f:=by
 obtain⟨D,h1,h2,h3⟩:=h;obtain⟨ks,hk,hl⟩:=ny h1 h3;have hle:=hk.le hs;refine⟨D, ?_,h2,h3⟩;obtain⟨es,clock,hb,F,hz,rfl⟩:=h1;refine⟨es,clock,hb,F, ?_,rfl⟩;have e1:ks.length=es.size:=by
  rw[hl];show(List.foldr DataW.insert [] _).length=_;rw[length_sorted];simp
 omega
theorem Oa{f:Tm->Int}{fr:List Tm}(h:Mu w mb tb b cb n v f fr){ms:List Tm}(hs:∀s,f s≠0->s∈ms):Mu w mb tb b cb ms.length v f fr:=⟨h.blk,⟨h.tl.blk,Dv h.tl.ta hs,h.tl.bd⟩,h.ch⟩
theorem GY{f:Tm->Int}{fr:List Tm}(h:Mu w mb tb b cb n v f fr):mb<w.heap.size/\tb<w.heap.size/\b<w.heap.size/\cb<w.heap.size/\∀k,v.ownBlock=some k->k<w.heap.size:=
 ⟨h.lt,h.tl.lt,h.tl.ta.lt,(aG.1 h.ch.blk).1,fun k hk=>by obtain⟨cur,hc⟩:=h.row hk;exact ae hc⟩
def Ml(w:World)(tag:Nat->Nat)(j mb n:Nat)(f:Tm->Int)(fr:List Tm):Prop:=∃tb b cb v,Mu w mb tb b cb n v f fr/\fU f fr/\tag mb=j/\tag tb=j/\tag b=j/\tag cb=j/\∀k,v.ownBlock=some k->tag k=j
section
variable {w w':World} {tag tag':Nat->Nat} {j mb n:Nat} {f:Tm->Int} {fr:List Tm} {S:Nat->Prop}
theorem Ml.keep(h:Ml w tag j mb n f fr)(hK:Kp S w w')(hS:∀k,k<w.heap.size->S k->tag k≠j)(hT:∀k,k<w.heap.size->tag' k=tag k):Ml w' tag' j mb n f fr:=by
 obtain⟨tb,b,cb,v,h1,h2,t1,t2,t3,t4,t5⟩:=h;obtain⟨l1,l2,l3,l4,l5⟩:=GY h1;exact⟨tb,b,cb,v,h1.kp hK (fun e=>hS _ l1 e t1) (fun e=>hS _ l2 e t2) (fun e=>hS _ l3 e t3) (fun e=>hS _ l4 e t4) (fun k hk e=>hS k (l5 k hk) e (t5 k hk)),h2,by rw[hT _ l1,t1],by rw[hT _ l2,t2],by rw[hT _ l3,t3],by rw[hT _ l4,t4],fun k hk=>by rw[hT _ (l5 k hk)];exact t5 k hk⟩
theorem Ml.tight(h:Ml w tag j mb n f fr){ms:List Tm}(hs:∀s,f s≠0->s∈ms):Ml w tag j mb ms.length f fr:=by
 obtain⟨tb,b,cb,v,h1,h2⟩:=h;exact⟨tb,b,cb,v,Oa h1 hs,h2⟩
theorem Jt(hf:∀u,-2147483647<=f u/\f u<=2147483647)(t:Tm)(N:Int)(hs: -2147483647<=f t+N/\f t+N<=2147483647):bS f [(t,N)]=fun u=>if u=t then f t+N else f u:=by
 funext u
 have e:sm [(t,N)]=upd (fun _=>0) t (wrap64 (0+N)):=rfl;unfold bS;rw[e];by_cases k:u=t
 ·subst k;rw[upd_same,if_pos rfl];unfold wrap64;omega
 ·rw[cK _ _ k,if_neg k];have:=hf u;unfold wrap64;omega
theorem Ml.apply(h:Ml w tag j mb n f fr)(t:Tm)(N:Int)(u:Value)(hu:Ls ED w u [(t,N)])(hN: -2147483647<=N/\N<=2147483647)(hs: -2147483647<=f t+N/\f t+N<=2147483647)(hn:n<=1099511627776):
    CL 80 #[aB mb,u] w fun e w'=>∃(vo:Value) (fr':List Tm),e= .returned (.tuple #[vo,iV 0])/\Hid (Ml w' (tg tag w j) j mb (n+2) (fun u=>if u=t then f t+N else f u) fr'/\w'.ownsRow w.heap.size 163 4 vo (oW fr fr').length (fl ED (oW fr fr'))/\Kp (fun k=>tag k=j) w w'):=by
 obtain⟨tb,b,cb,v,h1,h2,t1,t2,t3,t4,t5⟩:=h;have hc:=Jt h1.tl.bd t N hs;have hb:bad f [(t,N)]=false:=by
  unfold bad;rw[hc];have e1:Tt.dW N=false:=Tt.dK.2 hN;have e2:Tt.dW (f t+N)=false:=Tt.dK.2 hs;simp[e1,e2]
 refine(Au [(t,N)] u w h1 h2 hu (by simp;omega)).mono ?_;rintro e w' (⟨k,_⟩|⟨_,vo,v',fr',k1,rfl,k2,k3,k4,k5,_⟩)
 ·rw[hb]at k;cases k
 ·rw[hc]at k1 k3;obtain⟨l1,l2,l3,l4,l5⟩:=GY h1;refine⟨vo,fr',rfl,⟨tb,b,cb,v',k3,k1,by rw[au l1,t1],by rw[au l2,t2],by rw[au l3,t3],by rw[au l4,t4],fun k hk=> ?_⟩,k2,k4.mono fun k hk=> ?_⟩
  ·rcases k5 k hk with e|e
   ·rw[au (l5 k e),t5 k e]
   ·exact aU e
  ·rcases hk with rfl|rfl|hk
   ·exact t3
   ·exact t4
   ·exact t5 k hk
end
abbrev Sv:=Option Addr×Nat×Nat
abbrev ZO(x:Sv):Value:= .slice x.1 x.2.1 x.2.2
def EV:El Sv where
 k:=1
 enc x:=[ZO x]
 len _:=rfl
 one x u hu:=by simp at hu;rw[hu];rfl
def EP:El (Nat×ai) where
 k:=4
 enc x:=[iV (x.1:Nat),uV x.2.1.1,uV x.2.1.2.1,uV x.2.1.2.2]
 len _:=rfl
 one x u hu:=by
  simp at hu;rcases hu with rfl|rfl|rfl|rfl<;>rfl
def EA:El Nat where
 k:=1
 enc x:=[aB x]
 len _:=rfl
 one x u hu:=by simp at hu;rw[hu];rfl
theorem Z4{ts:List Sv}(h:Ls EV w v ts){x:Sv}(hj:ts[j]? =some x):∃b off c,v= .slice (some ⟨b,off,none⟩) ts.length c/\b<w.heap.size/\aj w b (off+j) (ZO x):=by
 obtain⟨b,off,c,hv,hb,hc⟩:=h.get hj;have:=hc 0 _ (by decide) rfl;rw[show EV.k=1 from rfl,Nat.mul_one]at this;exact⟨b,off,c,hv,hb,this⟩
theorem sU{ts:List Nat}(h:Ls EA w v ts)(hj:ts[j]? =some x):∃b off c,v= .slice (some ⟨b,off,none⟩) ts.length c/\b<w.heap.size/\aj w b (off+j) (aB x):=by
 obtain⟨b,off,c,hv,hb,hc⟩:=h.get hj;have:=hc 0 _ (by decide) rfl;rw[show EA.k=1 from rfl,Nat.mul_one]at this;exact⟨b,off,c,hv,hb,this⟩
theorem abw{ts:List (Nat×ai)}(h:Ls EP w v ts){x:Nat×ai}(hj:ts[j]? =some x):∃b off c,v= .slice (some ⟨b,off,none⟩) ts.length c/\b<w.heap.size/\aj w b (off+j*4) (iV (x.1:Nat))/\aj w b (off+j*4+1) (uV x.2.1.1)/\aj w b (off+j*4+2) (uV x.2.1.2.1)/\aj w b (off+j*4+3) (uV x.2.1.2.2):=by
 obtain⟨b,off,c,hv,hb,hc⟩:=h.get hj;exact⟨b,off,c,hv,hb,hc 0 _ (by decide) rfl,hc 1 _ (by decide) rfl,hc 2 _ (by decide) rfl,hc 3 _ (by decide) rfl⟩
structure Rd(w:World)(tag:Nat->Nat)(rb:Nat)(ar:Int)(sv rv ov cv uv:Value)(N:Nat)(L:Nat->List (Nat×ai))(rs ms:List Nat):Prop where
 blk:w.heap[rb]? =some (.cells #[iV ar,sv,rv,ov,cv,uv] 102 (0,0))
 st:∃us:List Sv,Ls EV w sv us/\us.length=N/\∀p x,us[p]? =some x->Ls EP w (ZO x) (L p)/\∀k,(ZO x).ownBlock=some k->tag k=0
 rk:Ls ER w rv rs
 cm:Ls EA w cv ms
 tb:tag rb=0
 ts:∀k,sv.ownBlock=some k->tag k=0
 tr:∀k,rv.ownBlock=some k->tag k=0
 tc:∀k,cv.ownBlock=some k->tag k=0
theorem Rd.keep{rb:Nat}{ar:Int}{sv rv ov cv uv:Value}{L:Nat->List (Nat×ai)}{ms:List Nat}(h:Rd w tag rb ar sv rv ov cv uv N L rs ms)(hK:Kp S w w')(hS:∀k,k<w.heap.size->S k->tag k≠0)(hT:∀k,k<w.heap.size->tag' k=tag k):Rd w' tag' rb ar sv rv ov cv uv N L rs ms:=by
 obtain⟨us,u1,u2,u3⟩:=h.st;have key:∀{α:Type} {E:El α} {v:Value} {l:List α},Ls E w v l->(∀k,v.ownBlock=some k->tag k=0)->Ls E w' v l:=fun {α E v l} hl ht=>hK.ls hl fun k hk e=>hS k (hl.blk k hk) e (ht k hk);exact⟨(hK.block rb (ae h.blk) fun e=>hS rb (ae h.blk) e h.tb).trans h.blk,⟨us,key u1 h.ts,u2,fun p x hx=>⟨key (u3 p x hx).1 (u3 p x hx).2,fun k hk=>by rw[hT k ((u3 p x hx).1.blk k hk)];exact(u3 p x hx).2 k hk⟩⟩,key h.rk h.tr,key h.cm h.tc,by rw[hT rb (ae h.blk)];exact h.tb,fun k hk=>by rw[hT k (u1.blk k hk)];exact h.ts k hk,fun k hk=>by rw[hT k (h.rk.blk k hk)];exact h.tr k hk,fun k hk=>by rw[hT k (h.cm.blk k hk)];exact h.tc k hk⟩
theorem Wv(a b:ai)(w:World):CL 15 #[.agg #[uV a.1.1,uV a.1.2.1,uV a.1.2.2], .agg #[uV b.1.1,uV b.1.2.1,uV b.1.2.2]] w fun e w'=>e= .returned (.tuple #[.agg #[uV (Lf.ui a b).1.1,uV (Lf.ui a b).1.2.1,uV (Lf.ui a b).1.2.2], .bool (bJ a b).isSome])/\Bw w w':=by
 obtain⟨x1,x2,x3,y1,y2,y3,⟨e1,e2,e3⟩,⟨f1,f2,f3⟩,⟨g1,g2,g3⟩,⟨h1,h2,h3⟩,k0,k1,k2,k3⟩:=Lf.AY a b;have h:=IV x1 x2 x3 y1 y2 y3 w g1 g2 g3 h1 h2 h3;rw[k1,k2,k3,k0]at h;rw[e1,e2,e3,f1,f2,f3];exact h
def Tko(N:Nat)(rs:List Nat)(Q:List It)(c:Th)(b:Bool)(Q':List It):Prop:=(b=false/\Q=[]/\Q'=[])\/(b=true/\∃M,(M++Q').Perm Q/\M≠[]/\(∀x∈M,Jc x.1 c)/\c.2.2=nG M/\∀x∈Q',¬Jc x.1 c/\kU N rs c<kU N rs x.1)
def Hm(w:World)(tag:Nat->Nat)(hb:Nat)(ff:Value)(f:Th->Int)(Q:List It)(np:Nat):Prop:=∃v,Hq w hb ff v f Q np/\tag hb=1/\∀k,v.ownBlock=some k->tag k=1
section
variable {w w':World} {tag tag':Nat->Nat} {hb np:Nat} {ff:Value} {f:Th->Int} {Q:List It} {S:Nat->Prop}
theorem Hm.keep(h:Hm w tag hb ff f Q np)(hK:Kp S w w')(hS:∀k,k<w.heap.size->S k->tag k≠1)(hT:∀k,k<w.heap.size->tag' k=tag k):Hm w' tag' hb ff f Q np:=by
 obtain⟨v,h1,h2,h3⟩:=h;exact⟨v,h1.kp hK (fun e=>hS _ h1.h.lt e h2) (fun k hk e=>hS k (h1.h.row k hk) e (h3 k hk)),by rw[hT _ h1.h.lt,h2],fun k hk=>by rw[hT k (h1.h.row k hk),h3 k hk]⟩
theorem Hm.turn{v':Value}{Q':List It}(h:Hq w hb ff v f Q np)(h2:tag hb=1)(h3:∀k,v.ownBlock=some k->tag k=1)(hq:Hq w' hb ff v' f Q' FI)(ht:dX hb v v' w w'):Hm w' (tg tag w 1) hb ff f Q' FI/\Kp (fun k=>tag k=1) w w':=by
 refine⟨⟨v',hq,by rw[au h.h.lt,h2],fun k hk=> ?_⟩,ht.1.mono fun k hk=> ?_⟩
 ·rcases ht.2 k hk with e|e
  ·rw[au (h.h.row k e),h3 k e]
  ·exact aU e
 ·rcases hk with rfl|hk
  ·exact h2
  ·exact h3 k hk
theorem Hm.push(h:Hm w tag hb ff f Q np)(x:Th)(hl:(Q.length+1)*48<=140737488355328)(Ty:np+1<18446744073709551616){K:World->Prop}{V:Th->Prop}(hF:Hc.dZ K V ff (key f))(hk:K w)(hV:∀y∈Q,V y.1)(hx:V x):
    CL 82 #[aB hb, .agg #[iV x.1,uV x.2.1.1.1,uV x.2.1.1.2.1,uV x.2.1.1.2.2,iV x.2.2]] w fun e w'=>∃Q',e= .returned (.tuple #[])/\Hid (Hm w' (tg tag w 1) hb ff f Q' (np+1)/\Kp (fun k=>tag k=1) w w')/\Hid (Q'.Perm (Q++[(x,np)])):=by
 obtain⟨v,h1,h2,h3⟩:=h;refine(sM x w h1 hl Ty hF hk hV hx).mono ?_;rintro e w' ⟨v',Q',rfl,k1,k2,k3⟩;exact⟨Q',rfl,Hm.turn h1 h2 h3 k1 k3,k2⟩
theorem Hm.taken(h:Hm w tag hb ff (kU N rs) Q np)(hl:Q.length<=1099511627776)(hr:∀x∈rs,x<=N){K:World->Prop}(hF:Hc.dZ K (Vp N) ff (key (kU N rs)))(hK:∀W,Kp (fun k=>tag k=1) w W->K W)(hV:∀y∈Q,Vp N y.1/\-1<=y.1.2.2/\y.1.2.2<=1):
    CL 79 #[aB hb] w fun e w'=>∃c b Q',e= .returned (ans c b)/\Hid (Hm w' (tg tag w 1) hb ff (kU N rs) Q' np/\Kp (fun k=>tag k=1) w w')/\Hid (Tko N rs Q c b Q'):=by
 obtain⟨v,h1,h2,h3⟩:=h;have hKv:∀W,Kp (fun k=>k=hb\/v.ownBlock=some k) w W->K W:=fun W hW=>hK W (hW.mono fun k hk=>hk.elim (fun e=>by rw[e];exact h2) (h3 k));refine(Km w h1 hl hr hF hKv (fun y hy=>(hV y hy).1) (fun y hy=>(hV y hy).2)).mono ?_;rintro e w' (⟨k0,rfl,k1,k2⟩|⟨c,v',Q',M,rfl,k1,k2,k3,k4,k5,k6,k7⟩)
 ·subst k0;refine⟨zt,false,[],rfl,⟨⟨v,k1,by rw[au h1.h.lt,h2],fun k hk=>by rw[au (h1.h.row k hk),h3 k hk]⟩,(Kp.of_below (S:=fun _=>False) k2).mono (fun _ h=>h.elim)⟩, .inl ⟨rfl,rfl,rfl⟩⟩
 ·exact⟨c,true,Q',rfl,Hm.turn h1 h2 h3 k1 k7, .inr ⟨rfl,M,k2,k3,k4,k5,k6⟩⟩
end
def Tg(w:World)(tag:Nat->Nat)(tb nt:Nat)(g:Rs.Sm->Int):Prop:=∃bb,Rs.Tt.Tl w tb bb 78 nt g/\tag tb=2/\tag bb=2
section
variable {w w':World} {tag tag':Nat->Nat} {tb nt:Nat} {g:Rs.Sm->Int} {S:Nat->Prop}
theorem Tg.keep(h:Tg w tag tb nt g)(hK:Kp S w w')(hS:∀k,k<w.heap.size->S k->tag k≠2)(hT:∀k,k<w.heap.size->tag' k=tag k):Tg w' tag' tb nt g:=by
 obtain⟨bb,h1,h2,h3⟩:=h;have l1:=h1.lt;have l2:=h1.ta.lt;exact⟨bb,h1.kp hK (fun e=>hS _ l1 e h2) (fun e=>hS _ l2 e h3),by rw[hT _ l1,h2],by rw[hT _ l2,h3]⟩
theorem Tg.tight(h:Tg w tag tb nt g){ks:List Rs.Sm}(hs:∀s,g s≠0->s∈ks):Tg w tag tb ks.length g:=by
 obtain⟨bb,h1,h2⟩:=h;exact⟨bb,⟨h1.blk,Dv h1.ta hs,h1.bd⟩,h2⟩
theorem Tg.add(h:Tg w tag tb nt g)(x:Rs.Sm)(v:Int)(hn:nt<maxLen)(hv: -2147483647<=v/\v<=2147483647)(hs: -2147483647<=g x+v/\g x+v<=2147483647):
    CL 81 #[aB tb,Rs.mv x,iV v] w fun e w'=>e= .returned (iV 0)/\Hid (Tg w' (tg tag w 2) tb (nt+1) (fun s=>if s=x then g x+v else g s)/\Kp (fun k=>tag k=2) w w'):=by
 obtain⟨bb,h1,h2,h3⟩:=h;refine(Rs.Tt.pz x v w h1 hn).mono ?_;rintro e w' ⟨rfl,k1,k2⟩;have e1:¬(Rs.Tt.dW v=true\/Rs.Tt.dW (g x+v)=true):=by
  rw[Rs.Tt.Vk,Rs.Tt.Vk];omega
 have e2:Rs.Tt.yx g x v=fun s=>if s=x then g x+v else g s:=by
  unfold Rs.Tt.yx;rw[if_neg e1]
  funext s
  by_cases k:s=x
  ·subst k;rw[upd_same,if_pos rfl]
  ·rw[cK _ _ k,if_neg k]
 rw[e2]at k1;have l1:=h1.lt;have l2:=h1.ta.lt;refine⟨by unfold Rs.Tt.Fq;rw[if_neg e1],⟨bb,k1,by rw[au l1,h2],by rw[au l2,h3]⟩,k2.mono fun k hk=>by rw[hk];exact h3⟩
end
structure Ss(w0:World)(aL:Nat->Nat)(w:World)(tag:Nat->Nat)(hb tb rb:Nat)(ar:Int)(sv rv ov cv uv:Value)(N:Nat)(L:Nat->List (Nat×ai))(rs ms:List Nat)(S:Nat->List ai)(Q:List It)(np nt:Nat)(g:Rs.Sm->Int)(C:Nat->ai->Int)(F:Nat->List ai):Prop where
 rd:Rd w tag rb ar sv rv ov cv uv N L rs ms
 hm:Hm w tag hb (wv ar sv rv) (kU N rs) Q np
 tg:Tg w tag tb nt g
 mm:∀p mb,ms[p]? =some mb->Ml w tag (3+p) mb (S p).length (C p) (F p)
 kp:Kp (fun k=>aL k≠0) w0 w
 old:∀k,k<w0.heap.size->tag k=aL k
section
variable {w0 w w':World} {aL tag:Nat->Nat} {hb tb rb:Nat} {ar:Int} {sv rv ov cv uv:Value} {N:Nat} {L:Nat->List (Nat×ai)} {rs ms:List Nat} {S:Nat->List ai} {Q:List It} {np nt:Nat} {g:Rs.Sm->Int} {C:Nat->ai->Int} {F:Nat->List ai}
theorem Ss.kp'(h:Ss w0 aL w tag hb tb rb ar sv rv ov cv uv N L rs ms S Q np nt g C F)(hj:j≠0)(hK:Kp (fun k=>tag k=j) w w'):Kp (fun k=>aL k≠0) w0 w':=h.kp.trans hK fun k hk e=>by rw[<-h.old k hk,e];exact hj
theorem Ss.old'(h:Ss w0 aL w tag hb tb rb ar sv rv ov cv uv N L rs ms S Q np nt g C F)(j:Nat):∀k,k<w0.heap.size->Rc.tg tag w j k=aL k:=fun k hk=>by rw[au (nL hk h.kp.size),h.old k hk]
theorem Ss.heap(h:Ss w0 aL w tag hb tb rb ar sv rv ov cv uv N L rs ms S Q np nt g C F){Q':List It}(hm:Hm w' (Rc.tg tag w 1) hb (wv ar sv rv) (kU N rs) Q' FI)(hK:Kp (fun k=>tag k=1) w w'):Ss w0 aL w' (Rc.tg tag w 1) hb tb rb ar sv rv ov cv uv N L rs ms S Q' FI nt g C F:=
 ⟨h.rd.keep hK (fun k _ e=>by omega) (fun k hk=>au hk),hm,h.tg.keep hK (fun k _ e=>by omega) (fun k hk=>au hk),fun p mb hp=>(h.mm p mb hp).keep hK (fun k _ e=>by omega) (fun k hk=>au hk),h.kp' (by decide) hK,h.old' 1⟩
theorem Ss.tally(h:Ss w0 aL w tag hb tb rb ar sv rv ov cv uv N L rs ms S Q np nt g C F){g':Rs.Sm->Int}{nt':Nat}(ht:Tg w' (Rc.tg tag w 2) tb nt' g')(hK:Kp (fun k=>tag k=2) w w'):Ss w0 aL w' (Rc.tg tag w 2) hb tb rb ar sv rv ov cv uv N L rs ms S Q np nt' g' C F:=
 ⟨h.rd.keep hK (fun k _ e=>by omega) (fun k hk=>au hk),h.hm.keep hK (fun k _ e=>by omega) (fun k hk=>au hk),ht,fun p mb hp=>(h.mm p mb hp).keep hK (fun k _ e=>by omega) (fun k hk=>au hk),h.kp' (by decide) hK,h.old' 2⟩
theorem Ss.N9(h:Ss w0 aL w tag hb tb rb ar sv rv ov cv uv N L rs ms S Q np nt g C F)(hp:ms[p]? =some mb){f':ai->Int}{fr':List ai}(hm:Ml w' (Rc.tg tag w (3+p)) (3+p) mb (S p).length f' fr')(hK:Kp (fun k=>tag k=3+p) w w'):Ss w0 aL w' (Rc.tg tag w (3+p)) hb tb rb ar sv rv ov cv uv N L rs ms S Q np nt g (bI C p f') (bI F p fr'):=
 ⟨h.rd.keep hK (fun k _ e=>by omega) (fun k hk=>au hk),h.hm.keep hK (fun k _ e=>by omega) (fun k hk=>au hk),h.tg.keep hK (fun k _ e=>by omega) (fun k hk=>au hk),fun q mq hq=>by
  by_cases e:q=p
  ·subst e;rw[hp]at hq;rw[<-oJ hq,bM,bM];exact hm
  ·rw[bK C f' e,bK F fr' e];exact(h.mm q mq hq).keep hK (fun k _ e2=>by omega) (fun k hk=>au hk),h.kp' (by omega) hK,h.old' (3+p)⟩
theorem Ss.grow(h:Ss w0 aL w tag hb tb rb ar sv rv ov cv uv N L rs ms S Q np nt g C F)(j:Nat)(hB:Bw w w'):Ss w0 aL w' (Rc.tg tag w j) hb tb rb ar sv rv ov cv uv N L rs ms S Q np nt g C F:=by
 have hK:=Kp.of_below (S:=fun _=>False) hB;exact⟨h.rd.keep hK (fun k _ e=>e.elim) (fun k hk=>au hk),h.hm.keep hK (fun k _ e=>e.elim) (fun k hk=>au hk),h.tg.keep hK (fun k _ e=>e.elim) (fun k hk=>au hk),fun p mb hp=>(h.mm p mb hp).keep hK (fun k _ e=>e.elim) (fun k hk=>au hk),h.kp.trans hK fun k _ e=>e.elim,h.old' j⟩
theorem Ss.set(h:Ss w0 aL w tag hb tb rb ar sv rv ov cv uv N L rs ms S Q np nt g C F)(hb0:w0.heap.size<=b)(hd:tag b=4294967296)(hK:Kp (fun k=>k=b) w w')(hms:ms.length<=1000000):Ss w0 aL w' tag hb tb rb ar sv rv ov cv uv N L rs ms S Q np nt g C F:=
 ⟨h.rd.keep hK (fun k _ e=>by rw[e,hd];decide) (fun k hk=>rfl),h.hm.keep hK (fun k _ e=>by rw[e,hd];decide) (fun k hk=>rfl),h.tg.keep hK (fun k _ e=>by rw[e,hd];decide) (fun k hk=>rfl),fun p mb hp=>(h.mm p mb hp).keep hK (fun k _ e=>by
  have:=(lG.1 hp).1;rw[e,hd];omega) (fun k hk=>rfl),h.kp.trans hK fun k hk e=>by omega,h.old⟩
end
theorem OM{f:ai->Int}{l:List ai}(h:fU f l):Dc f l:=
 ⟨h.sorted.imp fun {a b} k=>(kX a b).1 k,fun t=>by
  rw[h.mem];exact⟨fun⟨h1,h2⟩=>⟨h1,fun u hu ha=>h2 u hu ((jl u t).2 ha)⟩,fun⟨h1,h2⟩=>⟨h1,fun u hu ha=>h2 u hu ((jl u t).1 ha)⟩⟩⟩
theorem rP{a b:List ai}(ha:a.Nodup)(hb:b.Nodup):Az a b (oW a b):=by
 have hn:=sP ha hb;have e:(oW a b).map Prod.fst=jq (yG a b++yG b a):=by
  unfold oW;rw[List.map_map];exact List.map_id' _
 have hm:∀t,t∈jq (yG a b++yG b a)↔(t∈a/\t∉b)\/(t∈b/\t∉a):=fun t=>(show t∈jq (yG a b++yG b a)↔t∈yG a b++yG b a from jr).trans Jy;refine⟨by rw[e];exact Gf (qh hn),fun t n=> ?_⟩;unfold oW;rw[mM];constructor
 ·rintro⟨u,hu,hp⟩;obtain⟨rfl,rfl⟩:=Prod.mk.inj hp;rcases(hm u).1 hu with⟨h1,h2⟩|⟨h1,h2⟩
  ·exact .inl ⟨h1,h2,if_neg h2⟩
  ·exact .inr ⟨h1,h2,if_pos h1⟩
 ·rintro(⟨h1,h2,rfl⟩|⟨h1,h2,rfl⟩)
  ·exact⟨t,(hm t).2 (.inl ⟨h1,h2⟩),by rw[if_neg h2]⟩
  ·exact⟨t,(hm t).2 (.inr ⟨h1,h2⟩),by rw[if_pos h1]⟩
theorem Wh{rk:Nat->Nat}{t:ai}(hp:p<N)(hr:rk p<=N):nk N rk (p,t)<(6277101735386680763835789423207666416102355444464034512896*(N+1)+(N+1))*(N+1):=by
 have h1:=bY t;have h2:ja t+1<=6277101735386680763835789423207666416102355444464034512896:=by unfold ja;omega
 have h3:ja t*(N+1)+rk p+1<=6277101735386680763835789423207666416102355444464034512896*(N+1)+(N+1):=by
  have:=nM (N+1) (Nat.le_of_succ_le h2);omega
 have h4:=nM (N+1) h3;rw[Nat.succ_mul]at h4;show(ja t*(N+1)+rk p)*(N+1)+p<_;omega
def wq(Q:List It):List (Nat×ai×Int):=Q.map fun y=>(y.1.1.toNat,y.1.2.1,y.1.2.2)
theorem F3(Q R:List It):wq (Q++R)=wq Q++wq R:=De
theorem AB{Q R:List It}(h:Q.Perm R):(wq Q).Perm (wq R):=h.map _
theorem mV(Q:List It):(wq Q).length=Q.length:=gQ _
theorem Fu{L:Nat->List (Nat×ai)}{ps:Nat×ai->Nat}{O F S:Nat->List ai}{C Co Cn:Nat->ai->Int}{W V:List (Nat×ai×Int)}{B:Nat}(h:LW N L ps O Co Cn S B x C F W)(hp:V.Perm W):LW N L ps O Co Cn S B x C F V:=
 ⟨⟨fun p t ht=>by rw[qJ hp];exact h.Mo.eq p t ht,h.Mo.fr⟩,h.mx,fun e he=>h.lo e (hp.mem_iff.1 he),by rw[hp.length_eq];exact h.bd⟩
def Vq(N:Nat)(y:It):Prop:=Vp N y.1/\-1<=y.1.2.2/\y.1.2.2<=1
structure Hd(N:Nat)(L:Nat->List (Nat×ai))(rs:List Nat)(O:Nat->List ai)(Co Cn:Nat->ai->Int)(S:Nat->List ai)(B M0:Nat)(C:Nat->ai->Int)(F:Nat->List ai)(c:Th)(b:Bool)(Q:List It)(np gk x:Nat)(Q0:List It):Prop where
 yE:LW N L (nk N (mi rs)) O Co Cn S B x C F (wq Q0)
 tk:Tko N rs Q0 c b Q
 vs:∀y∈Q0,Vq N y
 nb:np+pot N L (nk N (mi rs)) S Co Cn x<=B
 gm:M0<=gk+x
theorem Dg{W:List (Nat×ai×Int)}{y:Nat×ai}(h:∀e∈W,(e.1,e.2.1)≠y):qa W y=0:=jQ fun e he=>if_neg (h e he)
theorem MG{M:List It}{t:ai}(h:∀x∈M,(x.1.1.toNat,x.1.2.1)=(p,t)):qa (wq M) (p,t)=nG M:=by
 induction M with
 | nil => rfl
 | cons a M ih=>
  have h1:=h a mX;have h2:=ih fun x hx=>h x (mO _ hx);have e1:nG (a::M)=a.1.2.2+nG M:=by simp[nG]
  have e2:qa (wq (a::M)) (p,t)=(if (a.1.1.toNat,a.1.2.1)=(p,t)then a.1.2.2 else 0)+qa (wq M) (p,t):=aS _ _ _
  rw[e1,e2,if_pos h1,h2]
section
variable {N:Nat} {L:Nat->List (Nat×ai)} {rs:List Nat} {O:Nat->List ai} {Co Cn:Nat->ai->Int} {S:Nat->List ai} {B M0:Nat} {C:Nat->ai->Int} {F:Nat->List ai} {c:Th} {Q:List It} {np gk x:Nat} {Q0:List It}
structure Hat(N:Nat)(rs:List Nat)(c:Th)(Q:List It)(x:Nat)(Q0:List It)(p:Nat)(t:ai)(n:Int):Prop where
 eq:c=((p:Int),t,n)
 lt:p<N
 sum:qa (wq Q0) (p,t)=n
 min:∀e∈wq Q0,nk N (mi rs) (p,t)<=nk N (mi rs) (e.1,e.2.1)
 lo:x<=nk N (mi rs) (p,t)
 w1:∀y,qa (wq Q) y=if y=(p,t)then 0 else qa (wq Q0) y
 w2:∀e∈wq Q,e∈wq Q0/\(e.1,e.2.1)≠(p,t)
 w3:Q.length<=Q0.length
 vs:∀y∈Q,Vq N y
theorem Hd.at(h:Hd N L rs O Co Cn S B M0 C F c true Q np gk x Q0):∃p t n,Hat N rs c Q x Q0 p t n:=by
 obtain⟨p0,t,n⟩:=c;rcases h.tk with⟨k,_⟩|⟨_,M,m1,m2,m3,m4,m5⟩
 ·cases k
 obtain⟨m,hm⟩:=List.exists_mem_of_ne_nil M m2;have hM0:∀y∈M,y∈Q0:=fun y hy=>m1.mem_iff.1 (List.mem_append_left _ hy);have hQ0:∀y∈Q,y∈Q0:=fun y hy=>m1.mem_iff.1 (List.mem_append_right _ hy);obtain⟨p,hp1,hp2⟩:=(h.vs m (hM0 m hm)).1;have e0:p0=(p:Int):=by rw[<-hp1];exact(m3 m hm).1.symm
 subst e0;have hkM:∀y∈M,(y.1.1.toNat,y.1.2.1)=(p,t):=fun y hy=>by
  obtain⟨k1,k2⟩:=m3 y hy;simp only at k1 k2;rw[k1,k2,tN]
 have hkQ:∀y∈Q,(y.1.1.toNat,y.1.2.1)≠(p,t):=fun y hy e=>by
  obtain⟨q,hq,_⟩:=(h.vs y (hQ0 y hy)).1;obtain⟨e1,e2⟩:=Prod.mk.inj e;rw[hq,tN]at e1;exact(m5 y hy).1 ⟨by rw[hq,e1],e2⟩
 have hsp:∀y,qa (wq Q0) y=qa (wq M) y+qa (wq Q) y:=fun y=>by rw[<-qJ (AB m1),F3,p9]
 have hz:qa (wq Q) (p,t)=0:=Dg fun e he=>by
  obtain⟨y,hy,rfl⟩:=mM.1 he;exact hkQ y hy
 have hlo:x<=nk N (mi rs) (p,t):=by
  have:=(h.yE.lo (m.1.1.toNat,m.1.2.1,m.1.2.2) (mM.2 ⟨m,hM0 m hm,rfl⟩)).2;simp only at this;rw[hkM m hm]at this;exact this
 have hmin:∀e∈wq Q0,nk N (mi rs) (p,t)<=nk N (mi rs) (e.1,e.2.1):=fun e he=>by
  obtain⟨y,hy,rfl⟩:=mM.1 he;rcases kr.1 (m1.mem_iff.2 hy)with k|k
  ·simp only;rw[hkM y k];exact nR _
  ·have h5:=(m5 y k).2;unfold kU at h5;rw[tN]at h5;simp only at h5⊢;omega
 refine⟨p,t,n,rfl,hp2, ?_,hmin,hlo,fun y=> ?_,fun e he=> ?_, ?_,fun y hy=>h.vs y (hQ0 y hy)⟩
 ·rw[hsp,hz,MG hkM,<-m4];exact Int.add_zero _
 ·by_cases e:y=(p,t)
  ·rw[if_pos e,e,hz]
  ·rw[if_neg e,hsp,Dg (W:=wq M) fun e' he'=> ?_]
   ·exact(Int.zero_add _).symm
   ·obtain⟨z,hz',rfl⟩:=mM.1 he';simp only;rw[hkM z hz'];exact fun k=>e k.symm
 ·obtain⟨y,hy,rfl⟩:=mM.1 he;exact⟨mM.2 ⟨y,hQ0 y hy,rfl⟩,hkQ y hy⟩
 ·have:=m1.length_eq;rw[dQ]at this;omega
end
structure pR(N:Nat)(Q:List It)(np:Nat)(pre:List (Nat×ai×Int))(Qc:List It)(nc:Nat):Prop where
 perm:(wq Qc).Perm (wq Q++pre)
 np:nc+Q.length=np+Qc.length
 vs:∀y∈Qc,Vq N y
theorem pR.init{Q:List It}(h:∀y∈Q,Vq N y):pR N Q np [] Q np:=⟨by rw[FZ],rfl,h⟩
theorem pR.len{Q:List It}{pre:List (Nat×ai×Int)}{Qc:List It}(h:pR N Q np pre Qc nc):Qc.length=Q.length+pre.length/\nc=np+pre.length:=by
 have h1:=h.perm.length_eq;rw[dQ,mV,mV]at h1;have h2:=h.np;omega
theorem pR.push{Q:List It}{pre:List (Nat×ai×Int)}{Qc Q':List It}(h:pR N Q np pre Qc nc){v:ai}{n:Int}(hq:q<N)(hn: -1<=n/\n<=1)(hp:Q'.Perm (Qc++[(((q:Int),v,n),nc)])):pR N Q np (pre++[(q,v,n)]) Q' (nc+1):=by
 refine⟨?_, ?_,fun y hy=> ?_⟩
 ·refine(AB hp).trans ?_;rw[F3,<-aA];refine h.perm.append ?_;show List.Perm [(Int.toNat (q:Int),v,n)] _;rw[tN]
 ·have h1:=h.np;have h2:=hp.length_eq;rw[dQ,vR]at h2;omega
 ·rcases kr.1 (hp.mem_iff.1 hy)with k|k
  ·exact h.vs y k
  ·rw[yM]at k;rw[k];exact⟨⟨q,rfl,hq⟩,hn⟩
theorem JI(a b:List (Nat×ai))(u:ai):FJ (a++b) u=FJ a u++FJ b u:=List.filterMap_append
theorem Jn(l:List (Nat×ai))(a b:List (ai×Int)):jR l (a++b)=jR l a++jR l b:=List.flatMap_append
theorem oO(l:List (Nat×ai))(d:ai×Int):jR l [d]=(FJ l d.1).map fun x=>(x.1,x.2,d.2):=by simp[jR]
theorem DL{l:List (Nat×ai)}{d:ai×Int}{b:ai}(h:l[i]? =some (q,b)):jR (l.take (i+1)) [d]=jR (l.take i) [d]++(match bJ b d.1 with|some v=>[(q,v,d.2)]|none=>[]):=by
 rw[oO,oO,tO,h,Option.toList_some,JI,De]
 congr 1
 unfold FJ;cases e:bJ b d.1<;>simp[e]
theorem DN{l:List (Nat×ai)}{ds:List (ai×Int)}{d:ai×Int}(h:ds[j]? =some d):jR l (ds.take (j+1))=jR l (ds.take j)++jR l [d]:=by
 rw[tO,h,Option.toList_some,Jn]
theorem Wo{l:List (Nat×ai)}{ds:List (ai×Int)}{d:ai×Int}(h:ds[j]? =some d):(jR l (ds.take j)++jR (l.take i) [d]).length<=(jR l ds).length:=by
 have e1:jR l ds=jR l (ds.take (j+1))++jR l (ds.drop (j+1)):=by rw[<-Jn,List.take_append_drop]
 have e2:jR l [d]=jR (l.take i) [d]++jR (l.drop i) [d]:=by
  rw[oO,oO,oO,<-De,<-JI,List.take_append_drop]
 rw[e1,DN h,e2];simp only[dQ];omega
def j3(s:Rs.Sm):ai:=⟨s.1.2,s.2.2⟩
def sk(p:Nat)(t:ai):Rs.Sm:=⟨(((p%4611686018427387904:Nat):Int),t.1),by
 refine⟨?_,t.2⟩;have:p%4611686018427387904<4611686018427387904:=Nat.mod_lt _ (by decide);simp only[Lit.wf,IntKind.min,IntKind.max,IntKind.signed,IntKind.bits,bA,dE];show(-9223372036854775808:Int)<=((p%4611686018427387904:Nat):Int)/\((p%4611686018427387904:Nat):Int)<=9223372036854775807;omega⟩
theorem kE(hp:p<=1000000)(t:ai):(sk p t).1=((p:Int),t.1):=by
 show(((p%4611686018427387904:Nat):Int),t.1)=_;rw[Nat.mod_eq_of_lt (by omega)]
theorem Ni(hp:p<=1000000){s:Rs.Sm}(h:s.1.1=(p:Int)):s=sk p (j3 s):=Subtype.ext (by rw[kE hp];exact Prod.ext h rfl)
theorem lq(hp:p<=1000000){s:Rs.Sm}{t:ai}:s=sk p t↔s.1.1=(p:Int)/\j3 s=t:=by
 constructor
 ·intro h;have:=kE hp t;rw[<-h]at this;exact⟨by rw[this],Subtype.ext (by show s.1.2=_;rw[this])⟩
 ·rintro⟨h1,rfl⟩;exact Ni hp h1
def ind(l:List ai)(t:ai):Int:=if t∈l then 1 else 0
theorem OT(l:List ai)(t:ai):0<=ind l t/\ind l t<=1:=by unfold ind;split<;>omega
theorem Bi{l:List ai}(h:l.Nodup)(t:ai):Pt.sm (fun u=>if t=u then(1:Int)else 0) l=ind l t:=by
 induction l with
 | nil => rfl
 | cons a l ih=>
  have hn:=List.nodup_cons.1 h;rw[aS,ih hn.2];unfold ind;by_cases e:t=a
  ·subst e;rw[if_pos rfl,if_neg hn.1,if_pos mX];rfl
  ·rw[if_neg e];by_cases k:t∈l
   ·rw[if_pos k,if_pos (mO _ k)];rfl
   ·rw[if_neg k,if_neg (fun h=>(gq.1 h).elim e k)];rfl
def gT(N:Nat)(Fo F:Nat->List ai)(s:Rs.Sm):Int:=if 0<=s.1.1/\s.1.1<(N:Int)then ind (F s.1.1.toNat) (j3 s)-ind (Fo s.1.1.toNat) (j3 s)else 0
theorem aaJ{Fo F:Nat->List ai}(s:Rs.Sm): -1<=gT N Fo F s/\gT N Fo F s<=1:=by
 have h1:=OT (F s.1.1.toNat) (j3 s);have h2:=OT (Fo s.1.1.toNat) (j3 s);unfold gT;split<;>omega
theorem TK{Fo:Nat->List ai}:gT N Fo Fo=fun _=>0:=by
 funext s
 unfold gT;split<;>omega
def gJ(g:Rs.Sm->Int)(p:Nat)(ds:List (ai×Int))(s:Rs.Sm):Int:=g s+Pt.sm (fun d=>(if s=sk p d.1 then 1 else 0)*d.2) ds
theorem XL(g:Rs.Sm->Int)(p:Nat):gJ g p []=g:=by
 funext s
 exact Int.add_zero _
theorem TL(g:Rs.Sm->Int)(p:Nat)(l:List (ai×Int))(d:ai×Int):(fun s=>if s=sk p d.1 then gJ g p l (sk p d.1)+d.2 else gJ g p l s)=gJ g p (l++[d]):=by
 funext s
 unfold gJ;rw[sG,aS,VU];by_cases e:s=sk p d.1
 ·rw[if_pos e,if_pos e,<-e];omega
 ·rw[if_neg e,if_neg e];omega
theorem aaK{g:Rs.Sm->Int}{l:List (ai×Int)}(hg:∀s,-1<=g s/\g s<=1)(hl:∀d∈l,-1<=d.2/\d.2<=1)(s:Rs.Sm): -(l.length:Int)-1<=gJ g p l s/\gJ g p l s<=l.length+1:=by
 unfold gJ;have:∀l:List (ai×Int),(∀d∈l,-1<=d.2/\d.2<=1)->-(l.length:Int)<=Pt.sm (fun d=>(if s=sk p d.1 then 1 else 0)*d.2) l/\Pt.sm (fun d=>(if s=sk p d.1 then 1 else 0)*d.2) l<=l.length:=fun l hl=>by
  induction l with
  | nil => simp[Pt.sm]
  | cons a l ih=>
   have h1:=hl a mX;have h2:=ih fun d hd=>hl d (mO _ hd);rw[aS,lC];by_cases e:s=sk p a.1
   ·rw[if_pos e];omega
   ·rw[if_neg e];omega
 have h1:=this l hl;have h2:=hg s;omega
theorem XM{Fo F:Nat->List ai}(hp:p<N)(hN:N<=1000000){l':List ai}{ds:List (ai×Int)}(hd:Az (F p) l' ds)(h1:(F p).Nodup)(h2:l'.Nodup):gJ (gT N Fo F) p ds=gT N Fo (bI F p l'):=by
 funext s
 unfold gJ;by_cases e:s.1.1=(p:Int)
 ·have e1:Pt.sm (fun d:ai×Int=>(if s=sk p d.1 then 1 else 0)*d.2) ds=Pt.sm (fun d=>(fun u=>if j3 s=u then(1:Int)else 0) d.1*d.2) ds:=eZ fun d _=>by
    have:(s=sk p d.1)=(j3 s=d.1):=propext ((lq (by omega)).trans ⟨fun h=>h.2,fun h=>⟨e,h⟩⟩);simp only[this]
  have e2:=hd.sum h1 h2 (fun u=>if j3 s=u then(1:Int)else 0)
  rw[Bi h1,Bi h2]at e2;rw[e1,e2];unfold gT;have hin:0<=s.1.1/\s.1.1<(N:Int):=by omega
  rw[if_pos hin,if_pos hin,e,tN,bM];omega
 ·have e1:Pt.sm (fun d:ai×Int=>(if s=sk p d.1 then 1 else 0)*d.2) ds=0:=jQ fun d _=>by
    rw[if_neg fun k=>e ((lq (by omega)).1 k).1];exact Int.zero_mul _
  rw[e1];unfold gT;by_cases hin:0<=s.1.1/\s.1.1<(N:Int)
  ·rw[if_pos hin,if_pos hin,bK F l' (by omega)];exact Int.add_zero _
  ·rw[if_neg hin,if_neg hin];rfl
def vv(N:Nat)(S:Nat->List ai):List Rs.Sm:=(List.range N).flatMap fun p=>(S p).map (sk p)
theorem JO(hN:N<=1000000){Fo F S:Nat->List ai}(h1:∀p t,p<N->t∈F p->t∈S p)(h2:∀p t,p<N->t∈Fo p->t∈S p)(s:Rs.Sm)(hs:gT N Fo F s≠0):s∈vv N S:=by
 unfold gT at hs;split at hs
 ·rename_i hin;obtain⟨q,hq⟩:∃q:Nat,s.1.1=(q:Int):=⟨s.1.1.toNat,by omega⟩;rw[hq,tN]at hs;unfold vv;refine List.mem_flatMap.2 ⟨q,mR.2 (by omega),mM.2 ⟨j3 s, ?_,(Ni (by omega) hq).symm⟩⟩;unfold ind at hs;by_cases k1:j3 s∈F q
  ·exact h1 q _ (by omega) k1
  ·by_cases k2:j3 s∈Fo q
   ·exact h2 q _ (by omega) k2
   ·rw[if_neg k1,if_neg k2]at hs;exact absurd rfl hs
 ·exact absurd rfl hs
attribute[local go_sem ↓]wp_at_zero wp_at_succ
theorem WE(w:World)(t:ai)(n:Int):Ls ED (w.alloc (.cells #[uV t.1.1,uV t.1.2.1,uV t.1.2.2,iV n] 163)) (sO w.heap.size 1 1) [(t,n)]:=by
 refine Or.inr ⟨w.heap.size,0,1,rfl,by simp,fun j u hj=> ?_⟩;have h:=(aa (ah w (.cells #[uV t.1.1,uV t.1.2.1,uV t.1.2.2,iV n] 163))).1 (0+j);rw[h,nZ,<-hj];simp[fl,ED]
theorem rT(p t0 t1 t2 n:Int)(w:World):CL 83 #[iV p, .agg #[uV t0,uV t1,uV t2,iV n]] w fun e w'=>e= .returned (.agg #[iV p,uV t0,uV t1,uV t2,iV n])/\Bw w w':=by
 go_enter Tryz.func83,Tryz.ntmps83;go_wp2;refine bR (v:= .agg #[iV p,uV t0,uV t1,uV t2,iV n]) (by simp[results,Tryz.results83,go_sem]) rfl ⟨rfl, ?_⟩;exact(((Gr.refl _).alloc _).alloc _).below
def EC:El Th where
 k:=5
 enc a:=[iV a.1,uV a.2.1.1.1,uV a.2.1.1.2.1,uV a.2.1.1.2.2,iV a.2.2]
 len _:=rfl
 one x u hu:=by
  simp at hu;rcases hu with rfl|rfl|rfl|rfl|rfl<;>rfl
def Qm(g:Rs.Sm->Int)(ks:List Rs.Sm):List Th:=(Rs.iT ks).map fun s=>(s.1.1,j3 s,g s)
def aa4:Prop:=∀(w:World) (tb bb n:Nat) (g:Rs.Sm->Int),Rs.Tt.Tl w tb bb 78 n g->n*40<=70368744177664->CL 84 #[aB tb] w fun e w'=>∃v ks,qC g ks/\e= .returned v/\w'.ownsRow w.heap.size 49 5 v (Qm g ks).length (fl EC (Qm g ks))/\Bw w w'
def Bk(w:World)(tag:Nat->Nat)(b:Nat)(cs:Array Value)(T:TypeId):Prop:=w.heap[b]? =some (.cells cs T (0,0))/\tag b=4294967296
theorem Bk.keep{cs:Array Value}{T:TypeId}(h:Bk w tag b cs T)(hK:Kp S w w')(hS:∀k,k<w.heap.size->S k->tag k≠4294967296)(hT:∀k,k<w.heap.size->tag' k=tag k):Bk w' tag' b cs T:=
 ⟨(hK.block b (ae h.1) fun e=>hS b (ae h.1) e h.2).trans h.1,by rw[hT b (ae h.1)];exact h.2⟩
theorem Bk.new(cs:Array Value)(T:TypeId):Bk (w.alloc (.cells cs T)) (tg tag w 4294967296) w.heap.size cs T:=⟨ah _ _,aU (nR _)⟩
def Lm{α:Type}(E:El α)(w:World)(tag:Nat->Nat)(j:Nat)(v:Value)(l:List α):Prop:=Ls E w v l/\∀k,v.ownBlock=some k->tag k=j
theorem Lm.keep{α:Type}{E:El α}{l:List α}(h:Lm E w tag j v l)(hK:Kp S w w')(hS:∀k,k<w.heap.size->S k->tag k≠j)(hT:∀k,k<w.heap.size->tag' k=tag k):Lm E w' tag' j v l:=
 ⟨hK.ls h.1 fun k hk e=>hS k (h.1.blk k hk) e (h.2 k hk),fun k hk=>by rw[hT k (h.1.blk k hk)];exact h.2 k hk⟩
theorem je{base:Nat}{size:Nat}{xs:List Value}(h:w.ownsRow base e size v n xs){g:Nat}(hg:v.ownBlock=some g):base<=g:=by
 obtain⟨_,⟨h0,_⟩|⟨b,cap,cur,hv,hb,_⟩⟩:=h
 ·rw[h0]at hg;simp[Value.ownBlock]at hg
 ·rw[hv]at hg;have:b=g:=by simpa[Value.ownBlock]using hg
  omega
section
variable {w:World} {tag:Nat->Nat} {rb:Nat} {ar:Int} {sv rv ov cv uv:Value} {N:Nat} {L:Nat->List (Nat×ai)} {rs ms:List Nat}
theorem Rd.come(h:Rd w tag rb ar sv rv ov cv uv N L rs ms)(hp:ms[p]? =some mb):∃bi oi ci,cv= .slice (some ⟨bi,oi,none⟩) ms.length ci/\bi<w.heap.size/\aj w bi (oi+p) (aB mb):=by
 obtain⟨bi,oi,ci,h1,h2,h3⟩:=sU h.cm hp;exact⟨bi,oi,ci,h1,h2,h3⟩
theorem Rd.come'(h:Rd w tag rb ar sv rv ov cv uv N L rs ms)(hp:ms[p]? =some mb){bi oi ci:Nat}(e:cv= .slice (some ⟨bi,oi,none⟩) n ci):aj w rb 4 (.slice (some ⟨bi,oi,none⟩) n ci)/\rb<w.heap.size/\aj w bi (oi+p) (aB mb)/\bi<w.heap.size:=by
 obtain⟨b',o',c',e',z',x'⟩:=h.come hp;rw[e]at e';simp only[vS,oI,aI,and_true]at e';obtain⟨⟨rfl,rfl⟩,-,-⟩:=e';exact⟨by rw[<-e];exact((aa h.blk).1 4).trans rfl,ae h.blk,x',z'⟩
theorem Rd.step(h:Rd w tag rb ar sv rv ov cv uv N L rs ms){p:Nat}(hp:p<N):∃(bi oi ci:Nat) (px:Option Addr) (cx:Nat),sv= .slice (some ⟨bi,oi,none⟩) N ci/\Lm EP w tag 0 (.slice px (L p).length cx) (L p)/\aj w rb 1 (.slice (some ⟨bi,oi,none⟩) N ci)/\rb<w.heap.size/\aj w bi (oi+p) (.slice px (L p).length cx)/\bi<w.heap.size:=by
 obtain⟨us,u1,u2,u3⟩:=h.st;obtain⟨x,hx⟩:∃x,us[p]? =some x:=⟨us[p]'(by omega),by rw[p8]⟩;obtain⟨bi,oi,ci,h1,h2,h3⟩:=Z4 u1 hx;obtain⟨h4,h5⟩:=u3 p x hx;obtain⟨px,cx,h6⟩:=h4.form;rw[h6]at h4 h5 h3;rw[u2]at h1;exact⟨bi,oi,ci,px,cx,h1,⟨h4,h5⟩,by rw[<-h1];exact((aa h.blk).1 1).trans rfl,ae h.blk,h3,h2⟩
end
end Rc
end Go.Proofs.YtiiefcalkjeieaaGreat
