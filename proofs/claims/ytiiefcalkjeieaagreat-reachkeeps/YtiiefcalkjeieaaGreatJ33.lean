import Derived.Test.YtiiefcalkjeieaaGreatJ32
variable{w W wr w':Go.World}{rb i cb S n q m j:Nat}{v:Go.Value}{p:Option Go.Addr}{tag:Nat->Nat}
set_option maxHeartbeats 8000000
set_option maxRecDepth 100000
namespace Go.Proofs.YtiiefcalkjeieaaGreat
namespace Rc
open Go.RowKit Go.Sort Go.Maps Pt Hc
open Lf (FE eu eG KY Ez iD PL nP)
open Df (jo Ij QO aT)
attribute[local go_sem ↓]wp_at_zero wp_at_succ
theorem Bw(w:World)(x:Th):Ls EC (w.alloc (.cells (cc x) 49)) (.slice (some ⟨w.heap.size,0,none⟩) 1 1) [x]:=by
 refine Or.inr ⟨w.heap.size,0,1,rfl,by simp,fun j u hj=> ?_⟩;have h:=(aa (ah w (.cells (cc x) 49))).1 (0+j);rw[h,nZ,<-hj];simp[fl,EC,cc]
theorem II(p a:Int)(w:World):Calls Tryz.prog 35 #[.int .i64 p, .int .u64 a] w fun e w'=>e= .returned (.agg #[.int .i64 p, .int .u64 a, .int .u64 0, .int .u64 0])/\Below w.heap.size w w':=by
 obtain⟨W1,hW1⟩:=aC (w.alloc (.cells #[.int .i64 0, .int .u64 0, .int .u64 0, .int .u64 0] 47));obtain⟨yb,hyb⟩:=aC (w.heap.size);have HB1:Hid (Below w.heap.size w W1/\W1.heap[yb]? =some (.cells #[.int .i64 0, .int .u64 0, .int .u64 0, .int .u64 0] 47 (0,0))/\w.heap.size=yb):=by
  rw[hW1,hyb];exact⟨((Gr.refl w).alloc _).below,ah _ _,rfl⟩
 go_enter Tryz.func35,Tryz.ntmps35;go_upto_region 1 with fail;rw[<-hW1,<-hyb];clear hW1 hyb;have c4:=(aa HB1.o.2.1).1;have f4:=(aa HB1.o.2.1).2;have l4:=ae HB1.o.2.1;have HE:Hid (Below w.heap.size w ((((W1.setCell ⟨yb,0,none⟩ (.int .i64 p)).setCell ⟨yb,1,none⟩ (.int .u64 a)).setCell ⟨yb,2,none⟩ (.int .u64 0)).setCell ⟨yb,3,none⟩ (.int .u64 0))):=by
  obtain⟨q1,k1⟩:=Df.bC HB1.o.2.1 0 (.int .i64 p);obtain⟨q2,k2⟩:=Df.bC q1 1 (.int .u64 a);obtain⟨q3,k3⟩:=Df.bC q2 2 (.int .u64 0);obtain⟨q4,k4⟩:=Df.bC q3 3 (.int .u64 0);have kk:=((k1.trans k2 (fun _ _ h=>h)).trans k3 (fun _ _ h=>h)).trans k4 (fun _ _ h=>h);exact HB1.o.1.trans (kk.below HB1.o.1.size fun k hk=>by rw[hk,HB1.o.2.2];exact nR _)
 go_wp2_with fail;refine bR (v:= .agg #[.int .i64 p, .int .u64 a, .int .u64 0, .int .u64 0]) (by simp only[results,Tryz.results35];go_simp) rfl ?_;exact⟨rfl,HE.o⟩
def kx:Th:=((0:Int),eu 4,1)
def kd(p:Nat):Nat:=if p=2\/p=4 then 1 else 0
theorem U7:∀p,p<7->Ez 0 p=some (kd p):=by decide
theorem TR(x:ai):oQ [] [x]=[(x,1)]:=by
 have e1:jk [x]=[x]:=by simp[jk,qL]
 have e:yx ([]:List ai) [x]++yx [x] []=[x]:=by simp[yx]
 unfold oQ;rw[e,e1];simp
theorem Wx:iL 7 1 (fun _ _=>0) [kx]=0:=by
 obtain⟨a1,a2,a3⟩:=eG (k:=4) (by decide);have h1:fV 7 1 [kx]=0:=Eo fun x hx=>by
  rw[yF]at hx;subst hx;refine⟨⟨0,rfl,by decide⟩, ?_⟩;show bL (eu 4).1.1 (eu 4).1.2.1 (eu 4).1.2.2 1=0;rw[a2,a3];simp[bL]
 have h2:CO (fun _ _=>0) [kx]=true:=by
  have hp:prt [kx] 0=[(eu 4,1)]:=by simp[prt,kx]
  have hn:bP (fun _=>0) [(eu 4,1)] (eu 4)=1:=by
   rw[Jn (fun _=>by show(-2147483647:Int)<=0/\(0:Int)<=2147483647;decide) (eu 4) 1 (by decide)];simp
  unfold CO;rw[bA,List.all_eq_true,List.all_eq_true];refine⟨fun x hx=> ?_,fun x hx=> ?_⟩
  ·rw[yF]at hx;subst hx;show(!Tt.dV 1)=true;rw[Tt.dH.2 (by omega)];rfl
  ·rw[yF]at hx;subst hx;show(!Tt.dV (bP (fun _=>0) (prt [kx] 0) (eu 4)))=true;rw[hp,hn,Tt.dH.2 (by omega)];rfl
 unfold iL;rw[if_neg (by rw[h1];decide),if_pos h2]
theorem KG{R:Nat->Nat->List ai}(hR:∀p,p<7->R p=KY p){K On:Nat->List ai}{Cn:Nat->ai->Int}{Fn:Nat->List ai}{L:Nat->List (Nat×ai)}(h:Ev 7 L R (lL (fun _ _=>0) [kx]) K On Cn Fn)(p:Nat)(hp:p<7):Fn p=[eu (kd p+4)]:=by
 have hO0:On 0=[eu 4]:=by
  have hq:prt [kx] 0=[(eu 4,1)]:=by simp[prt,kx]
  have e:lL (fun _ _=>0) [kx] 0=fun u=>if u=eu 4 then 1 else 0:=by
   unfold lL;rw[hq,Jn (fun _=>by show(-2147483647:Int)<=0/\(0:Int)<=2147483647;decide) (eu 4) 1 (by decide)]
   funext u
   by_cases k:u=eu 4
   ·rw[if_pos k,if_pos k];rfl
   ·rw[if_neg k,if_neg k]
  have h1:=h.own 0 (by decide);rw[e]at h1;refine h1.same ⟨List.pairwise_singleton _ _,fun x hx=> ?_,fun y hy=> ?_⟩
  ·rw[yF]at hx;rw[if_pos hx];decide
  ·by_cases k:y=eu 4
   ·subst k;simp[bE,pz.refl]
   ·rw[if_neg k]at hy;exact absurd hy (by decide)
 have hOq:∀q,q<7->q≠0->On q=[]:=fun q hq hq0=>by
  have e0:prt [kx] q=[]:=by
   unfold prt;rw[List.filter_eq_nil_iff.2 fun x hx=>by
    rw[yF]at hx;subst hx;show ¬decide ((0:Int)=(q:Int))=true;rw[dE];omega]
   rfl
  have e:lL (fun _ _=>0) [kx] q=fun _=>0:=by
   unfold lL;rw[e0,zJ (fun _=>by show(-2147483647:Int)<=0/\(0:Int)<=2147483647;decide)]
  have h1:=h.own q hq;rw[e]at h1;exact h1.same fP.nil
 have hx:∀x,x∈kE 7 R On p↔x=eu (kd p+4):=fun x=>by
  rw[qX];have hd:kd p<=1:=by unfold kd;split<;>omega
  constructor
  ·rintro⟨q,u,a,hq,hu,ha,hx⟩;by_cases hq0:q=0
   ·subst hq0;rw[hO0,yF]at hu;rw[hR 0 (by decide)]at ha;obtain⟨k,hk,rfl⟩:=iD.1 ha;rw[U7 p hp]at hk;cases hk;subst hu;rw[Lf.uV (by omega)]at hx;exact(oJ hx).symm
   ·rw[hOq q hq hq0]at hu;cases hu
  ·rintro rfl;refine⟨0,eu 4,eu (kd p),by decide,by rw[hO0];exact List.mem_singleton_self _,by rw[hR 0 (by decide)];exact iD.2 ⟨_,U7 p hp,rfl⟩,Lf.uV (by omega)⟩
 refine(h.JK p hp).same bJ ⟨List.pairwise_singleton _ _,fun a=> ?_⟩;rw[yF,hx];exact⟨fun e=>⟨e,fun b hb _=>by rw[(hx b).1 hb,e]⟩,fun e=>e.1⟩
theorem Ow{Fn:Nat->List ai}(h:∀p,p<7->Fn p=[eu (kd p+4)]):MC 7 (fun _=>[]) Fn=[((0:Int),eu 4,1),(1,eu 4,1),(2,eu 5,1),(3,eu 4,1),(4,eu 5,1),(5,eu 4,1),(6,eu 4,1)]:=by
 unfold MC;rw[show List.range 7=[0,1,2,3,4,5,6]from rfl];simp only[Q4,List.flatMap_nil,h 0 (by decide),h 1 (by decide),h 2 (by decide),h 3 (by decide),h 4 (by decide),h 5 (by decide),h 6 (by decide),TR,List.map_cons,List.map_nil,kd];rfl
theorem SH(k:Nat)(hk:k<=1000):bE ay [eu 4] (eu k)=decide (4<=k):=by
 obtain⟨a1,a2,a3⟩:=eG (k:=4) (by decide);obtain⟨b1,b2,b3⟩:=eG (k:=k) (by omega);rw[Bool.eq_iff_iff,dE];unfold bE;rw[List.any_eq_true];constructor
 ·rintro⟨x,hx,h⟩;rw[yF]at hx;subst hx;have:=(jg _ _).1 h;have h3:(eu 4).1.1<=(eu k).1.1:=this.1;omega
 ·intro h;refine⟨eu 4,List.mem_singleton_self _,(jg _ _).2 ⟨?_, ?_, ?_⟩⟩
  ·show(eu 4).1.1<=_;omega
  ·show(eu 4).1.2.1<=_;omega
  ·show(eu 4).1.2.2<=_;omega
def IL(w:World)(rb:Nat)(W:World):Prop:=Below w.heap.size w W/\∃tag R K O C F c,Gk jo R/\RG 1 W tag rb jo R c K O C F [((0:Int),eu 4,1),(1,eu 4,1),(2,eu 5,1),(3,eu 4,1),(4,eu 5,1),(5,eu 4,1),(6,eu 4,1)]/\(∀p,p<7->F p=[eu (kd p+4)])/\c 0 (eu 4)=1
theorem IL.below{W':World}(h:IL w rb W)(hb:Below W.heap.size W W'):IL w rb W':=by
 obtain⟨h1,tag,R,K,O,C,F,c,h2,h3,h4,h5⟩:=h;exact⟨h1.trans (hb.mono h1.size),tag,R,K,O,C,F,c,h2,h3.below h2 hb (fun _ _=>rfl),h4,h5⟩
theorem IL.open(h:IL w rb W)(k:Nat)(hk:k<=1000):Calls Tryz.prog 16 #[.pointer (some ⟨rb,0,none⟩), .int .i64 6, .agg #[.int .u64 (k:Int), .int .u64 0, .int .u64 0]] W fun e w'=>e= .returned (.bool (decide (4<=k)))/\Below W.heap.size W w':=by
 obtain⟨h1,tag,R,K,O,C,F,c,h2,h3,h4,h5⟩:=h;have hp:=h3.open h2 6 (eu k);obtain⟨b1,b2,b3⟩:=eG (k:=k) (by omega);rw[b1,b2,b3,show Py (aT jo.nodes) F 6=F 6 from Ih (p:=6) (by rw[nP];decide) F,h4 6 (by decide)]at hp;have e:kd 6+4=4:=rfl;rw[e,SH k hk]at hp;exact hp
theorem IL.count(h:IL w rb W):Calls Tryz.prog 36 #[.pointer (some ⟨rb,0,none⟩), .agg #[.int .i64 0, .int .u64 4, .int .u64 0, .int .u64 0]] W fun e w'=>e= .returned (.int .i64 1)/\Below W.heap.size W w':=by
 obtain⟨h1,tag,R,K,O,C,F,c,h2,h3,h4,h5⟩:=h;have hp:=h3.count 0 (eu 4);obtain⟨b1,b2,b3⟩:=eG (k:=4) (by decide);rw[b1,b2,b3,nP,if_pos (by omega)]at hp;rw[show((0:Int).toNat)=0 from rfl,h5]at hp;exact hp.mono fun e w' h=>⟨h.1,h.2.below⟩
theorem IL.XF(h:IL w rb W):Calls Tryz.prog 12 #[.pointer (some ⟨rb,0,none⟩), .int .i64 4] W fun e w'=>∃b o c,e= .returned (.slice (some ⟨b,o,none⟩) 1 c)/\Hid (w'.cell? ⟨b,o,none⟩=some (.int .u64 5)/\b<w'.heap.size/\Below W.heap.size W w'):=by
 obtain⟨h1,tag,R,K,O,C,F,c,h2,h3,h4,h5⟩:=h;have hp:=h3.front h2 4;rw[show Py (aT jo.nodes) F 4=F 4 from Ih (p:=4) (by rw[nP];decide) F,h4 4 (by decide),show kd 4+4=5 from rfl]at hp;refine hp.mono ?_;rintro e w' ⟨v,rfl,ho,hb⟩;obtain⟨b,o,c,hv,hl,hc⟩:=Ls.get (E:=ET) (j:=0) (aH (E:=ET) ho) rfl;subst hv;obtain⟨a1,_,_⟩:=eG (k:=5) (by decide);have h0:=hc 0 (.int .u64 5) (by decide) (by rw[<-show((eu 5).1.1:Int)=5 from a1];rfl);exact⟨b,o,c,rfl,by simpa using h0,hl,hb⟩
theorem IL.VD(h:IL w rb W):Calls Tryz.prog 19 #[.pointer (some ⟨rb,0,none⟩)] W fun e w'=>∃b o c,e= .returned (.slice (some ⟨b,o,none⟩) 7 c)/\Hid ((w'.cell? ⟨b,o+10,none⟩=some (.int .i64 2)/\w'.cell? ⟨b,o+10+1,none⟩=some (.int .u64 5)/\w'.cell? ⟨b,o+10+2,none⟩=some (.int .u64 0)/\w'.cell? ⟨b,o+10+3,none⟩=some (.int .u64 0)/\w'.cell? ⟨b,o+10+4,none⟩=some (.int .i64 1))/\b<w'.heap.size/\Below W.heap.size W w'):=by
 obtain⟨h1,tag,R,K,O,C,F,c,h2,h3,h4,h5⟩:=h;refine h3.turns.mono ?_;rintro e w' ⟨p,n,q,rfl,ho⟩;obtain⟨b,o,c,hv,hl,hc⟩:=Ls.get (E:=EC) (j:=2) (aH (E:=EC) ho.o.1) rfl;injection hv with e1 e2 e3;subst e1 e2 e3;obtain⟨a1,a2,a3⟩:=eG (k:=5) (by decide);have k1:((eu 5).1.1:Int)=5:=a1;have k2:((eu 5).1.2.1:Int)=0:=a2;have k3:((eu 5).1.2.2:Int)=0:=a3;have h0:=hc 0 (.int .i64 2) (by decide) rfl;have h1:=hc 1 (.int .u64 5) (by decide) (by rw[<-k1];rfl);have h2:=hc 2 (.int .u64 0) (by decide) (by rw[<-k2];rfl);have h3:=hc 3 (.int .u64 0) (by decide) (by rw[<-k3];rfl);have h4:=hc 4 (.int .i64 1) (by decide) rfl;exact⟨b,o,q,rfl,⟨h0,h1,h2,h3,h4⟩,hl,ho.o.2⟩
theorem zO(w:World):Calls Tryz.prog 8 #[] w fun e w'=>e= .returned (.bool true)/\Below w.heap.size w w':=by
 have hmx:Tryz.prog.follows .mixedOrders=true:=by kernel_rfl
 have heq:=Rs.uZ;go_enter Tryz.func8,Tryz.ntmps8;go_wp2_with fail;refine(Df.Oh w).mono ?_;rintro e w1 ⟨rfl,h1⟩;have H1:=hid h1.o;clear h1;go_wp2_with fail;refine(Df.KZ w1 H1.o.2).mono ?_;rintro e w2 ⟨gb,rfl,h2⟩;have H2:Hid (Below w.heap.size w w2/\Df.Gm w1.heap.size w2 gb jo):=⟨H1.o.1.trans (h2.o.1.mono H1.o.1.size),h2.o.2⟩;clear h2 H1;have hok:Df.gY jo:=by
  obtain⟨nv,ev,fv,pv,ys,ss,hg⟩:=H2.o.2;exact hg.ok
 have HRN:=hid (dF w2 H2.o.2 hok Lf.PN);go_wp2_with fail;refine HRN.o.mono ?_;clear HRN;rintro e w3 h3;obtain⟨b3,a,ha,hr⟩:=h3.o.rg hok Lf.PN 1 (fun _=>3);have hsame:=ha.same PL;rcases hr with⟨rfl,_⟩|⟨rfl,_⟩|⟨R,rb,uH,rfl,hk,rfl,hrb,hold,hrg⟩
 ·rcases hsame with⟨_,k⟩|⟨k,_⟩|⟨_,_,k,_⟩<;>cases k
 ·rcases hsame with⟨k,_⟩|⟨_,k⟩|⟨_,_,k,_⟩<;>cases k
 have HRR:Hid (∀p,p<7->R p=KY p):=by
  rcases hsame with⟨k,_⟩|⟨k,_⟩|⟨R1,R2,k1,k2,k3⟩
  ·cases k
  ·cases k
  ·cases k1;cases k2;rw[nP]at k3;exact k3
 have H3:Hid (Below w.heap.size w w3/\Gk jo R/\RG 1 w3 uH rb jo R (fun _ _=>0) (fun _=>[]) (fun _=>[]) (fun _ _=>0) (fun _=>[]) []):=⟨H2.o.1.trans (b3.mono H2.o.1.size),hk,hrg⟩;have HOW:Hid (∀k,uj 1 uH k->w.heap.size<=k):=fun k e=>by
  by_cases z:k<w2.heap.size
  ·have e1:=hold k z;have e2:=e.1;rw[e1]at e2;omega
  ·have:=H2.o.1.size;omega
 clear h3 b3 ha hsame hk hrb hold hrg H2 hok;go_wp2_with fail;refine(II 0 4 w3).mono ?_;rintro e w4 ⟨rfl,h4⟩;have H4:Hid (Below w.heap.size w w4/\Gk jo R/\RG 1 w4 uH rb jo R (fun _ _=>0) (fun _=>[]) (fun _=>[]) (fun _ _=>0) (fun _=>[]) []):=⟨H3.o.1.trans (h4.mono H3.o.1.size),H3.o.2.1,H3.o.2.2.below H3.o.2.1 h4 (fun _ _=>rfl)⟩;clear h4 H3;obtain⟨W5,bU⟩:=aC (w4.alloc (.cells #[.int .i64 0, .int .u64 4, .int .u64 0, .int .u64 0, .int .i64 1] 49));obtain⟨b5,hb5⟩:=aC (w4.heap.size);have H5:Hid (Below w.heap.size w W5/\Ls EC W5 (.slice (some ⟨b5,0,none⟩) 1 1) [kx]/\Gk jo R/\RG 1 W5 uH rb jo R (fun _ _=>0) (fun _=>[]) (fun _=>[]) (fun _ _=>0) (fun _=>[]) []):=by
  have g5:=((Gr.refl w4).alloc (.cells #[.int .i64 0, .int .u64 4, .int .u64 0, .int .u64 0, .int .i64 1] 49)).below;have hl:=Bw w4 kx;obtain⟨a1,a2,a3⟩:=eG (k:=4) (by decide);have ec:cc kx=#[.int .i64 0, .int .u64 4, .int .u64 0, .int .u64 0, .int .i64 1]:=by
   unfold cc kx;simp only[a1,a2,a3];rfl
  rw[ec]at hl;rw[bU,hb5];exact⟨H4.o.1.trans (g5.mono H4.o.1.size),hl,H4.o.2.1,H4.o.2.2.below H4.o.2.1 g5 (fun _ _=>rfl)⟩
 have HCH:Hid (Calls Tryz.prog 10 #[.pointer (some ⟨rb,0,none⟩), .slice (some ⟨b5,0,none⟩) 1 1] W5 fun e w'=>e= .returned (.int .i64 0)/\Hid (IL w rb w')):=by
  have hch:=H5.o.2.2.2.change H5.o.2.2.1 [kx] _ H5.o.2.1 (by rw[nP];decide);refine hch.mono ?_;rintro e w' ⟨rfl,h⟩;have h0:=Wx;rw[<-nP]at h0;have h0':iL (aT jo.nodes) jo.arity (fun _ _=>0) [kx]=0:=h0;refine⟨by rw[h0'], ?_⟩;obtain⟨tag',h1,h2,h3⟩:=h.o;have hbl:Below w.heap.size w w':=H5.o.1.trans (h2.below H5.o.1.size HOW.o);rcases h3 with⟨hz,_⟩|⟨_,On,Cn,Fn,hq⟩
  ·exact absurd h0' hz
  ·have hev:=hq.ev;rw[nP]at hev;have hf:=KG HRR.o hev;have ht:=Ow hf;refine⟨hbl,tag',R,BG (fun _=>[]) [kx],On,Cn,Fn,lL (fun _ _=>0) [kx],H5.o.2.2.1, ?_,hf, ?_⟩
   ·have:=hq;rw[nP,ht]at this;exact this
   ·show bP (fun _=>0) (prt [kx] 0) (eu 4)=1;have hp:prt [kx] 0=[(eu 4,1)]:=(by simp[prt,kx]);rw[hp,Jn (fun _=>by show(-2147483647:Int)<=0/\(0:Int)<=2147483647;decide) (eu 4) 1 (by decide)];simp
 clear HOW HRR;go_wp2_with fail;rw[<-bU,<-hb5];clear bU hb5;refine HCH.o.mono ?_;clear HCH H5 H4;rintro e w6 ⟨rfl,K6⟩;go_wp2_with fail;refine K6.o.XF.mono ?_;rintro e w7 ⟨b7,o7,c7,rfl,h7⟩;have K7:Hid (IL w rb w7):=K6.o.below h7.o.2.2;have T7:=hid h7.o;clear h7;go_wp2_with fail;refine K7.o.VD.mono ?_;rintro e w8 ⟨b8,o8,c8,rfl,h8⟩;have K8:Hid (IL w rb w8):=K7.o.below h8.o.2.2;have T8:Hid (∀W,Below w8.heap.size w8 W->IL w rb W/\W.cell? ⟨b7,o7,none⟩=some (.int .u64 5)/\b7<W.heap.size/\W.cell? ⟨b8,o8+10,none⟩=some (.int .i64 2)/\W.cell? ⟨b8,o8+10+1,none⟩=some (.int .u64 5)/\W.cell? ⟨b8,o8+10+2,none⟩=some (.int .u64 0)/\W.cell? ⟨b8,o8+10+3,none⟩=some (.int .u64 0)/\W.cell? ⟨b8,o8+10+4,none⟩=some (.int .i64 1)/\b8<W.heap.size):=fun W hW=>by
  have hl8:b8<w8.heap.size:=h8.o.2.1;have hl7:b7<w7.heap.size:=T7.o.2.1;have aas:b7<w8.heap.size:=nL hl7 h8.o.2.2.size;refine⟨K8.o.below hW, ?_,nL aas hW.size, ?_⟩
  ·rw[yY (a:=⟨b7,o7,none⟩) (hW.block _ aas),yY (a:=⟨b7,o7,none⟩) (h8.o.2.2.block _ hl7)];exact T7.o.1
  ·have e:∀j,W.cell? ⟨b8,j,none⟩=w8.cell? ⟨b8,j,none⟩:=fun j=>yY (a:=⟨b8,j,none⟩) (hW.block _ hl8);simp only[e];obtain⟨c0,c1,c2,c3,c4⟩:=h8.o.1;exact⟨c0,c1,c2,c3,c4,nL hl8 hW.size⟩
 clear h8 T7 K6 K7 K8;have heq:∀W,Sem.run Tryz.prog (Op.equalIn 10000 49 (.agg #[.int .i64 2, .int .u64 5, .int .u64 0, .int .u64 0, .int .i64 1]) (.agg #[.int .i64 2, .int .u64 5, .int .u64 0, .int .u64 0, .int .i64 1])) W= .ok true W:=fun W=>by
  have h:=Rs.uZ (⟨(2,5,0,0),by decide⟩,1) (⟨(2,5,0,0),by decide⟩,1) W;rw[decide_eq_true rfl]at h;exact h
 go_upto_region 9 with fail;have hS0:Below w8.heap.size w8 w8.drew:=(Gr.refl w8).drew.below;refine ax (S:=fun W:World=>Below w8.heap.size w8 W) (D:=[]) hmx ?_;refine' aj 0 hS0 ?_;refine' aj 1 hS0 ?_;refine' aj 2 hS0 ?_;refine' aj 3 hS0 ?_;refine' aj 4 hS0 ?_;refine' bu 5 hS0 ?h ?_;case h=>(intro W hSw;obtain⟨-,c0,c1,c2,c3,c4,c5,c6,c7⟩:=T8.o W hSw;go_simp;try(with_reducible rfl))
 refine' bu 6 hS0 ?h ?_;case h=>(intro W hSw;obtain⟨-,c0,c1,c2,c3,c4,c5,c6,c7⟩:=T8.o W hSw;go_simp;try(with_reducible rfl))
 refine' bu 7 hS0 ?h ?_;case h=>(intro W hSw;obtain⟨-,c0,c1,c2,c3,c4,c5,c6,c7⟩:=T8.o W hSw;go_simp;try(with_reducible rfl))
 refine' aj 8 hS0 ?_;refine' aj 9 hS0 ?_;refine' aj 10 hS0 ?_;refine' aj 11 hS0 ?_;refine' aj 12 hS0 ?_;refine' aj 13 hS0 ?_;refine' aj 14 hS0 ?_;refine' aj 15 hS0 ?_;refine' aj 16 hS0 ?_;refine' bu 17 hS0 ?h ?_;case h=>(intro W hSw;obtain⟨-,c0,c1,c2,c3,c4,c5,c6,c7⟩:=T8.o W hSw;go_simp;try(with_reducible rfl))
 refine' bu 18 hS0 ?h ?_;case h=>(intro W hSw;obtain⟨-,c0,c1,c2,c3,c4,c5,c6,c7⟩:=T8.o W hSw;go_simp;try(with_reducible rfl))
 refine bF 19 fun K hK=> ?_;rw[if_pos (by kernel_rfl)];go_simp;refine(II 2 5 _).mono ?_;rintro e y9 ⟨rfl,g9⟩;have jF:Below w8.heap.size w8 y9:=hS0.trans (g9.mono hS0.size);clear g9;go_wp2_with fail;refine hK.o _ _ (fun hD=>jF) ?_;clear hK K;try simp only[Act.put,qI,q0,qS]
 refine' aj 20 jF ?_;refine' bu 21 jF ?h ?_;case h=>(intro W hSw;have hq:=heq W;go_simp;try(with_reducible rfl))
 refine' aj 22 jF ?_;refine' aj 23 jF ?_;refine' aj 24 jF ?_;refine' aj 25 jF ?_;refine bF 26 fun K hK=> ?_;rw[if_pos (by kernel_rfl)];go_simp;refine((T8.o _ jF).1.open 4 (by decide)).mono ?_;rintro e y10 ⟨rfl,g10⟩;have rA:Below w8.heap.size w8 y10:=jF.trans (g10.mono jF.size);clear g10;go_wp2_with fail;refine hK.o _ _ (fun hD=>rA) ?_;clear hK K;try simp only[Act.put,qI,q0,qS]
 refine' aj 27 rA ?_;refine' aj 28 rA ?_;refine' aj 29 rA ?_;refine' aj 30 rA ?_;refine bF 31 fun K hK=> ?_;rw[if_pos (by kernel_rfl)];go_simp;refine((T8.o _ rA).1.open 3 (by decide)).mono ?_;rintro e y11 ⟨rfl,g11⟩;have Ia:Below w8.heap.size w8 y11:=rA.trans (g11.mono rA.size);clear g11;go_wp2_with fail;refine hK.o _ _ (fun hD=>Ia) ?_;clear hK K;try simp only[Act.put,qI,q0,qS]
 refine' aj 32 Ia ?_;refine' aj 33 Ia ?_;refine' aj 34 Ia ?_;refine' aj 35 Ia ?_;refine bF 36 fun K hK=> ?_;rw[if_pos (by kernel_rfl)];go_simp;refine(II 0 4 _).mono ?_;rintro e y12 ⟨rfl,g12⟩;have Pn:Below w8.heap.size w8 y12:=Ia.trans (g12.mono Ia.size);clear g12;go_wp2_with fail;refine hK.o _ _ (fun hD=>Pn) ?_;clear hK K;try simp only[Act.put,qI,q0,qS]
 refine bF 37 fun K hK=> ?_;rw[if_pos (by kernel_rfl)];go_simp;refine((T8.o _ Pn).1.count).mono ?_;rintro e y13 ⟨rfl,g13⟩;have Pm:Below w8.heap.size w8 y13:=Pn.trans (g13.mono Pn.size);clear g13;go_wp2_with fail;refine hK.o _ _ (fun hD=>Pm) ?_;clear hK K;try simp only[Act.put,qI,q0,qS]
 refine' aj 38 Pm ?_;refine' aj 39 Pm ?_;refine' aj 40 Pm ?_;try simp only[Act.put,qI,q0]
 refine au (by kernel_rfl) ?_ _;go_wp2_with fail;go_ret;exact⟨rfl,(T8.o _ Pm).1.1⟩
end Rc
namespace Rc
open Go.RowKit Go.Sort Go.Maps Pt Hc
open Df (aT)
attribute[local go_sem ↓]wp_at_zero wp_at_succ
theorem Vy{ops:Array Oper}{rest:List Oper}{o:Oper}{a:Act}{Q:Exit->Act->World->Prop}(hgd:o.guard=none)(s x:Operand)
    (ho:o.op= .call { callee:= .builtin .append,args:=#[s,x],argTypes:=#[26,26] })
    (base:Nat) (v:Value) (n:Nat) (xs:List Value) (hs:a.eval s=v) (hown:w.ownsRow base 49 5 v n xs) (hbase:base<=w.heap.size)
    (y:Th) (cs:Array Value) (hcs:cs.toList=EC.enc y) (hx:a.eval x= .slice (some ⟨w.heap.size,0,none⟩) 1 1) (hbig:(n+1)*40<=140737488355328)
    (h:∀g cap w',Hid (w'.ownsRow base 49 5 (.slice (some ⟨g,0,none⟩) (n+1) cap) (n+1) (xs++EC.enc y))->Hid (Kp (fun q=>v.ownBlock=some q) w w')->Hid (v.ownBlock=some g\/w.heap.size<=g)->wpList Tryz.prog ops Q rest (a.put o.dst (.slice (some ⟨g,0,none⟩) (n+1) cap)) w') :
    wpList Tryz.prog ops Q (o::rest) a (w.alloc (.cells cs 49)):=by
 obtain⟨i0,hi,hz0,hz1,hz2⟩:=info_parts Rs.pR;refine wpList_append_lies _ hgd s x _ ho base 49 i0 _ 5 40 Tryz.underlying26 hi hz0 hz1 hz2 rfl (by decide) v n xs hs (hown.alloc _) ⟨w.heap.size,0,none⟩ 1 1 (EC.enc y) hx rfl (by have:=World.news_of_block (ah w (.cells cs 49));rw[hcs]at this;exact this) (EC.one y) (by decide) (by unfold maxLen;omega) hbig (by simp;omega) _ rfl ?_;intro g cap w' h1 h2 h3 _;refine h g cap w' h1 ⟨h2.os,h2.tape,h2.output,nT (by simp) h2.size,fun k hk hne=>(h2.block k (by simp;omega) (fun e=>hne e.symm)).trans ((World.grownBy_alloc w _ none).block k hk (by simp))⟩ ?_;rcases h3 with h3|h3
 ·exact Or.inl h3
 ·right;rw[h3];simp
def only(i:Nat)(tag:Nat->Nat)(k:Nat):Nat:=if tag k=0\/(i*8589934592<tag k/\tag k<i*8589934592+8589934592)then tag k else 5
theorem Oj(hi:1<=i)(tag:Nat->Nat)(k:Nat):loc i (only i tag) k=loc i tag k:=by
 by_cases h:tag k=0\/(i*8589934592<tag k/\tag k<i*8589934592+8589934592)
 ·have e:only i tag k=tag k:=if_pos h;unfold loc;rw[e]
 ·have e:only i tag k=5:=if_neg h;rw[BB (by rw[e];decide) (fun z=>by have:=z.1;rw[e]at this;omega),BB (fun z=>h (.inl z)) (fun z=>h (.inr z))]
theorem NI(hj:1<=j)(hij:i≠j)(tag:Nat->Nat)(k:Nat):¬uj j (only i tag) k:=by
 intro z;obtain⟨z1,z2⟩:=z;unfold only at z1 z2;split at z1
 ·rename_i h;rw[if_pos h]at z2;rcases h with h|h<;>omega
 ·omega
section
variable {i:Nat} {w:World} {tag:Nat->Nat} {rb:Nat} {g:Df.bD} {R:Nat->Nat->List ai} {c:Nat->ai->Int} {K O:Nat->List ai} {C:Nat->ai->Int} {F:Nat->List ai} {U:List Th}
theorem RG.only(h:RG i w tag rb g R c K O C F U)(hi:1<=i):RG i w (only i tag) rb g R c K O C F U:=
 ⟨h.q.retag fun k e=>by rw[Oj hi],h.ev,h.kt,h.ul⟩
end
def Cw(g:Df.bD)(x:Th):Prop:=fV (aT g.nodes) g.arity [x]=0/\-999<=x.2.2/\x.2.2<=999
def CR(w wr:World)(cb:Nat)(g:Df.bD)(R:Nat->Nat->List ai)(S:Nat)(p:Option Addr)(n q:Nat)(out:List Th)(m:Nat):Prop:=
 Below w.heap.size w wr/\out.length=n/\n<=m/\m<=40/\(∀x∈out,Cw g x)/\wr.ownsRow w.heap.size 49 5 (.slice p n q) n (fl EC out)/\
  ∃tag c K O C F U,RG 9 wr tag cb g R c K O C F U/\sN (fun p=>(K p).length) (List.range (aT g.nodes))<=S+m/\(∀k,k<wr.heap.size->uj 9 tag k->w.heap.size<=k)/\(∀k,(Value.slice p n q).ownBlock=some k->tag k=5)
theorem CR.below{g:Df.bD}{R:Nat->Nat->List ai}{out:List Th}(h:CR w wr cb g R S p n q out m)(hk:Gk g R)(hb:Below wr.heap.size wr w'):CR w w' cb g R S p n q out m:=by
 obtain⟨h1,h2,h3,h4,h5,h6,tag,c,K,O,C,F,U,h7,h8,h9,h10⟩:=h;refine⟨h1.trans (hb.mono h1.size),h2,h3,h4,h5,ag h6 hb,tg tag wr 5,c,K,O,C,F,U,h7.below hk hb (fun k hk=>ak hk),h8,fun k hk e=> ?_,fun k e=> ?_⟩
 ·by_cases z:k<wr.heap.size
  ·unfold uj at e;rw[ak z]at e;exact h9 k z e
  ·have:=h1.size;omega
 ·rw[ak (h6.lt k e).2];exact h10 k e
theorem Rl(z:Int): -999<=Int.tmod z 1000/\Int.tmod z 1000<=999:=by
 have h1:=Int.tmod_lt_of_pos z (show(0:Int)<1000 by decide);have h2:=Int.lt_tmod_of_pos z (show(0:Int)<1000 by decide);omega
theorem Lr{N:Nat}{ar:Int}{c:Nat->ai->Int}{l:List Th}(h:iL N ar c l=0):fV N ar l=0:=by
 unfold iL at h;by_cases e:fV N ar l=0
 ·exact e
 ·rw[if_pos e]at h;exact h
theorem CR.ask{g:Df.bD}{R:Nat->Nat->List ai}{out:List Th}(h:CR w wr cb g R S p n q out m)(hk:Gk g R)(hS:S<=6960)(hm:m<40)(y:Th)(hy: -999<=y.2.2/\y.2.2<=999)(W7:World)(hb:Below wr.heap.size wr W7)(b8:Nat)(dN:wr.heap.size<=b8)(hc:W7.heap[b8]? =some (.cells (cc y) 49 (0,0)))(v:Value)(hv:Ls EC W7 v [y]):
    Calls Tryz.prog 10 #[.pointer (some ⟨cb,0,none⟩),v] W7 fun e w'=>∃z,e= .returned (.int .i64 z)/\Hid (CR w w' cb g R S p n q out (m+1)/\(z=0->Cw g y)/\w'.heap[b8]? =some (.cells (cc y) 49 (0,0))):=by
 obtain⟨h1,h2,h3,h4,h5,h6,tag,c,K,O,C,F,U,h7,h8,h9,h10⟩:=h;have hbs:=hb.size;have hws:=h1.size;have hl8:b8<W7.heap.size:=ae hc;obtain⟨t7,QI⟩:=aC (tg tag wr 6);have o7:∀k,k<wr.heap.size->t7 k=tag k:=fun k hk=>by rw[QI];exact ak hk
 have n7:∀k,wr.heap.size<=k->t7 k=6:=fun k hk=>by rw[QI];exact aR hk
 have e7:∀k,uj 9 t7 k->w.heap.size<=k:=fun k e=>by
  by_cases z:k<wr.heap.size
  ·have e2:uj 9 tag k:=(by unfold uj at e⊢;rw[o7 k z]at e;exact e);exact h9 k z e2
  ·omega
 have s7:∀k,(Value.slice p n q).ownBlock=some k->t7 k=5:=fun k e=>by rw[o7 k (h6.lt k e).2];exact h10 k e
 have hR:=h7.below hk hb o7;refine(hR.change hk [y] v hv (by simp only[vL];omega)).mono ?_;rintro e w' ⟨rfl,hc0⟩;obtain⟨t',f1,f2,f3⟩:=hc0.o;refine⟨_,rfl,⟨(h1.trans (hb.mono h1.size)).trans (f2.below (nT hws hbs) e7),h2,by omega,by omega,h5,av f2 (ag h6 hb) fun k e z=> ?_, ?_⟩,fun z=>⟨Lr z,hy⟩,(f2.block b8 hl8 fun z=> ?_).trans hc⟩
 ·have:=z.1;rw[s7 k e]at this;omega
 ·have g1:∀k,k<w'.heap.size->uj 9 t' k->w.heap.size<=k:=fun k _ e=>by
    by_cases z:k<W7.heap.size
    ·have e2:uj 9 t7 k:=(by unfold uj at e⊢;rw[f1 k z]at e;exact e);exact e7 k e2
    ·omega
  have g2:∀k,(Value.slice p n q).ownBlock=some k->t' k=5:=fun k e=>by
   rw[f1 k (by have:=(h6.lt k e).2;omega)];exact s7 k e
  rcases f3 with⟨_,_,f4⟩|⟨_,On,Cn,Fn,f4⟩
  ·exact⟨t',c,K,O,C,F,U,f4,by omega,g1,g2⟩
  ·refine⟨t',_,_,On,Cn,Fn,_,f4, ?_,g1,g2⟩;have:=BF (N:=aT g.nodes) (K:=K) (l:=[y]);simp only[vL]at this;omega
 ·have:=z.1;rw[n7 b8 dN]at this;omega
theorem CR.push{w9:World}{g:Df.bD}{R:Nat->Nat->List ai}{out:List Th}(h:CR w wr cb g R S p n q out (m+1))(hn:n<=m)(hk:Gk g R){y:Th}(hy:Cw g y){g8 cap:Nat}(h8:w9.ownsRow w.heap.size 49 5 (.slice (some ⟨g8,0,none⟩) (n+1) cap) (n+1) (fl EC out++EC.enc y))(k8:Kp (fun k=>(Value.slice p n q).ownBlock=some k) wr w9)(n8:(Value.slice p n q).ownBlock=some g8\/wr.heap.size<=g8):CR w w9 cb g R S (some ⟨g8,0,none⟩) (n+1) cap (out++[y]) (m+1):=by
 obtain⟨h1,h2,h3,h4,h5,h6,tag,c,K,O,C,F,U,h7,h8',h9,h10⟩:=h;have hws:=h1.size;refine⟨h1.trans (k8.below h1.size fun k e=>(h6.lt k e).1),by rw[dO,h2];rfl,by omega,h4,fun x hx=> ?_,aS h8 rfl (by rw[aQ,dK]),tg tag wr 5,c,K,O,C,F,U,h7.keep hk k8 (fun k _ e=> ?_) (fun k hk=>ak hk),h8',fun k _ e=> ?_,fun k e=> ?_⟩
 ·rcases j4.1 hx with hx|hx
  ·exact h5 x hx
  ·rw[yF]at hx;rw[hx];exact hy
 ·have e2:=h10 k e;refine⟨by omega,fun z=> ?_⟩;have:=z.1;omega
 ·by_cases z:k<wr.heap.size
  ·have e2:uj 9 tag k:=(by unfold uj at e⊢;rw[ak z]at e;exact e);exact h9 k z e2
  ·omega
 ·have e2:k=g8:=by simpa[Value.ownBlock]using e.symm
  subst e2;rcases n8 with n8|n8
  ·rw[ak (h6.lt k n8).2];exact h10 k n8
  ·exact aR n8
theorem CR.start{w1:World}{g:Df.bD}{R:Nat->Nat->List ai}{c:Nat->ai->Int}{K O:Nat->List ai}{C:Nat->ai->Int}{F:Nat->List ai}{U:List Th}(hi9:i≠9)(hc:CpG i 9 w (only i tag) rb cb g R c K O C F U w1):CR w w1 cb g R (sN (fun p=>(K p).length) (List.range (aT g.nodes))) none 0 0 [] 0:=by
 obtain⟨t',h1,h2,_,_,h5⟩:=hc;refine⟨h2,rfl,nR _,by omega,(fun x hx=>by cases hx),oN _ _ _ _,t',c,K,O,C,F,U,h5,nR _,fun k _ e=> ?_,(fun k e=>by cases e)⟩;by_cases z:k<w.heap.size
 ·have e2:uj 9 (only i tag) k:=by unfold uj at e⊢;rw[h1 k z]at e;exact e
  exact absurd e2 (NI (by decide) hi9 tag k)
 ·omega
def Lw(w:World)(v:Value)(l:List Th):Prop:=Ls EC w v l\/(l=[]/\∃p c,v= .slice p 0 c)
theorem Lw.form{l:List Th}(h:Lw w v l):∃p c,v= .slice p l.length c:=by
 rcases h with h|⟨rfl,p,c,rfl⟩
 ·exact h.form
 ·exact⟨p,c,rfl⟩
theorem Lw.below{l:List Th}(h:Lw w v l)(hb:Below w.heap.size w w'):Lw w' v l:=h.imp (fun h=>h.below hb) fun h=>h
theorem Lw.ls{l:List Th}(h:Lw w v l){x:Th}(hj:l[j]? =some x):Ls EC w v l:=by
 rcases h with h|⟨rfl,_⟩
 ·exact h
 ·cases hj
def TaR(w:World)(g:Df.bD)(p:Option Addr)(n q:Nat)(w':World):Prop:=Below w.heap.size w w'/\∃out,out.length=n/\n<=40/\(∀x∈out,Cw g x)/\w'.ownsRow w.heap.size 49 5 (.slice p n q) n (fl EC out)
theorem Dc(w:World){g:Df.bD}{R:Nat->Nat->List ai}{c:Nat->ai->Int}{K O:Nat->List ai}{C:Nat->ai->Int}{F:Nat->List ai}{U:List Th}(h:RG i w tag rb g R c K O C F U)(hi:1<=i)(hi9:i≠9)(hk:Gk g R)(hS:sN (fun p=>(K p).length) (List.range (aT g.nodes))<=6960){l:List Th}(hv:Lw w v l)(hl:l.length*40<=140737488355328):
    Calls Tryz.prog 9 #[.pointer (some ⟨rb,0,none⟩),v] w fun e w'=>∃p n q,e= .returned (.slice p n q)/\Hid (TaR w g p n q w'):=by
 have HCP:=hid ((h.only hi).copy hk 9);have HK:=hid hk;have vI:=hid hl;obtain⟨pl,cl,rfl⟩:=hv.form;have HL:Hid (∀W,Below w.heap.size w W->Lw W (.slice pl l.length cl) l):=fun W hb=>hv.below hb;obtain⟨S,hSe⟩:=aC (sN (fun p=>(K p).length) (List.range (aT g.nodes)));rw[<-hSe]at hS;have HS:=hid hS;have HST:Hid (∀w1 cb,CpG i 9 w (Rc.only i tag) rb cb g R c K O C F U w1->CR w w1 cb g R S none 0 0 [] 0):=fun w1 cb hc=>by
  rw[hSe];exact CR.start hi9 hc
 clear h hi hi9 hk hS hv hl hSe;go_enter Tryz.func9,Tryz.ntmps9;go_wp2_with fail;refine HCP.o.mono ?_;clear HCP;rintro e w1 ⟨cb,rfl,hc⟩;have H1:=hid (HST.o w1 cb hc.o);clear hc HST;obtain⟨nl,hnl⟩:=aC (l.length);rw[<-hnl]at HL vI;have HN:=hid hnl;clear hnl;rw[<-HN.o];go_wp2_with fail;go_loopw [5,13] (fun s5 s13 wr=>∃(k:Nat) (p:Option Addr) (n q:Nat) (out:List Th),k<=nl/\s5= .slice p n q/\s13= .int .i64 (k:Nat)/\Hid (CR w wr cb g R S p n q out (min k 40))) (fun _ s13 _=>nl-(intOf s13).toNat);case atStart=>exact⟨0,none,0,0,[],zL _,rfl,rfl,H1.o⟩
 case round=>
  obtain⟨k,p,n,q,out,hk,rfl,rfl,HI⟩:=hrel;have hk0:(0:Int)<=(k:Int):=by omega
  have hnb:nl<=3518437208884:=by have:=vI.o;omega
  by_cases hlt:k<nl
  ·have hltz:(k:Int)<(nl:Int):=(by omega);obtain⟨x,hx⟩:∃x,l[k]? =some x:=⟨l[k]'(by have:=HN.o;omega),by simp⟩;obtain⟨b1,o1,q1,gN,z1,x0,x1,x2,x3,x4⟩:=DR (show Ls EC wr (.slice pl nl cl) l from(HL.o wr HI.o.1).ls hx) hx;simp only[vS]at gN;obtain⟨rfl,-,-⟩:=gN;clear hx;obtain⟨y,hy⟩:∃y:Th,y=(x.1,x.2.1,Int.tmod x.2.2 1000):=⟨_,rfl⟩;obtain⟨b8,dN⟩:=aC (wr.heap.size);obtain⟨W5,bU⟩:=aC (wr.alloc (.cells (cc x) 49));have P5:Hid (Below wr.heap.size wr W5/\W5.heap[b8]? =some (.cells (cc x) 49 (0,0))/\wr.heap.size<=b8):=by
    rw[bU,dN];exact⟨((Gr.refl wr).alloc _).below,ah _ _,nR _⟩
   have gZ:Hid (wr.alloc (.cells #[.int .i64 x.1, .int .u64 x.2.1.1.1, .int .u64 x.2.1.1.2.1, .int .u64 x.2.1.1.2.2, .int .i64 x.2.2] 49)=W5/\wr.heap.size=b8):=⟨bU.symm,dN.symm⟩;clear bU dN;go_upto_region 6 with fail;rw[gZ.o.1,gZ.o.2];clear gZ x0 x1 x2 x3 x4 z1;have c5:=(aa P5.o.2.1).1;have f5:=(aa P5.o.2.1).2;have l5:=ae P5.o.2.1;obtain⟨W6,Pk⟩:=aC (W5.setCell ⟨b8,4,none⟩ (.int .i64 (Int.tmod x.2.2 1000)));have P6:Hid (Below wr.heap.size wr W6/\W6.heap[b8]? =some (.cells (cc y) 49 (0,0))/\wr.heap.size<=b8):=by
    obtain⟨q1,k1⟩:=Df.bC P5.o.2.1 4 (.int .i64 (Int.tmod x.2.2 1000));rw[<-Pk]at q1 k1;refine⟨P5.o.1.trans (k1.below P5.o.1.size fun k hk=>by rw[hk];exact P5.o.2.2), ?_,P5.o.2.2⟩;rw[q1,hy];rfl
   have HY:Hid (-999<=y.2.2/\y.2.2<=999):=by
    rw[hy];exact Rl x.2.2
   clear hy;go_upto_region 7 with fail;rw[<-Pk];clear Pk P5 c5 f5 l5;have c6:=(aa P6.o.2.1).1;have l6:=ae P6.o.2.1;by_cases h40:k<40
   ·have abU:(k:Int)<40:=(by omega);have hmn:min k 40=k:=(by omega);rw[hmn]at HI;obtain⟨W7,hW7⟩:=aC (W6.alloc (.cells (cc y) 49));obtain⟨b7,YW⟩:=aC (W6.heap.size);have HAK:Hid (Calls Tryz.prog 10 #[.pointer (some ⟨cb,0,none⟩), .slice (some ⟨b7,0,none⟩) 1 1] W7 fun e w'=>∃z,e= .returned (.int .i64 z)/\Hid (CR w w' cb g R S p n q out (k+1)/\(z=0->Cw g y)/\w'.heap[b8]? =some (.cells (cc y) 49 (0,0)))):=by
     have g7:=((Gr.refl W6).alloc (.cells (cc y) 49)).below;have hl:=Bw W6 y;rw[<-hW7]at g7 hl;rw[<-YW]at hl;exact HI.o.ask HK.o HS.o h40 y HY.o W7 (P6.o.1.trans (g7.mono P6.o.1.size)) b8 P6.o.2.2 ((g7.block b8 l6).trans P6.o.2.1) _ hl
    have HW7:Hid (W6.alloc (.cells #[.int .i64 y.1, .int .u64 y.2.1.1.1, .int .u64 y.2.1.1.2.1, .int .u64 y.2.1.1.2.2, .int .i64 y.2.2] 49)=W7/\W6.heap.size=b7):=⟨hW7.symm,YW.symm⟩;have Zn:Hid (n<=k):=HI.o.2.2.1;clear hW7 YW HI;go_wp2_with fail;rw[HW7.o.1,HW7.o.2];refine HAK.o.mono ?_;clear HAK HW7 c6 l6 P6;rintro e w8 ⟨z,rfl,h8⟩;have H8:=hid h8.o;clear h8;have c8:=(aa H8.o.2.2).1;have l8:=ae H8.o.2.2;by_cases hz:z=0
    ·subst hz;have HT:=hid (H8.o.2.1 rfl);go_wp2_with (at_builtin;refine Vy rfl _ _ rfl w.heap.size (.slice p n q) n (fl EC out) rfl H8.o.1.2.2.2.2.2.1 H8.o.1.1.size y (cc y) rfl rfl (by have:=Zn.o;omega) ?_);intro g9 aaP w9 h9 k9 n9;have FIN:Hid (CR w w9 cb g R S (some ⟨g9,0,none⟩) (n+1) aaP (out++[y]) (min (k+1) 40)):=by
      rw[show min (k+1) 40=k+1 by omega];exact H8.o.1.push Zn.o HK.o HT.o h9.o k9.o n9.o
     clear h9 k9 n9 H8 HT c8 l8;generalize hnn:n+1=nn at FIN⊢;go_wp2_with fail;go_roundw;case rel=>exact⟨k+1,some ⟨g9,0,none⟩,nn,aaP,_,by omega,rfl,by go_num,FIN.o⟩
     case measure=>simp[intOf];omega
    ·have FIN:Hid (CR w w8 cb g R S p n q out (min (k+1) 40)):=by
       rw[show min (k+1) 40=k+1 by omega];exact H8.o.1
     go_wp2_with fail;go_roundw;case rel=>exact⟨k+1,p,n,q,out,by omega,rfl,by go_num,FIN.o⟩
     case measure=>simp[intOf];omega
   ·have abU:¬(k:Int)<40:=(by omega);have FIN:Hid (CR w W6 cb g R S p n q out (min (k+1) 40)):=by
     have h:=HI.o.below HK.o P6.o.1;rw[show min (k+1) 40=min k 40 by omega];exact h
    go_wp2_with fail;go_roundw;case rel=>exact⟨k+1,p,n,q,out,by omega,rfl,by go_num,FIN.o⟩
    case measure=>simp[intOf];omega
  ·have hltz:¬(k:Int)<(nl:Int):=(by omega);have FIN:Hid (TaR w g p n q wr):=by
    obtain⟨a1,a2,a3,a4,a5,a6,_⟩:=HI.o;exact⟨a1,out,a2,by omega,a5,a6⟩
   clear HI;go_wp2_with fail;go_ret;exact⟨p,n,q,rfl,FIN⟩
end Rc
end Go.Proofs.YtiiefcalkjeieaaGreat
