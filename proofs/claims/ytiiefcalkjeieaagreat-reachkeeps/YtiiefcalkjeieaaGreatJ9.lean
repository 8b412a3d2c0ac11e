import Derived.Test.YtiiefcalkjeieaaGreatJ8
variable{M:Nat}{v:Go.Value}
set_option maxHeartbeats 2000000
namespace Go.Proofs.YtiiefcalkjeieaaGreat
namespace Df
open Go.RowKit Go.Sort
attribute[local go_sem ↓]wp_at_zero wp_at_succ
theorem Uj(k i o:Int)(cq:Option Addr)(cm cc:Nat)(via:nY)(bd:Nat)(dq:Option Addr)(dm dc:Nat)(st:Bool)(w:World):Calls Tryz.prog 231 #[.agg (aN k i o (.slice cq cm cc) via bd (.slice dq dm dc) st)] w fun r w'=>r= .returned (.agg (aN k i o (.slice cq cm cc) via bd (.slice dq dm dc) st))/\Below w.heap.size w w':=by
 go_enter Tryz.func231,Tryz.ntmps231;go_wp2_with fail;refine bR (v:= .agg (aN k i o (.slice cq cm cc) via bd (.slice dq dm dc) st)) (by simp[results,Tryz.results231,go_sem]) rfl ?_;exact⟨rfl,(((Gr.refl w).alloc _).alloc _).below⟩
theorem y8(k i o:Int)(cq:Option Addr)(cm cc:Nat)(via:nY)(bd:Nat)(dq:Option Addr)(dm dc:Nat)(st:Bool)(w:World):Calls Tryz.prog 234 #[.agg (aN k i o (.slice cq cm cc) via bd (.slice dq dm dc) st)] w fun r w'=>r= .returned (.agg (aN k i o (.slice none 0 0) via bd (.slice dq dm dc) st))/\Below w.heap.size w w':=by
 go_enter Tryz.func234,Tryz.ntmps234;go_wp2_with fail;refine bR (v:= .agg (aN k i o (.slice none 0 0) via bd (.slice dq dm dc) st)) (by simp[results,Tryz.results234,go_sem]) rfl ?_;exact⟨rfl,(((Gr.refl w).alloc _).alloc _).below⟩
theorem Re(k i o:Int)(cq:Option Addr)(cm cc:Nat)(via:nY)(bd:Nat)(dq:Option Addr)(dm dc:Nat)(st:Bool)(w:World):Calls Tryz.prog 237 #[.agg (aN k i o (.slice cq cm cc) via bd (.slice dq dm dc) st)] w fun r w'=>r= .returned (.agg (aN k i o (.slice cq cm cc) (0,0,0) 0 (.slice dq dm dc) st))/\Below w.heap.size w w':=by
 go_enter Tryz.func237,Tryz.ntmps237;go_wp2_with fail;refine bR (v:= .agg (aN k i o (.slice cq cm cc) (0,0,0) 0 (.slice dq dm dc) st)) (by simp[results,Tryz.results237,go_sem]) rfl ?_;exact⟨rfl,(((Gr.refl w).alloc _).alloc _).below⟩
theorem FU(k i o:Int)(cq:Option Addr)(cm cc:Nat)(via:nY)(bd:Nat)(dq:Option Addr)(dm dc:Nat)(st:Bool)(w:World):Calls Tryz.prog 240 #[.agg (aN k i o (.slice cq cm cc) via bd (.slice dq dm dc) st)] w fun r w'=>r= .returned (.agg (aN k i o (.slice cq cm cc) via bd (.slice none 0 0) false))/\Below w.heap.size w w':=by
 go_enter Tryz.func240,Tryz.ntmps240;go_wp2_with fail;refine bR (v:= .agg (aN k i o (.slice cq cm cc) via bd (.slice none 0 0) false)) (by simp[results,Tryz.results240,go_sem]) rfl ?_;exact⟨rfl,(((Gr.refl w).alloc _).alloc _).below⟩
theorem GD(x:NV)(a:Int)(w:World):Calls Tryz.prog 232 #[.agg x.cells, .int .i64 a] w fun r w'=>r= .returned (.int .i64 0)/\Below w.heap.size w w':=by
 go_enter Tryz.func232,Tryz.ntmps232;go_wp2_with fail;go_ret;exact⟨rfl,((Gr.refl w).alloc _).below⟩
theorem Ci(k i o:Int)(cq:Option Addr)(cm cc:Nat)(via:nY)(bd:Nat)(dq:Option Addr)(dm dc:Nat)(st:Bool)(a:Int)(w:World):Calls Tryz.prog 235 #[.agg (aN k i o (.slice cq cm cc) via bd (.slice dq dm dc) st), .int .i64 a] w fun r w'=>r= .returned (.int .i64 (if 16<cm then 24 else 0))/\Below w.heap.size w w':=by
 by_cases h:16<cm
 ·have hz:(16:Int)<(cm:Int):=by omega
  clear h;go_enter Tryz.func235,Tryz.ntmps235;go_wp2_with fail;go_ret;exact⟨rfl,((Gr.refl w).alloc _).below⟩
 ·have hz:¬(16:Int)<(cm:Int):=by omega
  clear h;go_enter Tryz.func235,Tryz.ntmps235;go_wp2_with fail;go_ret;exact⟨rfl,((Gr.refl w).alloc _).below⟩
def qB(a b c x y z:Int):Bool:=(a==x)&&((b==y)&&(c==z))
theorem I1(p q:nY):qB (p.1:Nat) (p.2.1:Nat) (p.2.2:Nat) (q.1:Nat) (q.2.1:Nat) (q.2.2:Nat)=decide (p=q):=by
 rw[Bool.eq_iff_iff];obtain⟨a,b,c⟩:=p;obtain⟨x,y,z⟩:=q;simp only[qB,bA,beq_iff_eq,dE,Prod.mk.injEq];omega
theorem Jb(d:Nat)(a b c x y z:Int)(w:World):Sem.run Tryz.prog (Op.equalIn (d+2) 52 (.agg #[.int .u64 a, .int .u64 b, .int .u64 c]) (.agg #[.int .u64 x, .int .u64 y, .int .u64 z])) w= .ok (qB a b c x y z) w:=by
 have u3:=Tryz.underlying43;have a3:=Tryz.isAgg43;have z3:=Tryz.sizeOf43;have hS:Tryz.prog.underlying 52=some (.struct (Tryz.prog.fieldsOf 52)):=by kernel_rfl
 have hp:Tryz.prog.stoodInHeld 52=false:=by kernel_rfl
 rw[show(d+2:Nat)=(d+1)+1 from rfl,run_equalIn_agg w (d+1) 52 _ _ hS hp];simp only[Program.fieldsOf,Tryz.underlying52];go_simp;by_cases h1:a=x<;>by_cases h2:b=y<;>by_cases h3:c=z<;>simp[qB,h1,h2,h3]
theorem uZ(s t:dL)(w:World):Sem.run Tryz.prog (Op.equalIn 10000 205 (.agg #[.int .i64 s.df, .int .i64 s.o, .int .u64 (s.via.1:Nat), .int .u64 (s.via.2.1:Nat), .int .u64 (s.via.2.2:Nat)]) (.agg #[.int .i64 t.df, .int .i64 t.o, .int .u64 (t.via.1:Nat), .int .u64 (t.via.2.1:Nat), .int .u64 (t.via.2.2:Nat)])) w= .ok (decide (s=t)) w:=by
 have u4:=Tryz.underlying3;have a4:=Tryz.isAgg3;have z4:=Tryz.sizeOf3;have a5:=Tryz.isAgg52;have z5:=Tryz.sizeOf52;have hP:=Jb 9997;have hS:Tryz.prog.underlying 205=some (.struct (Tryz.prog.fieldsOf 205)):=by kernel_rfl
 have hp:Tryz.prog.stoodInHeld 205=false:=by kernel_rfl
 have hd:decide (s=t)=(s.df==t.df&&(s.o==t.o&&decide (s.via=t.via))):=by
  obtain⟨a,b,c⟩:=s;obtain⟨x,y,z⟩:=t;rw[Bool.eq_iff_iff];simp only[dL.mk.injEq,dE,bA,beq_iff_eq]
 rw[hd,<-I1];rw[show(10000:Nat)=9999+1 from rfl,run_equalIn_agg w 9999 205 _ _ hS hp];simp only[Program.fieldsOf,Tryz.underlying205];clear hd;go_simp;by_cases h1:s.df=t.df<;>by_cases h2:s.o=t.o<;>cases qB (s.via.1:Nat) (s.via.2.1:Nat) (s.via.2.2:Nat) (t.via.1:Nat) (t.via.2.1:Nat) (t.via.2.2:Nat)<;>simp[h1,h2]
theorem RP(s t:dQ)(w:World):Sem.run Tryz.prog (Op.equalIn 10000 151 (.agg #[.int .i64 s.src, .int .i64 s.o, .int .i64 s.dst, .int .i64 s.df, .bool s.keyed]) (.agg #[.int .i64 t.src, .int .i64 t.o, .int .i64 t.dst, .int .i64 t.df, .bool t.keyed])) w= .ok (decide (s=t)) w:=by
 have u4:=Tryz.underlying3;have a4:=Tryz.isAgg3;have z4:=Tryz.sizeOf3;have u5:=Tryz.underlying4;have a5:=Tryz.isAgg4;have z5:=Tryz.sizeOf4;have hS:Tryz.prog.underlying 151=some (.struct (Tryz.prog.fieldsOf 151)):=by kernel_rfl
 have hp:Tryz.prog.stoodInHeld 151=false:=by kernel_rfl
 have hd:decide (s=t)=(s.src==t.src&&(s.o==t.o&&(s.dst==t.dst&&(s.df==t.df&&(s.keyed==t.keyed))))):=by
  obtain⟨a,b,c,d,e⟩:=s;obtain⟨x,y,z,u,v⟩:=t;rw[Bool.eq_iff_iff];simp only[dQ.mk.injEq,dE,bA,beq_iff_eq]
 rw[hd];rw[show(10000:Nat)=9999+1 from rfl,run_equalIn_agg w 9999 151 _ _ hS hp];simp only[Program.fieldsOf,Tryz.underlying151];clear hd;go_simp;by_cases h1:s.src=t.src<;>by_cases h2:s.o=t.o<;>by_cases h3:s.dst=t.dst<;>by_cases h4:s.df=t.df<;>cases s.keyed<;>cases t.keyed<;>simp[h1,h2,h3,h4]
def has(cm:Nat)(via:nY)(bd dm:Nat)(st:Bool):Bool:=decide (0<cm)|| !decide (via=(0,0,0))|| decide (bd≠0)|| decide (0<dm)|| st
theorem yP(k i o:Int)(cq:Option Addr)(cm cc:Nat)(via:nY)(bd:Nat)(dq:Option Addr)(dm dc:Nat)(st:Bool)(w:World):Calls Tryz.prog 174 #[.agg (aN k i o (.slice cq cm cc) via bd (.slice dq dm dc) st)] w fun r w'=>r= .returned (.bool (has cm via bd dm st))/\Below w.heap.size w w':=by
 have heq2:∀W:World,Sem.run Tryz.prog (Op.equalIn 10000 52 (.agg #[.int .u64 (via.1:Nat), .int .u64 (via.2.1:Nat), .int .u64 (via.2.2:Nat)]) (.agg #[.int .u64 0, .int .u64 0, .int .u64 0])) W= .ok (decide (via=(0,0,0))) W:=fun W=>by
  rw[Jb 9998 via.1 via.2.1 via.2.2 0 0 0 W];exact congrArg (fun b=>Result.ok b W) (I1 via (0,0,0))
 by_cases h1:0<cm
 ·have hz:(0:Int)<(cm:Int):=by omega
  have HR:Hid (has cm via bd dm st=true):=by show _=_;simp[has,h1]
  clear h1;go_enter Tryz.func174,Tryz.ntmps174;go_wp2_with fail;go_ret;exact⟨by rw[HR.o];rfl,((Gr.refl w).alloc _).below⟩
 ·obtain rfl:cm=0:=by omega
  cases hv:decide (via=(0,0,0))with
  | false=>
   have HR:Hid (has 0 via bd dm st=true):=(by show _=_;simp only[has,hv];simp);rw[hv]at heq2;clear h1 hv;go_enter Tryz.func174,Tryz.ntmps174;go_wp2_with fail;go_ret;exact⟨by rw[HR.o];rfl,((Gr.refl w).alloc _).below⟩
  | true=>
   have HV:=hid hv;rw[hv]at heq2;by_cases h3:bd=0
   ·by_cases h4:0<dm
    ·have hz4:(0:Int)<(dm:Int):=(by omega);have HR:Hid (has 0 via bd dm st=true):=(by show _=_;simp[has,h4]);have hb:((bd:Int)==0)=true:=(by simp[h3]);have hb':((bd:Int) != 0)=false:=(by simp[h3]);clear h1 hv h3;clear h4;go_enter Tryz.func174,Tryz.ntmps174;go_wp2_with fail;go_ret;exact⟨by rw[HR.o];rfl,((Gr.refl w).alloc _).below⟩
    ·obtain rfl:dm=0:=(by omega);have HR:Hid (has 0 via bd 0 st=st):=(by show _=_;simp only[has,hv];simp[h3]);have hb:((bd:Int)==0)=true:=(by simp[h3]);have hb':((bd:Int) != 0)=false:=(by simp[h3]);clear h1 hv h3;clear h4;go_enter Tryz.func174,Tryz.ntmps174;go_wp2_with fail;go_ret;exact⟨by rw[HR.o];rfl,((Gr.refl w).alloc _).below⟩
   ·have HR:Hid (has 0 via bd dm st=true):=(by show _=_;simp[has,h3]);have hb:((bd:Int)==0)=false:=(by simp[h3]);have hb':((bd:Int) != 0)=true:=(by simp[h3]);clear h1 hv h3;go_enter Tryz.func174,Tryz.ntmps174;go_wp2_with fail;go_ret;exact⟨by rw[HR.o];rfl,((Gr.refl w).alloc _).below⟩
theorem zy(p:nY)(a:Int)(w:World):Calls Tryz.prog 266 #[.agg #[.int .u64 (p.1:Nat), .int .u64 (p.2.1:Nat), .int .u64 (p.2.2:Nat)], .int .i64 a] w fun r w'=>r= .returned (.int .i64 (bL p.1 p.2.1 p.2.2 a))/\Gr w w':=by
 have hf:=fun W=>Fp p.1 p.2.1 p.2.2 a W;generalize bL (p.1:Nat) (p.2.1:Nat) (p.2.2:Nat) a=t at hf⊢;go_enter Tryz.func266,Tryz.ntmps266;go_wp2_with fail;refine(hf _).mono ?_;rintro r w1 ⟨rfl,g1⟩;have G1:=hid (((Gr.refl w).alloc (.cells #[.int .u64 (p.1:Nat), .int .u64 (p.2.1:Nat), .int .u64 (p.2.2:Nat)] 52)).trans g1);clear g1;go_wp2_with fail;go_ret;exact⟨rfl,G1.o⟩
theorem IB(k i o:Int)(cq:Option Addr)(cm cc:Nat)(via:nY)(bd:Nat)(dq:Option Addr)(dm dc:Nat)(st:Bool)(a:Int)(w:World):Calls Tryz.prog 238 #[.agg (aN k i o (.slice cq cm cc) via bd (.slice dq dm dc) st), .int .i64 a] w fun r w'=>r= .returned (.int .i64 (if 64<bd\/bL via.1 via.2.1 via.2.2 a≠0 then 22 else 0))/\Below w.heap.size w w':=by
 have hf:=fun W=>zy via a W;by_cases h:64<bd
 ·have hz:(64:Int)<(bd:Int):=by omega
  rw[if_pos (Or.inl h)];clear h hf;go_enter Tryz.func238,Tryz.ntmps238;go_wp2_with fail;go_ret;exact⟨rfl,((Gr.refl w).alloc _).below⟩
 ·have hz:¬(64:Int)<(bd:Int):=by omega
  by_cases ht:bL via.1 via.2.1 via.2.2 a=0
  ·rw[if_neg (by simp[h,ht])];rw[ht]at hf;clear h ht;go_enter Tryz.func238,Tryz.ntmps238;go_wp2_with fail;refine(hf _).mono ?_;rintro r w1 ⟨rfl,g1⟩;have G1:=hid (((Gr.refl w).alloc (.cells (aN k i o (.slice cq cm cc) via bd (.slice dq dm dc) st) 149)).trans g1);clear g1;go_wp2_with fail;go_ret;exact⟨rfl,G1.o.below⟩
  ·rw[if_pos (Or.inr ht)];generalize bL (via.1:Nat) (via.2.1:Nat) (via.2.2:Nat) a=t at hf ht;have hb:(t==0)=false:=(by simp[ht]);have hb':(t != 0)=true:=(by simp[ht]);clear h;go_enter Tryz.func238,Tryz.ntmps238;go_wp2_with fail;refine(hf _).mono ?_;rintro r w1 ⟨rfl,g1⟩;have G1:=hid (((Gr.refl w).alloc (.cells (aN k i o (.slice cq cm cc) via bd (.slice dq dm dc) st) 149)).trans g1);clear g1;go_wp2_with fail;go_ret;exact⟨rfl,G1.o.below⟩
def way(c d:dQ):Bool:=decide ((⟨c.src,c.o,c.dst,c.df,d.keyed⟩:dQ)=d)
abbrev aW(x:dQ):Array Value:=#[.int .i64 x.src, .int .i64 x.o, .int .i64 x.dst, .int .i64 x.df, .bool x.keyed]
theorem CZ(c d:dQ)(w:World):Calls Tryz.prog 176 #[.agg (aW c), .agg (aW d)] w fun r w'=>r= .returned (.bool (way c d))/\Below w.heap.size w w':=by
 have heq:=fun W=>RP ⟨c.src,c.o,c.dst,c.df,d.keyed⟩ d W;simp only at heq;change ∀W,_=Result.ok (way c d) W at heq;generalize way c d=b at heq⊢;go_enter Tryz.func176,Tryz.ntmps176;go_wp2_with fail;go_ret;exact⟨rfl,(((Gr.refl w).alloc _).alloc _).below⟩
theorem yT(c d:dQ)(b:Nat)(w:World)(h:w.heap[b]? =some (.cells (aW d) 151 (0,0))):Calls Tryz.prog 175 #[.agg (aW c), .pointer (some ⟨b,0,none⟩)] w fun r w'=>r= .returned (.bool (way c d))/\Below w.heap.size w w':=by
 have hw:=fun W=>CZ c d W;generalize way c d=e at hw⊢;have h1:=(((Gr.refl w).alloc (.cells (aW c) 151)).below.block _ (ae h)).trans h;have cc:=(aa h1).1;have cl:=ae h1;have c0:=(aa h).1;have l0:=ae h;clear h h1;go_enter Tryz.func175,Tryz.ntmps175;go_wp2_with fail;refine(hw _).mono ?_;rintro r w1 ⟨rfl,b1⟩;have B1:Hid (Below w.heap.size w w1):=((Gr.refl w).alloc (.cells (aW c) 151)).below.trans (b1.mono ((Gr.refl w).alloc (.cells (aW c) 151)).size);clear b1;go_wp2_with fail;go_ret;exact⟨rfl,B1.o⟩
abbrev fe(b:Nat):Value:= .func (.func 175) #[] #[.pointer (some ⟨b,0,none⟩)]
def yj(l:List dQ)(d:dQ):Bool:=l.any (fun c=>way c d)
theorem Dg{α:Type}{p:α->Prop}{l:List α}{i:Nat}{o:α}(h:l[i]? =some o)(h1:∀y∈l.take i,p y)(h2:p o):∀y∈l.take (i+1),p y:=fun y hy=>by
 rw[tO,h]at hy;rcases j4.1 hy with hy|hy
 ·exact h1 y hy
 ·simp at hy;subst hy;exact h2
theorem BK{l:List dQ}(d:dQ)(b:Nat)(w:World)(hL:Lz ED M w v l)(hb:w.heap[b]? =some (.cells (aW d) 151 (0,0)))(hl:l.length<=140737488351232):
    Calls Tryz.prog 243 #[v,fe b] w fun r w'=>∃z:Int,r= .returned (.int .i64 z)/\(0<=z↔yj l d=true)/\Below w.heap.size w w':=by
 have hmx:Tryz.prog.follows .mixedOrders=true:=by kernel_rfl
 have HL:=hid hL;have HB:=hid hb;obtain⟨p,c,hv⟩:=hL.form;obtain⟨n,hn⟩:=aC (l.length);rw[<-hn]at hv;subst hv;have WU:n<=140737488351232:=by omega
 have HN:=hid hn;clear hL hb hn hl;go_enter Tryz.func243,Tryz.ntmps243;go_wp2_with fail;go_loopw [8] (fun s8 wr=>∃i:Nat,i<=n/\s8= .int .i64 (i:Nat)/\Hid (Below w.heap.size w wr/\∀y∈l.take i,way y d=false)) (fun s8 _=>n-(intOf s8).toNat);case atStart=>exact⟨0,zL _,rfl,Below.refl _ _,fun y hy=>(by simp at hy)⟩
 case round=>
  obtain⟨i,hi,rfl,HI⟩:=hrel;by_cases hlt:i<n
  ·have hltz:(i:Int)<(n:Int):=(by omega);obtain⟨y,hy⟩:∃y,l[i]? =some y:=⟨l[i]'(by have:=HN.o;omega),by simp⟩;obtain⟨b1,o1,q1,gN,rU,x0,x1,x2,x3,x4⟩:=sJ ((HL.o.below HI.o.1).ls hy) hy;simp only[vS]at gN;obtain⟨rfl,-,rfl⟩:=gN;have hb2:=(HI.o.1.block _ (ae HB.o)).trans HB.o;have hc:=yT y d b wr hb2;have HY:=hid hy;clear hy hb2;cases hw:way y d with
   | true=>
    rw[hw]at hc;have HR:Hid (yj l d=true):=List.any_eq_true.2 ⟨y,lM HY.o,hw⟩;clear hw;go_wp2_with fail;refine hc.mono ?_;rintro r w1 ⟨rfl,g1⟩;have B1:=hid (HI.o.1.trans (g1.mono HI.o.1.size));clear g1;go_wp2_with fail;go_ret;exact⟨(i:Int),rfl,by rw[HR.o];simp,B1.o⟩
   | false=>
    rw[hw]at hc;have HW:=hid hw;clear hw;go_wp2_with fail;refine hc.mono ?_;rintro r w1 ⟨rfl,g1⟩;have B1:=hid (HI.o.1.trans (g1.mono HI.o.1.size));clear g1 x0 x1 x2 x3 x4 rU hc;go_wp2_with fail;go_roundw;case rel=>exact⟨i+1,by omega,by go_num,B1.o,Dg HY.o HI.o.2 HW.o⟩
    case measure=>simp[intOf];omega
  ·have hltz:¬(i:Int)<(n:Int):=(by omega);have HR:Hid (yj l d=false):=by
    have h2:=HI.o.2;rw[tL (by have:=HN.o;omega)]at h2;show yj l d=false;unfold yj;rw[List.any_eq_false];intro y hy;rw[h2 y hy];decide
   go_wp2_with fail;go_ret;exact⟨-1,rfl,by rw[HR.o];simp,HI.o.1⟩
theorem uM{l:List dQ}(d:dQ)(b:Nat)(w:World)(hL:Lz ED M w v l)(hb:w.heap[b]? =some (.cells (aW d) 151 (0,0)))(hl:l.length<=140737488351232):
    Calls Tryz.prog 179 #[v,fe b] w fun r w'=>r= .returned (.bool (yj l d))/\Below w.heap.size w w':=by
 have hi:=BK d b w hL hb hl;obtain⟨p,c,rfl⟩:=hL.form;generalize yj l d=e at hi⊢;generalize l.length=n at hi;clear hL hb hl;go_enter Tryz.func179,Tryz.ntmps179;go_wp2_with fail;refine hi.mono ?_;rintro r w1 ⟨z,rfl,hz,b1⟩;have B1:=hid b1;have HZ:Hid (decide (0<=z)=e):=by
  show _=_;rw[Bool.eq_iff_iff,<-hz];simp
 clear b1 hz;go_wp2_with fail;go_ret;exact⟨by rw[<-HZ.o];rfl,B1.o⟩
def rG(xs:List NV)(l:List dQ)(d:dQ):Int:=if BU xs d.src d.o=false\/yQ xs d.dst d.df=false\/yj l d=true then 25 else match nat? xs d.dst with|some y=>if y.n.kind=6/\d.keyed=false then 26 else 0|none=>0
theorem Cb{nv:Value}{l:List dQ}{xs:List NV}(d:dQ)(w:World)(hl:Lz ED M w v l)(hn:Lz EV M w nv xs)(hb:l.length<=140737488351232):Calls Tryz.prog 110 #[.agg (aW d),v,nv] w fun r w'=>r= .returned (.int .i64 (rG xs l d))/\Below w.heap.size w w':=by
 have O8:∀(fn:Fn) (first cap:Array Value) (w:World),(Instr.makeFunc fn first cap).run Tryz.prog w= .ok (.func fn first cap) w:=fun _ _ _ _=>rfl;have g0:=(Gr.refl w).alloc (.cells (aW d) 151);have h1:=xE d.src d.o (w.alloc (.cells (aW d) 151)) (hn.below g0.below);have h2:=Ab d.dst d.df (w.alloc (.cells (aW d) 151)) (hn.below g0.below);have h3:=uM d w.heap.size (w.alloc (.cells (aW d) 151)) (hl.below g0.below) (ah w (.cells (aW d) 151)) hb;have HN:=hid (hn.below g0.below);have B0:=hid g0.below;obtain⟨p,c,rfl⟩:=hl.form;obtain⟨q,e,rfl⟩:=hn.form;generalize hln:l.length=n at h3;generalize hxn:xs.length=m at h1 h2 HN;have HXN:=hid hxn;clear hl hn hb g0 hln hxn;cases e1:BU xs d.src d.o with
 | false=>
  have HR:Hid (rG xs l d=25):=if_pos (Or.inl e1);rw[e1]at h1;clear e1 h2 h3;go_enter Tryz.func110,Tryz.ntmps110;go_wp2_with fail;refine h1.mono ?_;rintro r w1 ⟨rfl,rfl⟩;go_wp2_with fail;go_ret;exact⟨by rw[HR.o];rfl,B0.o⟩
 | true=>
  rw[e1]at h1;cases e2:yQ xs d.dst d.df with
  | false=>
   have HR:Hid (rG xs l d=25):=if_pos (Or.inr (Or.inl e2));rw[e2]at h2;clear e1 e2 h3;go_enter Tryz.func110,Tryz.ntmps110;go_wp2_with fail;refine h1.mono ?_;rintro r w1 ⟨rfl,rfl⟩;go_wp2_with fail;refine h2.mono ?_;rintro r w1 ⟨rfl,rfl⟩;go_wp2_with fail;go_ret;exact⟨by rw[HR.o];rfl,B0.o⟩
  | true=>
   rw[e2]at h2;cases e3:yj l d with
   | true=>
    have HR:Hid (rG xs l d=25):=if_pos (Or.inr (Or.inr e3));rw[e3]at h3;clear e1 e2 e3;go_enter Tryz.func110,Tryz.ntmps110;go_wp2_with fail;refine h1.mono ?_;rintro r w1 ⟨rfl,rfl⟩;go_wp2_with fail;refine h2.mono ?_;rintro r w1 ⟨rfl,rfl⟩;go_wp2_with fail;refine h3.mono ?_;rintro r w1 ⟨rfl,b1⟩;have B1:=hid (B0.o.trans (b1.mono B0.o.size));clear b1;go_wp2_with fail;go_ret;exact⟨by rw[HR.o];rfl,B1.o⟩
   | false=>
    rw[e3]at h3;obtain⟨j,y,hj,hy⟩:∃(j:Nat) (y:NV),d.dst=(j:Int)/\xs[j]? =some y:=by
     unfold yQ nat? at e2;by_cases h0:0<=d.dst
     ·rw[if_pos h0]at e2;cases e4:xs[d.dst.toNat]? with
      | none => rw[e4]at e2;cases e2
      | some y => exact⟨d.dst.toNat,y,by omega,e4⟩
     ·rw[if_neg h0]at e2;cases e2
    have HR:Hid (rG xs l d=if y.n.kind=6/\d.keyed=false then 26 else 0):=by
     show rG _ _ _=_;unfold rG;rw[if_neg (by rw[e1,e2,e3];simp),hj];unfold nat?;rw[if_pos (by omega),tN,hy]
    have hjm:j<m:=by
     have:=(lG.1 hy).1;have:=HXN.o;omega
    have HJ:=hid (And.intro hj (And.intro hy hjm));clear e1 e2 e3 hj hy hjm;go_enter Tryz.func110,Tryz.ntmps110;go_wp2_with fail;refine h1.mono ?_;rintro r w1 ⟨rfl,rfl⟩;go_wp2_with fail;refine h2.mono ?_;rintro r w1 ⟨rfl,rfl⟩;go_wp2_with fail;refine h3.mono ?_;rintro r w1 ⟨rfl,b1⟩;obtain⟨hj,hy,hjm⟩:=HJ.o;have hbx:=(b1.block _ (ae (ah w (.cells (aW d) 151)))).trans (ah w (.cells (aW d) 151));have cx:=(aa hbx).1;have lx:=ae hbx;obtain⟨b4,o4,c4,e4,z4,x0,-⟩:=jY ((HN.o.below b1).ls hy) hy;simp only[vS]at e4;obtain⟨rfl,-,rfl⟩:=e4;have B1:=hid (B0.o.trans (b1.mono B0.o.size));have hj0:(0:Int)<=(j:Int):=(by omega);have hjz:(j:Int)<(m:Int):=(by omega);obtain⟨ds,dt,dd,di,dk⟩:=d;simp only at hj;subst hj;clear b1 hbx hy h1 h2 h3;by_cases k6:y.n.kind=6
    ·cases dk with
     | true=>
      go_wp2_with fail;go_ret;exact⟨by rw[HR.o];simp,B1.o⟩
     | false=>
      go_wp2_with fail;go_ret;exact⟨by rw[HR.o];simp[k6],B1.o⟩
    ·go_wp2_with fail;go_ret;exact⟨by rw[HR.o];simp[k6],B1.o⟩
abbrev cO(x:dL):Array Value:=#[.int .i64 x.df, .int .i64 x.o, .int .u64 (x.via.1:Nat), .int .u64 (x.via.2.1:Nat), .int .u64 (x.via.2.2:Nat)]
def yN(l:List dL)(d:dL):Bool:=l.any (fun c=>decide (d=c))
theorem BL{l:List dL}(d:dL)(w:World)(hL:Lz EC M w v l)(hl:l.length<=140737488351232):
    Calls Tryz.prog 297 #[v, .agg (cO d)] w fun r w'=>∃z:Int,r= .returned (.int .i64 z)/\(0<=z↔yN l d=true)/\Below w.heap.size w w':=by
 have hmx:Tryz.prog.follows .mixedOrders=true:=by kernel_rfl
 have g0:=(Gr.refl w).alloc (.cells (cO d) 205);have HL:=hid (hL.below g0.below);have HB:=hid (ah w (.cells (cO d) 205));have B0:=hid g0.below;obtain⟨p,c,hv⟩:=hL.form;obtain⟨n,hn⟩:=aC (l.length);rw[<-hn]at hv;subst hv;have WU:n<=140737488351232:=by omega
 have HN:=hid hn;obtain⟨W0,hW0⟩:=aC (w.alloc (.cells (cO d) 205));have HW:Hid (w.alloc (.cells #[.int .i64 d.df, .int .i64 d.o, .int .u64 (d.via.1:Nat), .int .u64 (d.via.2.1:Nat), .int .u64 (d.via.2.2:Nat)] 205)=W0):=hW0.symm;rw[<-hW0]at HL HB B0;clear hL hn hl g0 hW0;go_enter Tryz.func297,Tryz.ntmps297;go_upto_region 1 with fail;rw[HW.o];clear HW;go_wp2_with fail;go_loopw [8] (fun s8 wr=>∃i:Nat,i<=n/\s8= .int .i64 (i:Nat)/\Hid (Below W0.heap.size W0 wr/\∀y∈l.take i,¬d=y)) (fun s8 _=>n-(intOf s8).toNat);case atStart=>exact⟨0,zL _,rfl,Below.refl _ _,fun y hy=>(by simp at hy)⟩
 case round=>
  obtain⟨i,hi,rfl,HI⟩:=hrel;by_cases hlt:i<n
  ·have hltz:(i:Int)<(n:Int):=(by omega);have hi0:(0:Int)<=(i:Int):=(by omega);obtain⟨y,hy⟩:∃y,l[i]? =some y:=⟨l[i]'(by have:=HN.o;omega),by simp⟩;obtain⟨b1,o1,q1,gN,rU,x0,x1,x2,x3,x4⟩:=sK ((HL.o.below HI.o.1).ls hy) hy;simp only[vS]at gN;obtain⟨rfl,-,rfl⟩:=gN;have hb2:=(HI.o.1.block _ (ae HB.o)).trans HB.o;have cb:=(aa hb2).1;have lb:=ae hb2;have HY:=hid hy;have heq:=fun W=>uZ d y W;have B1:Hid (Below W0.heap.size W0 wr.drew):=HI.o.1.trans ((Gr.refl wr).drew.below.mono HI.o.1.size);clear hy hb2;go_upto_region 4 with fail;have hS0:wr.drew=wr.drew:=rfl;refine ax (S:=fun W=>W=wr.drew) (D:=[]) hmx ?_;refine' bu 0 hS0 ?h ?_;case h=>(intro W hSw;subst hSw;go_simp;try(with_reducible rfl))
   refine' bu 1 hS0 ?h ?_;case h=>(intro W hSw;subst hSw;go_simp;try(with_reducible rfl))
   refine' bu 2 hS0 ?h ?_;case h=>(intro W hSw;subst hSw;go_simp;try(with_reducible rfl))
   refine' bu 3 hS0 ?h ?_;case h=>(intro W hSw;subst hSw;go_simp;try(with_reducible rfl))
   refine' bu 4 hS0 ?h ?_;case h=>(intro W hSw;subst hSw;go_simp;try(with_reducible rfl))
   refine' bu 5 hS0 ?h ?_;case h=>(intro W hSw;subst hSw;go_simp;try(with_reducible rfl))
   refine au (by kernel_rfl) ?_ _;clear hS0 heq x0 x1 x2 x3 x4 rU cb lb;by_cases hd:d=y
   ·have HR:Hid (yN l d=true):=List.any_eq_true.2 ⟨y,lM HY.o,by simp[hd]⟩;have hd2:decide (d=y)=true:=(by simp[hd]);rw[hd2];clear hd hd2;go_wp2_with fail;go_ret;exact⟨(i:Int),rfl,by rw[HR.o];simp,B0.o.trans (B1.o.mono B0.o.size)⟩
   ·have hd2:decide (d=y)=false:=(by simp[hd]);rw[hd2];have HD:=hid hd;clear hd hd2;go_wp2_with fail;go_roundw;case rel=>exact⟨i+1,by omega,by go_num,B1.o,Dg HY.o HI.o.2 HD.o⟩
    case measure=>simp[intOf];omega
  ·have hltz:¬(i:Int)<(n:Int):=(by omega);have HR:Hid (yN l d=false):=by
    have h2:=HI.o.2;rw[tL (by have:=HN.o;omega)]at h2;show yN l d=false;unfold yN;rw[List.any_eq_false];intro y hy;simp[h2 y hy]
   go_wp2_with fail;go_ret;exact⟨-1,rfl,by rw[HR.o];simp,B0.o.trans (HI.o.1.mono B0.o.size)⟩
theorem uN{l:List dL}(d:dL)(w:World)(hL:Lz EC M w v l)(hl:l.length<=140737488351232):
    Calls Tryz.prog 267 #[v, .agg (cO d)] w fun r w'=>r= .returned (.bool (yN l d))/\Below w.heap.size w w':=by
 have g0:=(Gr.refl w).alloc (.cells (cO d) 205);have hi:=BL d (w.alloc (.cells (cO d) 205)) (hL.below g0.below) hl;have B0:=hid g0.below;obtain⟨p,c,rfl⟩:=hL.form;generalize yN l d=e at hi⊢;generalize l.length=n at hi;clear hL hl g0;go_enter Tryz.func267,Tryz.ntmps267;go_wp2_with fail;refine hi.mono ?_;rintro r w1 ⟨z,rfl,hz,b1⟩;have B1:=hid (B0.o.trans (b1.mono B0.o.size));have HZ:Hid (decide (0<=z)=e):=by
  show _=_;rw[Bool.eq_iff_iff,<-hz];simp
 clear b1 hz;go_wp2_with fail;go_ret;exact⟨by rw[<-HZ.o];rfl,B1.o⟩
end Df
end Go.Proofs.YtiiefcalkjeieaaGreat
