import Derived.Test.YteekbpokkjjipaaGreatJ24
import Derived.Test.YteekbpokkjjipaaGreatRsSo
variable{tb b n g:Nat}
set_option maxHeartbeats 4000000
set_option maxRecDepth 100000
namespace Go.Proofs.YteekbpokkjjipaaGreat
namespace Rs.Tt
open Go.RowKit Go.Sort Go.Maps
attribute [local go_sem ↓] Go.wp_at_zero Go.wp_at_succ
theorem zeroE(w:World):(zeroValue 2).run Tryz.prog w= .ok (.int .i64 0) w:=by kernel_rfl
def dQ(n:Int):Bool:=decide (n < -2147483647)|| decide (2147483647<n)
theorem dP{n:Int}:dQ n=false↔-2147483647<=n/\n<=2147483647:=by unfold dQ;simp
theorem je{n:Int}:dQ n=true↔n < -2147483647\/2147483647<n:=by unfold dQ;simp
theorem fV(n:Int)(w:World):Calls Tryz.prog 143 #[.int .i64 n] w fun e w'=>e= .returned (.bool (dQ n))/\w'=w:=by
 unfold dQ;go_enter Tryz.func143,Tryz.ntmps143;go_wp2;all_goals (go_ret;refine⟨?_,rfl⟩;simp_all)
theorem heap_alloc2_new(w:World)(o p:Obj):(((w.alloc o).alloc p)).heap[w.heap.size+1]? =some p:=by
 have:=ai (w.alloc o) p;simpa using this
theorem heap_alloc2_old(w:World)(o p:Obj):(((w.alloc o).alloc p)).heap[w.heap.size]? =some o:=by
 rw[Below.heap_alloc _ _ _ (by simp)];exact ai _ _
structure Tl(w:World)(tb b g n:Nat)(f:Sm->Int):Prop where
 blk:w.heap[tb]? =some (.cells #[fv g, .map (some b)] 238 (0,0))
 ta:Ta ZM 2 w b n f
 bd:∀s,-2147483647<=f s/\f s<=2147483647
section
variable {w w':World} {tb b g n:Nat} {f:Sm->Int}
theorem Tl.lt(h:Tl w tb b g n f):tb<w.heap.size:=(aG.1 h.blk).1
theorem Tl.c0(h:Tl w tb b g n f):w.cell? ⟨tb,0,none⟩=some (fv g):=by simp[World.cell?,h.blk]
theorem Tl.c1(h:Tl w tb b g n f):w.cell? ⟨tb,1,none⟩=some (.map (some b)):=by simp[World.cell?,h.blk]
theorem Tl.ne(h:Tl w tb b g n f):tb≠b:=fun e=>by
 obtain⟨D,⟨es,clock,hb,_⟩,_⟩:=h.ta;rw[<-e,h.blk]at hb;cases hb
theorem Tl.kp{S:Nat->Prop}(h:Tl w tb b g n f)(hk:Kp S w w')(h1:¬S tb)(h2:¬S b):Tl w' tb b g n f:=
 ⟨(hk.block tb h.lt h1).trans h.blk,h.ta.kept (hk.block b h.ta.lt h2),h.bd⟩
theorem Tl.below(h:Tl w tb b g n f)(hb:Below w.heap.size w w'):Tl w' tb b g n f:=h.kp (S:=fun _=>False) (Kp.of_below hb) (fun h=>h) (fun h=>h)
theorem Tl.gr(h:Tl w tb b g n f)(hb:Gr w w'):Tl w' tb b g n f:=h.below hb.below
end
theorem dB(g:Nat)(w:World):Calls Tryz.prog 77 #[fv g] w fun e w'=>e= .returned (.pointer (some ⟨w.heap.size+1,0,none⟩))/\Tl w' (w.heap.size+1) w.heap.size g 0 (fun _=>0)/\Gr w w':=by
 have hmm:=@run_makeMap Tryz.prog;go_enter Tryz.func77,Tryz.ntmps77;go_wp2;go_ret;refine⟨rfl,⟨?_, ?_,fun _=> ?_⟩,((Gr.refl _).alloc _).alloc _⟩
 ·exact heap_alloc2_new _ _ _
 ·exact(Ta.made w).kept ((heap_alloc2_old _ _ _).trans (MapKept.heap_alloc w _).1.symm)
 ·decide
theorem kQ(w:World):CallsD Tryz.prog 208 #[] .returning w fun e u' w'=>e= .returned (.tuple #[])/\u'= .returning/\w'=w:=by
 refine callsD_of_wpS Tryz.func208 rfl fun c₀ cs hu=> ?_;apply wpS_region;simp[wpOpsS,go_sem,recoverD,hu,Tryz.ntmps208,bodyPostS,results,Tryz.results208];cases c₀
 simp_all
abbrev bx(x:Sm)(w:World):World:=w.alloc (.cells #[.int .i64 x.1.1, .int .u64 x.1.2.1, .int .u64 x.1.2.2.1, .int .u64 x.1.2.2.2] 47)
theorem dM{f:Sm->Int}(x:Sm)(w:World)(h:Tl w tb b g n f):
    Calls Tryz.prog 144 #[.pointer (some ⟨tb,0,none⟩),mv x] w fun e w'=>e= .returned (.tuple #[.int .i64 (f x), .bool true])/\Gr w w':=by
 have hmx:Tryz.prog.follows .mixedOrders=true:=by kernel_rfl
 have HT:Hid (Tl (bx x w).drew tb b g n f):=(h.gr ((Gr.refl _).alloc _)).gr (Gr.refl _).drew;have hblk:(bx x w).heap[w.heap.size]? =some (.cells #[.int .i64 x.1.1, .int .u64 x.1.2.1, .int .u64 x.1.2.2.1, .int .u64 x.1.2.2.2] 47 (0,0)):=ai _ _;have S0:(bx x w).drew.cell? ⟨tb,1,none⟩=some (.map (some b))/\(bx x w).drew.cell? ⟨w.heap.size,0,none⟩=some (.int .i64 x.1.1)/\(bx x w).drew.cell? ⟨w.heap.size,1,none⟩=some (.int .u64 x.1.2.1)/\(bx x w).drew.cell? ⟨w.heap.size,2,none⟩=some (.int .u64 x.1.2.2.1)/\(bx x w).drew.cell? ⟨w.heap.size,3,none⟩=some (.int .u64 x.1.2.2.2):=by
  refine⟨HT.o.c1, ?_, ?_, ?_, ?_⟩<;>(show(bx x w).cell? _=_;simp only[World.cell?];rw[hblk];rfl)
 obtain⟨D,hown,h1,h2⟩:=HT.o.ta;have hx:=h1 x;obtain⟨c,hrun,hat,_⟩:=hown.lookup_int ZM.law Tryz.underlying235 Tryz.underlying2 (zeroE _) (ZM.key x);have e0:c=f x:=by
  rw[hx]at hat;simpa using hat.symm
 subst e0;have hrun:(Instr.lookup 235 (.map (some b)) (mv x) false).run Tryz.prog (bx x w).drew= .ok (.int .i64 (f x)) (bx x w).drew:=hrun;have hG:Gr w (bx x w).drew:=((Gr.refl _).alloc _).drew;clear hx hat h1 h2 hown h HT hblk;generalize f x=r at hrun⊢;go_enter_defers Tryz.func144,Tryz.ntmps144;go_wp2_with fail;go_region_held3 (fun w'=>w'.cell? ⟨tb,1,none⟩=some (.map (some b))/\w'.cell? ⟨w.heap.size,0,none⟩=some (.int .i64 x.1.1)/\w'.cell? ⟨w.heap.size,1,none⟩=some (.int .u64 x.1.2.1)/\w'.cell? ⟨w.heap.size,2,none⟩=some (.int .u64 x.1.2.2.1)/\w'.cell? ⟨w.heap.size,3,none⟩=some (.int .u64 x.1.2.2.2))
  (first|exact S0) (fail)
 go_wp2;refine leaves_cons (f:=208) (args:=#[]) (by simp) (by simp[go_sem]) ?_;refine(kQ _).mono ?_;rintro e u' w'' ⟨rfl,rfl,rfl⟩;simp[Leaves,settle,results,Tryz.results144,go_sem];exact hG
theorem bS(x:Sm)(w:World):(bx x w).cell? ⟨w.heap.size,0,none⟩=some (.int .i64 x.1.1)/\(bx x w).cell? ⟨w.heap.size,1,none⟩=some (.int .u64 x.1.2.1)/\(bx x w).cell? ⟨w.heap.size,2,none⟩=some (.int .u64 x.1.2.2.1)/\(bx x w).cell? ⟨w.heap.size,3,none⟩=some (.int .u64 x.1.2.2.2):=by
 have hblk:(bx x w).heap[w.heap.size]? =some (.cells #[.int .i64 x.1.1, .int .u64 x.1.2.1, .int .u64 x.1.2.2.1, .int .u64 x.1.2.2.2] 47 (0,0)):=ai _ _;refine⟨?_, ?_, ?_, ?_⟩<;>(simp only[World.cell?];rw[hblk];rfl)
theorem zC{f:Sm->Int}(x:Sm)(v:Int)(w:World)(h:Tl w tb b g n f)(hn:n<maxLen)(hv: -2147483647<=v/\v<=2147483647):
    Calls Tryz.prog 145 #[.pointer (some ⟨tb,0,none⟩),mv x, .int .i64 v] w fun e w'=>e= .returned (.tuple #[])/\Tl w' tb b g (n+1) (upd f x v)/\Kp (fun k=>k=b) w w':=by
 have hmx:Tryz.prog.follows .mixedOrders=true:=by kernel_rfl
 have HT:Hid (Tl (bx x w).drew tb b g n f):=(h.gr ((Gr.refl _).alloc _)).gr (Gr.refl _).drew;have HG:Hid (Gr w (bx x w).drew):=((Gr.refl _).alloc _).drew;have S0:(bx x w).drew.cell? ⟨tb,1,none⟩=some (.map (some b))/\(bx x w).drew.cell? ⟨w.heap.size,0,none⟩=some (.int .i64 x.1.1)/\(bx x w).drew.cell? ⟨w.heap.size,1,none⟩=some (.int .u64 x.1.2.1)/\(bx x w).drew.cell? ⟨w.heap.size,2,none⟩=some (.int .u64 x.1.2.2.1)/\(bx x w).drew.cell? ⟨w.heap.size,3,none⟩=some (.int .u64 x.1.2.2.2):=
  ⟨HT.o.c1,(bS x w).1,(bS x w).2.1,(bS x w).2.2.1,(bS x w).2.2.2⟩
 have Nc:∀s,-2147483647<=upd f x v s/\upd f x v s<=2147483647:=fun s=>by unfold upd;split;exact hv;exact h.bd s
 have uh:Hid (∀s,-2147483647<=upd f x v s/\upd f x v s<=2147483647):=Nc;obtain⟨D,hown,h1,h2⟩:=HT.o.ta;have hne:=HT.o.ne;have hlt:=HT.o.lt;have hbl:b<w.heap.size:=h.ta.lt;have hbx:w.heap.size<(bx x w).drew.heap.size:=by show w.heap.size<(bx x w).heap.size;simp
 clear h Nc;by_cases h0:v=0
 ·subst h0;have ht:=CZ h1 h2 x;obtain⟨w1,hrun,hown1,hturn1⟩:=hown.drop ZM.law Tryz.underlying235 (ZM.key x) 0;have hrun:Sem.run Tryz.prog (Builtin.delete_ #[235,47] 0 #[.map (some b),mv x]) (bx x w).drew= .ok (.tuple #[]) w1:=hrun;have o5:Hid ((bx x w).drew.grownBy w1 (some b)):=hturn1.grown;have S1:w1.cell? ⟨tb,1,none⟩=some (.map (some b))/\w1.cell? ⟨w.heap.size,0,none⟩=some (.int .i64 x.1.1)/\w1.cell? ⟨w.heap.size,1,none⟩=some (.int .u64 x.1.2.1)/\w1.cell? ⟨w.heap.size,2,none⟩=some (.int .u64 x.1.2.2.1)/\w1.cell? ⟨w.heap.size,3,none⟩=some (.int .u64 x.1.2.2.2):=by
   have e1:∀q,w1.cell? ⟨tb,q,none⟩=(bx x w).drew.cell? ⟨tb,q,none⟩:=fun q=>World.cell?_of_block (a:=⟨tb,q,none⟩) (o5.o.block tb hlt (by simp[hne]));have e2:∀q,w1.cell? ⟨w.heap.size,q,none⟩=(bx x w).drew.cell? ⟨w.heap.size,q,none⟩:=fun q=>World.cell?_of_block (a:=⟨w.heap.size,q,none⟩) (o5.o.block w.heap.size hbx (by simp;omega));exact⟨(e1 1).trans S0.1,(e2 0).trans S0.2.1,(e2 1).trans S0.2.2.1,(e2 2).trans S0.2.2.2.1,(e2 3).trans S0.2.2.2.2⟩
  have HE:Hid (Tl w1 tb b g (n+1) (upd f x 0)/\Kp (fun k=>k=b) w w1):=
   ⟨⟨(o5.o.block tb hlt (by simp[hne])).trans HT.o.blk,⟨_,hown1.mono (Nat.le_succ _),ht.1,ht.2⟩,uh.o⟩,(Kp.aU (S:=fun k=>k=b) HG.o).trans (Kp.grownBy (S:=fun k=>k=b) o5.o (fun k hk=>by simpa using hk.symm)) (fun _ _ h=>h)⟩
  clear h1 h2 hown hown1 hturn1 o5 uh HT HG hlt hbx;go_enter Tryz.func145,Tryz.ntmps145;go_wp2_with fail;go_region_held3 (fun w'=>w'.cell? ⟨tb,1,none⟩=some (.map (some b))/\w'.cell? ⟨w.heap.size,0,none⟩=some (.int .i64 x.1.1)/\w'.cell? ⟨w.heap.size,1,none⟩=some (.int .u64 x.1.2.1)/\w'.cell? ⟨w.heap.size,2,none⟩=some (.int .u64 x.1.2.2.1)/\w'.cell? ⟨w.heap.size,3,none⟩=some (.int .u64 x.1.2.2.2))
   (first|exact S0|exact S1) (fail)
  go_wp2;refine bodyPost_ret (results_none rfl _ _ _) rfl ?_;exact⟨rfl,HE.o.1,HE.o.2⟩
 ·have ht:=BH (hown.isMap) h1 h2 x v h0;have hwf:(Lit.int .i64 v).wf=true:=WalkArith.wf_i64 (by omega);obtain⟨w1,hrun,hown1,hturn1⟩:=hown.store ZM.law Tryz.underlying235 hn (ZM.key x) (plainElem_int Tryz.underlying2 hwf);have hrun:(Instr.mapUpdate 235 (.map (some b)) (mv x) (.int .i64 v)).run Tryz.prog (bx x w).drew= .ok () w1:=hrun;have o5:Hid ((bx x w).drew.grownBy w1 (some b)):=hturn1.grown;have S1:w1.cell? ⟨tb,1,none⟩=some (.map (some b))/\w1.cell? ⟨w.heap.size,0,none⟩=some (.int .i64 x.1.1)/\w1.cell? ⟨w.heap.size,1,none⟩=some (.int .u64 x.1.2.1)/\w1.cell? ⟨w.heap.size,2,none⟩=some (.int .u64 x.1.2.2.1)/\w1.cell? ⟨w.heap.size,3,none⟩=some (.int .u64 x.1.2.2.2):=by
   have e1:∀q,w1.cell? ⟨tb,q,none⟩=(bx x w).drew.cell? ⟨tb,q,none⟩:=fun q=>World.cell?_of_block (a:=⟨tb,q,none⟩) (o5.o.block tb hlt (by simp[hne]));have e2:∀q,w1.cell? ⟨w.heap.size,q,none⟩=(bx x w).drew.cell? ⟨w.heap.size,q,none⟩:=fun q=>World.cell?_of_block (a:=⟨w.heap.size,q,none⟩) (o5.o.block w.heap.size hbx (by simp;omega));exact⟨(e1 1).trans S0.1,(e2 0).trans S0.2.1,(e2 1).trans S0.2.2.1,(e2 2).trans S0.2.2.2.1,(e2 3).trans S0.2.2.2.2⟩
  have HE:Hid (Tl w1 tb b g (n+1) (upd f x v)/\Kp (fun k=>k=b) w w1):=
   ⟨⟨(o5.o.block tb hlt (by simp[hne])).trans HT.o.blk,⟨_,hown1,ht.1,ht.2⟩,uh.o⟩,(Kp.aU (S:=fun k=>k=b) HG.o).trans (Kp.grownBy (S:=fun k=>k=b) o5.o (fun k hk=>by simpa using hk.symm)) (fun _ _ h=>h)⟩
  clear h1 h2 hown hown1 hturn1 o5 uh HT HG hlt hbx;go_enter Tryz.func145,Tryz.ntmps145;go_wp2_with fail;go_region_held3 (fun w'=>w'.cell? ⟨tb,1,none⟩=some (.map (some b))/\w'.cell? ⟨w.heap.size,0,none⟩=some (.int .i64 x.1.1)/\w'.cell? ⟨w.heap.size,1,none⟩=some (.int .u64 x.1.2.1)/\w'.cell? ⟨w.heap.size,2,none⟩=some (.int .u64 x.1.2.2.1)/\w'.cell? ⟨w.heap.size,3,none⟩=some (.int .u64 x.1.2.2.2))
   (first|exact S0|exact S1) (fail)
  go_wp2;go_end0;exact⟨rfl,HE.o.1,HE.o.2⟩
theorem Az{x:Sm}{w w2:World}(h:Gr (bx x w) w2):w2.cell? ⟨w.heap.size,0,none⟩=some (.int .i64 x.1.1)/\w2.cell? ⟨w.heap.size,1,none⟩=some (.int .u64 x.1.2.1)/\w2.cell? ⟨w.heap.size,2,none⟩=some (.int .u64 x.1.2.2.1)/\w2.cell? ⟨w.heap.size,3,none⟩=some (.int .u64 x.1.2.2.2):=by
 have hz:w.heap.size<(bx x w).heap.size:=by simp
 exact⟨(h.cell hz).trans (bS x w).1,(h.cell hz).trans (bS x w).2.1,(h.cell hz).trans (bS x w).2.2.1,(h.cell hz).trans (bS x w).2.2.2⟩
def Dp(f:Sm->Int)(x:Sm)(v:Int):Int:=if dQ v=true\/dQ (f x+v)=true then 12 else 0
def wM(f:Sm->Int)(x:Sm)(v:Int):Sm->Int:=if dQ v=true\/dQ (f x+v)=true then f else upd f x (f x+v)
theorem nM{f:Sm->Int}(x:Sm)(v:Int)(w:World)(h:Tl w tb b g n f)(hn:n<maxLen):
    Calls Tryz.prog 81 #[.pointer (some ⟨tb,0,none⟩),mv x, .int .i64 v] w fun e w'=>e= .returned (.int .i64 (Dp f x v))/\Tl w' tb b g (n+1) (wM f x v)/\Kp (fun k=>k=b) w w':=by
 have hb:=h.bd x;have HG:Hid (Gr w (bx x w)):=(Gr.refl _).alloc _;have HT:Hid (Tl (bx x w) tb b g n f):=h.gr HG.o;have hco:=dM x (bx x w) HT.o;have hset:=fun(W:World) (hW:Gr (bx x w) W) (hv: -2147483647<=f x+v/\f x+v<=2147483647)=>zC x (f x+v) W (HT.o.gr hW) hn hv;have h1:=fun W=>fV v W;have h2:=fun W=>fV (f x+v) W;have OX:Hid (∀W,Gr (bx x w) W->Kp (fun k=>k=b) w W):=fun W hW=>(Kp.aU (HG.o.trans hW));unfold Dp wM;clear h;cases hv:dQ v with
 | true=>
  rw[hv]at h1;clear hv;rw[if_pos (Or.inl rfl),if_pos (Or.inl rfl)];go_enter Tryz.func81,Tryz.ntmps81;go_wp2_with fail;refine(h1 _).mono ?_;rintro e w1 ⟨rfl,rfl⟩;go_wp2;go_ret;exact⟨rfl,⟨HT.o.blk,HT.o.ta.mono (Nat.le_succ _),HT.o.bd⟩,OX.o _ (Gr.refl _)⟩
 | false=>
  have hv':=dP.1 hv;rw[hv]at h1;clear hv;cases hv2:dQ (f x+v)with
  | true=>
   rw[hv2]at h2;clear hv2 hset;rw[if_pos (Or.inr rfl),if_pos (Or.inr rfl)];generalize f x=c at *;go_enter Tryz.func81,Tryz.ntmps81;go_wp2_with fail;refine(h1 _).mono ?_;rintro e w1 ⟨rfl,rfl⟩;go_wp2_with fail;refine hco.mono ?_;rintro e w2 ⟨rfl,g2⟩;go_wp2_with fail;refine(h2 _).mono ?_;rintro e w3 ⟨rfl,rfl⟩;go_wp2;go_ret;have ht:=HT.o.gr g2;exact⟨rfl,⟨ht.blk,ht.ta.mono (Nat.le_succ _),ht.bd⟩,OX.o _ g2⟩
  | false=>
   have hv3:=dP.1 hv2;rw[hv2]at h2;clear hv2;rw[if_neg (by simp),if_neg (by simp)];have MX:=fun W hW=>hset W hW hv3;clear hset;generalize f x=c at *;go_enter Tryz.func81,Tryz.ntmps81;go_wp2_with fail;refine(h1 _).mono ?_;rintro e w1 ⟨rfl,rfl⟩;go_wp2_with fail;refine hco.mono ?_;rintro e w2 ⟨rfl,g2⟩;obtain⟨c0,c1,c2,c3⟩:=Az g2;go_wp2_with fail;refine(h2 _).mono ?_;rintro e w3 ⟨rfl,rfl⟩;go_wp2_with fail;refine(MX _ g2).mono ?_;rintro e w4 ⟨rfl,ht,hk⟩;go_wp2;go_ret;exact⟨rfl,ht,(OX.o _ g2).trans hk (fun _ _ h=>h)⟩
theorem Aj{f:Sm->Int}(x:Sm)(w:World)(h:Tl w tb b g n f):
    Calls Tryz.prog 149 #[.pointer (some ⟨tb,0,none⟩),mv x] w fun e w'=>e= .returned (.int .i64 (f x))/\Gr w w':=by
 have HG:Hid (Gr w (bx x w)):=(Gr.refl _).alloc _;have hco:=dM x (bx x w) (h.gr HG.o);generalize f x=c at hco⊢;clear h;go_enter Tryz.func149,Tryz.ntmps149;go_wp2_with fail;refine hco.mono ?_;rintro e w1 ⟨rfl,g1⟩;go_wp2;go_ret;exact⟨rfl,HG.o.trans g1⟩
end Rs.Tt
namespace Rs
open Go.RowKit Go.Sort Go.Maps
attribute [local go_sem ↓] Go.wp_at_zero Go.wp_at_succ
theorem PU(p q:Int)(b:Nat)(w:World)(h0:w.cell? ⟨b,0,none⟩=some (.int .i64 p))(h1:w.cell? ⟨b,1,none⟩=some (.int .i64 q)):
    Calls Tryz.prog 50 #[.slice (some ⟨b,0,none⟩) 2 2] w fun e w'=>e= .returned (.int .i64 (Uv p q))/\w'=w:=by
 by_cases e0:p=0
 ·subst e0;by_cases e1:q=0
  ·subst e1;go_enter Tryz.func50,Tryz.ntmps50;go_wp2;refine wp_loop_rounds 3 ?_;rw[rounds_succ];go_wp2;rw[rounds_succ];go_wp2;rw[rounds_succ];go_wp2;go_ret;exact⟨rfl,rfl⟩
  ·have b1:(q != 0)=true:=(by rw[bne_iff_ne];exact e1);have hr:Uv 0 q=q:=(by simp[Uv]);rw[hr];clear hr;go_enter Tryz.func50,Tryz.ntmps50;go_wp2;refine wp_loop_rounds 2 ?_;rw[rounds_succ];go_wp2;rw[rounds_succ];go_wp2;go_ret;exact⟨rfl,rfl⟩
 ·have b0:(p != 0)=true:=by rw[bne_iff_ne];exact e0
  have hr:Uv p q=p:=by simp[Uv,e0]
  rw[hr];clear hr;go_enter Tryz.func50,Tryz.ntmps50;go_wp2;refine wp_loop_rounds 1 ?_;rw[rounds_succ];go_wp2;go_ret;exact⟨rfl,rfl⟩
theorem oM(x:Int)(w:World):Calls Tryz.prog 195 #[.int .i64 x] w fun e w'=>e= .returned (.bool false)/\w'=w:=by
 go_enter Tryz.func195,Tryz.ntmps195;go_wp2;go_ret;exact⟨rfl,rfl⟩
theorem qz(x y:Int)(w:World):Calls Tryz.prog 136 #[.int .i64 x, .int .i64 y] w fun e w'=>e= .returned (.int .i64 (c64 x y))/\w'=w:=by
 have H:=fun v W=>oM v W;go_enter Tryz.func136,Tryz.ntmps136;go_wp2_with (go_at_call 195;refine(H _ _).mono ?_;rintro e w1 ⟨rfl,rfl⟩);all_goals go_ret
 all_goals refine⟨?_,rfl⟩
 all_goals refine zF ?_
 all_goals unfold c64
 all_goals (repeat split)<;>omega
theorem iW(s t:Sm)(w:World):Calls Tryz.prog 78 #[mv s,mv t] w fun e w'=>e= .returned (.int .i64 (Et s t))/\Gr w w':=by
 have hmx:Tryz.prog.follows .mixedOrders=true:=by kernel_rfl
 have H1:=fun W=>qz s.1.1 t.1.1 W;have H2:=fun W=>eX s.1.2.1 s.1.2.2.1 s.1.2.2.2 t.1.2.1 t.1.2.2.1 t.1.2.2.2 W;unfold Et;generalize c64 s.1.1 t.1.1=p at *;generalize kG s.1.2.1 s.1.2.2.1 s.1.2.2.2 t.1.2.1 t.1.2.2.1 t.1.2.2.2=q at *;obtain⟨W0,hW0⟩:=aB (((w.alloc (.cells #[.int .i64 s.1.1, .int .u64 s.1.2.1, .int .u64 s.1.2.2.1, .int .u64 s.1.2.2.2] 47)).alloc (.cells #[.int .i64 t.1.1, .int .u64 t.1.2.1, .int .u64 t.1.2.2.1, .int .u64 t.1.2.2.2] 47)).drew);have hz0:w.heap.size+1<W0.heap.size:=by rw[hW0];show _<((w.alloc _).alloc _).heap.size;simp
 have S0:(W0.cell? ⟨w.heap.size,0,none⟩=some (.int .i64 s.1.1)/\W0.cell? ⟨w.heap.size,1,none⟩=some (.int .u64 s.1.2.1)/\W0.cell? ⟨w.heap.size,2,none⟩=some (.int .u64 s.1.2.2.1)/\W0.cell? ⟨w.heap.size,3,none⟩=some (.int .u64 s.1.2.2.2)/\W0.cell? ⟨w.heap.size+1,0,none⟩=some (.int .i64 t.1.1)/\W0.cell? ⟨w.heap.size+1,1,none⟩=some (.int .u64 t.1.2.1)/\W0.cell? ⟨w.heap.size+1,2,none⟩=some (.int .u64 t.1.2.2.1)/\W0.cell? ⟨w.heap.size+1,3,none⟩=some (.int .u64 t.1.2.2.2))/\Gr W0 W0:=by
  refine⟨?_,Gr.refl _⟩;rw[hW0];have b0:((w.alloc (.cells #[.int .i64 s.1.1, .int .u64 s.1.2.1, .int .u64 s.1.2.2.1, .int .u64 s.1.2.2.2] 47)).alloc (.cells #[.int .i64 t.1.1, .int .u64 t.1.2.1, .int .u64 t.1.2.2.1, .int .u64 t.1.2.2.2] 47)).drew.heap[w.heap.size]? =some (.cells #[.int .i64 s.1.1, .int .u64 s.1.2.1, .int .u64 s.1.2.2.1, .int .u64 s.1.2.2.2] 47 (0,0)):=(Below.heap_alloc _ _ _ (by simp)).trans (ai _ _);have b1:((w.alloc (.cells #[.int .i64 s.1.1, .int .u64 s.1.2.1, .int .u64 s.1.2.2.1, .int .u64 s.1.2.2.2] 47)).alloc (.cells #[.int .i64 t.1.1, .int .u64 t.1.2.1, .int .u64 t.1.2.2.1, .int .u64 t.1.2.2.2] 47)).drew.heap[w.heap.size+1]? =some (.cells #[.int .i64 t.1.1, .int .u64 t.1.2.1, .int .u64 t.1.2.2.1, .int .u64 t.1.2.2.2] 47 (0,0)):=by
   have:=ai (w.alloc (.cells #[.int .i64 s.1.1, .int .u64 s.1.2.1, .int .u64 s.1.2.2.1, .int .u64 s.1.2.2.2] 47)) (.cells #[.int .i64 t.1.1, .int .u64 t.1.2.1, .int .u64 t.1.2.2.1, .int .u64 t.1.2.2.2] 47);rw[show(w.alloc (.cells #[.int .i64 s.1.1, .int .u64 s.1.2.1, .int .u64 s.1.2.2.1, .int .u64 s.1.2.2.2] 47)).heap.size=w.heap.size+1 by simp]at this;exact this
  refine⟨?_, ?_, ?_, ?_, ?_, ?_, ?_, ?_⟩<;>(simp only[World.cell?,b0,b1];rfl)
 have j5:∀W W':World,((W.cell? ⟨w.heap.size,0,none⟩=some (.int .i64 s.1.1)/\W.cell? ⟨w.heap.size,1,none⟩=some (.int .u64 s.1.2.1)/\W.cell? ⟨w.heap.size,2,none⟩=some (.int .u64 s.1.2.2.1)/\W.cell? ⟨w.heap.size,3,none⟩=some (.int .u64 s.1.2.2.2)/\W.cell? ⟨w.heap.size+1,0,none⟩=some (.int .i64 t.1.1)/\W.cell? ⟨w.heap.size+1,1,none⟩=some (.int .u64 t.1.2.1)/\W.cell? ⟨w.heap.size+1,2,none⟩=some (.int .u64 t.1.2.2.1)/\W.cell? ⟨w.heap.size+1,3,none⟩=some (.int .u64 t.1.2.2.2))/\Gr W0 W)->Gr W W'->((W'.cell? ⟨w.heap.size,0,none⟩=some (.int .i64 s.1.1)/\W'.cell? ⟨w.heap.size,1,none⟩=some (.int .u64 s.1.2.1)/\W'.cell? ⟨w.heap.size,2,none⟩=some (.int .u64 s.1.2.2.1)/\W'.cell? ⟨w.heap.size,3,none⟩=some (.int .u64 s.1.2.2.2)/\W'.cell? ⟨w.heap.size+1,0,none⟩=some (.int .i64 t.1.1)/\W'.cell? ⟨w.heap.size+1,1,none⟩=some (.int .u64 t.1.2.1)/\W'.cell? ⟨w.heap.size+1,2,none⟩=some (.int .u64 t.1.2.2.1)/\W'.cell? ⟨w.heap.size+1,3,none⟩=some (.int .u64 t.1.2.2.2))/\Gr W0 W'):=fun W W' h hb=>by
  have q0:w.heap.size<W.heap.size:=by have:=h.2.size;omega
  have q1:w.heap.size+1<W.heap.size:=by have:=h.2.size;omega
  exact⟨⟨(hb.cell q0).trans h.1.1,(hb.cell q0).trans h.1.2.1,(hb.cell q0).trans h.1.2.2.1,(hb.cell q0).trans h.1.2.2.2.1,(hb.cell q1).trans h.1.2.2.2.2.1,(hb.cell q1).trans h.1.2.2.2.2.2.1,(hb.cell q1).trans h.1.2.2.2.2.2.2.1,(hb.cell q1).trans h.1.2.2.2.2.2.2.2⟩,h.2.trans hb⟩
 have HG:Gr w W0:=by rw[hW0];exact(((Gr.refl _).alloc _).alloc _).drew
 go_enter Tryz.func78,Tryz.ntmps78;go_wp2_with fail;go_region_held3 (fun W=>(W.cell? ⟨w.heap.size,0,none⟩=some (.int .i64 s.1.1)/\W.cell? ⟨w.heap.size,1,none⟩=some (.int .u64 s.1.2.1)/\W.cell? ⟨w.heap.size,2,none⟩=some (.int .u64 s.1.2.2.1)/\W.cell? ⟨w.heap.size,3,none⟩=some (.int .u64 s.1.2.2.2)/\W.cell? ⟨w.heap.size+1,0,none⟩=some (.int .i64 t.1.1)/\W.cell? ⟨w.heap.size+1,1,none⟩=some (.int .u64 t.1.2.1)/\W.cell? ⟨w.heap.size+1,2,none⟩=some (.int .u64 t.1.2.2.1)/\W.cell? ⟨w.heap.size+1,3,none⟩=some (.int .u64 t.1.2.2.2))/\Gr W0 W)
  (first|(rw[<-hW0];exact S0)|exact j5 _ _ (by assumption) (by assumption)|exact j5 _ _ (by assumption) ((Gr.refl _).alloc _)|assumption)
  (first|(go_at_call 136;refine(H1 _).mono ?_;rintro e w1 ⟨rfl,rfl⟩)|(go_at_call 17;refine(H2 _).mono ?_;rintro e w2 ⟨rfl,g2⟩)|(go_at_call 50;refine(PU p q _ _ (by simp) (by simp)).mono ?_;rintro e w3 ⟨rfl,rfl⟩))
 go_wp2;go_ret;rw[<-hW0]at g2;exact⟨rfl,HG.trans (g2.alloc _)⟩
end Rs
namespace Rs
open Go.RowKit Go.Sort Go.Maps Go.Shelf Go.Lib
open Rs.Tt (Tl)
attribute [local go_sem ↓] Go.wp_at_zero Go.wp_at_succ
theorem NW(blk off size:Nat)(w:World):CmpLays Tryz.prog 78 #[] ES.enc 4 Et blk off size w:=
 fun _ _ _ _ x y=>iW x y _
theorem uH(g cap base:Nat)(ts:List Sm)(w:World)(h:w.ownsRow base 47 4 (.slice (some ⟨g,0,none⟩) ts.length cap) ts.length (fl ES ts))(hsz:ts.length<4611686018427387904):
    Calls Tryz.prog 210 #[.slice (some ⟨g,0,none⟩) ts.length cap, .func (.func 78) #[] #[]] w fun e w'=>e= .returned (.tuple #[])/\w'.ownsRow base 47 4 (.slice (some ⟨g,0,none⟩) ts.length cap) ts.length (fl ES (iD ts))/\Kp (fun k=>k=g) w w':=by
 have eg:∀args w,(callFunc 78 args).run Tryz.prog w= .ok (.enter 78 args) w:=enters_of Tryz.func78 (by kernel_rfl) rfl;have hg:g<w.heap.size:=(h.lt g rfl).2;have hcon:=AnyQ.slices_SortFunc_total Tryz.lSortS 4 Tryz.isAgg47 Tryz.sizeOf47 ES.enc (fun _=>rfl) ES.one Et XL 78 #[] g 0 cap ts.toArray w eg (NW g 0 _ w) (mI (E:=ES) (by decide) h) hg (by simpa using hsz) XI;change Calls Tryz.prog 210 _ _ _ at hcon;rw[List.size_toArray]at hcon;refine hcon.mono ?_;rintro e w' ⟨rfl,n,os,rfl⟩;exact⟨rfl,rO (E:=ES) (by decide) h (dx Et ts),ym (E:=ES)⟩
theorem vF{f:Sm->Int}(w:World)(h:Tl w tb b 78 n f)(hn:n*32<=140737488355328):
    Calls Tryz.prog 148 #[.pointer (some ⟨tb,0,none⟩)] w fun e w'=>∃(v:Value) (ks:List Sm),oU f ks/\e= .returned v/\
     w'.ownsRow w.heap.size 47 4 v (iD ks).length (fl ES (iD ks))/\v≠ .slice none 0 0/\Below w.heap.size w w':=by
 obtain⟨i0,hi,hz0,hz1,hz2⟩:=info_parts Cc;have HT:Hid (Tl w tb b 78 n f):=h;have c0:=h.c0;have c1:=h.c1;have hlt:=h.lt;obtain⟨D,hown,h1,h2⟩:=h.ta;have hbl:=hown.lt;have hsz:=hown.size_le;have hlen:=fun ty=>hown.len Tryz.underlying235 ty;clear h h1;go_enter Tryz.func148,Tryz.ntmps148;go_wp2_with (first
  | (at_make;refine wpList_make_own _ rfl _ _ 190 rfl w.heap.size 47 i0 (.agg #[.int .i64 0, .int .u64 0, .int .u64 0, .int .u64 0]) 4 Tryz.underlying190 hi hz0 hz1 _ _ _ (Maps.size D) rfl rfl rfl (by rw[hz2];omega) (by unfold maxLen;omega) (nR _) ?_;intro w1 Cs hg1
     have c1b:=(HT.o.kp (Kp.grownBy (S:=fun _=>False) hg1 (fun k hk=>by cases hk)) (fun h=>h) (fun h=>h)).c1)
  | (at_range;refine wpList_range_own _ rfl _ 235 rfl 47 2 ZM.law Tryz.underlying235 _ b n _ rfl (hown.kept hg1 (by simp)) ?_;intro w0 hrg0 hg0 hs0)
  | go_in)
 go_frame;go_loopw [3,4] (fun v _ wr=>∃(left:Lit->Bool) (cnt:Nat) (ss:List Sm),wr.ranges Tryz.prog 47 (plainElem Tryz.prog 2) b w1.heap.size n D left cnt/\ss.length+cnt<=Maps.size D/\
     wr.ownsRow w.heap.size 47 4 v ss.length (fl ES ss)/\v≠ .slice none 0 0/\mZ ZM D left ss/\Below w.heap.size w wr)
  (fun _ _ wr=>wr.rangeLeft b w1.heap.size)
 case atStart=>
  exact⟨_,_,[],hrg0,by simp,Cs.kept hg0 (Or.inr (by simp[Value.ownBlock])),by simp,mZ.start D,
   ((Below.refl _ _).grown hg1 (nR _) (fun j hj=>by cases hj)).grown hg0 hg1.size (fun j hj=>by cases hj)⟩
 case round=>
  obtain⟨left,cnt,ss,hrg,hcs,hrow,hnn,hC,hnx⟩:=hrel;go_wp2_with (first
   | (at_next; refine wpList_next_ranges _ rfl _ rfl 47 ZM.law (plainElem Tryz.prog 2) mv (Value.int .i64) (fun key kl hk => Si key kl hk) (fun v y hv=>by obtain⟨c,rfl,_⟩:=plainElem_int_inv Tryz.underlying2 hv;exact⟨c,rfl⟩) b w1.heap.size n _ _ _ rfl hrg ?_ ?_)
   | go_in)
  ·intro hc0 hl0;rcases hrow.2 with⟨hnil,_⟩|⟨gb,cap,cur,rfl,hbase,hb,h3,h4,h5,h6⟩
   ·exact absurd hnil hnn
   have hS:=hC.sup h2 hl0;have c0r:=(hnx.cell (p:=⟨tb,0,none⟩) hlt).trans c0;have hc:=uH gb cap w.heap.size ss wr hrow (by omega);clear h6 hb h5;go_wp2_with (go_at_call 210;refine hc.mono ?_;rintro e w' ⟨rfl,ho',hk'⟩);go_ret;refine⟨_,ss,hS,rfl,by rw[dx];exact ho',by simp, ?_⟩;exact hnx.trans (hk'.below hnx.size (fun k hk=>by rw[hk];exact hbase))
  ·intro ta lF tc td tp c kl yd yp w2 cnt2 hkey hlk hv hat hrg2 hlt2 hg2 hs2 hen;obtain⟨x,hx⟩:∃x:Sm,x=⟨(ta,lF,tc,td),tp⟩:=⟨_,rfl⟩;rw[<-hx]at hkey hen⊢;clear hx tp ta lF tc td;obtain rfl:kl=ZM.lit x:=by
    have h7:=(ZM.key x).symm.trans hkey;exact(Option.some.inj h7).symm
   have hrow2:=hrow.kept hg2 (Or.inr (row_ne_iter hrow hrg).symm);have B2:Below w.heap.size w w2:=hnx.grown hg2 hnx.size (fun j hj=>by cases hj;exact hg1.size);have Gw:=hC.step hlk hat;clear hs2 hv hat hkey hlk;go_wp2_with (first
    | (at_builtin;refine fM (E:=ES) Tryz.underlying190 Cc rfl (by decide) rfl _ _ rfl w.heap.size _ ss.length _ rfl (hrow2.alloc _) x (by show Value.slice (some ⟨w2.heap.size+1,0,none⟩) 1 1=_;simp) (by omega) (by unfold maxLen;omega) (by have:=B2.size;simp;omega) _ rfl _ ?_;intro g' cap' w3 ho3 hg3 hl3)
    | go_in)
   have hrg3:=(hrg2.alloc _).kept hg3 (row_ne_low hrow2 hbl) (row_ne_iter hrow2 hrg2);go_roundw;case rel=>
    refine⟨_,cnt2,ss++[x],hrg3,by simp;omega, ?_,by simp,Gw, ?_⟩
    ·rw[aS,dK,dH];exact ho3
    ·exact(B2.alloc B2.size _).grown hg3 (by have:=B2.size;simp;omega) (fun j hj=>(hrow2.lt j hj).1)
   case measure=>rw[hrg3.left_eq,hrg.left_eq];exact hlt2
end Rs
end Go.Proofs.YteekbpokkjjipaaGreat
