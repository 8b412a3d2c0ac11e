import Derived.Test.YteekbpokkjjipaaGreatJ4
import Derived.Sort.KeysCollected
import Derived.Defers
import Derived.Recover
import Derived.Deep.LoopGhost
variable{tb b g n:Nat}{w:Go.World}
set_option maxHeartbeats 4000000
set_option maxRecDepth 100000
namespace Go.Proofs.YteekbpokkjjipaaGreat
namespace Tt
open Go.RowKit Go.Sort Go.Maps
attribute [local go_sem ↓] Go.wp_at_zero Go.wp_at_succ
theorem zeroE(w:World):(zeroValue 2).run Tryz.prog w= .ok (.int .i64 0) w:=by kernel_rfl
def dQ(n:Int):Bool:=decide (n < -2147483647)|| decide (2147483647<n)
theorem dP{n:Int}:dQ n=false↔-2147483647<=n/\n<=2147483647:=by unfold dQ;simp
theorem fV(n:Int)(w:World):Calls Tryz.prog 143 #[.int .i64 n] w fun e w'=>e= .returned (.bool (dQ n))/\w'=w:=by
 unfold dQ;go_enter Tryz.func143,Tryz.ntmps143;go_wp2;all_goals (go_ret;refine⟨?_,rfl⟩;simp_all)
structure Tl(w:World)(tb b g n:Nat)(f:Tm->Int):Prop where
 blk:w.heap[tb]? =some (.cells #[fv g, .map (some b)] 309 (0,0))
 ta:Ta ZT 2 w b n f
 bd:∀s,-2147483647<=f s/\f s<=2147483647
section
variable {w w':World} {tb b g n:Nat} {f:Tm->Int}
theorem Tl.lt(h:Tl w tb b g n f):tb<w.heap.size:=(aG.1 h.blk).1
theorem Tl.c0(h:Tl w tb b g n f):w.cell? ⟨tb,0,none⟩=some (fv g):=by simp[World.cell?,h.blk]
theorem Tl.c1(h:Tl w tb b g n f):w.cell? ⟨tb,1,none⟩=some (.map (some b)):=by simp[World.cell?,h.blk]
theorem Tl.ne(h:Tl w tb b g n f):tb≠b:=fun e=>by
 obtain⟨D,⟨es,clock,hb,_⟩,_⟩:=h.ta;rw[<-e,h.blk]at hb;cases hb
theorem Tl.kp{S:Nat->Prop}(h:Tl w tb b g n f)(hk:Kp S w w')(h1:¬S tb)(h2:¬S b):Tl w' tb b g n f:=
 ⟨(hk.block tb h.lt h1).trans h.blk,h.ta.kept (hk.block b h.ta.lt h2),h.bd⟩
theorem Tl.below(h:Tl w tb b g n f)(hb:Below w.heap.size w w'):Tl w' tb b g n f:=h.kp (S:=fun _=>False) (Kp.of_below hb) (fun h=>h) (fun h=>h)
theorem Tl.gr(h:Tl w tb b g n f)(hb:Gr w w'):Tl w' tb b g n f:=h.below hb.below
end
theorem dB(g:Nat)(w:World):Calls Tryz.prog 172 #[fv g] w fun e w'=>e= .returned (.pointer (some ⟨w.heap.size+1,0,none⟩))/\Tl w' (w.heap.size+1) w.heap.size g 0 (fun _=>0)/\Gr w w':=by
 have hmm:=@run_makeMap Tryz.prog;go_enter Tryz.func172,Tryz.ntmps172;go_wp2;go_ret;refine⟨rfl,⟨?_, ?_,fun _=> ?_⟩,((Gr.refl _).alloc _).alloc _⟩
 ·exact heap_alloc2_new _ _ _
 ·exact(Ta.made w).kept ((heap_alloc2_old _ _ _).trans (MapKept.heap_alloc w _).1.symm)
 ·decide
theorem kQ(w:World):CallsD Tryz.prog 259 #[] .returning w fun e u' w'=>e= .returned (.tuple #[])/\u'= .returning/\w'=w:=by
 refine callsD_of_wpS Tryz.func259 rfl fun c₀ cs hu=> ?_;apply wpS_region;simp[wpOpsS,go_sem,recoverD,hu,Tryz.ntmps259,bodyPostS,results,Tryz.results259];cases c₀
 simp_all
abbrev bx(x:Tm)(w:World):World:=w.alloc (.cells #[.int .u64 x.1.1, .int .u64 x.1.2.1, .int .u64 x.1.2.2] 45)
theorem dM{f:Tm->Int}(x:Tm)(w:World)(h:Tl w tb b g n f):
    Calls Tryz.prog 212 #[.pointer (some ⟨tb,0,none⟩),tv x] w fun e w'=>e= .returned (.tuple #[.int .i64 (f x), .bool true])/\Gr w w':=by
 have hmx:Tryz.prog.follows .mixedOrders=true:=by kernel_rfl
 have HT:Hid (Tl (bx x w).drew tb b g n f):=(h.gr ((Gr.refl _).alloc _)).gr (Gr.refl _).drew;have hblk:(bx x w).heap[w.heap.size]? =some (.cells #[.int .u64 x.1.1, .int .u64 x.1.2.1, .int .u64 x.1.2.2] 45 (0,0)):=heap_alloc_new _ _;have S0:(bx x w).drew.cell? ⟨tb,1,none⟩=some (.map (some b))/\(bx x w).drew.cell? ⟨w.heap.size,0,none⟩=some (.int .u64 x.1.1)/\(bx x w).drew.cell? ⟨w.heap.size,1,none⟩=some (.int .u64 x.1.2.1)/\(bx x w).drew.cell? ⟨w.heap.size,2,none⟩=some (.int .u64 x.1.2.2):=by
  refine⟨HT.o.c1, ?_, ?_, ?_⟩<;>(show(bx x w).cell? _=_;simp only[World.cell?];rw[hblk];rfl)
 obtain⟨D,hown,h1,h2⟩:=HT.o.ta;have hx:=h1 x;obtain⟨c,hrun,hat,_⟩:=hown.lookup_int ZT.law Tryz.underlying301 Tryz.underlying2 (zeroE _) (ZT.key x);have e0:c=f x:=by
  rw[hx]at hat;simpa using hat.symm
 subst e0;have hrun:(Instr.lookup 301 (.map (some b)) (tv x) false).run Tryz.prog (bx x w).drew= .ok (.int .i64 (f x)) (bx x w).drew:=hrun;have hG:Gr w (bx x w).drew:=((Gr.refl _).alloc _).drew;clear hx hat h1 h2 hown h HT hblk;generalize f x=r at hrun⊢;go_enter_defers Tryz.func212,Tryz.ntmps212;go_wp2_with fail;go_region_held3 (fun w'=>w'.cell? ⟨tb,1,none⟩=some (.map (some b))/\w'.cell? ⟨w.heap.size,0,none⟩=some (.int .u64 x.1.1)/\w'.cell? ⟨w.heap.size,1,none⟩=some (.int .u64 x.1.2.1)/\w'.cell? ⟨w.heap.size,2,none⟩=some (.int .u64 x.1.2.2))
  (first|exact S0) (fail)
 go_wp2;refine leaves_cons (f:=259) (args:=#[]) (by simp) (by simp[go_sem]) ?_;refine(kQ _).mono ?_;rintro e u' w'' ⟨rfl,rfl,rfl⟩;simp[Leaves,settle,results,Tryz.results212,go_sem];exact hG
theorem bS(x:Tm)(w:World):(bx x w).cell? ⟨w.heap.size,0,none⟩=some (.int .u64 x.1.1)/\(bx x w).cell? ⟨w.heap.size,1,none⟩=some (.int .u64 x.1.2.1)/\(bx x w).cell? ⟨w.heap.size,2,none⟩=some (.int .u64 x.1.2.2):=by
 have hblk:(bx x w).heap[w.heap.size]? =some (.cells #[.int .u64 x.1.1, .int .u64 x.1.2.1, .int .u64 x.1.2.2] 45 (0,0)):=heap_alloc_new _ _;refine⟨?_, ?_, ?_⟩<;>(simp only[World.cell?];rw[hblk];rfl)
theorem zC{f:Tm->Int}(x:Tm)(v:Int)(w:World)(h:Tl w tb b g n f)(hn:n<maxLen)(hv: -2147483647<=v/\v<=2147483647):
    Calls Tryz.prog 251 #[.pointer (some ⟨tb,0,none⟩),tv x, .int .i64 v] w fun e w'=>e= .returned (.tuple #[])/\Tl w' tb b g (n+1) (upd f x v)/\Kp (fun k=>k=b) w w':=by
 have hmx:Tryz.prog.follows .mixedOrders=true:=by kernel_rfl
 have HT:Hid (Tl (bx x w).drew tb b g n f):=(h.gr ((Gr.refl _).alloc _)).gr (Gr.refl _).drew;have HG:Hid (Gr w (bx x w).drew):=((Gr.refl _).alloc _).drew;have S0:(bx x w).drew.cell? ⟨tb,1,none⟩=some (.map (some b))/\(bx x w).drew.cell? ⟨w.heap.size,0,none⟩=some (.int .u64 x.1.1)/\(bx x w).drew.cell? ⟨w.heap.size,1,none⟩=some (.int .u64 x.1.2.1)/\(bx x w).drew.cell? ⟨w.heap.size,2,none⟩=some (.int .u64 x.1.2.2):=
  ⟨HT.o.c1,(bS x w).1,(bS x w).2.1,(bS x w).2.2⟩
 have Nc:∀s,-2147483647<=upd f x v s/\upd f x v s<=2147483647:=fun s=>by unfold upd;split;exact hv;exact h.bd s
 have uh:Hid (∀s,-2147483647<=upd f x v s/\upd f x v s<=2147483647):=Nc;obtain⟨D,hown,h1,h2⟩:=HT.o.ta;have hne:=HT.o.ne;have hlt:=HT.o.lt;have hbl:b<w.heap.size:=h.ta.lt;have hbx:w.heap.size<(bx x w).drew.heap.size:=by show w.heap.size<(bx x w).heap.size;simp
 clear h Nc;by_cases h0:v=0
 ·subst h0;have ht:=CZ h1 h2 x;obtain⟨w1,hrun,hown1,hturn1⟩:=hown.drop ZT.law Tryz.underlying301 (ZT.key x) 0;have hrun:Sem.run Tryz.prog (Builtin.delete_ #[301,45] 0 #[.map (some b),tv x]) (bx x w).drew= .ok (.tuple #[]) w1:=hrun;have o5:Hid ((bx x w).drew.grownBy w1 (some b)):=hturn1.grown;have S1:w1.cell? ⟨tb,1,none⟩=some (.map (some b))/\w1.cell? ⟨w.heap.size,0,none⟩=some (.int .u64 x.1.1)/\w1.cell? ⟨w.heap.size,1,none⟩=some (.int .u64 x.1.2.1)/\w1.cell? ⟨w.heap.size,2,none⟩=some (.int .u64 x.1.2.2):=by
   have e1:∀q,w1.cell? ⟨tb,q,none⟩=(bx x w).drew.cell? ⟨tb,q,none⟩:=fun q=>World.cell?_of_block (a:=⟨tb,q,none⟩) (o5.o.block tb hlt (by simp[hne]));have e2:∀q,w1.cell? ⟨w.heap.size,q,none⟩=(bx x w).drew.cell? ⟨w.heap.size,q,none⟩:=fun q=>World.cell?_of_block (a:=⟨w.heap.size,q,none⟩) (o5.o.block w.heap.size hbx (by simp;omega));exact⟨(e1 1).trans S0.1,(e2 0).trans S0.2.1,(e2 1).trans S0.2.2.1,(e2 2).trans S0.2.2.2⟩
  have HE:Hid (Tl w1 tb b g (n+1) (upd f x 0)/\Kp (fun k=>k=b) w w1):=
   ⟨⟨(o5.o.block tb hlt (by simp[hne])).trans HT.o.blk,⟨_,hown1.mono (Nat.le_succ _),ht.1,ht.2⟩,uh.o⟩,(Kp.aU (S:=fun k=>k=b) HG.o).trans (Kp.grownBy (S:=fun k=>k=b) o5.o (fun k hk=>by simpa using hk.symm)) (fun _ _ h=>h)⟩
  clear h1 h2 hown hown1 hturn1 o5 uh HT HG hlt hbx;go_enter Tryz.func251,Tryz.ntmps251;go_wp2_with fail;go_region_held3 (fun w'=>w'.cell? ⟨tb,1,none⟩=some (.map (some b))/\w'.cell? ⟨w.heap.size,0,none⟩=some (.int .u64 x.1.1)/\w'.cell? ⟨w.heap.size,1,none⟩=some (.int .u64 x.1.2.1)/\w'.cell? ⟨w.heap.size,2,none⟩=some (.int .u64 x.1.2.2))
   (first|exact S0|exact S1) (fail)
  go_wp2;refine bodyPost_ret (results_none rfl _ _ _) rfl ?_;exact⟨rfl,HE.o.1,HE.o.2⟩
 ·have ht:=BH (hown.isMap) h1 h2 x v h0;have hwf:(Lit.int .i64 v).wf=true:=WalkArith.wf_i64 (by omega);obtain⟨w1,hrun,hown1,hturn1⟩:=hown.store ZT.law Tryz.underlying301 hn (ZT.key x) (plainElem_int Tryz.underlying2 hwf);have hrun:(Instr.mapUpdate 301 (.map (some b)) (tv x) (.int .i64 v)).run Tryz.prog (bx x w).drew= .ok () w1:=hrun;have o5:Hid ((bx x w).drew.grownBy w1 (some b)):=hturn1.grown;have S1:w1.cell? ⟨tb,1,none⟩=some (.map (some b))/\w1.cell? ⟨w.heap.size,0,none⟩=some (.int .u64 x.1.1)/\w1.cell? ⟨w.heap.size,1,none⟩=some (.int .u64 x.1.2.1)/\w1.cell? ⟨w.heap.size,2,none⟩=some (.int .u64 x.1.2.2):=by
   have e1:∀q,w1.cell? ⟨tb,q,none⟩=(bx x w).drew.cell? ⟨tb,q,none⟩:=fun q=>World.cell?_of_block (a:=⟨tb,q,none⟩) (o5.o.block tb hlt (by simp[hne]));have e2:∀q,w1.cell? ⟨w.heap.size,q,none⟩=(bx x w).drew.cell? ⟨w.heap.size,q,none⟩:=fun q=>World.cell?_of_block (a:=⟨w.heap.size,q,none⟩) (o5.o.block w.heap.size hbx (by simp;omega));exact⟨(e1 1).trans S0.1,(e2 0).trans S0.2.1,(e2 1).trans S0.2.2.1,(e2 2).trans S0.2.2.2⟩
  have HE:Hid (Tl w1 tb b g (n+1) (upd f x v)/\Kp (fun k=>k=b) w w1):=
   ⟨⟨(o5.o.block tb hlt (by simp[hne])).trans HT.o.blk,⟨_,hown1,ht.1,ht.2⟩,uh.o⟩,(Kp.aU (S:=fun k=>k=b) HG.o).trans (Kp.grownBy (S:=fun k=>k=b) o5.o (fun k hk=>by simpa using hk.symm)) (fun _ _ h=>h)⟩
  clear h1 h2 hown hown1 hturn1 o5 uh HT HG hlt hbx;go_enter Tryz.func251,Tryz.ntmps251;go_wp2_with fail;go_region_held3 (fun w'=>w'.cell? ⟨tb,1,none⟩=some (.map (some b))/\w'.cell? ⟨w.heap.size,0,none⟩=some (.int .u64 x.1.1)/\w'.cell? ⟨w.heap.size,1,none⟩=some (.int .u64 x.1.2.1)/\w'.cell? ⟨w.heap.size,2,none⟩=some (.int .u64 x.1.2.2))
   (first|exact S0|exact S1) (fail)
  go_wp2;go_end0;exact⟨rfl,HE.o.1,HE.o.2⟩
theorem Az{x:Tm}{w2:World}(h:Gr (bx x w) w2):w2.cell? ⟨w.heap.size,0,none⟩=some (.int .u64 x.1.1)/\w2.cell? ⟨w.heap.size,1,none⟩=some (.int .u64 x.1.2.1)/\w2.cell? ⟨w.heap.size,2,none⟩=some (.int .u64 x.1.2.2):=by
 have hz:w.heap.size<(bx x w).heap.size:=by simp
 exact⟨(h.cell hz).trans (bS x w).1,(h.cell hz).trans (bS x w).2.1,(h.cell hz).trans (bS x w).2.2⟩
def Dp(f:Tm->Int)(x:Tm)(v:Int):Int:=if dQ v=true\/dQ (f x+v)=true then 12 else 0
def wM(f:Tm->Int)(x:Tm)(v:Int):Tm->Int:=if dQ v=true\/dQ (f x+v)=true then f else upd f x (f x+v)
theorem nM{f:Tm->Int}(x:Tm)(v:Int)(w:World)(h:Tl w tb b g n f)(hn:n<maxLen):
    Calls Tryz.prog 199 #[.pointer (some ⟨tb,0,none⟩),tv x, .int .i64 v] w fun e w'=>e= .returned (.int .i64 (Dp f x v))/\Tl w' tb b g (n+1) (wM f x v)/\Kp (fun k=>k=b) w w':=by
 have hb:=h.bd x;have HG:Hid (Gr w (bx x w)):=(Gr.refl _).alloc _;have HT:Hid (Tl (bx x w) tb b g n f):=h.gr HG.o;have hco:=dM x (bx x w) HT.o;have hset:=fun(W:World) (hW:Gr (bx x w) W) (hv: -2147483647<=f x+v/\f x+v<=2147483647)=>zC x (f x+v) W (HT.o.gr hW) hn hv;have h1:=fun W=>fV v W;have h2:=fun W=>fV (f x+v) W;have OX:Hid (∀W,Gr (bx x w) W->Kp (fun k=>k=b) w W):=fun W hW=>(Kp.aU (HG.o.trans hW));unfold Dp wM;clear h;cases hv:dQ v with
 | true=>
  rw[hv]at h1;clear hv;rw[if_pos (Or.inl rfl),if_pos (Or.inl rfl)];go_enter Tryz.func199,Tryz.ntmps199;go_wp2_with fail;refine(h1 _).mono ?_;rintro e w1 ⟨rfl,rfl⟩;go_wp2;go_ret;exact⟨rfl,⟨HT.o.blk,HT.o.ta.mono (Nat.le_succ _),HT.o.bd⟩,OX.o _ (Gr.refl _)⟩
 | false=>
  have hv':=dP.1 hv;rw[hv]at h1;clear hv;cases hv2:dQ (f x+v)with
  | true=>
   rw[hv2]at h2;clear hv2 hset;rw[if_pos (Or.inr rfl),if_pos (Or.inr rfl)];generalize f x=c at *;go_enter Tryz.func199,Tryz.ntmps199;go_wp2_with fail;refine(h1 _).mono ?_;rintro e w1 ⟨rfl,rfl⟩;go_wp2_with fail;refine hco.mono ?_;rintro e w2 ⟨rfl,g2⟩;go_wp2_with fail;refine(h2 _).mono ?_;rintro e w3 ⟨rfl,rfl⟩;go_wp2;go_ret;have ht:=HT.o.gr g2;exact⟨rfl,⟨ht.blk,ht.ta.mono (Nat.le_succ _),ht.bd⟩,OX.o _ g2⟩
  | false=>
   have hv3:=dP.1 hv2;rw[hv2]at h2;clear hv2;rw[if_neg (by simp),if_neg (by simp)];have MX:=fun W hW=>hset W hW hv3;clear hset;generalize f x=c at *;go_enter Tryz.func199,Tryz.ntmps199;go_wp2_with fail;refine(h1 _).mono ?_;rintro e w1 ⟨rfl,rfl⟩;go_wp2_with fail;refine hco.mono ?_;rintro e w2 ⟨rfl,g2⟩;obtain⟨c0,c1,c2⟩:=Az g2;go_wp2_with fail;refine(h2 _).mono ?_;rintro e w3 ⟨rfl,rfl⟩;go_wp2_with fail;refine(MX _ g2).mono ?_;rintro e w4 ⟨rfl,ht,hk⟩;go_wp2;go_ret;exact⟨rfl,ht,(OX.o _ g2).trans hk (fun _ _ h=>h)⟩
theorem Aj{f:Tm->Int}(x:Tm)(w:World)(h:Tl w tb b g n f):
    Calls Tryz.prog 152 #[.pointer (some ⟨tb,0,none⟩),tv x] w fun e w'=>e= .returned (.int .i64 (f x))/\Gr w w':=by
 have HG:Hid (Gr w (bx x w)):=(Gr.refl _).alloc _;have hco:=dM x (bx x w) (h.gr HG.o);generalize f x=c at hco⊢;clear h;go_enter Tryz.func152,Tryz.ntmps152;go_wp2_with fail;refine hco.mono ?_;rintro e w1 ⟨rfl,g1⟩;go_wp2;go_ret;exact⟨rfl,HG.o.trans g1⟩
theorem gB{f:Tm->Int}(w:World)(h:Tl w tb b g n f):
    Calls Tryz.prog 253 #[.pointer (some ⟨tb,0,none⟩)] w fun e w'=>∃ks:List Tm,oU f ks/\e= .returned (.int .i64 ks.length)/\w'=w:=by
 have c1:=h.c1;obtain⟨D,hown,h1,h2⟩:=h.ta;obtain⟨ks,hks,hl⟩:=mg hown h2;have hlen:=fun ty=>hown.len Tryz.underlying301 ty;clear h h1 h2 hown;go_enter Tryz.func253,Tryz.ntmps253;go_wp2;go_ret;exact⟨ks,hks,by rw[hl];rfl,rfl⟩
end Tt
section
open Go.RowKit Go.Sort Go.Maps
attribute [local go_sem ↓] Go.wp_at_zero Go.wp_at_succ
abbrev Dl:=Tm×Int
def ED:El Dl where
 k:=4
 enc d:=[.int .u64 d.1.1.1, .int .u64 d.1.1.2.1, .int .u64 d.1.1.2.2, .int .i64 d.2]
 len _:=rfl
 one x u hu:=by
  simp at hu;rcases hu with rfl|rfl|rfl|rfl<;>rfl
theorem Ls.at4{v:Value}{ts:List Dl}(h:Ls ED w v ts){j:Nat}{t:Dl}(hj:ts[j]? =some t):
    ∃b off c,v= .slice (some ⟨b,off,none⟩) ts.length c/\b<w.heap.size/\w.cell? ⟨b,off+j*4,none⟩=some (.int .u64 t.1.1.1)/\w.cell? ⟨b,off+j*4+1,none⟩=some (.int .u64 t.1.1.2.1)/\w.cell? ⟨b,off+j*4+2,none⟩=some (.int .u64 t.1.1.2.2)/\w.cell? ⟨b,off+j*4+3,none⟩=some (.int .i64 t.2):=by
 obtain⟨b,off,c,hv,hb,hc⟩:=h.get hj;exact⟨b,off,c,hv,hb,hc 0 _ (by decide) rfl,hc 1 _ (by decide) rfl,hc 2 _ (by decide) rfl,hc 3 _ (by decide) rfl⟩
theorem Fb:(Tryz.prog.info? 163).map (fun i=>(i.zero,i.size,i.bytes))=some (some (.agg #[.int .u64 0, .int .u64 0, .int .u64 0, .int .i64 0]),4,32):=by kernel_rfl
theorem pE{ops:Array Oper}{rest:List Oper}{o:Oper}{a:Act}{Q:Exit->Act->World->Prop}(hgd:o.guard=none)(s x:Operand)
    (ho:o.op= .call { callee:= .builtin .append,args:=#[s,x],argTypes:=#[159,159] })
    (base:Nat) (v:Value) (n:Nat) (xs:List Value) (hs:a.eval s=v) (hown:w.ownsRow base 163 4 v n xs)
    (t:Dl) (hx:a.eval x= .slice (some ⟨w.heap.size,0,none⟩) 1 1) (hbig:(n+1)*32<=140737488355328) (hbase:base<=w.heap.size)
    (h:∀g cap w',w'.ownsRow base 163 4 (.slice (some ⟨g,0,none⟩) (n+1) cap) (n+1) (xs++ED.enc t)->w.grownBy w' v.ownBlock->(v.ownBlock=some g\/w.heap.size<=g)->wpList Tryz.prog ops Q rest (a.put o.dst (.slice (some ⟨g,0,none⟩) (n+1) cap)) w') :
    wpList Tryz.prog ops Q (o::rest) a (w.alloc (.cells #[.int .u64 t.1.1.1, .int .u64 t.1.1.2.1, .int .u64 t.1.1.2.2, .int .i64 t.2] 163)):=
 fM ED Tryz.underlying159 Fb rfl (by decide) hgd s x ho base v n xs hs hown t hx hbig (by unfold maxLen;omega) hbase _ rfl _ h
abbrev cv(tb:Nat):Value:= .agg #[.pointer (some ⟨tb,0,none⟩)]
open Tt (Tl dQ dP)
theorem rQ(n:Int)(w:World):Calls Tryz.prog 198 #[.int .i64 n] w fun e w'=>e= .returned (.bool (dQ n))/\w'=w:=by
 unfold dQ;go_enter Tryz.func198,Tryz.ntmps198;go_wp2;all_goals (go_ret;refine⟨?_,rfl⟩;simp_all)
theorem kT{f:Tm->Int}(x:Tm)(w:World)(h:Tl w tb b g n f):
    Calls Tryz.prog 89 #[cv tb,tv x] w fun e w'=>e= .returned (.int .i64 (f x))/\Gr w w':=by
 have HG:Hid (∀o1 o2,Gr w ((w.alloc o1).alloc o2)):=fun _ _=>((Gr.refl _).alloc _).alloc _;have hco:=fun o1 o2=>Tt.Aj x _ (h.gr (HG.o o1 o2));generalize f x=c at hco⊢;clear h;go_enter Tryz.func89,Tryz.ntmps89;go_wp2_with fail;refine(hco _ _).mono ?_;rintro e w1 ⟨rfl,g1⟩;go_wp2;go_ret;exact⟨rfl,(HG.o _ _).trans g1⟩
def qO(f:Tm->Int)(us:List Dl):Tm->Int:=us.foldl (fun g d=>upd g d.1 d.2) f
theorem uL{f:Tm->Int}{us:List Dl}{k:Nat}{d:Dl}(h:us[k]? =some d):qO f (us.take (k+1))=upd (qO f (us.take k)) d.1 d.2:=by
 unfold qO;rw[List.take_add_one,h,List.foldl_append];rfl
theorem Pb{K:Type}[DecidableEq K](f:K->Int)(x:K)(a b:Int):upd (upd f x a) x b=upd f x b:=by
 funext t
 unfold upd;split<;>rfl
theorem JX{f:Tm->Int}{x:Tm}(h: -2147483647<=f x/\f x<=2147483647):Tt.wM f x (- f x)=upd f x 0:=by
 unfold Tt.wM;have h1:dQ (- f x)=false:=dP.2 (by omega);have h2:f x+ - f x=0:=by omega
 rw[h1,h2,if_neg (by simp[dQ])]
theorem Og{f:Tm->Int}{x:Tm}{v:Int}(h:dQ v=false):Tt.wM (upd f x 0) x v=upd f x v:=by
 unfold Tt.wM;rw[upd_same,Int.zero_add,h,if_neg (by simp),Pb]
theorem Md{f:Tm->Int}(us:List Dl)(v:Value)(w:World)(h:Tl w tb b g n f)(hv:Ls ED w v us)(hne:v.ownBlock≠some b)(hbd:∀d∈us,dQ d.2=false)(hn:n+2*us.length<4611686018427387904):
    Calls Tryz.prog 140 #[cv tb,v] w fun e w'=>e= .returned (.tuple #[])/\Tl w' tb b g (n+2*us.length) (qO f us)/\Kp (fun k=>k=b) w w':=by
 have hmx:Tryz.prog.follows .mixedOrders=true:=by kernel_rfl
 obtain⟨pl,cl,rfl⟩:=hv.form;obtain⟨W1,hW1⟩:=aB (w.alloc (.cells #[.pointer (some ⟨tb,0,none⟩)] 176));have G1:Gr w W1:=by rw[hW1];exact(Gr.refl _).alloc _
 have hz:w.heap.size<W1.heap.size:=by rw[hW1];simp
 have c0:W1.cell? ⟨w.heap.size,0,none⟩=some (.pointer (some ⟨tb,0,none⟩)):=by rw[hW1];simp
 have HL:Hid (Ls ED W1 (.slice pl us.length cl) us):=hv.below G1.below;have HT:Hid (Tl W1 tb b g n f):=h.gr G1;have HG:Hid (Gr w W1):=G1;have HN:Hid ((Value.slice pl us.length cl).ownBlock≠some b):=hne;have uh:Hid (∀d∈us,dQ d.2=false):=hbd;obtain⟨B0,hB0⟩:=aB (w.heap.size);have hbB:b≠B0:=by have:=h.ta.lt;omega
 have hz0:B0<W1.heap.size:=by omega
 rw[<-hB0]at c0;clear h hv hne hbd G1 hz;go_enter Tryz.func140,Tryz.ntmps140;go_wp2_with fail;rw[<-hW1,<-hB0];clear hW1 hB0;go_loopw [5,8] (fun _ s8 wr=>∃k:Nat,k<=us.length/\s8= .int .i64 k/\Hid (Tl wr tb b g (n+2*k) (qO f (us.take k))/\Kp (fun k=>k=b) W1 wr)) (fun _ s8 _=>us.length-(RowKit.intOf s8).toNat);case atStart=>exact⟨0,Nat.zero_le _,rfl,HT.o,Kp.refl _ _⟩
 case round=>
  obtain⟨k,hk,rfl,HI⟩:=hrel;by_cases hlt:k<us.length
  ·have hltz:(k:Int)<(us.length:Int):=(by omega);obtain⟨d,hd⟩:∃d,us[k]? =some d:=⟨us[k],by simp⟩;obtain⟨b1,o1,c1,e1,z1,x1,x2,x3,x4⟩:=(HI.o.2.ls HL.o (fun j hj hs=>HN.o (hs ▸ hj))).at4 hd;simp only[vS]at e1;obtain⟨rfl,-,rfl⟩:=e1;have HS:Hid (qO f (us.take (k+1))=upd (qO f (us.take k)) d.1 d.2):=uL hd;have hdb:dQ d.2=false:=uh.o d (lM hd);have hdr:=dP.1 hdb;clear hd;generalize qO f (us.take k)=F at *;obtain⟨W2,hW2⟩:=aB (wr.alloc (.cells #[.int .u64 d.1.1.1, .int .u64 d.1.1.2.1, .int .u64 d.1.1.2.2, .int .i64 d.2] 163));obtain⟨nb,hnb⟩:=aB (wr.heap.size);have G2:Gr wr W2:=(by rw[hW2];exact(Gr.refl _).alloc _);have HG2:Hid (Gr wr W2.drew):=G2.drew;have HT2:Hid (Tl W2.drew tb b g (n+2*k) F):=HI.o.1.gr G2.drew;have hFb:=HI.o.1.bd d.1;have hbw:b<wr.heap.size:=HI.o.1.ta.lt;have S0:(W2.drew.cell? ⟨B0,0,none⟩=some (.pointer (some ⟨tb,0,none⟩))/\W2.drew.cell? ⟨nb,0,none⟩=some (.int .u64 d.1.1.1)/\W2.drew.cell? ⟨nb,1,none⟩=some (.int .u64 d.1.1.2.1)/\W2.drew.cell? ⟨nb,2,none⟩=some (.int .u64 d.1.1.2.2)/\W2.drew.cell? ⟨nb,3,none⟩=some (.int .i64 d.2)/\B0<W2.drew.heap.size/\nb<W2.drew.heap.size):=by
    have hB0:B0<wr.heap.size:=nL hz0 HI.o.2.size;have e0:wr.cell? ⟨B0,0,none⟩=some (.pointer (some ⟨tb,0,none⟩)):=(HI.o.2.cell hz0 (fun e=>hbB e.symm)).trans c0;have hblk:W2.heap[nb]? =some (.cells #[.int .u64 d.1.1.1, .int .u64 d.1.1.2.1, .int .u64 d.1.1.2.2, .int .i64 d.2] 163 (0,0)):=(by rw[hW2,hnb];exact ai _ _);refine⟨(G2.drew.cell hB0).trans e0, ?_, ?_, ?_, ?_,nL hB0 G2.size, ?_⟩;all_goals first|exact(aG.1 hblk).1|(show W2.cell? _=_;simp only[World.cell?];rw[hblk];rfl)
   have Qy:nb≠b:=(by omega);have gQ:∀W W':World,(W.cell? ⟨B0,0,none⟩=some (.pointer (some ⟨tb,0,none⟩))/\W.cell? ⟨nb,0,none⟩=some (.int .u64 d.1.1.1)/\W.cell? ⟨nb,1,none⟩=some (.int .u64 d.1.1.2.1)/\W.cell? ⟨nb,2,none⟩=some (.int .u64 d.1.1.2.2)/\W.cell? ⟨nb,3,none⟩=some (.int .i64 d.2)/\B0<W.heap.size/\nb<W.heap.size)->Gr W W'->(W'.cell? ⟨B0,0,none⟩=some (.pointer (some ⟨tb,0,none⟩))/\W'.cell? ⟨nb,0,none⟩=some (.int .u64 d.1.1.1)/\W'.cell? ⟨nb,1,none⟩=some (.int .u64 d.1.1.2.1)/\W'.cell? ⟨nb,2,none⟩=some (.int .u64 d.1.1.2.2)/\W'.cell? ⟨nb,3,none⟩=some (.int .i64 d.2)/\B0<W'.heap.size/\nb<W'.heap.size):=fun W W' h hg=>
    ⟨(hg.cell h.2.2.2.2.2.1).trans h.1,(hg.cell h.2.2.2.2.2.2).trans h.2.1,(hg.cell h.2.2.2.2.2.2).trans h.2.2.1,(hg.cell h.2.2.2.2.2.2).trans h.2.2.2.1,(hg.cell h.2.2.2.2.2.2).trans h.2.2.2.2.1,nL h.2.2.2.2.2.1 hg.size,nL h.2.2.2.2.2.2 hg.size⟩
   have MK:∀W W':World,(W.cell? ⟨B0,0,none⟩=some (.pointer (some ⟨tb,0,none⟩))/\W.cell? ⟨nb,0,none⟩=some (.int .u64 d.1.1.1)/\W.cell? ⟨nb,1,none⟩=some (.int .u64 d.1.1.2.1)/\W.cell? ⟨nb,2,none⟩=some (.int .u64 d.1.1.2.2)/\W.cell? ⟨nb,3,none⟩=some (.int .i64 d.2)/\B0<W.heap.size/\nb<W.heap.size)->Kp (fun k=>k=b) W W'->(W'.cell? ⟨B0,0,none⟩=some (.pointer (some ⟨tb,0,none⟩))/\W'.cell? ⟨nb,0,none⟩=some (.int .u64 d.1.1.1)/\W'.cell? ⟨nb,1,none⟩=some (.int .u64 d.1.1.2.1)/\W'.cell? ⟨nb,2,none⟩=some (.int .u64 d.1.1.2.2)/\W'.cell? ⟨nb,3,none⟩=some (.int .i64 d.2)/\B0<W'.heap.size/\nb<W'.heap.size):=fun W W' h hg=>
    ⟨(hg.cell h.2.2.2.2.2.1 (fun e=>hbB e.symm)).trans h.1,(hg.cell h.2.2.2.2.2.2 Qy).trans h.2.1,(hg.cell h.2.2.2.2.2.2 Qy).trans h.2.2.1,(hg.cell h.2.2.2.2.2.2 Qy).trans h.2.2.2.1,(hg.cell h.2.2.2.2.2.2 Qy).trans h.2.2.2.2.1,nL h.2.2.2.2.2.1 hg.size,nL h.2.2.2.2.2.2 hg.size⟩
   have hCo:∀W,Tl W tb b g (n+2*k) F->_:=fun W h=>kT d.1 W h;have hA1:∀W,Tl W tb b g (n+2*k) F->_:=fun W h=>Tt.nM d.1 (- F d.1) W h (by unfold maxLen;omega);have hA2:∀W,Tl W tb b g (n+2*k+1) (upd F d.1 0)->_:=fun W h=>Tt.nM d.1 d.2 W h (by unfold maxLen;omega);rw[JX hFb]at hA1;rw[Og hdb]at hA2;generalize Tt.Dp F d.1 (- F d.1)=r1 at hA1;generalize Tt.Dp (upd F d.1 0) d.1 d.2=r2 at hA2;have hneg:IntKind.i64.wrap (- F d.1)= - F d.1:=(by rw[IntKind.wrap_i64];omega);have HF1:Hid (F d.1=F d.1):=rfl;generalize F d.1=c at hCo hA1 hneg;clear HF1 hFb;go_wp2_with fail;rw[<-hW2,<-hnb];clear hW2 hnb x1 x2 x3 x4;go_region_held3 (fun w'=>w'.cell? ⟨B0,0,none⟩=some (.pointer (some ⟨tb,0,none⟩))/\w'.cell? ⟨nb,0,none⟩=some (.int .u64 d.1.1.1)/\w'.cell? ⟨nb,1,none⟩=some (.int .u64 d.1.1.2.1)/\w'.cell? ⟨nb,2,none⟩=some (.int .u64 d.1.1.2.2)/\w'.cell? ⟨nb,3,none⟩=some (.int .i64 d.2)/\B0<w'.heap.size/\nb<w'.heap.size)
    (first|exact S0|exact gQ _ _ (by assumption) (by assumption)|exact MK _ _ (by assumption) (by assumption))
    (first|(go_at_call 89;refine(hCo _ HT2.o).mono ?_;rintro e w5 ⟨rfl,hg5⟩)|(go_at_call 199;refine(hA1 _ (HT2.o.gr hg5)).mono ?_;rintro e w6 ⟨rfl,ht6,Jz⟩))
   have S6:(w6.cell? ⟨B0,0,none⟩=some (.pointer (some ⟨tb,0,none⟩))/\w6.cell? ⟨nb,0,none⟩=some (.int .u64 d.1.1.1)/\w6.cell? ⟨nb,1,none⟩=some (.int .u64 d.1.1.2.1)/\w6.cell? ⟨nb,2,none⟩=some (.int .u64 d.1.1.2.2)/\w6.cell? ⟨nb,3,none⟩=some (.int .i64 d.2)/\B0<w6.heap.size/\nb<w6.heap.size):=MK _ _ (gQ _ _ S0 hg5) Jz;have K6:Hid (Kp (fun k=>k=b) wr w6):=((Kp.aU (HG2.o.trans hg5)).trans Jz (fun _ _ h=>h));have T6:Hid (Tl w6 tb b g (n+2*k+1) (upd F d.1 0)):=ht6;obtain⟨y1,y2,y3,y4,y5,y6,y7⟩:=S6;clear S0 gQ MK hCo hA1 hg5 Jz ht6;go_wp2_with fail;refine(hA2 _ T6.o).mono ?_;rintro e w7 ⟨rfl,OJ,M9⟩;go_wp2;refine⟨⟨k+1,by omega,by go_num, ?_,HI.o.2.trans (K6.o.trans M9 (fun _ _ h=>h)) (fun _ _ h=>h)⟩,by simp[RowKit.intOf];omega⟩;rw[HS.o];exact OJ
  ·have hltz:¬(k:Int)<(us.length:Int):=(by omega);have hk':k=us.length:=(by omega);subst hk';rw[List.take_length]at HI;go_wp2;go_end0;exact⟨rfl,HI.o.1,(Kp.aU HG.o).trans HI.o.2 (fun _ _ h=>h)⟩
end
end Go.Proofs.YteekbpokkjjipaaGreat
