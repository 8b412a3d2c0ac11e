import Derived.Test.YtiiefcalkjeieaaGreatJ4
import Derived.Sort.KeysCollected
import Derived.Defers
import Derived.Recover
import Derived.Maps.AppendAt
import Derived.Sort.OwnSorted
variable{tb b g n k:Nat}{w:Go.World}{K:Type}
set_option maxHeartbeats 4000000
set_option maxRecDepth 100000
namespace Go.Proofs.YtiiefcalkjeieaaGreat
namespace Tt
open Go.RowKit Go.Sort Go.Maps
attribute[local go_sem ↓]wp_at_zero wp_at_succ
theorem zeroE(w:World):(zeroValue 2).run Tryz.prog w= .ok (.int .i64 0) w:=by kernel_rfl
def dV(n:Int):Bool:=decide (n < -2147483647)|| decide (2147483647<n)
theorem dH{n:Int}:dV n=false↔-2147483647<=n/\n<=2147483647:=by unfold dV;simp
theorem gF(n:Int)(w:World):Calls Tryz.prog 143 #[.int .i64 n] w fun e w'=>e= .returned (.bool (dV n))/\w'=w:=by
 unfold dV;go_enter Tryz.func143,Tryz.ntmps143;go_wp2;all_goals (go_ret;refine⟨?_,rfl⟩;simp_all)
structure Tl(w:World)(tb b g n:Nat)(f:Tm->Int):Prop where
 blk:w.heap[tb]? =some (.cells #[fv g, .map (some b)] 309 (0,0))
 ta:Ta ZT 2 w b n f
 bd:∀s,-2147483647<=f s/\f s<=2147483647
section
variable {w w':World} {tb b g n:Nat} {f:Tm->Int}
theorem Tl.lt(h:Tl w tb b g n f):tb<w.heap.size:=(aG.1 h.blk).1
theorem Tl.c0(h:Tl w tb b g n f):w.cell? ⟨tb,0,none⟩=some (fv g):=by simp[World.cell?,h.blk]
theorem Tl.c1(h:Tl w tb b g n f):w.cell? ⟨tb,1,none⟩=some (.map (some b)):=by simp[World.cell?,h.blk]
theorem Tl.ne(h:Tl w tb b g n f):tb≠b:=fun e=>by
 obtain⟨D,⟨es,clock,hb,_⟩,_⟩:=h.ta;rw[<-e,h.blk]at hb;cases hb
theorem Tl.kp{S:Nat->Prop}(h:Tl w tb b g n f)(hk:Kp S w w')(h1:¬S tb)(h2:¬S b):Tl w' tb b g n f:=
 ⟨(hk.block tb h.lt h1).trans h.blk,h.ta.kept (hk.block b h.ta.lt h2),h.bd⟩
theorem Tl.below(h:Tl w tb b g n f)(hb:Below w.heap.size w w'):Tl w' tb b g n f:=h.kp (S:=fun _=>False) (Kp.of_below hb) (fun h=>h) (fun h=>h)
theorem Tl.gr(h:Tl w tb b g n f)(hb:Gr w w'):Tl w' tb b g n f:=h.below hb.below
end
theorem dF(g:Nat)(w:World):Calls Tryz.prog 172 #[fv g] w fun e w'=>e= .returned (.pointer (some ⟨w.heap.size+1,0,none⟩))/\Tl w' (w.heap.size+1) w.heap.size g 0 (fun _=>0)/\Gr w w':=by
 have hmm:=@run_makeMap Tryz.prog;go_enter Tryz.func172,Tryz.ntmps172;go_wp2;go_ret;refine⟨rfl,⟨?_, ?_,fun _=> ?_⟩,((Gr.refl _).alloc _).alloc _⟩
 ·exact heap_alloc2_new _ _ _
 ·exact(Ta.made w).kept ((heap_alloc2_old _ _ _).trans (MapKept.heap_alloc w _).1.symm)
 ·decide
theorem lu(w:World):CallsD Tryz.prog 259 #[] .returning w fun e u' w'=>e= .returned (.tuple #[])/\u'= .returning/\w'=w:=by
 refine callsD_of_wpS Tryz.func259 rfl fun c₀ cs hu=> ?_;apply wpS_region;simp[wpOpsS,go_sem,recoverD,hu,Tryz.ntmps259,bodyPostS,results,Tryz.results259];cases c₀
 simp_all
abbrev bx(x:Tm)(w:World):World:=w.alloc (.cells #[.int .u64 x.1.1, .int .u64 x.1.2.1, .int .u64 x.1.2.2] 45)
theorem dU{f:Tm->Int}(x:Tm)(w:World)(h:Tl w tb b g n f):
    Calls Tryz.prog 212 #[.pointer (some ⟨tb,0,none⟩),tv x] w fun e w'=>e= .returned (.tuple #[.int .i64 (f x), .bool true])/\Gr w w':=by
 have hmx:Tryz.prog.follows .mixedOrders=true:=by kernel_rfl
 have HT:Hid (Tl (bx x w).drew tb b g n f):=(h.gr ((Gr.refl _).alloc _)).gr (Gr.refl _).drew;have hblk:(bx x w).heap[w.heap.size]? =some (.cells #[.int .u64 x.1.1, .int .u64 x.1.2.1, .int .u64 x.1.2.2] 45 (0,0)):=heap_alloc_new _ _;have S0:(bx x w).drew.cell? ⟨tb,1,none⟩=some (.map (some b))/\(bx x w).drew.cell? ⟨w.heap.size,0,none⟩=some (.int .u64 x.1.1)/\(bx x w).drew.cell? ⟨w.heap.size,1,none⟩=some (.int .u64 x.1.2.1)/\(bx x w).drew.cell? ⟨w.heap.size,2,none⟩=some (.int .u64 x.1.2.2):=by
  refine⟨HT.o.c1, ?_, ?_, ?_⟩<;>(show(bx x w).cell? _=_;simp only[World.cell?];rw[hblk];rfl)
 obtain⟨D,hown,h1,h2⟩:=HT.o.ta;have hx:=h1 x;obtain⟨c,hrun,hat,_⟩:=hown.lookup_int ZT.law Tryz.underlying301 Tryz.underlying2 (zeroE _) (ZT.key x);have e0:c=f x:=by
  rw[hx]at hat;simpa using hat.symm
 subst e0;have hrun:(Instr.lookup 301 (.map (some b)) (tv x) false).run Tryz.prog (bx x w).drew= .ok (.int .i64 (f x)) (bx x w).drew:=hrun;have hG:Gr w (bx x w).drew:=((Gr.refl _).alloc _).drew;clear hx hat h1 h2 hown h HT hblk;generalize f x=r at hrun⊢;go_enter_defers Tryz.func212,Tryz.ntmps212;go_wp2_with fail;go_region_held3 (fun w'=>w'.cell? ⟨tb,1,none⟩=some (.map (some b))/\w'.cell? ⟨w.heap.size,0,none⟩=some (.int .u64 x.1.1)/\w'.cell? ⟨w.heap.size,1,none⟩=some (.int .u64 x.1.2.1)/\w'.cell? ⟨w.heap.size,2,none⟩=some (.int .u64 x.1.2.2))
  (first|exact S0) (fail)
 go_wp2;refine leaves_cons (f:=259) (args:=#[]) (by simp) (by simp[go_sem]) ?_;refine(lu _).mono ?_;rintro e u' w'' ⟨rfl,rfl,rfl⟩;simp[Leaves,settle,results,Tryz.results212,go_sem];exact hG
theorem bV(x:Tm)(w:World):(bx x w).cell? ⟨w.heap.size,0,none⟩=some (.int .u64 x.1.1)/\(bx x w).cell? ⟨w.heap.size,1,none⟩=some (.int .u64 x.1.2.1)/\(bx x w).cell? ⟨w.heap.size,2,none⟩=some (.int .u64 x.1.2.2):=by
 have hblk:(bx x w).heap[w.heap.size]? =some (.cells #[.int .u64 x.1.1, .int .u64 x.1.2.1, .int .u64 x.1.2.2] 45 (0,0)):=heap_alloc_new _ _;refine⟨?_, ?_, ?_⟩<;>(simp only[World.cell?];rw[hblk];rfl)
theorem Bd{f:Tm->Int}(x:Tm)(v:Int)(w:World)(h:Tl w tb b g n f)(hn:n<maxLen)(hv: -2147483647<=v/\v<=2147483647):
    Calls Tryz.prog 251 #[.pointer (some ⟨tb,0,none⟩),tv x, .int .i64 v] w fun e w'=>e= .returned (.tuple #[])/\Tl w' tb b g (n+1) (upd f x v)/\Kp (fun k=>k=b) w w':=by
 have hmx:Tryz.prog.follows .mixedOrders=true:=by kernel_rfl
 have HT:Hid (Tl (bx x w).drew tb b g n f):=(h.gr ((Gr.refl _).alloc _)).gr (Gr.refl _).drew;have HG:Hid (Gr w (bx x w).drew):=((Gr.refl _).alloc _).drew;have S0:(bx x w).drew.cell? ⟨tb,1,none⟩=some (.map (some b))/\(bx x w).drew.cell? ⟨w.heap.size,0,none⟩=some (.int .u64 x.1.1)/\(bx x w).drew.cell? ⟨w.heap.size,1,none⟩=some (.int .u64 x.1.2.1)/\(bx x w).drew.cell? ⟨w.heap.size,2,none⟩=some (.int .u64 x.1.2.2):=
  ⟨HT.o.c1,(bV x w).1,(bV x w).2.1,(bV x w).2.2⟩
 have Pg:∀s,-2147483647<=upd f x v s/\upd f x v s<=2147483647:=fun s=>by unfold upd;split;exact hv;exact h.bd s
 have vK:Hid (∀s,-2147483647<=upd f x v s/\upd f x v s<=2147483647):=Pg;obtain⟨D,hown,h1,h2⟩:=HT.o.ta;have hne:=HT.o.ne;have hlt:=HT.o.lt;have hbl:b<w.heap.size:=h.ta.lt;have hbx:w.heap.size<(bx x w).drew.heap.size:=by show w.heap.size<(bx x w).heap.size;simp
 clear h Pg;by_cases h0:v=0
 ·subst h0;have ht:=EE h1 h2 x;obtain⟨w1,hrun,hown1,hturn1⟩:=hown.drop ZT.law Tryz.underlying301 (ZT.key x) 0;have hrun:Sem.run Tryz.prog (Builtin.delete_ #[301,45] 0 #[.map (some b),tv x]) (bx x w).drew= .ok (.tuple #[]) w1:=hrun;have qE:Hid ((bx x w).drew.grownBy w1 (some b)):=hturn1.grown;have S1:w1.cell? ⟨tb,1,none⟩=some (.map (some b))/\w1.cell? ⟨w.heap.size,0,none⟩=some (.int .u64 x.1.1)/\w1.cell? ⟨w.heap.size,1,none⟩=some (.int .u64 x.1.2.1)/\w1.cell? ⟨w.heap.size,2,none⟩=some (.int .u64 x.1.2.2):=by
   have e1:∀q,w1.cell? ⟨tb,q,none⟩=(bx x w).drew.cell? ⟨tb,q,none⟩:=fun q=>yY (a:=⟨tb,q,none⟩) (qE.o.block tb hlt (by simp[hne]));have e2:∀q,w1.cell? ⟨w.heap.size,q,none⟩=(bx x w).drew.cell? ⟨w.heap.size,q,none⟩:=fun q=>yY (a:=⟨w.heap.size,q,none⟩) (qE.o.block w.heap.size hbx (by simp;omega));exact⟨(e1 1).trans S0.1,(e2 0).trans S0.2.1,(e2 1).trans S0.2.2.1,(e2 2).trans S0.2.2.2⟩
  have HE:Hid (Tl w1 tb b g (n+1) (upd f x 0)/\Kp (fun k=>k=b) w w1):=
   ⟨⟨(qE.o.block tb hlt (by simp[hne])).trans HT.o.blk,⟨_,hown1.mono (Nat.le_succ _),ht.1,ht.2⟩,vK.o⟩,(Kp.aX (S:=fun k=>k=b) HG.o).trans (Kp.grownBy (S:=fun k=>k=b) qE.o (fun k hk=>by simpa using hk.symm)) (fun _ _ h=>h)⟩
  clear h1 h2 hown hown1 hturn1 qE vK HT HG hlt hbx;go_enter Tryz.func251,Tryz.ntmps251;go_wp2_with fail;go_region_held3 (fun w'=>w'.cell? ⟨tb,1,none⟩=some (.map (some b))/\w'.cell? ⟨w.heap.size,0,none⟩=some (.int .u64 x.1.1)/\w'.cell? ⟨w.heap.size,1,none⟩=some (.int .u64 x.1.2.1)/\w'.cell? ⟨w.heap.size,2,none⟩=some (.int .u64 x.1.2.2))
   (first|exact S0|exact S1) (fail)
  go_wp2;refine bR (results_none rfl _ _ _) rfl ?_;exact⟨rfl,HE.o.1,HE.o.2⟩
 ·have ht:=Dw (hown.isMap) h1 h2 x v h0;have hwf:(Lit.int .i64 v).wf=true:=WalkArith.wf_i64 (by omega);obtain⟨w1,hrun,hown1,hturn1⟩:=hown.store ZT.law Tryz.underlying301 hn (ZT.key x) (plainElem_int Tryz.underlying2 hwf);have hrun:(Instr.mapUpdate 301 (.map (some b)) (tv x) (.int .i64 v)).run Tryz.prog (bx x w).drew= .ok () w1:=hrun;have qE:Hid ((bx x w).drew.grownBy w1 (some b)):=hturn1.grown;have S1:w1.cell? ⟨tb,1,none⟩=some (.map (some b))/\w1.cell? ⟨w.heap.size,0,none⟩=some (.int .u64 x.1.1)/\w1.cell? ⟨w.heap.size,1,none⟩=some (.int .u64 x.1.2.1)/\w1.cell? ⟨w.heap.size,2,none⟩=some (.int .u64 x.1.2.2):=by
   have e1:∀q,w1.cell? ⟨tb,q,none⟩=(bx x w).drew.cell? ⟨tb,q,none⟩:=fun q=>yY (a:=⟨tb,q,none⟩) (qE.o.block tb hlt (by simp[hne]));have e2:∀q,w1.cell? ⟨w.heap.size,q,none⟩=(bx x w).drew.cell? ⟨w.heap.size,q,none⟩:=fun q=>yY (a:=⟨w.heap.size,q,none⟩) (qE.o.block w.heap.size hbx (by simp;omega));exact⟨(e1 1).trans S0.1,(e2 0).trans S0.2.1,(e2 1).trans S0.2.2.1,(e2 2).trans S0.2.2.2⟩
  have HE:Hid (Tl w1 tb b g (n+1) (upd f x v)/\Kp (fun k=>k=b) w w1):=
   ⟨⟨(qE.o.block tb hlt (by simp[hne])).trans HT.o.blk,⟨_,hown1,ht.1,ht.2⟩,vK.o⟩,(Kp.aX (S:=fun k=>k=b) HG.o).trans (Kp.grownBy (S:=fun k=>k=b) qE.o (fun k hk=>by simpa using hk.symm)) (fun _ _ h=>h)⟩
  clear h1 h2 hown hown1 hturn1 qE vK HT HG hlt hbx;go_enter Tryz.func251,Tryz.ntmps251;go_wp2_with fail;go_region_held3 (fun w'=>w'.cell? ⟨tb,1,none⟩=some (.map (some b))/\w'.cell? ⟨w.heap.size,0,none⟩=some (.int .u64 x.1.1)/\w'.cell? ⟨w.heap.size,1,none⟩=some (.int .u64 x.1.2.1)/\w'.cell? ⟨w.heap.size,2,none⟩=some (.int .u64 x.1.2.2))
   (first|exact S0|exact S1) (fail)
  go_wp2;go_end0;exact⟨rfl,HE.o.1,HE.o.2⟩
theorem Cs{x:Tm}{w2:World}(h:Gr (bx x w) w2):w2.cell? ⟨w.heap.size,0,none⟩=some (.int .u64 x.1.1)/\w2.cell? ⟨w.heap.size,1,none⟩=some (.int .u64 x.1.2.1)/\w2.cell? ⟨w.heap.size,2,none⟩=some (.int .u64 x.1.2.2):=by
 have hz:w.heap.size<(bx x w).heap.size:=by simp
 exact⟨(h.cell hz).trans (bV x w).1,(h.cell hz).trans (bV x w).2.1,(h.cell hz).trans (bV x w).2.2⟩
def E8(f:Tm->Int)(x:Tm)(v:Int):Int:=if dV v=true\/dV (f x+v)=true then 12 else 0
def yl(f:Tm->Int)(x:Tm)(v:Int):Tm->Int:=if dV v=true\/dV (f x+v)=true then f else upd f x (f x+v)
theorem oV{f:Tm->Int}(x:Tm)(v:Int)(w:World)(h:Tl w tb b g n f)(hn:n<maxLen):
    Calls Tryz.prog 199 #[.pointer (some ⟨tb,0,none⟩),tv x, .int .i64 v] w fun e w'=>e= .returned (.int .i64 (E8 f x v))/\Tl w' tb b g (n+1) (yl f x v)/\Kp (fun k=>k=b) w w':=by
 have hb:=h.bd x;have HG:Hid (Gr w (bx x w)):=(Gr.refl _).alloc _;have HT:Hid (Tl (bx x w) tb b g n f):=h.gr HG.o;have hco:=dU x (bx x w) HT.o;have hset:=fun(W:World) (hW:Gr (bx x w) W) (hv: -2147483647<=f x+v/\f x+v<=2147483647)=>Bd x (f x+v) W (HT.o.gr hW) hn hv;have h1:=fun W=>gF v W;have h2:=fun W=>gF (f x+v) W;have QV:Hid (∀W,Gr (bx x w) W->Kp (fun k=>k=b) w W):=fun W hW=>(Kp.aX (HG.o.trans hW));unfold E8 yl;clear h;cases hv:dV v with
 | true=>
  rw[hv]at h1;clear hv;rw[if_pos (Or.inl rfl),if_pos (Or.inl rfl)];go_enter Tryz.func199,Tryz.ntmps199;go_wp2_with fail;refine(h1 _).mono ?_;rintro e w1 ⟨rfl,rfl⟩;go_wp2;go_ret;exact⟨rfl,⟨HT.o.blk,HT.o.ta.mono (Nat.le_succ _),HT.o.bd⟩,QV.o _ (Gr.refl _)⟩
 | false=>
  have hv':=dH.1 hv;rw[hv]at h1;clear hv;cases hv2:dV (f x+v)with
  | true=>
   rw[hv2]at h2;clear hv2 hset;rw[if_pos (Or.inr rfl),if_pos (Or.inr rfl)];generalize f x=c at *;go_enter Tryz.func199,Tryz.ntmps199;go_wp2_with fail;refine(h1 _).mono ?_;rintro e w1 ⟨rfl,rfl⟩;go_wp2_with fail;refine hco.mono ?_;rintro e w2 ⟨rfl,g2⟩;go_wp2_with fail;refine(h2 _).mono ?_;rintro e w3 ⟨rfl,rfl⟩;go_wp2;go_ret;have ht:=HT.o.gr g2;exact⟨rfl,⟨ht.blk,ht.ta.mono (Nat.le_succ _),ht.bd⟩,QV.o _ g2⟩
  | false=>
   have hv3:=dH.1 hv2;rw[hv2]at h2;clear hv2;rw[if_neg (by simp),if_neg (by simp)];have OY:=fun W hW=>hset W hW hv3;clear hset;generalize f x=c at *;go_enter Tryz.func199,Tryz.ntmps199;go_wp2_with fail;refine(h1 _).mono ?_;rintro e w1 ⟨rfl,rfl⟩;go_wp2_with fail;refine hco.mono ?_;rintro e w2 ⟨rfl,g2⟩;obtain⟨c0,c1,c2⟩:=Cs g2;go_wp2_with fail;refine(h2 _).mono ?_;rintro e w3 ⟨rfl,rfl⟩;go_wp2_with fail;refine(OY _ g2).mono ?_;rintro e w4 ⟨rfl,ht,hk⟩;go_wp2;go_ret;exact⟨rfl,ht,(QV.o _ g2).trans hk (fun _ _ h=>h)⟩
theorem BX{f:Tm->Int}(x:Tm)(w:World)(h:Tl w tb b g n f):
    Calls Tryz.prog 152 #[.pointer (some ⟨tb,0,none⟩),tv x] w fun e w'=>e= .returned (.int .i64 (f x))/\Gr w w':=by
 have HG:Hid (Gr w (bx x w)):=(Gr.refl _).alloc _;have hco:=dU x (bx x w) (h.gr HG.o);generalize f x=c at hco⊢;clear h;go_enter Tryz.func152,Tryz.ntmps152;go_wp2_with fail;refine hco.mono ?_;rintro e w1 ⟨rfl,g1⟩;go_wp2;go_ret;exact⟨rfl,HG.o.trans g1⟩
theorem gQ{f:Tm->Int}(w:World)(h:Tl w tb b g n f):
    Calls Tryz.prog 253 #[.pointer (some ⟨tb,0,none⟩)] w fun e w'=>∃ks:List Tm,qz f ks/\e= .returned (.int .i64 ks.length)/\w'=w:=by
 have c1:=h.c1;obtain⟨D,hown,h1,h2⟩:=h.ta;obtain⟨ks,hks,hl⟩:=mZ hown h2;have hlen:=fun ty=>hown.len Tryz.underlying301 ty;clear h h1 h2 hown;go_enter Tryz.func253,Tryz.ntmps253;go_wp2;go_ret;exact⟨ks,hks,by rw[hl];rfl,rfl⟩
end Tt
section
open Go.RowKit Go.Sort Go.Maps
attribute[local go_sem ↓]wp_at_zero wp_at_succ
abbrev Dl:=Tm×Int
def ED:El Dl where
 k:=4
 enc d:=[.int .u64 d.1.1.1, .int .u64 d.1.1.2.1, .int .u64 d.1.1.2.2, .int .i64 d.2]
 len _:=rfl
 one x u hu:=by
  simp at hu;rcases hu with rfl|rfl|rfl|rfl<;>rfl
theorem Ls.at4{v:Value}{ts:List Dl}(h:Ls ED w v ts){j:Nat}{t:Dl}(hj:ts[j]? =some t):
    ∃b off c,v= .slice (some ⟨b,off,none⟩) ts.length c/\b<w.heap.size/\w.cell? ⟨b,off+j*4,none⟩=some (.int .u64 t.1.1.1)/\w.cell? ⟨b,off+j*4+1,none⟩=some (.int .u64 t.1.1.2.1)/\w.cell? ⟨b,off+j*4+2,none⟩=some (.int .u64 t.1.1.2.2)/\w.cell? ⟨b,off+j*4+3,none⟩=some (.int .i64 t.2):=by
 obtain⟨b,off,c,hv,hb,hc⟩:=h.get hj;exact⟨b,off,c,hv,hb,hc 0 _ (by decide) rfl,hc 1 _ (by decide) rfl,hc 2 _ (by decide) rfl,hc 3 _ (by decide) rfl⟩
theorem GV:(Tryz.prog.info? 163).map (fun i=>(i.zero,i.size,i.bytes))=some (some (.agg #[.int .u64 0, .int .u64 0, .int .u64 0, .int .i64 0]),4,32):=by kernel_rfl
theorem qG{ops:Array Oper}{rest:List Oper}{o:Oper}{a:Act}{Q:Exit->Act->World->Prop}(hgd:o.guard=none)(s x:Operand)
    (ho:o.op= .call { callee:= .builtin .append,args:=#[s,x],argTypes:=#[159,159] })
    (base:Nat) (v:Value) (n:Nat) (xs:List Value) (hs:a.eval s=v) (hown:w.ownsRow base 163 4 v n xs)
    (t:Dl) (hx:a.eval x= .slice (some ⟨w.heap.size,0,none⟩) 1 1) (hbig:(n+1)*32<=140737488355328) (hbase:base<=w.heap.size)
    (h:∀g cap w',w'.ownsRow base 163 4 (.slice (some ⟨g,0,none⟩) (n+1) cap) (n+1) (xs++ED.enc t)->w.grownBy w' v.ownBlock->(v.ownBlock=some g\/w.heap.size<=g)->wpList Tryz.prog ops Q rest (a.put o.dst (.slice (some ⟨g,0,none⟩) (n+1) cap)) w') :
    wpList Tryz.prog ops Q (o::rest) a (w.alloc (.cells #[.int .u64 t.1.1.1, .int .u64 t.1.1.2.1, .int .u64 t.1.1.2.2, .int .i64 t.2] 163)):=
 gu ED Tryz.underlying159 GV rfl (by decide) hgd s x ho base v n xs hs hown t hx hbig (by unfold maxLen;omega) hbase _ rfl _ h
abbrev cv(tb:Nat):Value:= .agg #[.pointer (some ⟨tb,0,none⟩)]
open Tt (Tl dV dH)
theorem uk(n:Int)(w:World):Calls Tryz.prog 198 #[.int .i64 n] w fun e w'=>e= .returned (.bool (dV n))/\w'=w:=by
 unfold dV;go_enter Tryz.func198,Tryz.ntmps198;go_wp2;all_goals (go_ret;refine⟨?_,rfl⟩;simp_all)
theorem lF{f:Tm->Int}(x:Tm)(w:World)(h:Tl w tb b g n f):
    Calls Tryz.prog 89 #[cv tb,tv x] w fun e w'=>e= .returned (.int .i64 (f x))/\Gr w w':=by
 have HG:Hid (∀o1 o2,Gr w ((w.alloc o1).alloc o2)):=fun _ _=>((Gr.refl _).alloc _).alloc _;have hco:=fun o1 o2=>Tt.BX x _ (h.gr (HG.o o1 o2));generalize f x=c at hco⊢;clear h;go_enter Tryz.func89,Tryz.ntmps89;go_wp2_with fail;refine(hco _ _).mono ?_;rintro e w1 ⟨rfl,g1⟩;go_wp2;go_ret;exact⟨rfl,(HG.o _ _).trans g1⟩
def sw(f:Tm->Int)(us:List Dl):Tm->Int:=us.foldl (fun g d=>upd g d.1 d.2) f
theorem wF{f:Tm->Int}{us:List Dl}{d:Dl}(h:us[k]? =some d):sw f (us.take (k+1))=upd (sw f (us.take k)) d.1 d.2:=by
 unfold sw;rw[tO,h,List.foldl_append];rfl
theorem Ri[DecidableEq K](f:K->Int)(x:K)(a b:Int):upd (upd f x a) x b=upd f x b:=by
 funext t
 unfold upd;split<;>rfl
theorem LF{f:Tm->Int}{x:Tm}(h: -2147483647<=f x/\f x<=2147483647):Tt.yl f x (- f x)=upd f x 0:=by
 unfold Tt.yl;have h1:dV (- f x)=false:=dH.2 (by omega);have h2:f x+ - f x=0:=by omega
 rw[h1,h2,if_neg (by simp[dV])]
theorem Qk{f:Tm->Int}{x:Tm}{v:Int}(h:dV v=false):Tt.yl (upd f x 0) x v=upd f x v:=by
 unfold Tt.yl;rw[upd_same,Int.zero_add,h,if_neg (by simp),Ri]
theorem NS{f:Tm->Int}(us:List Dl)(v:Value)(w:World)(h:Tl w tb b g n f)(hv:Ls ED w v us)(hne:v.ownBlock≠some b)(hbd:∀d∈us,dV d.2=false)(hn:n+2*us.length<4611686018427387904):
    Calls Tryz.prog 140 #[cv tb,v] w fun e w'=>e= .returned (.tuple #[])/\Tl w' tb b g (n+2*us.length) (sw f us)/\Kp (fun k=>k=b) w w':=by
 have hmx:Tryz.prog.follows .mixedOrders=true:=by kernel_rfl
 obtain⟨pl,cl,rfl⟩:=hv.form;obtain⟨W1,hW1⟩:=aC (w.alloc (.cells #[.pointer (some ⟨tb,0,none⟩)] 176));have G1:Gr w W1:=by rw[hW1];exact(Gr.refl _).alloc _
 have hz:w.heap.size<W1.heap.size:=by rw[hW1];simp
 have c0:W1.cell? ⟨w.heap.size,0,none⟩=some (.pointer (some ⟨tb,0,none⟩)):=by rw[hW1];simp
 have HL:Hid (Ls ED W1 (.slice pl us.length cl) us):=hv.below G1.below;have HT:Hid (Tl W1 tb b g n f):=h.gr G1;have HG:Hid (Gr w W1):=G1;have HN:Hid ((Value.slice pl us.length cl).ownBlock≠some b):=hne;have vK:Hid (∀d∈us,dV d.2=false):=hbd;obtain⟨B0,hB0⟩:=aC (w.heap.size);have hbB:b≠B0:=by have:=h.ta.lt;omega
 have hz0:B0<W1.heap.size:=by omega
 rw[<-hB0]at c0;clear h hv hne hbd G1 hz;go_enter Tryz.func140,Tryz.ntmps140;go_wp2_with fail;rw[<-hW1,<-hB0];clear hW1 hB0;go_loopw [5,8] (fun _ s8 wr=>∃k:Nat,k<=us.length/\s8= .int .i64 k/\Hid (Tl wr tb b g (n+2*k) (sw f (us.take k))/\Kp (fun k=>k=b) W1 wr)) (fun _ s8 _=>us.length-(intOf s8).toNat);case atStart=>exact⟨0,zL _,rfl,HT.o,Kp.refl _ _⟩
 case round=>
  obtain⟨k,hk,rfl,HI⟩:=hrel;by_cases hlt:k<us.length
  ·have hltz:(k:Int)<(us.length:Int):=(by omega);obtain⟨d,hd⟩:∃d,us[k]? =some d:=⟨us[k],by simp⟩;obtain⟨b1,o1,c1,e1,z1,x1,x2,x3,x4⟩:=(HI.o.2.ls HL.o (fun j hj hs=>HN.o (hs ▸ hj))).at4 hd;simp only[vS]at e1;obtain⟨rfl,-,rfl⟩:=e1;have HS:Hid (sw f (us.take (k+1))=upd (sw f (us.take k)) d.1 d.2):=wF hd;have hdb:dV d.2=false:=vK.o d (lM hd);have hdr:=dH.1 hdb;clear hd;generalize sw f (us.take k)=F at *;obtain⟨W2,hW2⟩:=aC (wr.alloc (.cells #[.int .u64 d.1.1.1, .int .u64 d.1.1.2.1, .int .u64 d.1.1.2.2, .int .i64 d.2] 163));obtain⟨nb,hnb⟩:=aC (wr.heap.size);have G2:Gr wr W2:=(by rw[hW2];exact(Gr.refl _).alloc _);have HG2:Hid (Gr wr W2.drew):=G2.drew;have HT2:Hid (Tl W2.drew tb b g (n+2*k) F):=HI.o.1.gr G2.drew;have hFb:=HI.o.1.bd d.1;have hbw:b<wr.heap.size:=HI.o.1.ta.lt;have S0:(W2.drew.cell? ⟨B0,0,none⟩=some (.pointer (some ⟨tb,0,none⟩))/\W2.drew.cell? ⟨nb,0,none⟩=some (.int .u64 d.1.1.1)/\W2.drew.cell? ⟨nb,1,none⟩=some (.int .u64 d.1.1.2.1)/\W2.drew.cell? ⟨nb,2,none⟩=some (.int .u64 d.1.1.2.2)/\W2.drew.cell? ⟨nb,3,none⟩=some (.int .i64 d.2)/\B0<W2.drew.heap.size/\nb<W2.drew.heap.size):=by
    have hB0:B0<wr.heap.size:=nL hz0 HI.o.2.size;have e0:wr.cell? ⟨B0,0,none⟩=some (.pointer (some ⟨tb,0,none⟩)):=(HI.o.2.cell hz0 (fun e=>hbB e.symm)).trans c0;have hblk:W2.heap[nb]? =some (.cells #[.int .u64 d.1.1.1, .int .u64 d.1.1.2.1, .int .u64 d.1.1.2.2, .int .i64 d.2] 163 (0,0)):=(by rw[hW2,hnb];exact ah _ _);refine⟨(G2.drew.cell hB0).trans e0, ?_, ?_, ?_, ?_,nL hB0 G2.size, ?_⟩;all_goals first|exact(aG.1 hblk).1|(show W2.cell? _=_;simp only[World.cell?];rw[hblk];rfl)
   have Tf:nb≠b:=(by omega);have ic:∀W W':World,(W.cell? ⟨B0,0,none⟩=some (.pointer (some ⟨tb,0,none⟩))/\W.cell? ⟨nb,0,none⟩=some (.int .u64 d.1.1.1)/\W.cell? ⟨nb,1,none⟩=some (.int .u64 d.1.1.2.1)/\W.cell? ⟨nb,2,none⟩=some (.int .u64 d.1.1.2.2)/\W.cell? ⟨nb,3,none⟩=some (.int .i64 d.2)/\B0<W.heap.size/\nb<W.heap.size)->Gr W W'->(W'.cell? ⟨B0,0,none⟩=some (.pointer (some ⟨tb,0,none⟩))/\W'.cell? ⟨nb,0,none⟩=some (.int .u64 d.1.1.1)/\W'.cell? ⟨nb,1,none⟩=some (.int .u64 d.1.1.2.1)/\W'.cell? ⟨nb,2,none⟩=some (.int .u64 d.1.1.2.2)/\W'.cell? ⟨nb,3,none⟩=some (.int .i64 d.2)/\B0<W'.heap.size/\nb<W'.heap.size):=fun W W' h hg=>
    ⟨(hg.cell h.2.2.2.2.2.1).trans h.1,(hg.cell h.2.2.2.2.2.2).trans h.2.1,(hg.cell h.2.2.2.2.2.2).trans h.2.2.1,(hg.cell h.2.2.2.2.2.2).trans h.2.2.2.1,(hg.cell h.2.2.2.2.2.2).trans h.2.2.2.2.1,nL h.2.2.2.2.2.1 hg.size,nL h.2.2.2.2.2.2 hg.size⟩
   have OA:∀W W':World,(W.cell? ⟨B0,0,none⟩=some (.pointer (some ⟨tb,0,none⟩))/\W.cell? ⟨nb,0,none⟩=some (.int .u64 d.1.1.1)/\W.cell? ⟨nb,1,none⟩=some (.int .u64 d.1.1.2.1)/\W.cell? ⟨nb,2,none⟩=some (.int .u64 d.1.1.2.2)/\W.cell? ⟨nb,3,none⟩=some (.int .i64 d.2)/\B0<W.heap.size/\nb<W.heap.size)->Kp (fun k=>k=b) W W'->(W'.cell? ⟨B0,0,none⟩=some (.pointer (some ⟨tb,0,none⟩))/\W'.cell? ⟨nb,0,none⟩=some (.int .u64 d.1.1.1)/\W'.cell? ⟨nb,1,none⟩=some (.int .u64 d.1.1.2.1)/\W'.cell? ⟨nb,2,none⟩=some (.int .u64 d.1.1.2.2)/\W'.cell? ⟨nb,3,none⟩=some (.int .i64 d.2)/\B0<W'.heap.size/\nb<W'.heap.size):=fun W W' h hg=>
    ⟨(hg.cell h.2.2.2.2.2.1 (fun e=>hbB e.symm)).trans h.1,(hg.cell h.2.2.2.2.2.2 Tf).trans h.2.1,(hg.cell h.2.2.2.2.2.2 Tf).trans h.2.2.1,(hg.cell h.2.2.2.2.2.2 Tf).trans h.2.2.2.1,(hg.cell h.2.2.2.2.2.2 Tf).trans h.2.2.2.2.1,nL h.2.2.2.2.2.1 hg.size,nL h.2.2.2.2.2.2 hg.size⟩
   have hCo:∀W,Tl W tb b g (n+2*k) F->_:=fun W h=>lF d.1 W h;have hA1:∀W,Tl W tb b g (n+2*k) F->_:=fun W h=>Tt.oV d.1 (- F d.1) W h (by unfold maxLen;omega);have hA2:∀W,Tl W tb b g (n+2*k+1) (upd F d.1 0)->_:=fun W h=>Tt.oV d.1 d.2 W h (by unfold maxLen;omega);rw[LF hFb]at hA1;rw[Qk hdb]at hA2;generalize Tt.E8 F d.1 (- F d.1)=r1 at hA1;generalize Tt.E8 (upd F d.1 0) d.1 d.2=r2 at hA2;have hneg:IntKind.i64.wrap (- F d.1)= - F d.1:=(by rw[IntKind.wrap_i64];omega);have HF1:Hid (F d.1=F d.1):=rfl;generalize F d.1=c at hCo hA1 hneg;clear HF1 hFb;go_wp2_with fail;rw[<-hW2,<-hnb];clear hW2 hnb x1 x2 x3 x4;go_region_held3 (fun w'=>w'.cell? ⟨B0,0,none⟩=some (.pointer (some ⟨tb,0,none⟩))/\w'.cell? ⟨nb,0,none⟩=some (.int .u64 d.1.1.1)/\w'.cell? ⟨nb,1,none⟩=some (.int .u64 d.1.1.2.1)/\w'.cell? ⟨nb,2,none⟩=some (.int .u64 d.1.1.2.2)/\w'.cell? ⟨nb,3,none⟩=some (.int .i64 d.2)/\B0<w'.heap.size/\nb<w'.heap.size)
    (first|exact S0|exact ic _ _ (by assumption) (by assumption)|exact OA _ _ (by assumption) (by assumption))
    (first|(go_at_call 89;refine(hCo _ HT2.o).mono ?_;rintro e w5 ⟨rfl,hg5⟩)|(go_at_call 199;refine(hA1 _ (HT2.o.gr hg5)).mono ?_;rintro e w6 ⟨rfl,ht6,Xd⟩))
   have S6:(w6.cell? ⟨B0,0,none⟩=some (.pointer (some ⟨tb,0,none⟩))/\w6.cell? ⟨nb,0,none⟩=some (.int .u64 d.1.1.1)/\w6.cell? ⟨nb,1,none⟩=some (.int .u64 d.1.1.2.1)/\w6.cell? ⟨nb,2,none⟩=some (.int .u64 d.1.1.2.2)/\w6.cell? ⟨nb,3,none⟩=some (.int .i64 d.2)/\B0<w6.heap.size/\nb<w6.heap.size):=OA _ _ (ic _ _ S0 hg5) Xd;have K6:Hid (Kp (fun k=>k=b) wr w6):=((Kp.aX (HG2.o.trans hg5)).trans Xd (fun _ _ h=>h));have T6:Hid (Tl w6 tb b g (n+2*k+1) (upd F d.1 0)):=ht6;obtain⟨y1,y2,y3,y4,y5,y6,y7⟩:=S6;clear S0 ic OA hCo hA1 hg5 Xd ht6;go_wp2_with fail;refine(hA2 _ T6.o).mono ?_;rintro e w7 ⟨rfl,QI,Pb⟩;go_wp2;refine⟨⟨k+1,by omega,by go_num, ?_,HI.o.2.trans (K6.o.trans Pb (fun _ _ h=>h)) (fun _ _ h=>h)⟩,by simp[intOf];omega⟩;rw[HS.o];exact QI
  ·have hltz:¬(k:Int)<(us.length:Int):=(by omega);have hk':k=us.length:=(by omega);subst hk';rw[tK]at HI;go_wp2;go_end0;exact⟨rfl,HI.o.1,(Kp.aX HG.o).trans HI.o.2 (fun _ _ h=>h)⟩
open Tt (Tl dV dH)
def sm(ds:List Dl):Tm->Int:=ds.foldl (fun g d=>upd g d.1 (wrap64 (g d.1+d.2))) (fun _=>0)
theorem A8{ds:List Dl}{d:Dl}(h:ds[k]? =some d):sm (ds.take (k+1))=upd (sm (ds.take k)) d.1 (wrap64 (sm (ds.take k) d.1+d.2)):=by
 unfold sm;rw[tO,h,List.foldl_append];rfl
def bP(f:Tm->Int)(ds:List Dl)(t:Tm):Int:=wrap64 (sm ds t+f t)
def bad(f:Tm->Int)(ds:List Dl):Bool:=ds.any (fun d=>dV d.2)|| ds.any (fun d=>dV (bP f ds d.1))
theorem wf_wrap(z:Int):(Lit.int .i64 (wrap64 z)).wf=true:=WalkArith.wf_i64 (by unfold wrap64;omega)
theorem ou.all{P:Program}{k:TypeId}[DecidableEq K]{Z:KK P k K}{D:DataW Unit}{left:Lit->Bool}{ss ks:List K}(h:ou Z D left ss)(h2:∀s,Maps.has D (Z.lit s)=true↔s∈ks)(hl:∀kl,left kl=false):ss.Nodup/\∀s,s∈ss↔s∈ks:=
 ⟨h.1,fun s=>by rw[h.2 s,hl,h2];simp⟩
theorem MB{key:Value}{kl:Lit}(h:keyOf Tryz.prog 45 key=some kl):∃x,key=tv x:=by
 obtain⟨x,hx,_⟩:=ZT.inv _ _ h;exact⟨x,hx⟩
theorem IG{f:Tm->Int}(ds:List Dl)(v:Value)(w:World)(h:Tl w tb b g n f)(hv:Ls ED w v ds)(hl:ds.length*32<=140737488355328):
    Calls Tryz.prog 139 #[cv tb,v] w fun e w'=>Below w.heap.size w w'/\
     ((bad f ds=true/\e= .returned (.tuple #[.slice none 0 0, .bool false]))\/
      (bad f ds=false/\∃(ks:List Tm) (v':Value),(ks.Nodup/\∀t,t∈ks↔t∈ds.map Prod.fst)/\e= .returned (.tuple #[v', .bool true])/\w'.ownsRow w.heap.size 163 4 v' ks.length (fl ED (ks.map fun t=>(t,bP f ds t))))):=by
 have hmx:Tryz.prog.follows .mixedOrders=true:=by kernel_rfl
 have hmm:=@run_makeMap Tryz.prog;obtain⟨pl,cl,rfl⟩:=hv.form;obtain⟨W1,hW1⟩:=aC ((w.alloc (.cells #[.pointer (some ⟨tb,0,none⟩)] 176)).alloc (.map #[] 0));have G1:Gr w W1:=by rw[hW1];exact((Gr.refl _).alloc _).alloc _
 obtain⟨B0,hB0⟩:=aC (w.heap.size);obtain⟨mb,hmb⟩:=aC (w.heap.size+1);have hz:B0<W1.heap.size:=by rw[hW1];simp;omega
 have c0:W1.cell? ⟨B0,0,none⟩=some (.pointer (some ⟨tb,0,none⟩)):=by rw[hW1,hB0];simp
 have Qu:Hid (Mq ZT 2 W1 mb 0 (fun _=>0) []):=by
  have:=Mq.made (Z:=ZT) (e:=2) (w.alloc (.cells #[.pointer (some ⟨tb,0,none⟩)] 176));rw[hW1,hmb];simpa[Hid]using this
 have HL:Hid (Ls ED W1 (.slice pl ds.length cl) ds):=hv.below G1.below;have HLB:Hid (∀k,(Value.slice pl ds.length cl).ownBlock=some k->k<w.heap.size):=hv.blk;have HT:Hid (Tl w tb b g n f):=h;have HG:Hid (Gr w W1):=G1;have hbm:B0≠mb:=by omega
 have hbw:w.heap.size<=mb:=by omega
 have HBB:Hid (B0=w.heap.size):=hB0;clear h hv G1;go_enter Tryz.func139,Tryz.ntmps139;go_wp2_with fail;rw[<-hW1,<-hmb,<-hB0];clear hW1 hmb hB0;go_loopw [8,15] (fun _ s15 wr=>∃k:Nat,k<=ds.length/\s15= .int .i64 k/\Hid (Mq ZT 2 wr mb k (sm (ds.take k)) ((ds.take k).map Prod.fst)/\Kp (fun j=>j=mb) W1 wr/\∀d∈ds.take k,dV d.2=false)) (fun _ s15 _=>ds.length-(intOf s15).toNat);case atStart=>exact⟨0,zL _,rfl,by simpa[sm]using Qu.o,Kp.refl _ _,by simp⟩
 case round=>
  obtain⟨k,hk,rfl,HI⟩:=hrel;have jG:Hid (Below w.heap.size w wr):=HG.o.below.trans (HI.o.2.1.below HG.o.size (fun j hj=>by omega));by_cases hlt:k<ds.length
  ·have hltz:(k:Int)<(ds.length:Int):=(by omega);obtain⟨d,hd⟩:∃d,ds[k]? =some d:=⟨ds[k],by simp⟩;have Hr:d∈ds:=lM hd;obtain⟨b1,o1,c1,e1,z1,x1,x2,x3,x4⟩:=(HI.o.2.1.ls HL.o (fun j hj hs=>by have:=HLB.o j hj;omega)).at4 hd;simp only[vS]at e1;obtain⟨rfl,-,rfl⟩:=e1;have HS:Hid (sm (ds.take (k+1))=upd (sm (ds.take k)) d.1 (wrap64 (sm (ds.take k) d.1+d.2))):=A8 hd;have rX:Hid (ds.take (k+1)=ds.take k++[d]):=(by rw[tO,hd];rfl);have hbe:=uk d.2;have HD:Hid (ds[k]? =some d):=hd;have HDM:Hid (d∈ds):=Hr;clear hd Hr;cases hq:dV d.2 with
   | true=>
    rw[hq]at hbe;go_wp2_with (go_at_call 198;refine(hbe _).mono ?_;rintro e w2 ⟨rfl,rfl⟩);go_ret2;refine⟨jG.o.trans (((Gr.refl _).alloc _).below.mono jG.o.size),Or.inl ⟨?_,rfl⟩⟩;unfold bad;rw[Bool.or_eq_true];exact Or.inl (List.any_eq_true.2 ⟨d,HDM.o,hq⟩)
   | false=>
    rw[hq]at hbe;obtain⟨W2,hW2⟩:=aC (wr.alloc (.cells #[.int .u64 d.1.1.1, .int .u64 d.1.1.2.1, .int .u64 d.1.1.2.2, .int .i64 d.2] 163));obtain⟨nb,hnb⟩:=aC (wr.heap.size);have G2:Gr wr W2:=(by rw[hW2];exact(Gr.refl _).alloc _);have WW:mb<wr.heap.size:=HI.o.1.lt;have hM2:Mq ZT 2 W2.drew mb k (sm (ds.take k)) ((ds.take k).map Prod.fst):=HI.o.1.kept (G2.drew.below.block mb WW);obtain⟨v0,st,w1,w2,hL0,hE,hL1,hSt,hM3,hg1,hg2⟩:=hM2.bump (t:=301) Oq Tryz.underlying301 Tryz.underlying2 Tt.zeroE (by unfold maxLen;omega) d.1 (wrap64 (sm (ds.take k) d.1+d.2)) (wf_wrap _);have HW2:Hid (Mq ZT 2 w2 mb (k+1) (sm (ds.take (k+1))) ((ds.take (k+1)).map Prod.fst)/\Kp (fun j=>j=mb) W1 w2/\∀d∈ds.take (k+1),dV d.2=false):=by
     refine⟨?_,HI.o.2.1.trans ((Kp.aX (S:=fun j=>j=mb) G2.drew).trans (Kp.grownBy (S:=fun j=>j=mb) hg2 (fun j hj=>by simpa using hj.symm)) (fun _ _ h=>h)) (fun _ _ h=>h), ?_⟩
     ·rw[HS.o,rX.o];simpa using hM3
     ·rw[rX.o];intro e he;rcases j4.1 he with he|he
      ·exact HI.o.2.2 e he
      ·simp at he;subst he;exact hq
    have hblk:W2.heap[nb]? =some (.cells #[.int .u64 d.1.1.1, .int .u64 d.1.1.2.1, .int .u64 d.1.1.2.2, .int .i64 d.2] 163 (0,0)):=(by rw[hW2,hnb];exact ah _ _);have hnl:nb<W2.drew.heap.size:=(aG.1 hblk).1;have y0:∀q,w1.cell? ⟨nb,q,none⟩=W2.drew.cell? ⟨nb,q,none⟩:=fun q=>yY (a:=⟨nb,q,none⟩) (hg1.block nb hnl (by simp;omega));have q0:W2.cell? ⟨nb,0,none⟩=some (.int .u64 d.1.1.1):=(by simp only[World.cell?];rw[hblk];rfl);have q1:W2.cell? ⟨nb,1,none⟩=some (.int .u64 d.1.1.2.1):=(by simp only[World.cell?];rw[hblk];rfl);have q2:W2.cell? ⟨nb,2,none⟩=some (.int .u64 d.1.1.2.2):=(by simp only[World.cell?];rw[hblk];rfl);have q3:W2.cell? ⟨nb,3,none⟩=some (.int .i64 d.2):=(by simp only[World.cell?];rw[hblk];rfl);have r0:=(y0 0).trans q0;have r1:=(y0 1).trans q1;have r2:=(y0 2).trans q2;have r3:=(y0 3).trans q3;have hL0:(Instr.lookup 301 (.map (some mb)) (tv d.1) false).run Tryz.prog W2.drew= .ok (.int .i64 (sm (ds.take k) d.1)) W2.drew:=hL0;have hL1:(Instr.lookup 301 (.map (some mb)) (tv d.1) false).run Tryz.prog w1= .ok (.int .i64 (sm (ds.take k) d.1)) w1:=hL1;have hE:(Instr.mapEntry 301 (.map (some mb)) (tv d.1)).run Tryz.prog W2.drew= .ok (.tuple #[v0, .int .i64 st]) w1:=hE;have hSt:(Instr.entryStore 301 (.map (some mb)) (.int .i64 st) (.int .i64 (wrap64 (sm (ds.take k) d.1+d.2)))).run Tryz.prog w1= .ok () w2:=hSt;generalize sm (ds.take k) d.1=c at hL0 hL1 hSt;go_wp2_with (go_at_call 198;refine(hbe _).mono ?_;rintro e w2 ⟨rfl,rfl⟩);rw[<-hW2,<-hnb];clear hW2 hnb x1 x2 x3 x4 hblk y0 hM2 hM3 hg1 hg2 G2;go_region;all_goals go_wp2
    all_goals exact⟨⟨k+1,by omega,by go_num,HW2.o⟩,by simp[intOf];omega⟩
  ·have hltz:¬(k:Int)<(ds.length:Int):=(by omega);have hk':k=ds.length:=(by omega);subst hk';have hD:=HI.o.1;have vK:Hid (∀d∈ds,dV d.2=false):=(by have:=HI.o.2.2;rw[tK]at this;exact this);rw[tK]at hD;obtain⟨D,hown,h1,h2⟩:=hD;have h1':Hid (∀s,D.atKey (ZT.lit s) (nd 0)=nd (sm ds s)):=h1;have hsz:=hown.size_le;have hlen:=fun ty=>hown.len Tryz.underlying301 ty;have H2:Hid (∀s,Maps.has D (ZT.lit s)=true↔s∈ds.map Prod.fst):=h2;have c0r:wr.cell? ⟨B0,0,none⟩=some (.pointer (some ⟨tb,0,none⟩)):=(HI.o.2.1.cell hz hbm).trans c0;have hzr:B0<wr.heap.size:=nL hz HI.o.2.1.size;have hbl:mb<wr.heap.size:=hown.lt;clear HI h1 h2 hltz hlt hk Qu c0 hz HL HLB HG;obtain⟨i0,hi,hz0,hz1,hz2⟩:=info_parts GV;obtain⟨wL,hwL⟩:∃x,x=wr:=⟨wr,rfl⟩;subst hwL;go_wp2_with (first
    | (at_make;refine wpList_make_own _ rfl _ _ 159 rfl wL.heap.size 163 i0 (.agg #[.int .u64 0, .int .u64 0, .int .u64 0, .int .i64 0]) 4 Tryz.underlying159 hi hz0 hz1 _ _ _ (Maps.size D) rfl rfl rfl (by rw[hz2];omega) (by unfold maxLen;omega) (nR _) ?_;intro w1 D9 hg1)
    | (at_range;refine wpList_range_own _ rfl _ 301 rfl 45 2 ZT.law Tryz.underlying301 _ mb ds.length _ rfl (hown.kept hg1 (by simp)) ?_;intro w0 hrg0 hg0 hs0)
    | go_in)
   go_frame;go_loopw [9,10,11] (fun v _ _ wr=>∃(left:Lit->Bool) (cnt:Nat) (ss:List Tm),wr.ranges Tryz.prog 45 (plainElem Tryz.prog 2) mb w1.heap.size ds.length D left cnt/\ss.length+cnt<=Maps.size D/\
       wr.ownsRow wL.heap.size 163 4 v ss.length (fl ED (ss.map fun t=>(t,bP f ds t)))/\v≠ .slice none 0 0/\ou ZT D left ss/\Below wL.heap.size wL wr/\Hid (∀t∈ss,dV (bP f ds t)=false))
    (fun _ _ _ wr=>wr.rangeLeft mb w1.heap.size)
   case atStart=>
    exact⟨_,_,[],hrg0,by simp,D9.kept hg0 (Or.inr (by simp[Value.ownBlock])),by simp,ou.start D,
     ((Below.refl _ _).grown hg1 (nR _) (fun j hj=>by cases hj)).grown hg0 hg1.size (fun j hj=>by cases hj),by simp[Hid]⟩
   case round=>
    obtain⟨left,cnt,ss,hrg,hcs,hrow,hnn,hC,hnx,HB⟩:=hrel;go_wp2_with (first
     | (at_next; refine wpList_next_ranges _ rfl _ rfl 45 ZT.law (plainElem Tryz.prog 2) tv (Value.int .i64) (fun key kl hk => MB hk) (fun v y hv=>by obtain⟨c,rfl,_⟩:=plainElem_int_inv Tryz.underlying2 hv;exact⟨c,rfl⟩) mb w1.heap.size ds.length _ _ _ rfl hrg ?_ ?_)
     | go_in)
    ·intro hc0 hl0;have hA:=hC.all H2.o hl0;go_wp2;go_ret2;refine⟨jG.o.trans (hnx.mono jG.o.size),Or.inr ⟨?_,ss,_,hA,rfl,aL hrow jG.o.size⟩⟩;unfold bad;rw[Bool.or_eq_false_iff,List.any_eq_false,List.any_eq_false];refine⟨fun d hd=>by rw[vK.o d hd];simp,fun d hd=>by rw[HB.o d.1 ((hA.2 d.1).2 (List.mem_map_of_mem hd))];simp⟩
    ·intro ta mr tc tp c kl yd yp w2 cnt2 hkey hlk hv hat hrg2 hlt2 hg2 hs2 hen;obtain⟨x,hx⟩:∃x:Tm,x=⟨(ta,mr,tc),tp⟩:=⟨_,rfl⟩;rw[<-hx]at hkey hen⊢;clear hx tp ta mr tc;obtain rfl:kl=ZT.lit x:=by
      have h7:=(ZT.key x).symm.trans hkey;exact(oJ h7).symm
     obtain rfl:c=sm ds x:=by
      obtain⟨c',e1,e2,_⟩:=plainElem_int_inv Tryz.underlying2 hv;have e3:=(h1'.o x).symm.trans (hat _);cases e1;cases e2;simpa using e3.symm
     have HXM:Hid (x∈ds.map Prod.fst):=(H2.o x).1 (has_true_of_atKey hat);have hrow2:=hrow.kept hg2 (Or.inr (row_ne_iter hrow hrg).symm);have B2:Below wL.heap.size wL w2:=hnx.grown hg2 hnx.size (fun j hj=>by cases hj;exact hg1.size);have IQ:=hC.step hlk hat;have c02:w2.cell? ⟨B0,0,none⟩=some (.pointer (some ⟨tb,0,none⟩)):=(B2.cell (p:=⟨B0,0,none⟩) hzr).trans c0r;have hz2':B0<w2.heap.size:=nL hzr B2.size;obtain⟨W3,hW3⟩:=aC (w2.alloc (.cells #[.int .u64 x.1.1, .int .u64 x.1.2.1, .int .u64 x.1.2.2] 45));obtain⟨nb,hnb⟩:=aC (w2.heap.size);have G3:Gr w2 W3:=(by rw[hW3];exact(Gr.refl _).alloc _);have B3:Below wL.heap.size wL W3:=B2.trans (G3.below.mono B2.size);have hco:=lF x W3 ((HT.o.below jG.o).below B3);have hblk:W3.heap[nb]? =some (.cells #[.int .u64 x.1.1, .int .u64 x.1.2.1, .int .u64 x.1.2.2] 45 (0,0)):=(by rw[hW3,hnb];exact ah _ _);have hnl:nb<W3.heap.size:=(aG.1 hblk).1;have q0:W3.cell? ⟨nb,0,none⟩=some (.int .u64 x.1.1):=(by simp only[World.cell?];rw[hblk];rfl);have q1:W3.cell? ⟨nb,1,none⟩=some (.int .u64 x.1.2.1):=(by simp only[World.cell?];rw[hblk];rfl);have q2:W3.cell? ⟨nb,2,none⟩=some (.int .u64 x.1.2.2):=(by simp only[World.cell?];rw[hblk];rfl);have c03:=(G3.cell hz2').trans c02;have hrow3:=ag hrow2 G3.below;have hrg3:=hrg2.kept (row:=none) ⟨G3.below.os,G3.below.tape,G3.below.output,G3.below.size,fun k hk _=>G3.below.block k hk⟩ (by simp) (by simp);have hbe:=uk (bP f ds x);have hnc:bP f ds x=wrap64 (sm ds x+f x):=rfl;rw[hnc]at hbe;have rY:Hid (fl ED ((ss++[x]).map fun t=>(t,bP f ds t))=fl ED (ss.map fun t=>(t,bP f ds t))++ED.enc (x,wrap64 (sm ds x+f x))):=by
      rw[CW,aQ,<-hnc];simp[Hid,fl]
     have Vo:Hid (bP f ds x=wrap64 (sm ds x+f x)):=hnc;clear hnc;generalize sm ds x=sx at *;generalize f x=fx at *;clear hs2 hblk hrow2 hrg2 hv hat hkey hlk;cases hq:dV (wrap64 (sx+fx))with
     | true=>
      rw[hq]at hbe;go_wp2_with fail;rw[<-hW3];refine hco.mono ?_;rintro e w4 ⟨rfl,hg4⟩;go_wp2_with (go_at_call 198;refine(hbe _).mono ?_;rintro e w5 ⟨rfl,rfl⟩);go_ret2;refine⟨jG.o.trans ((B3.trans (hg4.below.mono B3.size)).mono jG.o.size),Or.inl ⟨?_,rfl⟩⟩;unfold bad;rw[Bool.or_eq_true];obtain⟨d,hd,hdx⟩:=mM.1 HXM.o;exact Or.inr (List.any_eq_true.2 ⟨d,hd,by rw[hdx,Vo.o];exact hq⟩)
     | false=>
      rw[hq]at hbe;go_wp2_with fail;rw[<-hW3];refine hco.mono ?_;rintro e w4 ⟨rfl,hg4⟩;have r0:=(hg4.cell hnl).trans q0;have r1:=(hg4.cell hnl).trans q1;have r2:=(hg4.cell hnl).trans q2;have abz:=nL hnl hg4.size;rw[hnb]at r0 r1 r2 abz;have B4:Below wL.heap.size wL w4:=B3.trans (hg4.below.mono B3.size);have hrow4:=ag hrow3 hg4.below;have OZ:=hrg3.kept (row:=none) ⟨hg4.below.os,hg4.below.tape,hg4.below.output,hg4.below.size,fun k hk _=>hg4.below.block k hk⟩ (by simp) (by simp);clear q0 q1 q2 hrow3 hrg3 hco hg4;go_wp2_with (first
       | (go_at_call 198;refine(hbe _).mono ?_;rintro e w5 ⟨rfl,rfl⟩)
       | (at_builtin;refine qG rfl _ _ rfl wL.heap.size _ ss.length _ rfl hrow4 (x,wrap64 (sx+fx)) rfl (by omega) B4.size ?_;intro g' cap' w6 qD nK Ec)
       | go_in)
      have aad:=OZ.kept nK (row_ne_low hrow4 hbl) (row_ne_iter hrow4 OZ);go_roundw;case rel=>
       refine⟨_,cnt2,ss++[x],aad,by simp;omega, ?_,by simp,IQ, ?_,fun t ht=> ?_⟩
       ·rw[rY.o,dO];exact qD
       ·exact B4.trans ((Kp.grownBy (S:=fun k=>wL.heap.size<=k) nK (fun k hk=>(hrow4.lt k hk).1)).below B4.size (fun _ h=>h))
       ·rcases j4.1 ht with h|h
        ·exact HB.o t h
        ·simp at h;subst h;rw[Vo.o];exact hq
      case measure=>rw[aad.left_eq,hrg.left_eq];exact hlt2
end
end Go.Proofs.YtiiefcalkjeieaaGreat
