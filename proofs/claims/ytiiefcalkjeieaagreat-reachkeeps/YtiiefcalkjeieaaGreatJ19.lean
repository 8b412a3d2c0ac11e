import Derived.Test.YtiiefcalkjeieaaGreatJ3
import Derived.Sort.KeysCollected
import Derived.Defers
import Derived.Recover
import Derived.WideKeyEntry
import Derived.Deep.LoopGhost
variable{tb b g n:Nat}{w:Go.World}
set_option maxHeartbeats 4000000
set_option maxRecDepth 100000
namespace Go.Proofs.YtiiefcalkjeieaaGreat
namespace Tt
open Go.RowKit Go.Sort Go.Maps
attribute[local go_sem ↓]wp_at_zero wp_at_succ
theorem zeroE(w:World):(zeroValue 2).run Tryz.prog w= .ok (iV 0) w:=by kernel_rfl
def dW(n:Int):Bool:=decide (n < -2147483647)|| decide (2147483647<n)
theorem dK{n:Int}:dW n=false↔-2147483647<=n/\n<=2147483647:=by unfold dW;simp
theorem gI(n:Int)(w:World):CL 143 #[iV n] w fun e w'=>e= .returned (.bool (dW n))/\w'=w:=by
 unfold dW;go_enter Tryz.func143,Tryz.ntmps143;go_wp2;all_goals (go_ret;refine⟨?_,rfl⟩;simp_all)
structure Tl(w:World)(tb b g n:Nat)(f:Tm->Int):Prop where
 blk:w.heap[tb]? =some (.cells #[fv g, .map (some b)] 309 (0,0))
 ta:Ta ZT 2 w b n f
 bd:∀s,-2147483647<=f s/\f s<=2147483647
section
variable {w w':World} {tb b g n:Nat} {f:Tm->Int}
theorem Tl.lt(h:Tl w tb b g n f):tb<w.heap.size:=(aG.1 h.blk).1
theorem Tl.c0(h:Tl w tb b g n f):w.cell? ⟨tb,0,none⟩=some (fv g):=by simp[World.cell?,h.blk]
theorem Tl.c1(h:Tl w tb b g n f):w.cell? ⟨tb,1,none⟩=some (.map (some b)):=by simp[World.cell?,h.blk]
theorem Tl.ne(h:Tl w tb b g n f):tb≠b:=fun e=>by
 obtain⟨D,⟨es,clock,hb,_⟩,_⟩:=h.ta;rw[<-e,h.blk]at hb;cases hb
theorem Tl.kp{S:Nat->Prop}(h:Tl w tb b g n f)(hk:Kp S w w')(h1:¬S tb)(h2:¬S b):Tl w' tb b g n f:=
 ⟨(hk.block tb h.lt h1).trans h.blk,h.ta.kept (hk.block b h.ta.lt h2),h.bd⟩
theorem Tl.below(h:Tl w tb b g n f)(hb:Bw w w'):Tl w' tb b g n f:=h.kp (S:=fun _=>False) (Kp.of_below hb) (fun h=>h) (fun h=>h)
theorem Tl.gr(h:Tl w tb b g n f)(hb:Gr w w'):Tl w' tb b g n f:=h.below hb.below
end
theorem dI(g:Nat)(w:World):CL 172 #[fv g] w fun e w'=>e= .returned (.pointer (some ⟨w.heap.size+1,0,none⟩))/\Tl w' (w.heap.size+1) w.heap.size g 0 (fun _=>0)/\Gr w w':=by
 have hmm:=@run_makeMap Tryz.prog;go_enter Tryz.func172,Tryz.ntmps172;go_wp2;go_ret;refine⟨rfl,⟨?_, ?_,fun _=> ?_⟩,((Gr.refl _).alloc _).alloc _⟩
 ·exact heap_alloc2_new _ _ _
 ·exact(Ta.made w).kept ((heap_alloc2_old _ _ _).trans (MapKept.heap_alloc w _).1.symm)
 ·decide
theorem lH(w:World):CallsD Tryz.prog 259 #[] .returning w fun e u' w'=>e= .returned (.tuple #[])/\u'= .returning/\w'=w:=by
 refine callsD_of_wpS Tryz.func259 rfl fun c₀ cs hu=> ?_;apply wpS_region;simp[wpOpsS,go_sem,recoverD,hu,Tryz.ntmps259,bodyPostS,results,Tryz.results259];cases c₀
 simp_all
abbrev bx(x:Tm)(w:World):World:=w.alloc (.cells #[.int .u64 x.1.1, .int .u64 x.1.2.1, .int .u64 x.1.2.2] 45)
theorem dV{f:Tm->Int}(x:Tm)(w:World)(h:Tl w tb b g n f):
    CL 212 #[aB tb,tv x] w fun e w'=>e= .returned (.tuple #[iV (f x), .bool true])/\Gr w w':=by
 have hmx:Tryz.prog.follows .mixedOrders=true:=by kernel_rfl
 have HT:Hid (Tl (bx x w).drew tb b g n f):=(h.gr ((Gr.refl _).alloc _)).gr (Gr.refl _).drew;have hblk:(bx x w).heap[w.heap.size]? =some (.cells #[uV x.1.1,uV x.1.2.1,uV x.1.2.2] 45 (0,0)):=heap_alloc_new _ _;have S0:(bx x w).drew.cell? ⟨tb,1,none⟩=some (.map (some b))/\(bx x w).drew.cell? ⟨w.heap.size,0,none⟩=some (uV x.1.1)/\(bx x w).drew.cell? ⟨w.heap.size,1,none⟩=some (uV x.1.2.1)/\(bx x w).drew.cell? ⟨w.heap.size,2,none⟩=some (uV x.1.2.2):=by
  refine⟨HT.o.c1, ?_, ?_, ?_⟩<;>(show(bx x w).cell? _=_;simp only[World.cell?];rw[hblk];rfl)
 obtain⟨D,hown,h1,h2⟩:=HT.o.ta;have hx:=h1 x;obtain⟨c,hrun,hat,_⟩:=hown.lookup_int ZT.law Tryz.underlying301 Tryz.underlying2 (zeroE _) (ZT.key x);have e0:c=f x:=by
  rw[hx]at hat;simpa using hat.symm
 subst e0;have hrun:(Instr.lookup 301 (.map (some b)) (tv x) false).run Tryz.prog (bx x w).drew= .ok (iV (f x)) (bx x w).drew:=hrun;have hG:Gr w (bx x w).drew:=((Gr.refl _).alloc _).drew;clear hx hat h1 h2 hown h HT hblk;generalize f x=r at hrun⊢;go_enter_defers Tryz.func212,Tryz.ntmps212;go_wp2_with fail;go_region_held3 (fun w'=>aj w' tb 1 (.map (some b))/\w'.cell? ⟨w.heap.size,0,none⟩=some (uV x.1.1)/\w'.cell? ⟨w.heap.size,1,none⟩=some (uV x.1.2.1)/\w'.cell? ⟨w.heap.size,2,none⟩=some (uV x.1.2.2))
  (first|exact S0) (fail)
 go_wp2;refine leaves_cons (f:=259) (args:=#[]) (by simp) (by simp[go_sem]) ?_;refine(lH _).mono ?_;rintro e u' w'' ⟨rfl,rfl,rfl⟩;simp[Leaves,settle,results,Tryz.results212,go_sem];exact hG
theorem bX(x:Tm)(w:World):(bx x w).cell? ⟨w.heap.size,0,none⟩=some (uV x.1.1)/\(bx x w).cell? ⟨w.heap.size,1,none⟩=some (uV x.1.2.1)/\(bx x w).cell? ⟨w.heap.size,2,none⟩=some (uV x.1.2.2):=by
 have hblk:(bx x w).heap[w.heap.size]? =some (.cells #[uV x.1.1,uV x.1.2.1,uV x.1.2.2] 45 (0,0)):=heap_alloc_new _ _;refine⟨?_, ?_, ?_⟩<;>(simp only[World.cell?];rw[hblk];rfl)
theorem Bn{f:Tm->Int}(x:Tm)(v:Int)(w:World)(h:Tl w tb b g n f)(hn:n<maxLen)(hv: -2147483647<=v/\v<=2147483647):
    CL 251 #[aB tb,tv x,iV v] w fun e w'=>e= .returned (.tuple #[])/\Tl w' tb b g (n+1) (upd f x v)/\Kp (fun k=>k=b) w w':=by
 have hmx:Tryz.prog.follows .mixedOrders=true:=by kernel_rfl
 have HT:Hid (Tl (bx x w).drew tb b g n f):=(h.gr ((Gr.refl _).alloc _)).gr (Gr.refl _).drew;have HG:Hid (Gr w (bx x w).drew):=((Gr.refl _).alloc _).drew;have S0:(bx x w).drew.cell? ⟨tb,1,none⟩=some (.map (some b))/\(bx x w).drew.cell? ⟨w.heap.size,0,none⟩=some (uV x.1.1)/\(bx x w).drew.cell? ⟨w.heap.size,1,none⟩=some (uV x.1.2.1)/\(bx x w).drew.cell? ⟨w.heap.size,2,none⟩=some (uV x.1.2.2):=
  ⟨HT.o.c1,(bX x w).1,(bX x w).2.1,(bX x w).2.2⟩
 have Pq:∀s,-2147483647<=upd f x v s/\upd f x v s<=2147483647:=fun s=>by unfold upd;split;exact hv;exact h.bd s
 have vQ:Hid (∀s,-2147483647<=upd f x v s/\upd f x v s<=2147483647):=Pq;obtain⟨D,hown,h1,h2⟩:=HT.o.ta;have hne:=HT.o.ne;have hlt:=HT.o.lt;have hbl:b<w.heap.size:=h.ta.lt;have hbx:w.heap.size<(bx x w).drew.heap.size:=by show w.heap.size<(bx x w).heap.size;simp
 clear h Pq;by_cases h0:v=0
 ·subst h0;have ht:=EY h1 h2 x;obtain⟨w1,hrun,hown1,hturn1⟩:=hown.drop ZT.law Tryz.underlying301 (ZT.key x) 0;have hrun:Sem.run Tryz.prog (Builtin.delete_ #[301,45] 0 #[.map (some b),tv x]) (bx x w).drew= .ok (.tuple #[]) w1:=hrun;have qH:Hid ((bx x w).drew.grownBy w1 (some b)):=hturn1.grown;have S1:aj w1 tb 1 (.map (some b))/\w1.cell? ⟨w.heap.size,0,none⟩=some (uV x.1.1)/\w1.cell? ⟨w.heap.size,1,none⟩=some (uV x.1.2.1)/\w1.cell? ⟨w.heap.size,2,none⟩=some (uV x.1.2.2):=by
   have e1:∀q,w1.cell? ⟨tb,q,none⟩=(bx x w).drew.cell? ⟨tb,q,none⟩:=fun q=>zh (a:=⟨tb,q,none⟩) (qH.o.block tb hlt (by simp[hne]));have e2:∀q,w1.cell? ⟨w.heap.size,q,none⟩=(bx x w).drew.cell? ⟨w.heap.size,q,none⟩:=fun q=>zh (a:=⟨w.heap.size,q,none⟩) (qH.o.block w.heap.size hbx (by simp;omega));exact⟨(e1 1).trans S0.1,(e2 0).trans S0.2.1,(e2 1).trans S0.2.2.1,(e2 2).trans S0.2.2.2⟩
  have HE:Hid (Tl w1 tb b g (n+1) (upd f x 0)/\Kp (fun k=>k=b) w w1):=
   ⟨⟨(qH.o.block tb hlt (by simp[hne])).trans HT.o.blk,⟨_,hown1.mono (Nat.le_succ _),ht.1,ht.2⟩,vQ.o⟩,(Kp.bg (S:=fun k=>k=b) HG.o).tr (Kp.grownBy (S:=fun k=>k=b) qH.o (fun k hk=>by simpa using hk.symm))⟩
  clear h1 h2 hown hown1 hturn1 qH vQ HT HG hlt hbx;go_enter Tryz.func251,Tryz.ntmps251;go_wp2_with fail;go_region_held3 (fun w'=>aj w' tb 1 (.map (some b))/\w'.cell? ⟨w.heap.size,0,none⟩=some (uV x.1.1)/\w'.cell? ⟨w.heap.size,1,none⟩=some (uV x.1.2.1)/\w'.cell? ⟨w.heap.size,2,none⟩=some (uV x.1.2.2))
   (first|exact S0|exact S1) (fail)
  go_wp2;refine bR (results_none rfl _ _ _) rfl ?_;exact⟨rfl,HE.o.1,HE.o.2⟩
 ·have ht:=DK (hown.isMap) h1 h2 x v h0;have hwf:(Lit.int .i64 v).wf=true:=WalkArith.wf_i64 (by omega);obtain⟨w1,hrun,hown1,hturn1⟩:=hown.store ZT.law Tryz.underlying301 hn (ZT.key x) (plainElem_int Tryz.underlying2 hwf);have hrun:(Instr.mapUpdate 301 (.map (some b)) (tv x) (iV v)).run Tryz.prog (bx x w).drew= .ok () w1:=hrun;have qH:Hid ((bx x w).drew.grownBy w1 (some b)):=hturn1.grown;have S1:aj w1 tb 1 (.map (some b))/\w1.cell? ⟨w.heap.size,0,none⟩=some (uV x.1.1)/\w1.cell? ⟨w.heap.size,1,none⟩=some (uV x.1.2.1)/\w1.cell? ⟨w.heap.size,2,none⟩=some (uV x.1.2.2):=by
   have e1:∀q,w1.cell? ⟨tb,q,none⟩=(bx x w).drew.cell? ⟨tb,q,none⟩:=fun q=>zh (a:=⟨tb,q,none⟩) (qH.o.block tb hlt (by simp[hne]));have e2:∀q,w1.cell? ⟨w.heap.size,q,none⟩=(bx x w).drew.cell? ⟨w.heap.size,q,none⟩:=fun q=>zh (a:=⟨w.heap.size,q,none⟩) (qH.o.block w.heap.size hbx (by simp;omega));exact⟨(e1 1).trans S0.1,(e2 0).trans S0.2.1,(e2 1).trans S0.2.2.1,(e2 2).trans S0.2.2.2⟩
  have HE:Hid (Tl w1 tb b g (n+1) (upd f x v)/\Kp (fun k=>k=b) w w1):=
   ⟨⟨(qH.o.block tb hlt (by simp[hne])).trans HT.o.blk,⟨_,hown1,ht.1,ht.2⟩,vQ.o⟩,(Kp.bg (S:=fun k=>k=b) HG.o).tr (Kp.grownBy (S:=fun k=>k=b) qH.o (fun k hk=>by simpa using hk.symm))⟩
  clear h1 h2 hown hown1 hturn1 qH vQ HT HG hlt hbx;go_enter Tryz.func251,Tryz.ntmps251;go_wp2_with fail;go_region_held3 (fun w'=>aj w' tb 1 (.map (some b))/\w'.cell? ⟨w.heap.size,0,none⟩=some (uV x.1.1)/\w'.cell? ⟨w.heap.size,1,none⟩=some (uV x.1.2.1)/\w'.cell? ⟨w.heap.size,2,none⟩=some (uV x.1.2.2))
   (first|exact S0|exact S1) (fail)
  go_wp2;go_end0;exact⟨rfl,HE.o.1,HE.o.2⟩
theorem CE{x:Tm}{w2:World}(h:Gr (bx x w) w2):w2.cell? ⟨w.heap.size,0,none⟩=some (uV x.1.1)/\w2.cell? ⟨w.heap.size,1,none⟩=some (uV x.1.2.1)/\w2.cell? ⟨w.heap.size,2,none⟩=some (uV x.1.2.2):=by
 have hz:w.heap.size<(bx x w).heap.size:=by simp
 exact⟨(h.cell hz).trans (bX x w).1,(h.cell hz).trans (bX x w).2.1,(h.cell hz).trans (bX x w).2.2⟩
def Fq(f:Tm->Int)(x:Tm)(v:Int):Int:=if dW v=true\/dW (f x+v)=true then 12 else 0
def yx(f:Tm->Int)(x:Tm)(v:Int):Tm->Int:=if dW v=true\/dW (f x+v)=true then f else upd f x (f x+v)
theorem pz{f:Tm->Int}(x:Tm)(v:Int)(w:World)(h:Tl w tb b g n f)(hn:n<maxLen):
    CL 199 #[aB tb,tv x,iV v] w fun e w'=>e= .returned (iV (Fq f x v))/\Tl w' tb b g (n+1) (yx f x v)/\Kp (fun k=>k=b) w w':=by
 have hb:=h.bd x;have HG:Hid (Gr w (bx x w)):=(Gr.refl _).alloc _;have HT:Hid (Tl (bx x w) tb b g n f):=h.gr HG.o;have hco:=dV x (bx x w) HT.o;have hset:=fun(W:World) (hW:Gr (bx x w) W) (hv: -2147483647<=f x+v/\f x+v<=2147483647)=>Bn x (f x+v) W (HT.o.gr hW) hn hv;have h1:=fun W=>gI v W;have h2:=fun W=>gI (f x+v) W;have Q8:Hid (∀W,Gr (bx x w) W->Kp (fun k=>k=b) w W):=fun W hW=>(Kp.bg (HG.o.trans hW));unfold Fq yx;clear h;cases hv:dW v with
 | true=>
  rw[hv]at h1;clear hv;rw[if_pos (Or.inl rfl),if_pos (Or.inl rfl)];go_enter Tryz.func199,Tryz.ntmps199;go_wp2_with fail;refine(h1 _).mono ?_;rintro e w1 ⟨rfl,rfl⟩;go_wp2;go_ret;exact⟨rfl,⟨HT.o.blk,HT.o.ta.mono (Nat.le_succ _),HT.o.bd⟩,Q8.o _ (Gr.refl _)⟩
 | false=>
  have hv':=dK.1 hv;rw[hv]at h1;clear hv;cases hv2:dW (f x+v)with
  | true=>
   rw[hv2]at h2;clear hv2 hset;rw[if_pos (Or.inr rfl),if_pos (Or.inr rfl)];generalize f x=c at *;go_enter Tryz.func199,Tryz.ntmps199;go_wp2_with fail;refine(h1 _).mono ?_;rintro e w1 ⟨rfl,rfl⟩;go_wp2_with fail;refine hco.mono ?_;rintro e w2 ⟨rfl,g2⟩;go_wp2_with fail;refine(h2 _).mono ?_;rintro e w3 ⟨rfl,rfl⟩;go_wp2;go_ret;have ht:=HT.o.gr g2;exact⟨rfl,⟨ht.blk,ht.ta.mono (Nat.le_succ _),ht.bd⟩,Q8.o _ g2⟩
  | false=>
   have hv3:=dK.1 hv2;rw[hv2]at h2;clear hv2;rw[if_neg (by simp),if_neg (by simp)];have O8:=fun W hW=>hset W hW hv3;clear hset;generalize f x=c at *;go_enter Tryz.func199,Tryz.ntmps199;go_wp2_with fail;refine(h1 _).mono ?_;rintro e w1 ⟨rfl,rfl⟩;go_wp2_with fail;refine hco.mono ?_;rintro e w2 ⟨rfl,g2⟩;obtain⟨c0,c1,c2⟩:=CE g2;go_wp2_with fail;refine(h2 _).mono ?_;rintro e w3 ⟨rfl,rfl⟩;go_wp2_with fail;refine(O8 _ g2).mono ?_;rintro e w4 ⟨rfl,ht,hk⟩;go_wp2;go_ret;exact⟨rfl,ht,(Q8.o _ g2).tr hk⟩
theorem Ck{f:Tm->Int}(x:Tm)(w:World)(h:Tl w tb b g n f):
    CL 152 #[aB tb,tv x] w fun e w'=>e= .returned (iV (f x))/\Gr w w':=by
 have HG:Hid (Gr w (bx x w)):=(Gr.refl _).alloc _;have hco:=dV x (bx x w) (h.gr HG.o);generalize f x=c at hco⊢;clear h;go_enter Tryz.func152,Tryz.ntmps152;go_wp2_with fail;refine hco.mono ?_;rintro e w1 ⟨rfl,g1⟩;go_wp2;go_ret;exact⟨rfl,HG.o.trans g1⟩
theorem gW{f:Tm->Int}(w:World)(h:Tl w tb b g n f):
    CL 253 #[aB tb] w fun e w'=>∃ks:List Tm,qC f ks/\e= .returned (iV ks.length)/\w'=w:=by
 have c1:=h.c1;obtain⟨D,hown,h1,h2⟩:=h.ta;obtain⟨ks,hks,hl⟩:=ny hown h2;have hlen:=fun ty=>hown.len Tryz.underlying301 ty;clear h h1 h2 hown;go_enter Tryz.func253,Tryz.ntmps253;go_wp2;go_ret;exact⟨ks,hks,by rw[hl];rfl,rfl⟩
end Tt
section
open Go.RowKit Go.Sort Go.Maps Go.WideMaps Go.WideElems
open Go.ChangeMaps (setBlock heap_setBlock_same modify_eq_set)
section
variable {P:Program} {k e t:TypeId} {K:Type}
def Mq(Z:KK P k K)(e:TypeId)(w:World)(b n:Nat)(f:K->Int)(ks:List K):Prop:=
 ∃D:DataW Unit,w.ownsMap P k (plainElem P e) b n D/\(∀s,D.atKey (Z.lit s) (nd 0)=nd (f s))/\∀s,Maps.has D (Z.lit s)=true↔s∈ks
variable {Z:KK P k K} {w w':World} {b n:Nat} {f:K->Int} {ks:List K} {D:DataW Unit}
theorem Mq.lt(h:Mq Z e w b n f ks):b<w.heap.size:=by obtain⟨D,h,_⟩:=h;exact h.lt
theorem Mq.kept(h:Mq Z e w b n f ks)(hb:w'.heap[b]? =w.heap[b]?):Mq Z e w' b n f ks:=by
 obtain⟨D,⟨es,clock,h1,h2⟩,h3⟩:=h;exact⟨D,⟨es,clock,hb.trans h1,h2⟩,h3⟩
theorem Mq.made(w:World):Mq Z e (w.alloc (.map #[] 0)) w.heap.size 0 (fun _=>0) []:=
 ⟨.map [],World.ownsMap_made _ _ _ _,fun _=>rfl,fun s=>by rw[show Maps.has (DataW.map (H:=Unit) []) (Z.lit s)=false from rfl];simp⟩
variable [DecidableEq K]
theorem zH(hD:IsMap D)(h1:∀s,D.atKey (Z.lit s) (nd 0)=nd (f s))(h2:∀s,Maps.has D (Z.lit s)=true↔s∈ks)(s:K)(v:Int):
    (∀t,(D.put (Z.lit s) (nd v)).atKey (Z.lit t) (nd 0)=nd (upd f s v t))/\∀t,Maps.has (D.put (Z.lit s) (nd v)) (Z.lit t)=true↔t∈ks++[s]:=by
 refine⟨fun t=> ?_,fun t=> ?_⟩
 ·by_cases ht:t=s
  ·subst ht;rw[upd_same];exact atKey_put_same hD (Z.isKey t) _ _
  ·rw[cK _ _ ht,atKey_put_other (fun e=>ht (Z.inj _ _ e))];exact h1 t
 ·by_cases ht:t=s
  ·subst ht;rw[has_put_same hD (Z.isKey t)];simp
  ·rw[has_put_other (fun e=>ht (Z.inj _ _ e)),h2 t];simp[ht]
theorem Iu{R:Value->Option (DataW Unit×List MemPlace)}{es:Array MapEntry}{clock:Nat}(L:KeyLaw P k)(ht:P.underlying t=some (.map k e)){z:Value}(hz:∀u:World,(zeroValue e).run P u= .ok z u)(hb:w.heap[b]? =some (.map es clock))(F:Fit P k R es clock)
    {key:Value} {kl:Lit} (hkey:keyOf P k key=some kl) :
    ∃(v0:Value) (st:Nat) (w1:World),(Instr.mapEntry t (.map (some b)) key).run P w= .ok (.tuple #[v0,goInt st]) w1/\
     (w1=w\/((Instr.mapUpdate t (.map (some b)) key z).run P w= .ok () w1/\(Instr.lookup t (.map (some b)) key false).run P w= .ok z w))/\
     ∀val:Value,∃w2,(Instr.entryStore t (.map (some b)) (goInt st) val).run P w1= .ok () w2/\(Instr.mapUpdate t (.map (some b)) key val).run P w= .ok () w2:=by
 obtain⟨v0,st,es1,clock1,hE,_,hS⟩:=entry_then_store L ht hz hb F hkey;refine⟨v0,st,_,hE, ?_,fun val=> ?_⟩
 ·rcases L.find w hkey es.toList F.keys with⟨h1,h2⟩|⟨j,e0,h1,h2,h3⟩
  ·right
   have hx:(Instr.mapEntry t (.map (some b)) key).run P w= .ok (.tuple #[z,goInt clock]) (setBlock w b (.map (es.push ⟨key,z,clock⟩) (clock+1))):=by
    simp[Instr.mapEntry,run_underlying ht,MapKept.run_getObj_map hb,L.check w false hkey,h1,hz,MapKept.run_setObj_map _ hb,Result.andThen,setBlock]
   rw[hx]at hE;injection hE with _ hw;rw[<-hw];refine⟨?_, ?_⟩
   ·simp[Instr.mapUpdate,run_underlying ht,MapKept.run_getObj_map hb,L.check w false hkey,h1,MapKept.run_setObj_map _ hb,Result.andThen,setBlock]
   ·simp[Instr.lookup,run_underlying ht,MapKept.run_getObj_map hb,L.check w es.isEmpty hkey,h1,hz,Result.andThen]
  ·left
   have hj:es[j]? =some e0:=(by simpa using h2);have hsame:es.modify j (fun e=>{ e with key:=key })=es:=by
    apply Array.ext';rw[Array.toList_modify,modify_eq_set _ _ _ _ h2];have:({ e0 with key:=key }:MapEntry)=e0:=(by rw[<-h3]);rw[this];exact set_self _ _ _ h2
   have hx:(Instr.mapEntry t (.map (some b)) key).run P w= .ok (.tuple #[e0.val,goInt e0.born]) (setBlock w b (.map es clock)):=by
    simp[Instr.mapEntry,run_underlying ht,MapKept.run_getObj_map hb,L.check w false hkey,h1,hj,h3,L.stays w hkey,hsame,MapKept.run_setObj_map _ hb,Result.andThen,setBlock]
   rw[hx]at hE;injection hE with _ hw;rw[<-hw];obtain⟨hlt,hval⟩:=aG.1 hb;have:w.heap.setIfInBounds b (.map es clock)=w.heap:=by
    rw[<-hval];apply Array.ext';rw[Array.toList_setIfInBounds,set_self];simp
   unfold setBlock;rw[this]
 ·obtain⟨es',clock',h1,h2⟩:=hS (setBlock w b (.map es1 clock1)) val (heap_setBlock_same hb _);refine⟨_,h1, ?_⟩;rw[h2];simp[setBlock]
theorem Mq.bump(h:Mq Z e w b n f ks)(L:KeyLaw P k)(ht:P.underlying t=some (.map k e))(he:P.underlying e=some (.int .i64))(hz:∀u:World,(zeroValue e).run P u= .ok (.int .i64 0) u)(hn:n<maxLen)(x:K)(v:Int)(hv:(Lit.int .i64 v).wf=true):
    ∃(v0:Value) (st:Nat) (w1 w2:World),(Instr.lookup t (.map (some b)) (Z.enc x) false).run P w= .ok (.int .i64 (f x)) w/\(Instr.mapEntry t (.map (some b)) (Z.enc x)).run P w= .ok (.tuple #[v0,goInt st]) w1/\
     (Instr.lookup t (.map (some b)) (Z.enc x) false).run P w1= .ok (.int .i64 (f x)) w1/\(Instr.entryStore t (.map (some b)) (goInt st) (.int .i64 v)).run P w1= .ok () w2/\
     Mq Z e w2 b (n+1) (upd f x v) (ks++[x])/\w.grownBy w1 (some b)/\w.grownBy w2 (some b):=by
 obtain⟨D,hown,h1,h2⟩:=h;have hx:=h1 x;obtain⟨c,hlk,hat,_⟩:=hown.lookup_int Z.law ht he (hz w) (Z.key x);have e0:c=f x:=by
  rw[hx]at hat;simpa using hat.symm
 subst e0;obtain⟨es,clock,hb,F,hs,hD⟩:=id hown;obtain⟨v0,st,w1,hE,hw1,hS⟩:=Iu L ht hz hb F (Z.key x);obtain⟨w2,hst,hup⟩:=hS (.int .i64 v);obtain⟨w2',aaf,hown2,WT⟩:=hown.store Z.law ht hn (Z.key x) (plainElem_int he hv);rw[hup]at aaf;injection aaf with _ hw;subst hw;have ht2:=zH hown.isMap h1 h2 x v;refine⟨v0,st,w1,w2,hlk,hE, ?_,hst,⟨_,hown2,ht2.1,ht2.2⟩, ?_,WT.grown⟩
 ·rcases hw1 with rfl|⟨hw1,hlz⟩
  ·exact hlk
  ·obtain⟨w1',O4,hown1,hturn1⟩:=hown.store Z.law ht hn (Z.key x) (plainElem_int (a:=0) he (by decide));rw[hw1]at O4;obtain⟨-,rfl⟩:=Result.ok.inj O4;obtain⟨c,abL,aaH,_⟩:=hown1.lookup_int Z.law ht he (hz w1) (Z.key x);have hp:=(zH hown.isMap h1 h2 x 0).1 x;rw[upd_same]at hp;rw[hp]at aaH;have hc0:c=0:=(by simpa using aaH.symm);rw[hlk]at hlz;have hv0:=(Result.ok.inj hlz).1;rw[hv0];subst hc0;exact abL
 ·rcases hw1 with rfl|⟨hw1,_⟩
  ·exact⟨rfl,rfl,rfl,nR _,fun _ _ _=>rfl⟩
  ·obtain⟨w1',O4,hown1,hturn1⟩:=hown.store Z.law ht hn (Z.key x) (plainElem_int (a:=0) he (by decide));rw[hw1]at O4;obtain⟨-,rfl⟩:=Result.ok.inj O4;exact hturn1.grown
end
end
section
open Go.RowKit Go.Sort Go.Maps
attribute[local go_sem ↓]wp_at_zero wp_at_succ
abbrev Dl:=Tm×Int
def ED:El Dl where
 k:=4
 enc d:=[uV d.1.1.1,uV d.1.1.2.1,uV d.1.1.2.2,iV d.2]
 len _:=rfl
 one x u hu:=by
  simp at hu;rcases hu with rfl|rfl|rfl|rfl<;>rfl
theorem Ls.at4{v:Value}{ts:List Dl}(h:Ls ED w v ts){j:Nat}{t:Dl}(hj:ts[j]? =some t):
    ∃b off c,v= .slice (some ⟨b,off,none⟩) ts.length c/\b<w.heap.size/\aj w b (off+j*4) (uV t.1.1.1)/\aj w b (off+j*4+1) (uV t.1.1.2.1)/\aj w b (off+j*4+2) (uV t.1.1.2.2)/\aj w b (off+j*4+3) (iV t.2):=by
 obtain⟨b,off,c,hv,hb,hc⟩:=h.get hj;exact⟨b,off,c,hv,hb,hc 0 _ (by decide) rfl,hc 1 _ (by decide) rfl,hc 2 _ (by decide) rfl,hc 3 _ (by decide) rfl⟩
theorem Ha:(Tryz.prog.info? 163).map (fun i=>(i.zero,i.size,i.bytes))=some (some (.agg #[uV 0,uV 0,uV 0,iV 0]),4,32):=by kernel_rfl
theorem qK{ops:Array Oper}{rest:List Oper}{o:Oper}{a:Act}{Q:Exit->Act->World->Prop}(hgd:o.guard=none)(s x:Operand)
    (ho:o.op= .call { callee:= .builtin .append,args:=#[s,x],argTypes:=#[159,159] })
    (base:Nat) (v:Value) (n:Nat) (xs:List Value) (hs:a.eval s=v) (hown:w.ownsRow base 163 4 v n xs)
    (t:Dl) (hx:a.eval x=sO w.heap.size 1 1) (hbig:(n+1)*32<=140737488355328) (hbase:base<=w.heap.size)
    (h:∀g cap w',w'.ownsRow base 163 4 (sO g (n+1) cap) (n+1) (xs++ED.enc t)->w.grownBy w' v.ownBlock->(v.ownBlock=some g\/w.heap.size<=g)->wpList Tryz.prog ops Q rest (a.put o.dst (sO g (n+1) cap)) w') :
    wpList Tryz.prog ops Q (o::rest) a (w.alloc (.cells #[uV t.1.1.1,uV t.1.1.2.1,uV t.1.1.2.2,iV t.2] 163)):=
 gB ED Tryz.underlying159 Ha rfl (by decide) hgd s x ho base v n xs hs hown t hx hbig (by unfold maxLen;omega) hbase _ rfl _ h
abbrev cv(tb:Nat):Value:= .agg #[.pointer (some ⟨tb,0,none⟩)]
open Tt (Tl dW dK)
theorem uz(n:Int)(w:World):CL 198 #[iV n] w fun e w'=>e= .returned (.bool (dW n))/\w'=w:=by
 unfold dW;go_enter Tryz.func198,Tryz.ntmps198;go_wp2;all_goals (go_ret;refine⟨?_,rfl⟩;simp_all)
theorem lJ{f:Tm->Int}(x:Tm)(w:World)(h:Tl w tb b g n f):
    CL 89 #[cv tb,tv x] w fun e w'=>e= .returned (iV (f x))/\Gr w w':=by
 have HG:Hid (∀o1 o2,Gr w ((w.alloc o1).alloc o2)):=fun _ _=>((Gr.refl _).alloc _).alloc _;have hco:=fun o1 o2=>Tt.Ck x _ (h.gr (HG.o o1 o2));generalize f x=c at hco⊢;clear h;go_enter Tryz.func89,Tryz.ntmps89;go_wp2_with fail;refine(hco _ _).mono ?_;rintro e w1 ⟨rfl,g1⟩;go_wp2;go_ret;exact⟨rfl,(HG.o _ _).trans g1⟩
def sH(f:Tm->Int)(us:List Dl):Tm->Int:=us.foldl (fun g d=>upd g d.1 d.2) f
theorem wN{f:Tm->Int}{us:List Dl}{k:Nat}{d:Dl}(h:us[k]? =some d):sH f (us.take (k+1))=upd (sH f (us.take k)) d.1 d.2:=by
 unfold sH;rw[tO,h,List.foldl_append];rfl
theorem Rx{K:Type}[DecidableEq K](f:K->Int)(x:K)(a b:Int):upd (upd f x a) x b=upd f x b:=by
 funext t
 unfold upd;split<;>rfl
theorem LP{f:Tm->Int}{x:Tm}(h: -2147483647<=f x/\f x<=2147483647):Tt.yx f x (- f x)=upd f x 0:=by
 unfold Tt.yx;have h1:dW (- f x)=false:=dK.2 (by omega);have h2:f x+ - f x=0:=by omega
 rw[h1,h2,if_neg (by simp[dW])]
theorem Qr{f:Tm->Int}{x:Tm}{v:Int}(h:dW v=false):Tt.yx (upd f x 0) x v=upd f x v:=by
 unfold Tt.yx;rw[upd_same,Int.zero_add,h,if_neg (by simp),Rx]
theorem Ob{f:Tm->Int}(us:List Dl)(v:Value)(w:World)(h:Tl w tb b g n f)(hv:Ls ED w v us)(hne:v.ownBlock≠some b)(hbd:∀d∈us,dW d.2=false)(hn:n+2*us.length<4611686018427387904):
    CL 140 #[cv tb,v] w fun e w'=>e= .returned (.tuple #[])/\Tl w' tb b g (n+2*us.length) (sH f us)/\Kp (fun k=>k=b) w w':=by
 have hmx:Tryz.prog.follows .mixedOrders=true:=by kernel_rfl
 obtain⟨pl,cl,rfl⟩:=hv.form;obtain⟨W1,hW1⟩:=aF (w.alloc (.cells #[aB tb] 176));have G1:Gr w W1:=by rw[hW1];exact(Gr.refl _).alloc _
 have hz:w.heap.size<W1.heap.size:=by rw[hW1];simp
 have c0:W1.cell? ⟨w.heap.size,0,none⟩=some (aB tb):=by rw[hW1];simp
 have HL:Hid (Ls ED W1 (.slice pl us.length cl) us):=hv.below G1.below;have HT:Hid (Tl W1 tb b g n f):=h.gr G1;have HG:Hid (Gr w W1):=G1;have HN:Hid ((Value.slice pl us.length cl).ownBlock≠some b):=hne;have vQ:Hid (∀d∈us,dW d.2=false):=hbd;obtain⟨B0,hB0⟩:=aF (w.heap.size);have hbB:b≠B0:=by have:=h.ta.lt;omega
 have hz0:B0<W1.heap.size:=by omega
 rw[<-hB0]at c0;clear h hv hne hbd G1 hz;go_enter Tryz.func140,Tryz.ntmps140;go_wp2_with fail;rw[<-hW1,<-hB0];clear hW1 hB0;go_loopw [5,8] (fun _ s8 wr=>∃k:Nat,k<=us.length/\s8=iV k/\Hid (Tl wr tb b g (n+2*k) (sH f (us.take k))/\Kp (fun k=>k=b) W1 wr)) (fun _ s8 _=>us.length-(intOf s8).toNat);case atStart=>exact⟨0,zL _,rfl,HT.o,Kp.refl _ _⟩
 case round=>
  obtain⟨k,hk,rfl,HI⟩:=hrel;by_cases hlt:k<us.length
  ·have hltz:(k:Int)<(us.length:Int):=(by omega);obtain⟨d,hd⟩:∃d,us[k]? =some d:=⟨us[k],by simp⟩;obtain⟨b1,o1,c1,e1,z1,x1,x2,x3,x4⟩:=(HI.o.2.ls HL.o (fun j hj hs=>HN.o (hs ▸ hj))).at4 hd;simp only[vS]at e1;obtain⟨rfl,-,rfl⟩:=e1;have HS:Hid (sH f (us.take (k+1))=upd (sH f (us.take k)) d.1 d.2):=wN hd;have hdb:dW d.2=false:=vQ.o d (lM hd);have hdr:=dK.1 hdb;clear hd;generalize sH f (us.take k)=F at *;obtain⟨W2,hW2⟩:=aF (wr.alloc (.cells #[uV d.1.1.1,uV d.1.1.2.1,uV d.1.1.2.2,iV d.2] 163));obtain⟨nb,hnb⟩:=aF (wr.heap.size);have G2:Gr wr W2:=(by rw[hW2];exact(Gr.refl _).alloc _);have HG2:Hid (Gr wr W2.drew):=G2.drew;have HT2:Hid (Tl W2.drew tb b g (n+2*k) F):=HI.o.1.gr G2.drew;have hFb:=HI.o.1.bd d.1;have hbw:b<wr.heap.size:=HI.o.1.ta.lt;have S0:(W2.drew.cell? ⟨B0,0,none⟩=some (aB tb)/\W2.drew.cell? ⟨nb,0,none⟩=some (uV d.1.1.1)/\W2.drew.cell? ⟨nb,1,none⟩=some (uV d.1.1.2.1)/\W2.drew.cell? ⟨nb,2,none⟩=some (uV d.1.1.2.2)/\W2.drew.cell? ⟨nb,3,none⟩=some (iV d.2)/\B0<W2.drew.heap.size/\nb<W2.drew.heap.size):=by
    have hB0:B0<wr.heap.size:=nL hz0 HI.o.2.size;have e0:aj wr B0 0 (aB tb):=(HI.o.2.cell hz0 (fun e=>hbB e.symm)).trans c0;have hblk:W2.heap[nb]? =some (.cells #[uV d.1.1.1,uV d.1.1.2.1,uV d.1.1.2.2,iV d.2] 163 (0,0)):=(by rw[hW2,hnb];exact ah _ _);refine⟨(G2.drew.cell hB0).trans e0, ?_, ?_, ?_, ?_,nL hB0 G2.size, ?_⟩;all_goals first|exact(aG.1 hblk).1|(show W2.cell? _=_;simp only[World.cell?];rw[hblk];rfl)
   have Tz:nb≠b:=(by omega);have il:∀W W':World,(aj W B0 0 (aB tb)/\aj W nb 0 (uV d.1.1.1)/\aj W nb 1 (uV d.1.1.2.1)/\aj W nb 2 (uV d.1.1.2.2)/\aj W nb 3 (iV d.2)/\B0<W.heap.size/\nb<W.heap.size)->Gr W W'->(aj W' B0 0 (aB tb)/\aj W' nb 0 (uV d.1.1.1)/\aj W' nb 1 (uV d.1.1.2.1)/\aj W' nb 2 (uV d.1.1.2.2)/\aj W' nb 3 (iV d.2)/\B0<W'.heap.size/\nb<W'.heap.size):=fun W W' h hg=>
    ⟨(hg.cell h.2.2.2.2.2.1).trans h.1,(hg.cell h.2.2.2.2.2.2).trans h.2.1,(hg.cell h.2.2.2.2.2.2).trans h.2.2.1,(hg.cell h.2.2.2.2.2.2).trans h.2.2.2.1,(hg.cell h.2.2.2.2.2.2).trans h.2.2.2.2.1,nL h.2.2.2.2.2.1 hg.size,nL h.2.2.2.2.2.2 hg.size⟩
   have OI:∀W W':World,(aj W B0 0 (aB tb)/\aj W nb 0 (uV d.1.1.1)/\aj W nb 1 (uV d.1.1.2.1)/\aj W nb 2 (uV d.1.1.2.2)/\aj W nb 3 (iV d.2)/\B0<W.heap.size/\nb<W.heap.size)->Kp (fun k=>k=b) W W'->(aj W' B0 0 (aB tb)/\aj W' nb 0 (uV d.1.1.1)/\aj W' nb 1 (uV d.1.1.2.1)/\aj W' nb 2 (uV d.1.1.2.2)/\aj W' nb 3 (iV d.2)/\B0<W'.heap.size/\nb<W'.heap.size):=fun W W' h hg=>
    ⟨(hg.cell h.2.2.2.2.2.1 (fun e=>hbB e.symm)).trans h.1,(hg.cell h.2.2.2.2.2.2 Tz).trans h.2.1,(hg.cell h.2.2.2.2.2.2 Tz).trans h.2.2.1,(hg.cell h.2.2.2.2.2.2 Tz).trans h.2.2.2.1,(hg.cell h.2.2.2.2.2.2 Tz).trans h.2.2.2.2.1,nL h.2.2.2.2.2.1 hg.size,nL h.2.2.2.2.2.2 hg.size⟩
   have hCo:∀W,Tl W tb b g (n+2*k) F->_:=fun W h=>lJ d.1 W h;have hA1:∀W,Tl W tb b g (n+2*k) F->_:=fun W h=>Tt.pz d.1 (- F d.1) W h (by unfold maxLen;omega);have hA2:∀W,Tl W tb b g (n+2*k+1) (upd F d.1 0)->_:=fun W h=>Tt.pz d.1 d.2 W h (by unfold maxLen;omega);rw[LP hFb]at hA1;rw[Qr hdb]at hA2;generalize Tt.Fq F d.1 (- F d.1)=r1 at hA1;generalize Tt.Fq (upd F d.1 0) d.1 d.2=r2 at hA2;have hneg:IntKind.i64.wrap (- F d.1)= - F d.1:=(by rw[IntKind.wrap_i64];omega);have HF1:Hid (F d.1=F d.1):=rfl;generalize F d.1=c at hCo hA1 hneg;clear HF1 hFb;go_wp2_with fail;rw[<-hW2,<-hnb];clear hW2 hnb x1 x2 x3 x4;go_region_held3 (fun w'=>aj w' B0 0 (aB tb)/\aj w' nb 0 (uV d.1.1.1)/\aj w' nb 1 (uV d.1.1.2.1)/\aj w' nb 2 (uV d.1.1.2.2)/\aj w' nb 3 (iV d.2)/\B0<w'.heap.size/\nb<w'.heap.size)
    (first|exact S0|exact il _ _ (by assumption) (by assumption)|exact OI _ _ (by assumption) (by assumption))
    (first|(go_at_call 89;refine(hCo _ HT2.o).mono ?_;rintro e w5 ⟨rfl,hg5⟩)|(go_at_call 199;refine(hA1 _ (HT2.o.gr hg5)).mono ?_;rintro e w6 ⟨rfl,ht6,Xl⟩))
   have S6:(aj w6 B0 0 (aB tb)/\aj w6 nb 0 (uV d.1.1.1)/\aj w6 nb 1 (uV d.1.1.2.1)/\aj w6 nb 2 (uV d.1.1.2.2)/\aj w6 nb 3 (iV d.2)/\B0<w6.heap.size/\nb<w6.heap.size):=OI _ _ (il _ _ S0 hg5) Xl;have K6:Hid (Kp (fun k=>k=b) wr w6):=((Kp.bg (HG2.o.trans hg5)).tr Xl);have T6:Hid (Tl w6 tb b g (n+2*k+1) (upd F d.1 0)):=ht6;obtain⟨y1,y2,y3,y4,y5,y6,y7⟩:=S6;clear S0 il OI hCo hA1 hg5 Xl ht6;go_wp2_with fail;refine(hA2 _ T6.o).mono ?_;rintro e w7 ⟨rfl,QR,Pk⟩;go_wp2;refine⟨⟨k+1,by omega,by go_num, ?_,HI.o.2.trans (K6.o.tr Pk) (fun _ _ h=>h)⟩,by simp[intOf];omega⟩;rw[HS.o];exact QR
  ·have hltz:¬(k:Int)<(us.length:Int):=(by omega);have hk':k=us.length:=(by omega);subst hk';rw[tK]at HI;go_wp2;go_end0;exact⟨rfl,HI.o.1,(Kp.bg HG.o).tr HI.o.2⟩
end
end Go.Proofs.YtiiefcalkjeieaaGreat
