import Derived.Test.YtiiefcalkjeieaaGreatJ23
import Derived.Deep.Cut
variable{g tb b n:Nat}{α:Type}
set_option maxHeartbeats 4000000
set_option maxRecDepth 100000
namespace Go.Proofs.YtiiefcalkjeieaaGreat
section
open Go.RowKit Go.Sort Go.Maps
open Tt (Tl dW dK)
attribute[local go_sem ↓]wp_at_zero wp_at_succ
abbrev fA:Nat:=18
abbrev fN:Nat:=106
abbrev fC:Nat:=17
structure Mu(w:World)(mb tb b cb n:Nat)(v:Value)(f:Tm->Int)(fr:List Tm):Prop where
 blk:w.heap[mb]? =some (.cells #[aB tb,aB cb] 179 (0,0))
 tl:Tl w tb b fC n f
 ch:Cz.Ch true w cb fA fN v fr
section
variable {w w':World} {mb tb b cb n:Nat} {v:Value} {f:Tm->Int} {fr:List Tm}
theorem Mu.lt(h:Mu w mb tb b cb n v f fr):mb<w.heap.size:=(aG.1 h.blk).1
theorem Mu.c0(h:Mu w mb tb b cb n v f fr):w.cell? ⟨mb,0,none⟩=some (aB tb):=by simp[World.cell?,h.blk]
theorem Mu.c1(h:Mu w mb tb b cb n v f fr):w.cell? ⟨mb,1,none⟩=some (aB cb):=by simp[World.cell?,h.blk]
theorem Mu.row(h:Mu w mb tb b cb n v f fr)(hg:v.ownBlock=some g):∃cur,w.heap[g]? =some (.cells cur 45 (0,0)):=by
 obtain⟨_,⟨h0,_⟩|⟨g',cap,cur,hv,_,hh,_⟩⟩:=h.ch.own
 ·rw[h0]at hg;cases hg
 ·rw[hv]at hg;simp only[Value.ownBlock,oI]at hg;subst hg;exact⟨cur,hh⟩
theorem Mu.apart(h:Mu w mb tb b cb n v f fr):mb≠tb/\mb≠b/\mb≠cb/\tb≠cb/\b≠cb/\v.ownBlock≠some mb/\v.ownBlock≠some tb/\v.ownBlock≠some b:=by
 have h1:=h.blk;have h2:=h.tl.blk;have h3:=h.ch.blk;obtain⟨D,⟨es,clock,h4,_⟩,_⟩:=h.tl.ta;refine⟨fun e=> ?_,fun e=> ?_,fun e=> ?_,fun e=> ?_,fun e=> ?_,fun e=> ?_,fun e=> ?_,fun e=> ?_⟩
 ·rw[e,h2]at h1;simp at h1
 ·rw[e,h4]at h1;simp at h1
 ·rw[e,h3]at h1;simp at h1
 ·rw[e,h3]at h2;simp at h2
 ·rw[e,h3]at h4;simp at h4
 ·obtain⟨cur,hc⟩:=h.row e;rw[hc]at h1;simp at h1
 ·obtain⟨cur,hc⟩:=h.row e;rw[hc]at h2;simp at h2
 ·obtain⟨cur,hc⟩:=h.row e;rw[hc]at h4;simp at h4
theorem Mu.kp{T:Nat->Prop}(h:Mu w mb tb b cb n v f fr)(hk:Kp T w w')(h1:¬T mb)(h2:¬T tb)(h3:¬T b)(h4:¬T cb)(h5:∀k,v.ownBlock=some k->¬T k):Mu w' mb tb b cb n v f fr:=
 ⟨(hk.block mb h.lt h1).trans h.blk,h.tl.kp hk h2 h3,h.ch.kp hk h4 h5⟩
theorem Mu.below(h:Mu w mb tb b cb n v f fr)(hb:Bw w w'):Mu w' mb tb b cb n v f fr:=h.kp (T:=fun _=>False) (Kp.of_below hb) (fun h=>h) (fun h=>h) (fun h=>h) (fun h=>h) (fun _ _ h=>h)
theorem Mu.turn{v':Value}{fr':List Tm}(h:Mu w mb tb b cb n v f fr)(ht:Cz.dX cb v v' w w')(hc:Cz.Ch true w' cb fA fN v' fr'):Mu w' mb tb b cb n v' f fr':=by
 obtain⟨a1,a2,a3,a4,a5,a6,a7,a8⟩:=h.apart;exact⟨(ht.1.block mb h.lt (fun e=>e.elim a3 a6)).trans h.blk,h.tl.kp ht.1 (fun e=>e.elim a4 a7) (fun e=>e.elim a5 a8),hc⟩
end
theorem Oq{f:Tm->Int}(w:World)(h:Tl w tb b fC n f):
    CL 202 #[cv tb] w fun e w'=>∃ks:List Tm,qC f ks/\e= .returned (iV ks.length)/\Gr w w':=by
 have hc:=fun o=>Tt.gW (w.alloc o) (h.gr ((Gr.refl _).alloc _));clear h;go_enter Tryz.func202,Tryz.ntmps202;go_wp2_with fail;refine(hc _).mono ?_;rintro e w1 ⟨ks,hk,rfl,rfl⟩;go_wp2;go_ret;exact⟨ks,hk,rfl,(Gr.refl _).alloc _⟩
structure Rn(w wr:World)(B0 Bg mb tb b cb n:Nat)(v vr vg:Value)(f:Tm->Int)(F G:List Tm):Prop where
 mu:Mu wr mb tb b cb n vr f F
 tn:Cz.dX cb v vr w wr
 lo:w.heap.size<=B0/\w.heap.size<=Bg/\B0≠Bg/\cb<w.heap.size/\mb<w.heap.size/\tb<w.heap.size/\b<w.heap.size
 bx:wr.heap[B0]? =some (.cells #[aB mb] 107 (0,0))
 gb:wr.heap[Bg]? =some (.cells #[vg] 39 (0,0))
 ow:wr.ownsRow w.heap.size 45 3 vg G.length (eQ G)
 a1:vg.ownBlock≠some B0/\vg.ownBlock≠some Bg
 a2:vr.ownBlock≠some B0/\vr.ownBlock≠some Bg
 a3:∀k,vg.ownBlock=some k->vr.ownBlock≠some k
section
variable {w wr w':World} {B0 Bg mb tb b cb n:Nat} {v vr vg v':Value} {f:Tm->Int} {F G F':List Tm}
theorem Rn.turn(h:Rn w wr B0 Bg mb tb b cb n v vr vg f F G)(ht:Cz.dX cb vr v' wr w')(hc:Cz.Ch true w' cb fA fN v' F'):Rn w w' B0 Bg mb tb b cb n v v' vg f F' G:=by
 obtain⟨l1,l2,l3,l4,l5,l6,l7⟩:=h.lo;have z0:B0<wr.heap.size:=(aG.1 h.bx).1;have z1:Bg<wr.heap.size:=(aG.1 h.gb).1;refine⟨h.mu.turn ht hc,h.tn.trans ht,h.lo, ?_, ?_, ?_,h.a1,⟨fun e=> ?_,fun e=> ?_⟩,fun k hk e=> ?_⟩
 ·exact(ht.1.block B0 z0 (fun e=>e.elim (fun e=>by omega) h.a2.1)).trans h.bx
 ·exact(ht.1.block Bg z1 (fun e=>e.elim (fun e=>by omega) h.a2.2)).trans h.gb
 ·refine ax ht.1 h.ow (fun k hk e=> ?_);have:=(h.ow.lt k hk).1;exact e.elim (fun e=>by omega) (h.a3 k hk)
 ·exact(ht.2 _ e).elim h.a2.1 (fun e=>by omega)
 ·exact(ht.2 _ e).elim h.a2.2 (fun e=>by omega)
 ·have:=(h.ow.lt k hk).2;exact(ht.2 _ e).elim (h.a3 k hk) (fun e=>by omega)
theorem Rn.gr(h:Rn w wr B0 Bg mb tb b cb n v vr vg f F G)(hg:Gr wr w'):Rn w w' B0 Bg mb tb b cb n v vr vg f F G:=h.turn (Cz.dX.of_below hg.below) (h.mu.ch.below hg.below)
theorem Rn.below(h:Rn w wr B0 Bg mb tb b cb n v vr vg f F G)(hg:Bw wr w'):Rn w w' B0 Bg mb tb b cb n v vr vg f F G:=h.turn (Cz.dX.of_below hg) (h.mu.ch.below hg)
theorem Rn.note{cap m:Nat}{x:Tm}(h:Rn w wr B0 Bg mb tb b cb n v vr vg f F G)(hg:wr.grownBy w' vg.ownBlock)(ho:w'.ownsRow w.heap.size 45 3 (sO g m cap) (G++[x]).length (eQ (G++[x])))(hl:vg.ownBlock=some g\/wr.heap.size<=g):
    Rn w (w'.setCell ⟨Bg,0,none⟩ (sO g m cap)) B0 Bg mb tb b cb n v vr (sO g m cap) f F (G++[x]):=by
 obtain⟨l1,l2,l3,l4,l5,l6,l7⟩:=h.lo;have z0:B0<wr.heap.size:=(aG.1 h.bx).1;have z1:Bg<wr.heap.size:=(aG.1 h.gb).1;have hk1:Kp (fun k=>vg.ownBlock=some k) wr w':=Kp.grownBy hg (fun k hk=>hk);have gb1:=(hk1.block Bg z1 h.a1.2).trans h.gb;have e:=setCell_eq_setRow w' Bg 0 _ _ _ (sO g m cap) gb1;have hk2:Kp (fun k=>k=Bg) w' (w'.setCell ⟨Bg,0,none⟩ (sO g m cap)):=by
  rw[e];exact⟨rfl,rfl,rfl,by simp[World.setRow],fun k _ hne=>setRow_other w' Bg k _ (by omega)⟩
 have hgB:g≠Bg:=fun e=>by
  subst e;exact hl.elim h.a1.2 (fun e=>by omega)
 have hg0:g≠B0:=fun e=>by
  subst e;exact hl.elim h.a1.1 (fun e=>by omega)
 have hgr:vr.ownBlock≠some g:=fun e=>hl.elim (fun e'=>h.a3 g e' e) (fun e'=>by have:=h.mu.ch.row g e;omega);have hlow:∀k,vg.ownBlock=some k->w.heap.size<=k:=fun k hk=>(h.ow.lt k hk).1;have hK:Kp (fun k=>vg.ownBlock=some k\/k=Bg) wr (w'.setCell ⟨Bg,0,none⟩ (sO g m cap)):=(hk1.mono (fun _ h=>Or.inl h)).trans hk2 (fun _ _ h=>Or.inr h);refine⟨h.mu.kp hK ?_ ?_ ?_ ?_ ?_,⟨h.tn.1.trans hK ?_,h.tn.2⟩,h.lo, ?_, ?_,ax hk2 ho ?_,⟨?_, ?_⟩,h.a2, ?_⟩
 ·exact fun e=>e.elim (fun e=>by have:=hlow _ e;omega) (fun e=>by omega)
 ·exact fun e=>e.elim (fun e=>by have:=hlow _ e;omega) (fun e=>by omega)
 ·exact fun e=>e.elim (fun e=>by have:=hlow _ e;omega) (fun e=>by omega)
 ·exact fun e=>e.elim (fun e=>by have:=hlow _ e;omega) (fun e=>by omega)
 ·exact fun k hk e=>e.elim (fun e=>h.a3 k e hk) (fun e=>h.a2.2 (e ▸ hk))
 ·exact fun j hj e=>e.elim (fun e=>by have:=hlow _ e;omega) (fun e=>by omega)
 ·exact(hK.block B0 z0 (fun e=>e.elim h.a1.1 l3)).trans h.bx
 ·rw[e,setRow_heap w' Bg _ _ _ _ gb1];simp
 ·intro k hk e;simp only[Value.ownBlock,oI]at hk;omega
 ·simpa[Value.ownBlock]using hg0
 ·simpa[Value.ownBlock]using hgB
 ·intro k hk;simp only[Value.ownBlock,oI]at hk;subst hk;exact hgr
theorem Rn.g0(h:Rn w wr B0 Bg mb tb b cb n v vr vg f F G):wr.cell? ⟨Bg,0,none⟩=some vg:=by simp[World.cell?,h.gb]
theorem Rn.b0(h:Rn w wr B0 Bg mb tb b cb n v vr vg f F G):wr.cell? ⟨B0,0,none⟩=some (aB mb):=by simp[World.cell?,h.bx]
theorem Rn.gl(h:Rn w wr B0 Bg mb tb b cb n v vr vg f F G):Bg<wr.heap.size:=(aG.1 h.gb).1
theorem Rn.bl(h:Rn w wr B0 Bg mb tb b cb n v vr vg f F G):B0<wr.heap.size:=(aG.1 h.bx).1
end
theorem Ro{w:World}{ops:Array Oper}{rest:List Oper}{o:Oper}{a:Act}{Q:Exit->Act->World->Prop}(hgd:o.guard=none)(s x:Operand)
    (ho:o.op= .call { callee:= .builtin .append,args:=#[s,x],argTypes:=#[39,39] })
    (base:Nat) (v:Value) (n:Nat) (xs:List Value) (hs:a.eval s=v) (hown:w.ownsRow base 45 3 v n xs)
    (t:Tm) (hx:a.eval x=sO w.heap.size 1 1) (hbig:(n+1)*24<=140737488355328) (hbase:base<=w.heap.size)
    (h:∀g cap w',w'.ownsRow base 45 3 (sO g (n+1) cap) (n+1) (xs++ET.enc t)->w.grownBy w' v.ownBlock->(v.ownBlock=some g\/w.heap.size<=g)->wpList Tryz.prog ops Q rest (a.put o.dst (sO g (n+1) cap)) w') :
    wpList Tryz.prog ops Q (o::rest) a (w.alloc (.cells #[uV t.1.1,uV t.1.2.1,uV t.1.2.2] 45)):=
 gB ET Tryz.underlying39 G8 rfl (by decide) hgd s x ho base v n xs hs hown t hx hbig (by unfold maxLen;omega) hbase _ rfl _ h
theorem fO{p:Prop}(h:p):Hid p:=h
theorem PH{B Bg mb:Nat}{vg:Value}{f:Tm->Int}{G:List Tm}(x:Tm)(w:World)(hB:aj w B 0 (aB mb))(hm:aj w mb 0 (aB tb))(hg:w.cell? ⟨Bg,0,none⟩=some vg)(hBl:B<w.heap.size)(rC:mb<w.heap.size)(hgl:Bg<w.heap.size)(ht:Tl w tb b g n f)(hl:oz w vg G)(hlen:G.length<=maxLen):
    CL 205 #[tv x,aB B,aB Bg] w fun e w'=>e= .returned (.bool (decide (f x<=0)|| !bH aC G x))/\Gr w w':=by
 have hmx:Tryz.prog.follows .mixedOrders=true:=by kernel_rfl
 obtain⟨W1,hW1⟩:=aF (w.alloc (.cells #[uV x.1.1,uV x.1.2.1,uV x.1.2.2] 45));obtain⟨nb,hnb⟩:=aF (w.heap.size);have G1:Gr w W1:=by rw[hW1];exact(Gr.refl _).alloc _
 have HG:=fO G1;have hco:∀W,Gr W1 W->CL 89 #[cv tb,tv x] W fun e w'=>e= .returned (iV (f x))/\Gr W w':=fun W h=>lJ x W (ht.gr (G1.trans h));have hop:∀W,Gr W1 W->CL 206 #[vg,tv x] W fun e w'=>e= .returned (.bool (bH aC G x))/\Gr W w':=fun W h=>Kr vg G x W (hl.below (G1.trans h).below) hlen;have hblk:W1.heap[nb]? =some (.cells #[uV x.1.1,uV x.1.2.1,uV x.1.2.2] 45 (0,0)):=by rw[hW1,hnb];exact ah _ _
 have c1:=(G1.cell (o:=0) hBl).trans hB;have c2:=(G1.cell (o:=0) rC).trans hm;have c3:=(G1.cell (o:=0) hgl).trans hg;have z1:=nL hBl G1.size;have z2:=nL rC G1.size;have z3:=nL hgl G1.size;have z4:=(aG.1 hblk).1;have c4:W1.cell? ⟨nb,0,none⟩=some (uV x.1.1):=by simp only[World.cell?];rw[hblk];rfl
 have c5:W1.cell? ⟨nb,1,none⟩=some (uV x.1.2.1):=by simp only[World.cell?];rw[hblk];rfl
 have c6:W1.cell? ⟨nb,2,none⟩=some (uV x.1.2.2):=by simp only[World.cell?];rw[hblk];rfl
 obtain⟨pg,cg,rfl⟩:=hl.form;generalize f x=c at hco⊢;generalize bH aC G x=r at hop⊢;generalize hR:(decide (c<=0)|| !r)=R;clear ht hblk hl hlen;have S9:Gr W1 W1.drew:=(Gr.refl _).drew;go_enter Tryz.func205,Tryz.ntmps205;go_upto_region 1 with fail;rw[<-hW1,<-hnb];clear hW1 hnb hB hm hBl rC G1 hg hgl;by_cases h0:c<=0
 ·obtain rfl:R=true:=by rw[<-hR,decide_eq_true h0];rfl
  clear hR;refine ay (S:=fun W=>Gr W1 W) (D:=[]) hmx ?_;have HP:=TB fun W (hSw:Gr W1 W)=>And.intro ((hSw.cell z1).trans c1) (And.intro ((hSw.cell z2).trans c2) (And.intro ((hSw.cell z3).trans c3) (And.intro ((hSw.cell z4).trans c4) (And.intro ((hSw.cell z4).trans c5) (And.intro ((hSw.cell z4).trans c6) (And.intro (nL z1 hSw.size) (And.intro (nL z2 hSw.size) (And.intro (nL z3 hSw.size) (nL z4 hSw.size)))))))));refine' ak 0 S9 ?_;refine' ak 1 S9 ?_;refine' ak 2 S9 ?_;refine' ak 3 S9 ?_;refine' ak 4 S9 ?_;refine wpC 5 (hco _ S9) ?_;rintro e w8 ⟨rfl,g8⟩;have S8:Gr W1 w8:=S9.trans g8;refine⟨_,rfl,S8, ?_⟩;refine' bD 6 S8 ?h ?_;case h=>(intro W hSw;(try dsimp only at hSw);have k1:=(hSw.cell z1).trans c1;have k2:=(hSw.cell z2).trans c2;have k3:=(hSw.cell z3).trans c3;have k4:=(hSw.cell z4).trans c4;have k5:=(hSw.cell z4).trans c5;have k6:=(hSw.cell z4).trans c6;have y1:=nL z1 hSw.size;have y2:=nL z2 hSw.size;have y3:=nL z3 hSw.size;have y4:=nL z4 hSw.size;go_simp;(try rw[VA.o]);try(with_reducible rfl))
  refine' ak 7 S8 ?_;refine' eU 8 S8 ?_;refine' eU 9 S8 ?_;refine' eU 10 S8 ?_;refine' eU 11 S8 ?_;refine' ak 12 S8 ?_;refine' ak 13 S8 ?_;refine av (by kernel_rfl) ?_ _;go_wp2;go_ret;exact⟨rfl,HG.o.trans S8⟩
 ·obtain rfl:R= !r:=by rw[<-hR,decide_eq_false h0];rfl
  have VA:=fO (decide_eq_false h0);clear hR;refine ay (S:=fun W=>Gr W1 W) (D:=[]) hmx ?_;have HP:=TB fun W (hSw:Gr W1 W)=>And.intro ((hSw.cell z1).trans c1) (And.intro ((hSw.cell z2).trans c2) (And.intro ((hSw.cell z3).trans c3) (And.intro ((hSw.cell z4).trans c4) (And.intro ((hSw.cell z4).trans c5) (And.intro ((hSw.cell z4).trans c6) (And.intro (nL z1 hSw.size) (And.intro (nL z2 hSw.size) (And.intro (nL z3 hSw.size) (nL z4 hSw.size)))))))));refine' ak 0 S9 ?_;refine' ak 1 S9 ?_;refine' ak 2 S9 ?_;refine' ak 3 S9 ?_;refine' ak 4 S9 ?_;refine wpC 5 (hco _ S9) ?_;rintro e w8 ⟨rfl,g8⟩;have S8:Gr W1 w8:=S9.trans g8;refine⟨_,rfl,S8, ?_⟩;refine' bD 6 S8 ?h ?_;case h=>(intro W hSw;(try dsimp only at hSw);have k1:=(hSw.cell z1).trans c1;have k2:=(hSw.cell z2).trans c2;have k3:=(hSw.cell z3).trans c3;have k4:=(hSw.cell z4).trans c4;have k5:=(hSw.cell z4).trans c5;have k6:=(hSw.cell z4).trans c6;have y1:=nL z1 hSw.size;have y2:=nL z2 hSw.size;have y3:=nL z3 hSw.size;have y4:=nL z4 hSw.size;go_simp;(try rw[VA.o]);try(with_reducible rfl))
  refine' ak 7 S8 ?_;refine' ak 8 S8 ?_;refine' ak 9 S8 ?_;refine wpC 10 (hop _ S8) ?_;rintro e w7 ⟨rfl,g7⟩;have S7:Gr W1 w7:=S8.trans g7;refine⟨_,rfl,S7, ?_⟩;refine' ak 11 S7 ?_;refine' ak 12 S7 ?_;refine' ak 13 S7 ?_;refine av (by kernel_rfl) ?_ _;go_wp2;go_ret;exact⟨by first|rfl|simp,HG.o.trans S7⟩
theorem ZF(w:World):(zeroValue 45).run Tryz.prog w= .ok (.agg #[uV 0,uV 0,uV 0]) w:=by kernel_rfl
theorem dU{p:α->Bool}{l:List α}{j:Nat}{y:α}(h:l[j]? =some y):(l.take (j+1)).filter p=(l.take j).filter p++(if p y then[y]else[]):=by
 rw[tO,h,List.filter_append];cases hp:p y<;>simp[hp]
theorem xW{p:α->Bool}{l:List α}{i:Nat}{y:α}(hi:l.findIdx p=i)(hy:l[i]? =some y):(l.take (i+1)).filter (fun x=> !p x)=l.take i:=by
 have hlt:i<l.length:=(lG.1 hy).1;have hp:p y=true:=by
  obtain⟨h1,h2⟩:=lG.1 hy;subst hi;rw[<-h2];exact List.findIdx_getElem (w:=hlt)
 rw[dU hy,hp];simp only[Bool.not_true,Bool.false_eq_true,if_false,FZ];rw[List.filter_eq_self];intro a ha;subst hi;rw[gF (p:=p) ha];rfl
theorem xX{base:Nat}(g cap:Nat)(l:List Tm)(gf:Nat)(lb:Array Value)(p:Tm->Bool)(w:World)(ho:w.ownsRow base 45 3 (sO g l.length cap) l.length (eQ l))(hl:l.length*24<=140737488355328)(eg:∀args w,(callFunc gf args).run Tryz.prog w= .ok (.enter gf args) w)
    (hp:∀(W:World) (x:Tm),Kp (fun k=>k=g) w W->CL gf (#[tv x]++lb) W fun e w'=>e= .returned (.bool (p x))/\Gr W w') :
    CL 204 #[sO g l.length cap, .func (.func gf) #[] lb] w fun e w'=>∃c',e= .returned (sO g (l.filter fun x=> !p x).length c')/\
     w'.ownsRow 0 45 3 (sO g (l.filter fun x=> !p x).length c') (l.filter fun x=> !p x).length (eQ (l.filter fun x=> !p x))/\Kp (fun k=>k=g) w w':=by
 have hix:=Cz.iE true (sO g l.length cap) l gf lb p w (dG ho) (by unfold maxLen;omega) eg (fun W x hg=>hp W x (Kp.bg hg));have HP:Hid (∀(W:World) (x:Tm),Kp (fun k=>k=g) w W->CL gf (#[tv x]++lb) W fun e w'=>e= .returned (.bool (p x))/\Gr W w'):=hp;have HO:Hid (w.ownsRow 0 45 3 (sO g l.length cap) l.length (eQ l)):=aN ho (zL _);obtain⟨hc1,hc2⟩:=NL ho;unfold maxLen at hc2;clear hp ho;by_cases hi:l.findIdx p<l.length
 ·have hv:Cz.iy p l=((l.findIdx p:Nat):Int):=by unfold Cz.iy;rw[if_pos hi]
  rw[hv]at hix;obtain⟨y0,hy0⟩:∃y,l[l.findIdx p]? =some y:=⟨l[l.findIdx p],by simp⟩;have HF:=xW (p:=p) rfl hy0;clear hv hy0;generalize l.findIdx p=i at *;have HF0:Hid ((l.take (i+1)).filter (fun x=> !p x)=l.take i):=HF;clear HF;have hne:¬(i:Int)= -1:=by omega
  go_enter Tryz.func204,Tryz.ntmps204;go_wp2_with fail;refine hix.mono ?_;rintro e w1 ⟨rfl,hg1⟩;have yJ:Hid (Gr w w1):=hg1;have HO1:Hid (w1.ownsRow 0 45 3 (sO g l.length cap) l.length (eQ l)):=ag HO.o hg1.below;clear hix hg1;go_wp2_with fail;go_loopw [5,6,7] (fun s5 s6 _ wr=>∃(j q:Nat) (M:List Tm),j<=l.length/\s6=iV j/\s5=iV q/\q<j/\Hid (wr.ownsRow 0 45 3 (sO g l.length cap) l.length (eQ M)/\M.length=l.length/\M.take q=(l.take j).filter (fun x=> !p x)/\M.drop j=l.drop j/\Kp (fun k=>k=g) w1 wr)) (fun _ s6 _ _=>l.length-(intOf s6).toNat);case atStart=>exact⟨i+1,i,l,by omega,by go_num,rfl,by omega,HO1.o,rfl,HF0.o.symm,rfl,Kp.refl _ _⟩
  case round=>
   obtain⟨j,q,M,hj,rfl,rfl,hqj,HI⟩:=hrel;obtain⟨hoM,Vb,hMt,hMd,hkp⟩:=HI.o;by_cases hlt:j<l.length
   ·have hltz:(j:Int)<(l.length:Int):=(by omega);obtain⟨y,hy⟩:∃y,l[j]? =some y:=⟨l[j],by simp⟩;have hMy:M[j]? =some y:=by
     have:(M.drop j)[0]? =(l.drop j)[0]? :=(by rw[hMd]);simpa[hy]using this
    obtain⟨b1,o1,c1,e1,z1,x1,x2,x3⟩:=(dG (ts:=M) (by rw[Vb];exact hoM)).at3 hMy;simp only[vS,oI,aI,and_true]at e1;obtain⟨⟨rfl,rfl⟩,-,rfl⟩:=e1;rw[nZ]at x1 x2 x3;obtain⟨W2,hW2⟩:=aF (wr.alloc (.cells #[uV y.1.1,uV y.1.2.1,uV y.1.2.2] 45));have G2:Gr wr W2:=(by rw[hW2];exact(Gr.refl _).alloc _);have hcall:=HP.o W2 y ((Kp.bg yJ.o).trans (hkp.tr (Kp.bg (S:=fun k=>k=g) G2)) (fun _ _ h=>h));have HFS:Hid ((l.take (j+1)).filter (fun x=> !p x)=(l.take j).filter (fun x=> !p x)++(if (!p y)then[y]else[])):=dU hy
    have HMD:Hid (∀M':List Tm,M'.drop j=l.drop j->M'.drop (j+1)=l.drop (j+1)):=fun M' h=>(by rw[<-List.drop_drop,h,List.drop_drop]);have HMT:Hid (M.take q=(l.take j).filter (fun x=> !p x)):=hMt;have abf:Hid (M.drop j=l.drop j):=hMd;have HM:Hid (wr.ownsRow 0 45 3 (sO g l.length cap) l.length (eQ M)):=hoM;have Q8:Hid (Kp (fun k=>k=g) w1 wr):=hkp;have hgl:g<wr.heap.size:=z1;clear hy hMy hMt hMd hoM hkp HI;cases hq:p y with
    | true=>
     rw[hq]at hcall;have HE:Hid ((l.take (j+1)).filter (fun x=> !p x)=(l.take j).filter (fun x=> !p x)):=(by rw[HFS.o,hq];simp[Hid]);subst hW2;go_wp2_with (go_at_fn gf;refine hcall.mono ?_;rintro e w3 ⟨rfl,hg3⟩);go_roundw;case rel=>
      refine⟨_,_,_,_,_,_,_,_,_,_,_,_,_,_,_,_,_,_,_,_,_,_,_, ?rl,rfl⟩;exact⟨j+1,q,M,by omega,by go_num,rfl,by omega,ag HM.o (G2.trans hg3).below,Vb,by rw[HE.o];exact HMT.o,HMD.o M abf.o,Q8.o.tr (Kp.bg (S:=fun k=>k=g) (G2.trans hg3))⟩
     case measure=>simp[intOf];omega
    | false=>
     rw[hq]at hcall;have HE:Hid ((l.take (j+1)).filter (fun x=> !p x)=(l.take j).filter (fun x=> !p x)++[y]):=(by rw[HFS.o,hq];simp[Hid]);have hq0:W2.cell? ⟨wr.heap.size,0,none⟩=some (uV y.1.1):=(by rw[hW2];simp);have hq1:W2.cell? ⟨wr.heap.size,1,none⟩=some (uV y.1.2.1):=(by rw[hW2];simp);have hq2:W2.cell? ⟨wr.heap.size,2,none⟩=some (uV y.1.2.2):=(by rw[hW2];simp);have hnl:wr.heap.size<W2.heap.size:=(by rw[hW2];simp);obtain⟨u,hu⟩:∃u,M[q]? =some u:=⟨M[q]'(by omega),by simp⟩;have HU:Hid (M[q]? =some u):=hu;have hgn:g≠wr.heap.size:=(by omega);clear hu;subst hW2;go_wp2_with fail;go_at_fn gf;refine hcall.mono ?_;rintro e w3 ⟨rfl,hg3⟩;have Vv:Hid (w3.ownsRow 0 45 3 (sO g l.length cap) l.length (eQ M)):=ag HM.o (G2.trans hg3).below;obtain⟨b2,o2,c2,e2,z2,u1,u2,u3⟩:=(dG (ts:=M) (by rw[Vb];exact Vv.o)).at3 HU.o;simp only[vS,oI,aI,and_true]at e2;obtain⟨⟨rfl,rfl⟩,-,rfl⟩:=e2;rw[nZ]at u1 u2 u3;obtain⟨f1,f2,f3⟩:w3.frozen? ⟨g,q*3,none⟩=false/\w3.frozen? ⟨g,q*3+1,none⟩=false/\w3.frozen? ⟨g,q*3+2,none⟩=false:=by
      obtain⟨_,⟨h0,_⟩|⟨g',cap',cur,hv,_,hgg,_⟩⟩:=id Vv.o
      ·cases h0
      ·cases hv;simp[World.frozen?,hgg]
     have r0:=(hg3.cell hnl).trans hq0;have r1:=(hg3.cell hnl).trans hq1;have r2:=(hg3.cell hnl).trans hq2;have hn3:=nL hnl hg3.size;have hqz:(q:Int)<(l.length:Int):=(by omega);clear hq0 hq1 hq2 x1 x2 x3 hcall;go_wp2;obtain⟨Hw,hk4⟩:=Cz.zJ true (k:=q) y Vv.o;go_roundw;case rel=>
      refine⟨_,_,_,_,_,_,_,_,_,_,_,_,_,_,_,_,_,_,_,_,_,_,_, ?rl2,rfl⟩;refine⟨j+1,q+1,M.set q y,by omega,by go_num,by go_num,by omega,Hw,by simp[Vb], ?_,HMD.o _ ?_,(Q8.o.tr (Kp.bg (S:=fun k=>k=g) (G2.trans hg3))).tr hk4⟩
      ·rw[HE.o,<-HMT.o,tO,List.getElem?_set_self (by omega),List.take_set_of_le (nR _)];rfl
      ·rw[List.drop_set_of_lt hqj];exact abf.o
     case measure=>simp[intOf];omega
   ·have hltz:¬(j:Int)<(l.length:Int):=(by omega);have hjl:j=l.length:=(by omega);subst hjl;rw[tK]at hMt;have HM9:Hid (M.take q=l.filter (fun x=> !p x)):=hMt;have Y5:(l.filter (fun x=> !p x)).length=q:=(by rw[<-hMt,lK];omega);have HQL:Hid ((l.filter (fun x=> !p x)).length=q):=Y5;obtain⟨w9,hrun,Mk,Ah⟩:=qj (P:=Tryz.prog) (E:=ET) (sT:=39) (z:= .agg #[.int .u64 0, .int .u64 0, .int .u64 0]) 0 (cap-q) Tryz.underlying39 ZF rfl (fun j hj=>by have hj':j<3:=hj;(match j,hj' with|0,_=>rfl|1,_=>rfl|2,_=>rfl)) (by decide) hoM Vb hqj;have hrun:Sem.run Tryz.prog (Builtin.clear_ #[39] 0 #[.slice (some ⟨g,q*3,none⟩) (l.length-q) (cap-q)]) wr= .ok (.tuple #[]) w9:=hrun;have H9:Hid (w9.ownsRow 0 45 3 (sO g q cap) q (eQ (M.take q))/\Kp (fun k=>k=g) w w9):=⟨Mk,(Kp.bg yJ.o).trans (hkp.tr Ah) (fun _ _ h=>h)⟩;have z1:(0:Int)<=(q:Int):=(by omega);have z2:(q:Int)<=(l.length:Int):=(by omega);have z3:¬cap=q:=(by omega);have z4:(q:Int)<=(cap:Int):=(by omega);have z5:¬cap=0:=(by omega);clear hMt Y5 hoM Ah Mk hMd HI hkp;go_wp2;go_ret;refine⟨cap,by rw[HQL.o];rfl, ?_,H9.o.2⟩;rw[HQL.o,<-HM9.o];exact H9.o.1
 ·have hv:Cz.iy p l= -1:=by unfold Cz.iy;rw[if_neg hi]
  rw[hv]at hix;have HF:Hid (l.filter (fun x=> !p x)=l):=by
   rw[List.findIdx_lt_length]at hi;show _=_;rw[List.filter_eq_self];intro a ha;cases hq:p a with
   | false => rfl
   | true => exact absurd ⟨a,ha,hq⟩ hi
  rw[HF.o];clear hv hi;go_enter Tryz.func204,Tryz.ntmps204;go_wp2_with fail;refine hix.mono ?_;rintro e w1 ⟨rfl,hg1⟩;go_wp2;go_ret;exact⟨_,rfl,ag HO.o hg1.below,Kp.bg hg1⟩
end
end Go.Proofs.YtiiefcalkjeieaaGreat
