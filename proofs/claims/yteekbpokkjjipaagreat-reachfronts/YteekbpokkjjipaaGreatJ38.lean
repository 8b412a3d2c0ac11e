import Derived.Test.YteekbpokkjjipaaGreatJ37
variable{w wr w':Go.World}{i n q cb S m N j rb:Nat}{v:Go.Value}{p:Option Go.Addr}{tag:Nat->Nat}
set_option maxHeartbeats 8000000
set_option maxRecDepth 100000
namespace Go.Proofs.YteekbpokkjjipaaGreat
namespace Rc
open Go.RowKit Go.Sort Go.Maps Pt Hc
open Lf (DX sD)
open Lf.Rb (Gj SQ)
open Df (bg GR NV dI jG iO wP)
attribute [local go_sem ↓] Go.wp_at_zero Go.wp_at_succ
theorem KE{B M tb:Nat}{R R':Nat->Nat->List ah}(h:Gj B M w tb n R)(hs:∀p,p<n->R p=R' p):Gj B M w tb n R':=by
 obtain⟨v,h1,h2,h3,us,h4,h5,h6⟩:=h;refine⟨v,h1,h2,h3,us,h4,h5,fun p u hu=> ?_⟩;obtain⟨vs,a1,a2,a3⟩:=h6 p u hu;have hp:p<n:=by
  have:=(lG.1 hu).1;omega
 exact⟨vs,a1,a2,fun q x hx=>by rw[<-hs p hp];exact a3 q x hx⟩
def FsR(w:World)(tag:Nat->Nat)(i:Nat)(g:Df.bI)(e:Ending)(w':World):Prop:=
 Below w.heap.size w w'/\(e= .returned (.tuple #[.pointer none, .pointer none, .bool true])\/∃R rb tb tag' B M,Gk g R/\e= .returned (.tuple #[.pointer (some ⟨rb,0,none⟩), .pointer (some ⟨tb,0,none⟩), .bool true])/\(∀k,k<w.heap.size->tag' k=tag k)/\(∀k,B<=k->k<M->tag' k=0)/\w.heap.size<=B/\M<=w'.heap.size/\RG i w' tag' rb g R (fun _ _=>0) (fun _=>[]) (fun _=>[]) (fun _ _=>0) (fun _=>[]) []/\Gj B M w' tb (bg g.nodes) R)
theorem JD{M0:Nat}{nv ev:Value}{a:Int}{xs:List NV}{es:List dI}(w:World)(hG:GR M0 w nv ev xs es)(hC:wP ev xs)(hP:sD (jG a xs es))(i:Nat)(tag:Nat->Nat):Calls Tryz.prog 7 #[.agg (iO a nv ev)] w fun e w'=>Hid (FsR w tag i (jG a xs es) e w'):=by
 obtain⟨xb,hxb⟩:=aB (w.heap.size);obtain⟨W0,hW0⟩:=aB (w.alloc (.cells (iO a nv ev) 25));have P0:Hid (Below w.heap.size w W0/\W0.heap[xb]? =some (.cells (iO a nv ev) 25 (0,0))):=by
  rw[hW0,hxb];exact⟨((Gr.refl w).alloc _).below,ai _ _⟩
 have hnw:=Df.dB (a:=a) W0 (hG.below P0.o.1) hC;have HW0:Hid (w.alloc (.cells (iO a nv ev) 25)=W0/\w.heap.size=xb):=⟨hW0.symm,hxb.symm⟩;have c0:=(aa P0.o.2).1;have l0:=ae P0.o.2;have HP:=hid hP;clear hG hC hW0 hxb hP;obtain⟨g,hg⟩:=aB (jG a xs es);rw[<-hg]at hnw HP⊢;clear hg;have FNO:Hid (∀W,Below w.heap.size w W->FsR w tag i g (.returned (.tuple #[.pointer none, .pointer none, .bool true])) W):=fun W h=>⟨h, .inl rfl⟩;go_enter Tryz.func7,Tryz.ntmps7;go_upto_region 1 with fail;rw[HW0.o.1,HW0.o.2];clear HW0;go_wp2_with fail;refine hnw.mono ?_;clear hnw c0 l0;rintro r w1 ⟨hb1,e,t,hfl,hr⟩;have B1:Hid (Below w.heap.size w w1):=P0.o.1.trans (hb1.mono P0.o.1.size);rcases hr with⟨hne,rfl⟩|⟨rfl,gb,rfl,hgm⟩
 ·clear hfl hb1;go_wp2_with fail;refine bodyPost_ret (v:= .tuple #[.pointer none, .pointer none, .bool true]) (by simp[results,Tryz.results7,go_sem]) rfl ?_;exact FNO.o _ B1.o
 ·have jg:=hid (hfl.ok.1 rfl);have ZQ:=hid (dB w1 hgm jg.o HP.o);have HGM:=hid hgm;clear hfl hb1 hgm;go_wp2_with fail;refine ZQ.o.mono ?_;clear ZQ;rintro r w2 h2;obtain⟨b2,a2,ha2,hr⟩:=h2.o.rg jg.o HP.o i tag;have B2:Hid (Below w.heap.size w w2):=B1.o.trans (b2.mono B1.o.size);have Xp:=hid (Lf.Rb.dB w2 (HGM.o.below b2) jg.o HP.o);have H2:=hid (show w1.heap.size<=w2.heap.size/\w.heap.size<=w1.heap.size from⟨b2.size,B1.o.size⟩);clear h2 b2 HGM;rcases hr with⟨rfl,rfl⟩|⟨rfl,rfl⟩|⟨R,rb,Pj,rfl,hk,rfl,hrb,hold,hrg⟩
  ·go_wp2_with fail;refine Xp.o.mono ?_;clear Xp;rintro r w3 ⟨b3,a3,FH,hr3⟩;have B3:Hid (Below w.heap.size w w3):=B2.o.trans (b3.mono B2.o.size);rcases hr3 with⟨rfl,rfl⟩|⟨rfl,rfl⟩|⟨R3,tb,rfl,rfl,htp⟩
   ·clear b3 ha2 FH;go_wp2_with fail;refine bodyPost_ret (v:= .tuple #[.pointer none, .pointer none, .bool true]) (by simp[results,Tryz.results7,go_sem]) rfl ?_;exact FNO.o _ B3.o
   ·rcases ha2.same FH with⟨_,k⟩|⟨k,_⟩|⟨_,_,k,_⟩<;>cases k
   ·rcases ha2.same FH with⟨_,k⟩|⟨k,_⟩|⟨_,_,k,_⟩<;>cases k
  ·go_wp2_with fail;refine Xp.o.mono ?_;clear Xp;rintro r w3 ⟨b3,a3,FH,hr3⟩;have B3:Hid (Below w.heap.size w w3):=B2.o.trans (b3.mono B2.o.size);rcases hr3 with⟨rfl,rfl⟩|⟨rfl,rfl⟩|⟨R3,tb,rfl,rfl,htp⟩
   ·rcases ha2.same FH with⟨k,_⟩|⟨_,k⟩|⟨_,_,k,_⟩<;>cases k
   ·clear b3 ha2 FH;go_wp2_with fail;refine bodyPost_ret (v:= .tuple #[.pointer none, .pointer none, .bool true]) (by simp[results,Tryz.results7,go_sem]) rfl ?_;exact FNO.o _ B3.o
   ·rcases ha2.same FH with⟨k,_⟩|⟨_,k⟩|⟨_,_,k,_⟩<;>cases k
  ·have HK:=hid hk;have RH:=hid hrg;have HOLD:=hid hold;have HA:=hid ha2;clear hk hrg hold ha2 hrb;go_wp2_with fail;refine Xp.o.mono ?_;clear Xp;rintro r w3 ⟨b3,a3,FH,hr3⟩;have B3:Hid (Below w.heap.size w w3):=B2.o.trans (b3.mono B2.o.size);rcases hr3 with⟨rfl,rfl⟩|⟨rfl,rfl⟩|⟨R3,tb,rfl,rfl,htp⟩
   ·rcases HA.o.same FH with⟨k,_⟩|⟨k,_⟩|⟨_,_,k,k2,_⟩
    ·cases k
    ·cases k
    ·cases k2
   ·rcases HA.o.same FH with⟨k,_⟩|⟨k,_⟩|⟨_,_,k,k2,_⟩
    ·cases k
    ·cases k
    ·cases k2
   ·have hs:∀p,p<bg g.nodes->R3 p=R p:=by
      rcases HA.o.same FH with⟨k,_⟩|⟨k,_⟩|⟨R1,R2,k,k2,k3⟩
      ·cases k
      ·cases k
      ·cases k;cases k2;exact fun p hp=>(k3 p hp).symm
    have FIN:Hid (FsR w tag i g (.returned (.tuple #[.pointer (some ⟨rb,0,none⟩), .pointer (some ⟨tb,0,none⟩), .bool true])) w3):=by
     refine⟨B3.o, .inr ⟨R,rb,tb,tg Pj w2 0,w2.heap.size,w3.heap.size,HK.o,rfl,fun k hk=> ?_,fun k h1 _=>aO (by omega), ?_,nR _,RH.o.below HK.o b3 (fun k hk=>ak hk),KE htp hs⟩⟩
     ·rw[ak (by have:=H2.o;omega)];exact HOLD.o k (by have:=H2.o;omega)
     ·have:=H2.o;omega
    clear b3 FH htp hs;go_wp2_with fail;refine bodyPost_ret (v:= .tuple #[.pointer (some ⟨rb,0,none⟩), .pointer (some ⟨tb,0,none⟩), .bool true]) (by simp[results,Tryz.results7,go_sem]) rfl ?_;exact FIN.o
end Rc
namespace Rc
open Go.RowKit Go.Sort Go.Maps Pt Hc
open Df (bg)
attribute [local go_sem ↓] Go.wp_at_zero Go.wp_at_succ
theorem TC{ops:Array Oper}{rest:List Oper}{o:Oper}{a:Act}{Q:Exit->Act->World->Prop}(hgd:o.guard=none)(s x:Operand)
    (ho:o.op= .call { callee:= .builtin .append,args:=#[s,x],argTypes:=#[26,26] })
    (base:Nat) (v:Value) (n:Nat) (xs:List Value) (hs:a.eval s=v) (hown:w.ownsRow base 49 5 v n xs) (hbase:base<=w.heap.size)
    (y:Th) (cs:Array Value) (hcs:cs.toList=EC.enc y) (hx:a.eval x= .slice (some ⟨w.heap.size,0,none⟩) 1 1) (hbig:(n+1)*40<=140737488355328)
    (h:∀g cap w',Hid (w'.ownsRow base 49 5 (.slice (some ⟨g,0,none⟩) (n+1) cap) (n+1) (xs++EC.enc y))->Hid (Kp (fun q=>v.ownBlock=some q) w w')->Hid (v.ownBlock=some g\/w.heap.size<=g)->wpList Tryz.prog ops Q rest (a.put o.dst (.slice (some ⟨g,0,none⟩) (n+1) cap)) w') :
    wpList Tryz.prog ops Q (o::rest) a (w.alloc (.cells cs 49)):=by
 obtain⟨i0,hi,hz0,hz1,hz2⟩:=info_parts Rs.vH;refine wpList_append_lies _ hgd s x _ ho base 49 i0 _ 5 40 Tryz.underlying26 hi hz0 hz1 hz2 rfl (by decide) v n xs hs (hown.alloc _) ⟨w.heap.size,0,none⟩ 1 1 (EC.enc y) hx rfl (by have:=World.news_of_block (ai w (.cells cs 49));rw[hcs]at this;exact this) (EC.one y) (by decide) (by unfold maxLen;omega) hbig (by simp;omega) _ rfl ?_;intro g cap w' h1 h2 h3 _;refine h g cap w' h1 ⟨h2.os,h2.tape,h2.output,nT (by simp) h2.size,fun k hk hne=>(h2.block k (by simp;omega) (fun e=>hne e.symm)).trans ((World.grownBy_alloc w _ none).block k hk (by simp))⟩ ?_;rcases h3 with h3|h3
 ·exact Or.inl h3
 ·right;rw[h3];simp
def only(i:Nat)(tag:Nat->Nat)(k:Nat):Nat:=if tag k=0\/(i*8589934592<tag k/\tag k<i*8589934592+8589934592)then tag k else 5
theorem Mv(hi:1<=i)(tag:Nat->Nat)(k:Nat):loc i (only i tag) k=loc i tag k:=by
 by_cases h:tag k=0\/(i*8589934592<tag k/\tag k<i*8589934592+8589934592)
 ·have e:only i tag k=tag k:=if_pos h;unfold loc;rw[e]
 ·have e:only i tag k=5:=if_neg h;rw[zT (by rw[e];decide) (fun z=>by have:=z.1;rw[e]at this;omega),zT (fun z=>h (.inl z)) (fun z=>h (.inr z))]
theorem LU(hj:1<=j)(hij:i≠j)(tag:Nat->Nat)(k:Nat):¬rP j (only i tag) k:=by
 intro z;obtain⟨z1,z2⟩:=z;unfold only at z1 z2;split at z1
 ·rename_i h;rw[if_pos h]at z2;rcases h with h|h<;>omega
 ·omega
section
variable {i:Nat} {w:World} {tag:Nat->Nat} {rb:Nat} {g:Df.bI} {R:Nat->Nat->List ah} {c:Nat->ah->Int} {K O:Nat->List ah} {C:Nat->ah->Int} {F:Nat->List ah} {U:List Th}
theorem RG.only(h:RG i w tag rb g R c K O C F U)(hi:1<=i):RG i w (only i tag) rb g R c K O C F U:=
 ⟨h.q.retag fun k e=>by rw[Mv hi],h.ev,h.kt,h.ul⟩
end
def Om(g:Df.bI)(x:Th):Prop:=gq (bg g.nodes) g.arity [x]=0/\-999<=x.2.2/\x.2.2<=999
def A9(w wr:World)(cb:Nat)(g:Df.bI)(R:Nat->Nat->List ah)(S:Nat)(p:Option Addr)(n q:Nat)(out:List Th)(m:Nat):Prop:=
 Below w.heap.size w wr/\out.length=n/\n<=m/\m<=40/\(∀x∈out,Om g x)/\wr.ownsRow w.heap.size 49 5 (.slice p n q) n (fl EC out)/\
  ∃tag c K O C F U,RG 9 wr tag cb g R c K O C F U/\sN (fun p=>(K p).length) (List.range (bg g.nodes))<=S+m/\(∀k,k<wr.heap.size->rP 9 tag k->w.heap.size<=k)/\(∀k,(Value.slice p n q).ownBlock=some k->tag k=5)
theorem A9.below{g:Df.bI}{R:Nat->Nat->List ah}{out:List Th}(h:A9 w wr cb g R S p n q out m)(hk:Gk g R)(hb:Below wr.heap.size wr w'):A9 w w' cb g R S p n q out m:=by
 obtain⟨h1,h2,h3,h4,h5,h6,tag,c,K,O,C,F,U,h7,h8,h9,h10⟩:=h;refine⟨h1.trans (hb.mono h1.size),h2,h3,h4,h5,ag h6 hb,tg tag wr 5,c,K,O,C,F,U,h7.below hk hb (fun k hk=>ak hk),h8,fun k hk e=> ?_,fun k e=> ?_⟩
 ·by_cases z:k<wr.heap.size
  ·unfold rP at e;rw[ak z]at e;exact h9 k z e
  ·have:=h1.size;omega
 ·rw[ak (h6.lt k e).2];exact h10 k e
theorem Pf(z:Int): -999<=Int.tmod z 1000/\Int.tmod z 1000<=999:=by
 have h1:=Int.tmod_lt_of_pos z (show(0:Int)<1000 by decide);have h2:=Int.lt_tmod_of_pos z (show(0:Int)<1000 by decide);omega
theorem JV{ar:Int}{c:Nat->ah->Int}{l:List Th}(h:jk N ar c l=0):gq N ar l=0:=by
 unfold jk at h;by_cases e:gq N ar l=0
 ·exact e
 ·rw[if_pos e]at h;exact h
theorem A9.ask{g:Df.bI}{R:Nat->Nat->List ah}{out:List Th}(h:A9 w wr cb g R S p n q out m)(hk:Gk g R)(hS:S<=6960)(hm:m<40)(y:Th)(hy: -999<=y.2.2/\y.2.2<=999)(W7:World)(hb:Below wr.heap.size wr W7)(b8:Nat)(dN:wr.heap.size<=b8)(hc:W7.heap[b8]? =some (.cells (cc y) 49 (0,0)))(v:Value)(hv:Ls EC W7 v [y]):
    Calls Tryz.prog 10 #[.pointer (some ⟨cb,0,none⟩),v] W7 fun e w'=>∃z,e= .returned (.int .i64 z)/\Hid (A9 w w' cb g R S p n q out (m+1)/\(z=0->Om g y)/\w'.heap[b8]? =some (.cells (cc y) 49 (0,0))):=by
 obtain⟨h1,h2,h3,h4,h5,h6,tag,c,K,O,C,F,U,h7,h8,h9,h10⟩:=h;have hbs:=hb.size;have hws:=h1.size;have hl8:b8<W7.heap.size:=ae hc;obtain⟨t7,OJ⟩:=aB (tg tag wr 6);have o7:∀k,k<wr.heap.size->t7 k=tag k:=fun k hk=>by rw[OJ];exact ak hk
 have n7:∀k,wr.heap.size<=k->t7 k=6:=fun k hk=>by rw[OJ];exact aO hk
 have e7:∀k,rP 9 t7 k->w.heap.size<=k:=fun k e=>by
  by_cases z:k<wr.heap.size
  ·have e2:rP 9 tag k:=(by unfold rP at e⊢;rw[o7 k z]at e;exact e);exact h9 k z e2
  ·omega
 have s7:∀k,(Value.slice p n q).ownBlock=some k->t7 k=5:=fun k e=>by rw[o7 k (h6.lt k e).2];exact h10 k e
 have hR:=h7.below hk hb o7;refine(hR.change hk [y] v hv (by simp only[lS];omega)).mono ?_;rintro e w' ⟨rfl,hc0⟩;obtain⟨t',f1,f2,f3⟩:=hc0.o;refine⟨_,rfl,⟨(h1.trans (hb.mono h1.size)).trans (f2.below (nT hws hbs) e7),h2,by omega,by omega,h5,ay f2 (ag h6 hb) fun k e z=> ?_, ?_⟩,fun z=>⟨JV z,hy⟩,(f2.block b8 hl8 fun z=> ?_).trans hc⟩
 ·have:=z.1;rw[s7 k e]at this;omega
 ·have g1:∀k,k<w'.heap.size->rP 9 t' k->w.heap.size<=k:=fun k _ e=>by
    by_cases z:k<W7.heap.size
    ·have e2:rP 9 t7 k:=(by unfold rP at e⊢;rw[f1 k z]at e;exact e);exact e7 k e2
    ·omega
  have g2:∀k,(Value.slice p n q).ownBlock=some k->t' k=5:=fun k e=>by
   rw[f1 k (by have:=(h6.lt k e).2;omega)];exact s7 k e
  rcases f3 with⟨_,_,f4⟩|⟨_,On,Cn,Fn,f4⟩
  ·exact⟨t',c,K,O,C,F,U,f4,by omega,g1,g2⟩
  ·refine⟨t',_,_,On,Cn,Fn,_,f4, ?_,g1,g2⟩;have:=zV (N:=bg g.nodes) (K:=K) (l:=[y]);simp only[lS]at this;omega
 ·have:=z.1;rw[n7 b8 dN]at this;omega
theorem A9.push{w9:World}{g:Df.bI}{R:Nat->Nat->List ah}{out:List Th}(h:A9 w wr cb g R S p n q out (m+1))(hn:n<=m)(hk:Gk g R){y:Th}(hy:Om g y){g8 cap:Nat}(h8:w9.ownsRow w.heap.size 49 5 (.slice (some ⟨g8,0,none⟩) (n+1) cap) (n+1) (fl EC out++EC.enc y))(k8:Kp (fun k=>(Value.slice p n q).ownBlock=some k) wr w9)(n8:(Value.slice p n q).ownBlock=some g8\/wr.heap.size<=g8):A9 w w9 cb g R S (some ⟨g8,0,none⟩) (n+1) cap (out++[y]) (m+1):=by
 obtain⟨h1,h2,h3,h4,h5,h6,tag,c,K,O,C,F,U,h7,h8',h9,h10⟩:=h;have hws:=h1.size;refine⟨h1.trans (k8.below h1.size fun k e=>(h6.lt k e).1),by rw[dH,h2];rfl,by omega,h4,fun x hx=> ?_,aP h8 rfl (by rw[aS,dK]),tg tag wr 5,c,K,O,C,F,U,h7.keep hk k8 (fun k _ e=> ?_) (fun k hk=>ak hk),h8',fun k _ e=> ?_,fun k e=> ?_⟩
 ·rcases jQ.1 hx with hx|hx
  ·exact h5 x hx
  ·rw[wY]at hx;rw[hx];exact hy
 ·have e2:=h10 k e;refine⟨by omega,fun z=> ?_⟩;have:=z.1;omega
 ·by_cases z:k<wr.heap.size
  ·have e2:rP 9 tag k:=(by unfold rP at e⊢;rw[ak z]at e;exact e);exact h9 k z e2
  ·omega
 ·have e2:k=g8:=by simpa[Value.ownBlock]using e.symm
  subst e2;rcases n8 with n8|n8
  ·rw[ak (h6.lt k n8).2];exact h10 k n8
  ·exact aO n8
theorem A9.start{w1:World}{g:Df.bI}{R:Nat->Nat->List ah}{c:Nat->ah->Int}{K O:Nat->List ah}{C:Nat->ah->Int}{F:Nat->List ah}{U:List Th}(hi9:i≠9)(hc:CpG i 9 w (only i tag) rb cb g R c K O C F U w1):A9 w w1 cb g R (sN (fun p=>(K p).length) (List.range (bg g.nodes))) none 0 0 [] 0:=by
 obtain⟨t',h1,h2,_,_,h5⟩:=hc;refine⟨h2,rfl,nR _,by omega,(fun x hx=>by cases hx),World.ownsRow_nil _ _ _ _,t',c,K,O,C,F,U,h5,nR _,fun k _ e=> ?_,(fun k e=>by cases e)⟩;by_cases z:k<w.heap.size
 ·have e2:rP 9 (only i tag) k:=by unfold rP at e⊢;rw[h1 k z]at e;exact e
  exact absurd e2 (LU (by decide) hi9 tag k)
 ·omega
def Lw(w:World)(v:Value)(l:List Th):Prop:=Ls EC w v l\/(l=[]/\∃p c,v= .slice p 0 c)
theorem Lw.form{l:List Th}(h:Lw w v l):∃p c,v= .slice p l.length c:=by
 rcases h with h|⟨rfl,p,c,rfl⟩
 ·exact h.form
 ·exact⟨p,c,rfl⟩
theorem Lw.below{l:List Th}(h:Lw w v l)(hb:Below w.heap.size w w'):Lw w' v l:=h.imp (fun h=>h.below hb) fun h=>h
theorem Lw.ls{l:List Th}(h:Lw w v l){x:Th}(hj:l[j]? =some x):Ls EC w v l:=by
 rcases h with h|⟨rfl,_⟩
 ·exact h
 ·cases hj
def TaR(w:World)(g:Df.bI)(p:Option Addr)(n q:Nat)(w':World):Prop:=Below w.heap.size w w'/\∃out,out.length=n/\n<=40/\(∀x∈out,Om g x)/\w'.ownsRow w.heap.size 49 5 (.slice p n q) n (fl EC out)
theorem KJ(w:World){g:Df.bI}{R:Nat->Nat->List ah}{c:Nat->ah->Int}{K O:Nat->List ah}{C:Nat->ah->Int}{F:Nat->List ah}{U:List Th}(h:RG i w tag rb g R c K O C F U)(hi:1<=i)(hi9:i≠9)(hk:Gk g R)(hS:sN (fun p=>(K p).length) (List.range (bg g.nodes))<=6960){l:List Th}(hv:Lw w v l)(hl:l.length*40<=140737488355328):
    Calls Tryz.prog 9 #[.pointer (some ⟨rb,0,none⟩),v] w fun e w'=>∃p n q,e= .returned (.slice p n q)/\Hid (TaR w g p n q w'):=by
 have HCP:=hid ((h.only hi).copy hk 9);have HK:=hid hk;have ug:=hid hl;obtain⟨pl,cl,rfl⟩:=hv.form;have HL:Hid (∀W,Below w.heap.size w W->Lw W (.slice pl l.length cl) l):=fun W hb=>hv.below hb;obtain⟨S,hSe⟩:=aB (sN (fun p=>(K p).length) (List.range (bg g.nodes)));rw[<-hSe]at hS;have HS:=hid hS;have HST:Hid (∀w1 cb,CpG i 9 w (Rc.only i tag) rb cb g R c K O C F U w1->A9 w w1 cb g R S none 0 0 [] 0):=fun w1 cb hc=>by
  rw[hSe];exact A9.start hi9 hc
 clear h hi hi9 hk hS hv hl hSe;go_enter Tryz.func9,Tryz.ntmps9;go_wp2_with fail;refine HCP.o.mono ?_;clear HCP;rintro e w1 ⟨cb,rfl,hc⟩;have H1:=hid (HST.o w1 cb hc.o);clear hc HST;obtain⟨nl,hnl⟩:=aB (l.length);rw[<-hnl]at HL ug;have HN:=hid hnl;clear hnl;rw[<-HN.o];go_wp2_with fail;go_loopw [5,13] (fun s5 s13 wr=>∃(k:Nat) (p:Option Addr) (n q:Nat) (out:List Th),k<=nl/\s5= .slice p n q/\s13= .int .i64 (k:Nat)/\Hid (A9 w wr cb g R S p n q out (min k 40))) (fun _ s13 _=>nl-(RowKit.intOf s13).toNat);case atStart=>exact⟨0,none,0,0,[],Nat.zero_le _,rfl,rfl,H1.o⟩
 case round=>
  obtain⟨k,p,n,q,out,hk,rfl,rfl,HI⟩:=hrel;have hk0:(0:Int)<=(k:Int):=by omega
  have hnb:nl<=3518437208884:=by have:=ug.o;omega
  by_cases hlt:k<nl
  ·have hltz:(k:Int)<(nl:Int):=(by omega);obtain⟨x,hx⟩:∃x,l[k]? =some x:=⟨l[k]'(by have:=HN.o;omega),by simp⟩;obtain⟨b1,o1,q1,iI,z1,x0,x1,x2,x3,x4⟩:=Mr (show Ls EC wr (.slice pl nl cl) l from(HL.o wr HI.o.1).ls hx) hx;simp only[vS]at iI;obtain⟨rfl,-,-⟩:=iI;clear hx;obtain⟨y,hy⟩:∃y:Th,y=(x.1,x.2.1,Int.tmod x.2.2 1000):=⟨_,rfl⟩;obtain⟨b8,dN⟩:=aB (wr.heap.size);obtain⟨W5,bT⟩:=aB (wr.alloc (.cells (cc x) 49));have P5:Hid (Below wr.heap.size wr W5/\W5.heap[b8]? =some (.cells (cc x) 49 (0,0))/\wr.heap.size<=b8):=by
    rw[bT,dN];exact⟨((Gr.refl wr).alloc _).below,ai _ _,nR _⟩
   have gK:Hid (wr.alloc (.cells #[.int .i64 x.1, .int .u64 x.2.1.1.1, .int .u64 x.2.1.1.2.1, .int .u64 x.2.1.1.2.2, .int .i64 x.2.2] 49)=W5/\wr.heap.size=b8):=⟨bT.symm,dN.symm⟩;clear bT dN;go_upto_region 6 with fail;rw[gK.o.1,gK.o.2];clear gK x0 x1 x2 x3 x4 z1;have c5:=(aa P5.o.2.1).1;have f5:=(aa P5.o.2.1).2;have l5:=ae P5.o.2.1;obtain⟨W6,DU⟩:=aB (W5.setCell ⟨b8,4,none⟩ (.int .i64 (Int.tmod x.2.2 1000)));have P6:Hid (Below wr.heap.size wr W6/\W6.heap[b8]? =some (.cells (cc y) 49 (0,0))/\wr.heap.size<=b8):=by
    obtain⟨q1,k1⟩:=Df.bE P5.o.2.1 4 (.int .i64 (Int.tmod x.2.2 1000));rw[<-DU]at q1 k1;refine⟨P5.o.1.trans (k1.below P5.o.1.size fun k hk=>by rw[hk];exact P5.o.2.2), ?_,P5.o.2.2⟩;rw[q1,hy];rfl
   have HY:Hid (-999<=y.2.2/\y.2.2<=999):=by
    rw[hy];exact Pf x.2.2
   clear hy;go_upto_region 7 with fail;rw[<-DU];clear DU P5 c5 f5 l5;have c6:=(aa P6.o.2.1).1;have l6:=ae P6.o.2.1;by_cases h40:k<40
   ·have aaR:(k:Int)<40:=(by omega);have hmn:min k 40=k:=(by omega);rw[hmn]at HI;obtain⟨W7,hW7⟩:=aB (W6.alloc (.cells (cc y) 49));obtain⟨b7,WX⟩:=aB (W6.heap.size);have HAK:Hid (Calls Tryz.prog 10 #[.pointer (some ⟨cb,0,none⟩), .slice (some ⟨b7,0,none⟩) 1 1] W7 fun e w'=>∃z,e= .returned (.int .i64 z)/\Hid (A9 w w' cb g R S p n q out (k+1)/\(z=0->Om g y)/\w'.heap[b8]? =some (.cells (cc y) 49 (0,0)))):=by
     have g7:=((Gr.refl W6).alloc (.cells (cc y) 49)).below;have hl:=Ig W6 y;rw[<-hW7]at g7 hl;rw[<-WX]at hl;exact HI.o.ask HK.o HS.o h40 y HY.o W7 (P6.o.1.trans (g7.mono P6.o.1.size)) b8 P6.o.2.2 ((g7.block b8 l6).trans P6.o.2.1) _ hl
    have HW7:Hid (W6.alloc (.cells #[.int .i64 y.1, .int .u64 y.2.1.1.1, .int .u64 y.2.1.1.2.1, .int .u64 y.2.1.1.2.2, .int .i64 y.2.2] 49)=W7/\W6.heap.size=b7):=⟨hW7.symm,WX.symm⟩;have HNK:Hid (n<=k):=HI.o.2.2.1;clear hW7 WX HI;go_wp2_with fail;rw[HW7.o.1,HW7.o.2];refine HAK.o.mono ?_;clear HAK HW7 c6 l6 P6;rintro e w8 ⟨z,rfl,h8⟩;have H8:=hid h8.o;clear h8;have c8:=(aa H8.o.2.2).1;have l8:=ae H8.o.2.2;by_cases hz:z=0
    ·subst hz;have HT:=hid (H8.o.2.1 rfl);go_wp2_with (at_builtin;refine TC rfl _ _ rfl w.heap.size (.slice p n q) n (fl EC out) rfl H8.o.1.2.2.2.2.2.1 H8.o.1.1.size y (cc y) rfl rfl (by have:=HNK.o;omega) ?_);intro g9 Zo w9 h9 k9 n9;have FIN:Hid (A9 w w9 cb g R S (some ⟨g9,0,none⟩) (n+1) Zo (out++[y]) (min (k+1) 40)):=by
      rw[show min (k+1) 40=k+1 by omega];exact H8.o.1.push HNK.o HK.o HT.o h9.o k9.o n9.o
     clear h9 k9 n9 H8 HT c8 l8;generalize hnn:n+1=nn at FIN⊢;go_wp2_with fail;go_roundw;case rel=>exact⟨k+1,some ⟨g9,0,none⟩,nn,Zo,_,by omega,rfl,by go_num,FIN.o⟩
     case measure=>simp[RowKit.intOf];omega
    ·have FIN:Hid (A9 w w8 cb g R S p n q out (min (k+1) 40)):=by
       rw[show min (k+1) 40=k+1 by omega];exact H8.o.1
     go_wp2_with fail;go_roundw;case rel=>exact⟨k+1,p,n,q,out,by omega,rfl,by go_num,FIN.o⟩
     case measure=>simp[RowKit.intOf];omega
   ·have aaR:¬(k:Int)<40:=(by omega);have FIN:Hid (A9 w W6 cb g R S p n q out (min (k+1) 40)):=by
     have h:=HI.o.below HK.o P6.o.1;rw[show min (k+1) 40=min k 40 by omega];exact h
    go_wp2_with fail;go_roundw;case rel=>exact⟨k+1,p,n,q,out,by omega,rfl,by go_num,FIN.o⟩
    case measure=>simp[RowKit.intOf];omega
  ·have hltz:¬(k:Int)<(nl:Int):=(by omega);have FIN:Hid (TaR w g p n q wr):=by
    obtain⟨a1,a2,a3,a4,a5,a6,_⟩:=HI.o;exact⟨a1,out,a2,by omega,a5,a6⟩
   clear HI;go_wp2_with fail;go_ret;exact⟨p,n,q,rfl,FIN⟩
end Rc
namespace Rc
open Go.RowKit Go.Sort Go.Maps Pt Hc
open Lf (bt)
theorem Ia{c:Nat->ah->Int}{X:Nat->List ah}{x:Th}:x∈mP c X N↔∃p t,p<N/\t∈X p/\x=((p:Int),t,c p t):=by
 unfold mP;simp only[List.mem_flatMap,List.mem_range,mM];constructor
 ·rintro⟨p,hp,t,ht,rfl⟩;exact⟨p,t,hp,ht,rfl⟩
 ·rintro⟨p,t,hp,ht,rfl⟩;exact⟨p,hp,t,ht,rfl⟩
theorem Dk{p:Nat}(hp:p<n)(hq:q<n)(R:Nat->Nat->List ah):bt n R (p:Int) (q:Int)=R p q:=by
 unfold bt;rw[if_pos ⟨⟨by omega,by omega⟩,by omega,by omega⟩,Int.toNat_natCast,Int.toNat_natCast]
theorem V8{g:Df.bI}{R:Nat->Nat->List ah}(h:Gk g R)(p q:Int):(bt (Df.bg g.nodes) R p q).length<=64:=by
 unfold bt;split
 ·rename_i hc;exact(h.res p.toNat (by omega) q.toNat).2.2
 ·exact Nat.zero_le _
structure FrQ(N:Nat)(R:Nat->Nat->List ah)(CL:List Th)(q:Nat)(f:List ah):Prop where
 safe:∀x∈CL,0<x.2.2->∀a∈bt N R x.1 (q:Int),∀v,bz a x.2.1=some v->bC ax f v=true
 met:∀v∈f,∃x∈CL,0<x.2.2/\∃a∈bt N R x.1 (q:Int),bz a x.2.1=some v
 so:∀i a b,f[i]? =some a->f[i+1]? =some b->wZ a b<0
 apart:∀(i j:Nat) a b,f[i]? =some a->f[j]? =some b->i≠j->ax a b=false
theorem VB{L:Nat->List (Nat×ah)}{R:Nat->Nat->List ah}{c:Nat->ah->Int}{K O:Nat->List ah}{C:Nat->ah->Int}{F:Nat->List ah}(h:Ev N L R c K O C F){X:Nat->List ah}(hX:∀p,p<N->Nz c p (X p))(hq:q<N):FrQ N R (mP c X N) q (F q) where
 safe x hx h0 a ha v hv:=by
  obtain⟨p,t,hp,ht,rfl⟩:=Ia.1 hx;rw[Dk hp hq]at ha;exact(Pt.mU (X:=PX) gG _ _).2 (Nq (fun q hq=>vG (h.own q hq)) (h.Ns q hq) hp h0 ha hv)
 met v hv:=by
  obtain⟨p,t,s,hp,ht,hs,ha⟩:=QL (fun q hq=>vG (h.own q hq)) (h.Ns q hq) hv;exact⟨((p:Int),t,c p t),Ia.2 ⟨p,t,hp,((hX p hp).mem t).2 (by omega),rfl⟩,ht,s,by rw[Dk hp hq];exact hs,ha⟩
 so i a b ha hb:=by
  have h1:=(h.Ns q hq).so;have h2:=List.pairwise_iff_getElem.1 h1;obtain⟨l1,e1⟩:=lG.1 ha;obtain⟨l2,e2⟩:=lG.1 hb;have h3:=h2 i (i+1) l1 l2 (by omega);rw[e1,e2]at h3;have h4:=(jq a b).2 h3;simpa[dh]using h4
 apart i j a b ha hb hij:=by
  rw[Bool.eq_false_iff];intro hab;have e:=JC (h.Ns q hq) (lM ha) (lM hb) ((gG a b).1 hab);subst e;obtain⟨l1,e1⟩:=lG.1 ha;obtain⟨l2,e2⟩:=lG.1 hb;have hn:=List.pairwise_iff_getElem.1 (h.xe.fr q hq).nodup;rcases Nat.lt_or_gt_of_ne hij with k|k
  ·exact hn i j l1 l2 k (e1.trans e2.symm)
  ·exact hn j i l2 l1 k (e2.trans e1.symm)
def jK:El Bool where
 k:=1
 enc b:=[.bool b]
 len _:=rfl
 one x u hu:=by
  simp at hu;subst hu;rfl
theorem UL:(Tryz.prog.info? 4).map (fun i=>(i.zero,i.size,i.bytes))=some (some (.bool false),1,1):=by kernel_rfl
theorem Jq(n:Nat):(madeCells (Value.bool false).cells (n*1)).toList=fl jK (List.replicate n false):=by
 rw[Nat.mul_one];refine(toList_madeCells_one _ n).trans ?_
 induction n with
 | zero => rfl
 | succ n ih => rw[List.replicate_succ,List.replicate_succ,aQ,<-ih];rfl
def il(f us:List ah):List Bool:=f.map fun v=>decide (v∈us)
theorem Mg(f:List ah):il f []=List.replicate f.length false:=by
 unfold il
 induction f with
 | nil => rfl
 | cons a f ih => rw[List.map_cons,ih,lC,List.replicate_succ];rfl
def gV(f us:List ah)(o:Option ah)(i:Nat):List Bool:=(f.take i).map (fun v=>decide (v∈us)|| decide (o=some v))++(f.drop i).map fun v=>decide (v∈us)
theorem yh(f us:List ah)(o:Option ah):gV f us o 0=il f us:=by simp[gV,il]
theorem BV(f us:List ah)(o:Option ah)(i:Nat):(gV f us o i).length=f.length:=by
 unfold gV;rw[dH,fG,fG,lK,List.length_drop];omega
theorem BZ(f us:List ah)(o:Option ah):gV f us o f.length=il f (o.toList++us):=by
 unfold gV il;rw[List.take_length,List.drop_length,List.map_nil,DF];refine List.map_congr_left fun v _=> ?_;cases o with
 | none=>
  rw[Bool.eq_iff_iff];simp;exact decide_eq_true_iff.symm
 | some u=>
  by_cases h1:v∈us<;>by_cases h2:u=v
  ·simp[h1,h2]
  ·simp[h1,h2]
  ·simp[h2]
  ·have h3:¬v=u:=fun e=>h2 e.symm;simp[h1,h2,h3]
theorem BX{f us:List ah}{o:Option ah}{v:ah}(h:f[i]? =some v):(gV f us o i)[i]? =some (decide (v∈us)):=by
 have hl:=(lG.1 h).1;unfold gV;rw[List.getElem?_append_right (by rw[fG,lK];omega),fG,lK,show i-min i f.length=0 by omega,gM,List.getElem?_drop,nO,h];rfl
theorem yj{f us:List ah}{o:Option ah}{v:ah}(h:f[i]? =some v):(gV f us o i).set i (decide (v∈us)|| decide (o=some v))=gV f us o (i+1):=by
 have hl:=(lG.1 h).1;have hd:f.drop i=v::f.drop (i+1):=by
  rw[<-List.getElem_cons_drop hl,(lG.1 h).2]
 unfold gV;rw[List.set_append_right _ _ (by rw[fG,lK];omega),fG,lK,show i-min i f.length=0 by omega,hd,List.map_cons,List.set_cons_zero,List.take_add_one,h,DD,Option.toList_some,List.map_singleton,aA];rfl
end Rc
end Go.Proofs.YteekbpokkjjipaaGreat
