import Derived.Test.YteekbpokkjjipaaGreatJ36
variable{w W:Go.World}{i N rb k p:Nat}{tag t:Nat->Nat}
set_option maxHeartbeats 8000000
set_option maxRecDepth 100000
namespace Go.Proofs.YteekbpokkjjipaaGreat
namespace Rc
open Go.RowKit Go.Sort Go.Maps Pt Hc
open Lf (DX sQ sD)
open Df (bI gI bg gU eB)
def loc(i:Nat)(tag:Nat->Nat)(k:Nat):Nat:=if tag k=0 then 0 else if i*8589934592<tag k/\tag k<i*8589934592+8589934592 then tag k-i*8589934592 else 4294967299
def WZ(w:World)(tag:Nat->Nat)(i N:Nat)(t:Nat->Nat)(k:Nat):Nat:=if k<w.heap.size then tag k else if 2<=t k/\t k<3+2*N then i*8589934592+t k else 0
def rP(i:Nat)(tag:Nat->Nat)(k:Nat):Prop:=i*8589934592<tag k/\tag k<i*8589934592+8589934592
theorem Mw:loc i tag k=0↔tag k=0:=by
 unfold loc;by_cases h:tag k=0
 ·rw[if_pos h];exact⟨fun _=>h,fun _=>rfl⟩
 ·rw[if_neg h];split
  ·rename_i h2;exact⟨fun e=>absurd e (by omega),fun e=>absurd e h⟩
  ·exact⟨fun e=>absurd e (by decide),fun e=>absurd e h⟩
theorem Ql(h:loc i tag k≠0)(h2:loc i tag k≠4294967299):rP i tag k:=by
 unfold loc at h h2;unfold rP;by_cases e:tag k=0
 ·rw[if_pos e]at h;exact absurd rfl h
 ·rw[if_neg e]at h h2;split at h2
  ·assumption
  ·exact absurd rfl h2
theorem zT(h:tag k≠0)(h2:¬rP i tag k):loc i tag k=4294967299:=by
 have h3:¬(i*8589934592<tag k/\tag k<i*8589934592+8589934592):=h2;unfold loc;rw[if_neg h,if_neg h3]
theorem qj(h:k<w.heap.size):WZ w tag i N t k=tag k:=if_pos h
theorem zS(hN:N<=192)(ho:∀k,k<w.heap.size->(t k=0\/(2<=t k/\t k<3+2*N))->loc i tag k=t k)(k:Nat)(h:t k=0\/(2<=t k/\t k<3+2*N)):loc i (WZ w tag i N t) k=t k:=by
 by_cases hk:k<w.heap.size
 ·rw[<-ho k hk h];unfold loc;rw[qj hk]
 ·have e:WZ w tag i N t k=if 2<=t k/\t k<3+2*N then i*8589934592+t k else 0:=if_neg hk
  rcases h with h|h
  ·rw[if_neg (by omega)]at e;rw[Mw.2 e,h]
  ·rw[if_pos h]at e;unfold loc;rw[e,if_neg (by omega),if_pos (by omega)];omega
structure Gk(g:bI)(R:Nat->Nat->List ah):Prop where
 ok:gI g
 gp:sD g
 no:eB (gU g).length (gU g) (gU g).length≠none
 res:∀p,p<bg g.nodes->rA PX (sQ g) p (some (R p))
theorem Gk.of{g:bI}{R:Nat->Nat->List ah}(h:DX g (some (some R)))(ok:gI g)(gp:sD g):Gk g R:=by
 cases h with
 | tab _ h1 h2 => exact⟨ok,gp,h1,h2⟩
section
variable {g:bI} {R:Nat->Nat->List ah}
theorem Gk.n(h:Gk g R):bg g.nodes<=192:=Df.mf h.ok
theorem Gk.tbl(h:Gk g R):A8 (bg g.nodes) (qX g) (sQ g) R:=KI h.ok h.res
theorem Gk.ord(h:Gk g R):qB (bg g.nodes) (qX g) (lX (bg g.nodes) (lu (tK (bg g.nodes) R))):=PE h.ok h.gp h.no h.res
theorem Gk.rm(h:Gk g R):Rm (bg g.nodes) (qX g) 7000 432 186624 549755813888:=⟨h.n,Ie h.ok,Qk h.ok,by decide,nR _,nR _,by decide⟩
end
structure RG(i:Nat)(w:World)(tag:Nat->Nat)(rb:Nat)(g:bI)(R:Nat->Nat->List ah)(c:Nat->ah->Int)(K O:Nat->List ah)(C:Nat->ah->Int)(F:Nat->List ah)(U:List Th):Prop where
 q:Rq w (loc i tag) rb g.arity (bg g.nodes) (qX g) (tK (bg g.nodes) R) c K O C F U
 ev:Ev (bg g.nodes) (qX g) R c K O C F
 kt:sN (fun p=>(K p).length) (List.range (bg g.nodes))<=7000
 ul:U.length<=1000000000
section
variable {i:Nat} {w w':World} {tag tag':Nat->Nat} {rb:Nat} {g:bI} {R:Nat->Nat->List ah} {c:Nat->ah->Int} {K O:Nat->List ah} {C:Nat->ah->Int} {F:Nat->List ah} {U:List Th} {S:Nat->Prop}
theorem RG.keep(h:RG i w tag rb g R c K O C F U)(hk:Gk g R)(hK:Kp S w w')(hS:∀k,k<w.heap.size->S k->tag k≠0/\¬rP i tag k)(hT:∀k,k<w.heap.size->tag' k=tag k):RG i w' tag' rb g R c K O C F U:=by
 have hn:=hk.n;refine⟨h.q.keep hK (fun k hk e=> ?_) (fun k hk=>by unfold loc;rw[hT k hk]),h.ev,h.kt,h.ul⟩;obtain⟨e1,e2⟩:=hS k hk e;rw[zT e1 e2];exact⟨by decide,by omega⟩
theorem RG.below(h:RG i w tag rb g R c K O C F U)(hk:Gk g R)(hb:Below w.heap.size w w')(hT:∀k,k<w.heap.size->tag' k=tag k):RG i w' tag' rb g R c K O C F U:=h.keep hk (Kp.of_below (S:=fun _=>False) hb) (fun _ _ e=>e.elim) hT
theorem RG.oK(h:RG i w tag rb g R c K O C F U)(hp:p<bg g.nodes):(O p).length<=7000/\(K p).length<=7000:=by
 have h1:=h.ev.inK hp;have h2:=jU (f:=fun q=>(K q).length) (List.mem_range.2 hp);have h3:=h.kt;omega
theorem RG.fK(h:RG i w tag rb g R c K O C F U)(hk:Gk g R)(hp:p<bg g.nodes):(F p).length<=448000:=by
 have h1:=hk.tbl.short (O:=O) (h.ev.Ns p hp);have h2:=h.ev.TM h.kt;omega
theorem Pd{F Fn:Nat->List ah}(hN:N<=192)(h1:∀p,p<N->(F p).Nodup/\(Fn p).Nodup)(h2:∀p,p<N->(F p).length<=448000/\(Fn p).length<=448000):(Pe N F Fn).length<=1000000000:=by
 have key:∀l:List Nat,(∀p∈l,p<N)->(l.flatMap fun p=>(nI (F p) (Fn p)).map fun d=>((p:Int),d.1,d.2)).length<=l.length*896000:=fun l hl=>by
  refine jF _ _ _ fun p hp=> ?_;have hp:=hl p hp;rw[fG];have:=(qw (h1 p hp).1 (h1 p hp).2).len;have:=h2 p hp;omega
 have h3:=key (List.range N) fun p hp=>List.mem_range.1 hp;rw[List.length_range]at h3;have:N*896000<=192*896000:=Nat.mul_le_mul_right _ hN;unfold Pe;omega
def ChG(i:Nat)(w:World)(tag:Nat->Nat)(rb:Nat)(g:bI)(R:Nat->Nat->List ah)(c:Nat->ah->Int)(K O:Nat->List ah)(C:Nat->ah->Int)(F:Nat->List ah)(U:List Th)(l:List Th)(w':World):Prop:=
 ∃tag',(∀k,k<w.heap.size->tag' k=tag k)/\Kp (rP i tag) w w'/\((jk (bg g.nodes) g.arity c l≠0/\Below w.heap.size w w'/\RG i w' tag' rb g R c K O C F U)\/(jk (bg g.nodes) g.arity c l=0/\∃On Cn Fn,RG i w' tag' rb g R (lI c l) (zW K l) On Cn Fn (Pe (bg g.nodes) F Fn)))
theorem zV{K:Nat->List ah}{l:List Th}:sN (fun p=>(zW K l p).length) (List.range N)<=sN (fun p=>(K p).length) (List.range N)+l.length:=by
 have e1:(fun p=>(zW K l p).length)=fun p=>(K p).length+(prt l p).length:=by
  funext p
  unfold zW;rw[dH,fG]
 rw[e1,lW];have e2:=iQ l (fun x=>x.1.toNat) N;have e3:sN (fun p=>(prt l p).length) (List.range N)<=sN (fun q=>(l.filter fun s=>decide (s.1.toNat=q)).length) (List.range N):=jV fun p _=>by
  unfold prt;rw[fG,<-List.countP_eq_length_filter,<-List.countP_eq_length_filter];refine List.countP_mono_left fun x _ hx=> ?_;have:x.1=(p:Int):=by simpa using hx
  simp[this]
 omega
theorem RG.change(h:RG i w tag rb g R c K O C F U)(hk:Gk g R)(l:List Th)(v:Value)(hv:Ls EC w v l)(hT:sN (fun p=>(K p).length) (List.range (bg g.nodes))+l.length<=7000):
    Calls Tryz.prog 10 #[.pointer (some ⟨rb,0,none⟩),v] w fun e w'=>e= .returned (.int .i64 (jk (bg g.nodes) g.arity c l))/\Hid (ChG i w tag rb g R c K O C F U l w'):=by
 refine(F6 l v w h.q h.ev hk.tbl hk.ord Un hv hk.rm hT).mono ?_;rintro e w' hc0;obtain⟨he,hc⟩:=hc0.o;subst he;refine⟨rfl, ?_⟩;rcases hc with⟨hz,hb⟩|⟨hz,hch⟩
 ·exact⟨tg tag w 0,fun k hk=>ak hk,Kp.of_below hb, .inl ⟨hz,hb,h.below hk hb (fun k hk=>ak hk)⟩⟩
 ·obtain⟨On,Cn,Fn,t',hev,hq,hKp,hold⟩:=hch;have hkt:sN (fun p=>(zW K l p).length) (List.range (bg g.nodes))<=7000:=nT zV hT;have hfl:∀p,p<bg g.nodes->(Fn p).length<=448000:=fun p hp=>by
   have h1:=hk.tbl.short (O:=On) (hev.Ns p hp);have h2:=hev.TM hkt;omega
  refine⟨WZ w tag i (bg g.nodes) t',fun k hk=>qj hk,hKp.mono fun k e=> ?_, .inr ⟨hz,On,Cn,Fn,hq.retag fun k e=>(zS hk.n (fun k hk _=>(hold k hk).symm) k e),hev,hkt,Pd hk.n (fun p hp=>⟨(h.ev.xe.fr p hp).nodup,(hev.xe.fr p hp).nodup⟩) (fun p hp=>⟨h.fK hk hp,hfl p hp⟩)⟩⟩;have hn:=hk.n;exact Ql (by omega) (by omega)
def CpG(i j:Nat)(w:World)(tag:Nat->Nat)(rb iA:Nat)(g:bI)(R:Nat->Nat->List ah)(c:Nat->ah->Int)(K O:Nat->List ah)(C:Nat->ah->Int)(F:Nat->List ah)(U:List Th)(w':World):Prop:=
 ∃tag',(∀k,k<w.heap.size->tag' k=tag k)/\Below w.heap.size w w'/\w.heap.size<=iA/\RG i w' tag' rb g R c K O C F U/\RG j w' tag' iA g R c K O C F U
theorem RG.copy(h:RG i w tag rb g R c K O C F U)(hk:Gk g R)(j:Nat):
    Calls Tryz.prog 22 #[.pointer (some ⟨rb,0,none⟩)] w fun e w'=>∃iA,e= .returned (.pointer (some ⟨iA,0,none⟩))/\Hid (CpG i j w tag rb iA g R c K O C F U w'):=by
 refine(wB w h.q hk.n (fun p hp=>by have:=(h.oK hp).1;omega) (fun p hp=>by have:=h.fK hk hp;omega) h.ul).mono ?_;rintro e w' ⟨iA,rfl,hc⟩;obtain⟨t',h1,h2,h3,h4,h5⟩:=hc.o;have hn:=hk.n;refine⟨iA,rfl,WZ w tag j (bg g.nodes) t',fun k hk=>qj hk,h5,h1,h.below hk h5 (fun k hk=>qj hk),⟨h4.retag fun k e=>zS hk.n (fun k hk e=> ?_) k e,h.ev,h.kt,h.ul⟩⟩;have e2:=h2 k hk;by_cases z:loc i tag k=0
 ·rw[if_pos z]at e2;rw[e2];exact Mw.2 (Mw.1 z)
 ·rw[if_neg z]at e2;omega
theorem NwR.rg{e:Ending}(h:NwR w g e w')(ok:gI g)(gp:sD g)(i:Nat)(tag:Nat->Nat):Below w.heap.size w w'/\∃a,DX g a/\((a=none/\e= .returned (.tuple #[.pointer none, .int .i64 27]))\/(a=some none/\e= .returned (.tuple #[.pointer none, .int .i64 28]))\/∃R rb tag',a=some (some R)/\Gk g R/\e= .returned (.tuple #[.pointer (some ⟨rb,0,none⟩), .int .i64 0])/\w.heap.size<=rb/\(∀k,k<w.heap.size->tag' k=tag k)/\RG i w' tag' rb g R (fun _ _=>0) (fun _=>[]) (fun _=>[]) (fun _ _=>0) (fun _=>[]) []):=by
 obtain⟨h1,a,ha,hr⟩:=h;refine⟨h1,a,ha, ?_⟩;rcases hr with hr|hr|⟨R,rb,t,rfl,rfl,h2,h3,h4,h5⟩
 ·exact .inl hr
 ·exact .inr (.inl hr)
 ·have hk:=Gk.of ha ok gp;have hn:=hk.n;refine .inr (.inr ⟨R,rb,WZ w tag i (bg g.nodes) t,rfl,hk,rfl,h2,fun k hk=>qj hk,h5.retag fun k e=>zS hk.n (fun k hk e=> ?_) k e,Ev.init _ _ _, ?_,by simp⟩)
  ·rw[h3 k hk]at e;omega
  ·have:∀l:List Nat,sN (fun _=>([]:List ah).length) l=0:=fun l=>by
     rw[pR];simp
   rw[this];exact Nat.zero_le _
def Nt(N:Nat)(F:Nat->List ah)(p:Int):List ah:=if 0<=p/\p<(N:Int)then F p.toNat else[]
theorem Ak(hp:p<N)(F:Nat->List ah):Nt N F (p:Int)=F p:=by
 unfold Nt;rw[if_pos (by omega),Int.toNat_natCast]
theorem RG.front(h:RG i w tag rb g R c K O C F U)(hk:Gk g R)(p:Int):
    Calls Tryz.prog 12 #[.pointer (some ⟨rb,0,none⟩), .int .i64 p] w fun e w'=>∃v,e= .returned v/\w'.ownsRow w.heap.size 45 3 v (Nt (bg g.nodes) F p).length (eu (Nt (bg g.nodes) F p))/\Below w.heap.size w w':=by
 obtain⟨sv,rv,ov,cv,uv,os,ms,h1,h2,h3⟩:=h.q;have hn:=hk.n;obtain⟨nm,hnm⟩:∃nm:Nat->Nat,∀p mb,ms[p]? =some mb->Ml w (loc i tag) (3+p) mb (nm p) (C p) (F p):=by
  have hx:∀p,∃n,∀mb,ms[p]? =some mb->Ml w (loc i tag) (3+p) mb n (C p) (F p):=fun p=>by
   cases e:ms[p]? with
   | none => exact⟨0,fun mb hm=>by cases hm⟩
   | some m=>
    obtain⟨n,hn⟩:=h3 p m e;exact⟨n,fun mb hm=>by cases hm;exact hn⟩
  exact Classical.axiomOfChoice hx
 have key:=rf (nc:=nm) (tag:=fun k=>if loc i tag k=2 then 0 else loc i tag k) p w (h1.rd (fun k e=>by rw[if_neg (by omega),e]) (fun k e=>by rw[if_pos e])) h1.ow.1 (by rw[h1.ol,h1.ml]) (fun q mb hq=>(hnm q mb hq).retag fun k e=>by rw[if_neg (by omega),e]) (fun q hq=>by have:=h.fK hk (p:=q) (by rw[<-h1.ml];exact hq);omega);have e:JE ms F p=Nt (bg g.nodes) F p:=by unfold JE Nt;rw[h1.ml]
 rw[e]at key;exact key
theorem RG.open(h:RG i w tag rb g R c K O C F U)(hk:Gk g R)(p:Int)(u:ah):
    Calls Tryz.prog 16 #[.pointer (some ⟨rb,0,none⟩), .int .i64 p, .agg #[.int .u64 u.1.1, .int .u64 u.1.2.1, .int .u64 u.1.2.2]] w fun e w'=>e= .returned (.bool (bC ax (Nt (bg g.nodes) F p) u))/\Below w.heap.size w w':=by
 obtain⟨sv,rv,ov,cv,uv,os,ms,h1,h2,h3⟩:=h.q;have key:=uX p u w h1 h3 (fun q hq=>by have:=h.fK hk hq;omega);have e:JE ms F p=Nt (bg g.nodes) F p:=by unfold JE Nt;rw[h1.ml]
 rw[e]at key;exact key
theorem RG.counts(h:RG i w tag rb g R c K O C F U)(hk:Gk g R):
    Calls Tryz.prog 13 #[.pointer (some ⟨rb,0,none⟩)] w fun e w'=>∃p n q X,e= .returned (.slice p n q)/\Hid ((∀p,p<bg g.nodes->Nz c p (X p))/\w'.ownsRow w.heap.size 49 5 (.slice p n q) (mP c X (bg g.nodes)).length (fl EC (mP c X (bg g.nodes)))/\Below w.heap.size w w'):=by
 obtain⟨sv,rv,ov,cv,uv,os,ms,h1,h2,h3⟩:=h.q;exact FY w h1 h2 hk.n (fun p u hp=>h.ev.kp p u hp) (fun p hp=>by have:=(h.oK hp).2;omega)
theorem RG.turns(h:RG i w tag rb g R c K O C F U):Calls Tryz.prog 19 #[.pointer (some ⟨rb,0,none⟩)] w fun e w'=>∃p n q,e= .returned (.slice p n q)/\Hid (w'.ownsRow w.heap.size 49 5 (.slice p n q) U.length (fl EC U)/\Below w.heap.size w w'):=by
 obtain⟨sv,rv,ov,cv,uv,os,ms,h1,h2,h3⟩:=h.q;exact xJ w h1 h.ul
theorem RG.count(h:RG i w tag rb g R c K O C F U)(p:Int)(u:ah):Calls Tryz.prog 36 #[.pointer (some ⟨rb,0,none⟩), .agg #[.int .i64 p, .int .u64 u.1.1, .int .u64 u.1.2.1, .int .u64 u.1.2.2]] w fun e w'=>e= .returned (.int .i64 (if 0<=p/\p<(bg g.nodes:Int)then c p.toNat u else 0))/\Gr w w':=by
 obtain⟨sv,rv,ov,cv,uv,os,ms,h1,h2,h3⟩:=h.q;have key:=dM p u w h1.blk h1.ow.1 (fun q m hq=>by
  obtain⟨tb,b,cb,v,k1,_⟩:=h2 q m hq;exact⟨tb,b,cb,_,v,_,k1⟩) (C:=c)
 unfold A7 at key;rw[h1.ol]at key;exact key
end
end Rc
namespace Rc
open Go.RowKit Go.Sort Go.Maps Pt Hc
open Lf (DX dV dZ JI CX ig NI mO)
open Df (iX FR OO bg)
attribute [local go_sem ↓] Go.wp_at_zero Go.wp_at_succ
theorem Ig(w:World)(x:Th):Ls EC (w.alloc (.cells (cc x) 49)) (.slice (some ⟨w.heap.size,0,none⟩) 1 1) [x]:=by
 refine Or.inr ⟨w.heap.size,0,1,rfl,by simp,fun j u hj=> ?_⟩;have h:=(aa (ai w (.cells (cc x) 49))).1 (0+j);rw[h,nZ,<-hj];simp[fl,EC,cc]
theorem Gg(p a:Int)(w:World):Calls Tryz.prog 35 #[.int .i64 p, .int .u64 a] w fun e w'=>e= .returned (.agg #[.int .i64 p, .int .u64 a, .int .u64 0, .int .u64 0])/\Below w.heap.size w w':=by
 obtain⟨W1,hW1⟩:=aB (w.alloc (.cells #[.int .i64 0, .int .u64 0, .int .u64 0, .int .u64 0] 47));obtain⟨yb,hyb⟩:=aB (w.heap.size);have HB1:Hid (Below w.heap.size w W1/\W1.heap[yb]? =some (.cells #[.int .i64 0, .int .u64 0, .int .u64 0, .int .u64 0] 47 (0,0))/\w.heap.size=yb):=by
  rw[hW1,hyb];exact⟨((Gr.refl w).alloc _).below,ai _ _,rfl⟩
 go_enter Tryz.func35,Tryz.ntmps35;go_upto_region 1 with fail;rw[<-hW1,<-hyb];clear hW1 hyb;have c4:=(aa HB1.o.2.1).1;have f4:=(aa HB1.o.2.1).2;have l4:=ae HB1.o.2.1;have HE:Hid (Below w.heap.size w ((((W1.setCell ⟨yb,0,none⟩ (.int .i64 p)).setCell ⟨yb,1,none⟩ (.int .u64 a)).setCell ⟨yb,2,none⟩ (.int .u64 0)).setCell ⟨yb,3,none⟩ (.int .u64 0))):=by
  obtain⟨q1,k1⟩:=Df.bE HB1.o.2.1 0 (.int .i64 p);obtain⟨q2,k2⟩:=Df.bE q1 1 (.int .u64 a);obtain⟨q3,k3⟩:=Df.bE q2 2 (.int .u64 0);obtain⟨q4,k4⟩:=Df.bE q3 3 (.int .u64 0);have kk:=((k1.trans k2 (fun _ _ h=>h)).trans k3 (fun _ _ h=>h)).trans k4 (fun _ _ h=>h);exact HB1.o.1.trans (kk.below HB1.o.1.size fun k hk=>by rw[hk,HB1.o.2.2];exact nR _)
 go_wp2_with fail;refine bodyPost_ret (v:= .agg #[.int .i64 p, .int .u64 a, .int .u64 0, .int .u64 0]) (by simp only[results,Tryz.results35];go_simp) rfl ?_;exact⟨rfl,HE.o⟩
def kx:Th:=((0:Int),dV 4,1)
def kd(p:Nat):Nat:=if p=2\/p=4 then 1 else 0
theorem SI:∀p,p<7->CX 0 p=some (kd p):=by decide
theorem QZ(x:ah):nI [] [x]=[(x,1)]:=by
 have e1:jh [x]=[x]:=by simp[jh,uF]
 have e:wT ([]:List ah) [x]++wT [x] []=[x]:=by simp[wT]
 unfold nI;rw[e,e1];simp
theorem UD:jk 7 1 (fun _ _=>0) [kx]=0:=by
 obtain⟨a1,a2,a3⟩:=dZ (k:=4) (by decide);have h1:gq 7 1 [kx]=0:=NB fun x hx=>by
  rw[wY]at hx;subst hx;refine⟨⟨0,rfl,by decide⟩, ?_⟩;show bL (dV 4).1.1 (dV 4).1.2.1 (dV 4).1.2.2 1=0;rw[a2,a3];simp[bL]
 have h2:BO (fun _ _=>0) [kx]=true:=by
  have hp:prt [kx] 0=[(dV 4,1)]:=by simp[prt,kx]
  have hn:bR (fun _=>0) [(dV 4,1)] (dV 4)=1:=by
   rw[Ht (fun _=>by show(-2147483647:Int)<=0/\(0:Int)<=2147483647;decide) (dV 4) 1 (by decide)];simp
  unfold BO;rw[Bool.and_eq_true,List.all_eq_true,List.all_eq_true];refine⟨fun x hx=> ?_,fun x hx=> ?_⟩
  ·rw[wY]at hx;subst hx;show(!Tt.dQ 1)=true;rw[Tt.dP.2 (by omega)];rfl
  ·rw[wY]at hx;subst hx;show(!Tt.dQ (bR (fun _=>0) (prt [kx] 0) (dV 4)))=true;rw[hp,hn,Tt.dP.2 (by omega)];rfl
 unfold jk;rw[if_neg (by rw[h1];decide),if_pos h2]
theorem Js{R:Nat->Nat->List ah}(hR:∀p,p<7->R p=JI p){K On:Nat->List ah}{Cn:Nat->ah->Int}{Fn:Nat->List ah}{L:Nat->List (Nat×ah)}(h:Ev 7 L R (lI (fun _ _=>0) [kx]) K On Cn Fn)(p:Nat)(hp:p<7):Fn p=[dV (kd p+4)]:=by
 have hO0:On 0=[dV 4]:=by
  have hq:prt [kx] 0=[(dV 4,1)]:=by simp[prt,kx]
  have e:lI (fun _ _=>0) [kx] 0=fun u=>if u=dV 4 then 1 else 0:=by
   unfold lI;rw[hq,Ht (fun _=>by show(-2147483647:Int)<=0/\(0:Int)<=2147483647;decide) (dV 4) 1 (by decide)]
   funext u
   by_cases k:u=dV 4
   ·rw[if_pos k,if_pos k];rfl
   ·rw[if_neg k,if_neg k]
  have h1:=h.own 0 (by decide);rw[e]at h1;refine h1.same ⟨List.pairwise_singleton _ _,fun x hx=> ?_,fun y hy=> ?_⟩
  ·rw[wY]at hx;rw[if_pos hx];decide
  ·by_cases k:y=dV 4
   ·subst k;simp[bC,nQ.refl]
   ·rw[if_neg k]at hy;exact absurd hy (by decide)
 have hOq:∀q,q<7->q≠0->On q=[]:=fun q hq hq0=>by
  have e0:prt [kx] q=[]:=by
   unfold prt;rw[List.filter_eq_nil_iff.2 fun x hx=>by
    rw[wY]at hx;subst hx;show ¬decide ((0:Int)=(q:Int))=true;rw[decide_eq_true_eq];omega]
   rfl
  have e:lI (fun _ _=>0) [kx] q=fun _=>0:=by
   unfold lI;rw[e0,yg (fun _=>by show(-2147483647:Int)<=0/\(0:Int)<=2147483647;decide)]
  have h1:=h.own q hq;rw[e]at h1;exact h1.same fD.nil
 have hx:∀x,x∈kR 7 R On p↔x=dV (kd p+4):=fun x=>by
  rw[jZ];have hd:kd p<=1:=by unfold kd;split<;>omega
  constructor
  ·rintro⟨q,u,a,hq,hu,ha,hx⟩;by_cases hq0:q=0
   ·subst hq0;rw[hO0,wY]at hu;rw[hR 0 (by decide)]at ha;obtain⟨k,hk,rfl⟩:=ig.1 ha;rw[SI p hp]at hk;cases hk;subst hu;rw[Lf.sW (by omega)]at hx;exact(Option.some.inj hx).symm
   ·rw[hOq q hq hq0]at hu;cases hu
  ·rintro rfl;refine⟨0,dV 4,dV (kd p),by decide,by rw[hO0];exact List.mem_singleton_self _,by rw[hR 0 (by decide)];exact ig.2 ⟨_,SI p hp,rfl⟩,Lf.sW (by omega)⟩
 refine(h.Ns p hp).same bD ⟨List.pairwise_singleton _ _,fun a=> ?_⟩;rw[wY,hx];exact⟨fun e=>⟨e,fun b hb _=>by rw[(hx b).1 hb,e]⟩,fun e=>e.1⟩
theorem MG{Fn:Nat->List ah}(h:∀p,p<7->Fn p=[dV (kd p+4)]):Pe 7 (fun _=>[]) Fn=[((0:Int),dV 4,1),(1,dV 4,1),(2,dV 5,1),(3,dV 4,1),(4,dV 5,1),(5,dV 4,1),(6,dV 4,1)]:=by
 unfold Pe;rw[show List.range 7=[0,1,2,3,4,5,6]from rfl];simp only[List.flatMap_cons,List.flatMap_nil,h 0 (by decide),h 1 (by decide),h 2 (by decide),h 3 (by decide),h 4 (by decide),h 5 (by decide),h 6 (by decide),QZ,List.map_cons,List.map_nil,kd];rfl
theorem Qo(k:Nat)(hk:k<=1000):bC ax [dV 4] (dV k)=decide (4<=k):=by
 obtain⟨a1,a2,a3⟩:=dZ (k:=4) (by decide);obtain⟨b1,b2,b3⟩:=dZ (k:=k) (by omega);rw[Bool.eq_iff_iff,decide_eq_true_eq];unfold bC;rw[List.any_eq_true];constructor
 ·rintro⟨x,hx,h⟩;rw[wY]at hx;subst hx;have:=(gG _ _).1 h;have h3:(dV 4).1.1<=(dV k).1.1:=this.1;omega
 ·intro h;refine⟨dV 4,List.mem_singleton_self _,(gG _ _).2 ⟨?_, ?_, ?_⟩⟩
  ·show(dV 4).1.1<=_;omega
  ·show(dV 4).1.2.1<=_;omega
  ·show(dV 4).1.2.2<=_;omega
def Gq(w:World)(rb:Nat)(W:World):Prop:=Below w.heap.size w W/\∃tag R K O C F c,Gk iX R/\RG 1 W tag rb iX R c K O C F [((0:Int),dV 4,1),(1,dV 4,1),(2,dV 5,1),(3,dV 4,1),(4,dV 5,1),(5,dV 4,1),(6,dV 4,1)]/\(∀p,p<7->F p=[dV (kd p+4)])/\c 0 (dV 4)=1
theorem Gq.below{W':World}(h:Gq w rb W)(hb:Below W.heap.size W W'):Gq w rb W':=by
 obtain⟨h1,tag,R,K,O,C,F,c,h2,h3,h4,h5⟩:=h;exact⟨h1.trans (hb.mono h1.size),tag,R,K,O,C,F,c,h2,h3.below h2 hb (fun _ _=>rfl),h4,h5⟩
theorem Gq.open(h:Gq w rb W)(k:Nat)(hk:k<=1000):Calls Tryz.prog 16 #[.pointer (some ⟨rb,0,none⟩), .int .i64 6, .agg #[.int .u64 (k:Int), .int .u64 0, .int .u64 0]] W fun e w'=>e= .returned (.bool (decide (4<=k)))/\Below W.heap.size W w':=by
 obtain⟨h1,tag,R,K,O,C,F,c,h2,h3,h4,h5⟩:=h;have hp:=h3.open h2 6 (dV k);obtain⟨b1,b2,b3⟩:=dZ (k:=k) (by omega);rw[b1,b2,b3,show Nt (bg iX.nodes) F 6=F 6 from Ak (p:=6) (by rw[mO];decide) F,h4 6 (by decide)]at hp;have e:kd 6+4=4:=rfl;rw[e,Qo k hk]at hp;exact hp
theorem Gq.count(h:Gq w rb W):Calls Tryz.prog 36 #[.pointer (some ⟨rb,0,none⟩), .agg #[.int .i64 0, .int .u64 4, .int .u64 0, .int .u64 0]] W fun e w'=>e= .returned (.int .i64 1)/\Below W.heap.size W w':=by
 obtain⟨h1,tag,R,K,O,C,F,c,h2,h3,h4,h5⟩:=h;have hp:=h3.count 0 (dV 4);obtain⟨b1,b2,b3⟩:=dZ (k:=4) (by decide);rw[b1,b2,b3,mO,if_pos (by omega)]at hp;rw[show((0:Int).toNat)=0 from rfl,h5]at hp;exact hp.mono fun e w' h=>⟨h.1,h.2.below⟩
theorem Gq.VC(h:Gq w rb W):Calls Tryz.prog 12 #[.pointer (some ⟨rb,0,none⟩), .int .i64 4] W fun e w'=>∃b o c,e= .returned (.slice (some ⟨b,o,none⟩) 1 c)/\Hid (w'.cell? ⟨b,o,none⟩=some (.int .u64 5)/\b<w'.heap.size/\Below W.heap.size W w'):=by
 obtain⟨h1,tag,R,K,O,C,F,c,h2,h3,h4,h5⟩:=h;have hp:=h3.front h2 4;rw[show Nt (bg iX.nodes) F 4=F 4 from Ak (p:=4) (by rw[mO];decide) F,h4 4 (by decide),show kd 4+4=5 from rfl]at hp;refine hp.mono ?_;rintro e w' ⟨v,rfl,ho,hb⟩;obtain⟨b,o,c,hv,hl,hc⟩:=Ls.get (E:=ET) (j:=0) (aJ (E:=ET) ho) rfl;subst hv;obtain⟨a1,_,_⟩:=dZ (k:=5) (by decide);have h0:=hc 0 (.int .u64 5) (by decide) (by rw[<-show((dV 5).1.1:Int)=5 from a1];rfl);exact⟨b,o,c,rfl,by simpa using h0,hl,hb⟩
theorem Gq.TJ(h:Gq w rb W):Calls Tryz.prog 19 #[.pointer (some ⟨rb,0,none⟩)] W fun e w'=>∃b o c,e= .returned (.slice (some ⟨b,o,none⟩) 7 c)/\Hid ((w'.cell? ⟨b,o+10,none⟩=some (.int .i64 2)/\w'.cell? ⟨b,o+10+1,none⟩=some (.int .u64 5)/\w'.cell? ⟨b,o+10+2,none⟩=some (.int .u64 0)/\w'.cell? ⟨b,o+10+3,none⟩=some (.int .u64 0)/\w'.cell? ⟨b,o+10+4,none⟩=some (.int .i64 1))/\b<w'.heap.size/\Below W.heap.size W w'):=by
 obtain⟨h1,tag,R,K,O,C,F,c,h2,h3,h4,h5⟩:=h;refine h3.turns.mono ?_;rintro e w' ⟨p,n,q,rfl,ho⟩;obtain⟨b,o,c,hv,hl,hc⟩:=Ls.get (E:=EC) (j:=2) (aJ (E:=EC) ho.o.1) rfl;injection hv with e1 e2 e3;subst e1 e2 e3;obtain⟨a1,a2,a3⟩:=dZ (k:=5) (by decide);have k1:((dV 5).1.1:Int)=5:=a1;have k2:((dV 5).1.2.1:Int)=0:=a2;have k3:((dV 5).1.2.2:Int)=0:=a3;have h0:=hc 0 (.int .i64 2) (by decide) rfl;have h1:=hc 1 (.int .u64 5) (by decide) (by rw[<-k1];rfl);have h2:=hc 2 (.int .u64 0) (by decide) (by rw[<-k2];rfl);have h3:=hc 3 (.int .u64 0) (by decide) (by rw[<-k3];rfl);have h4:=hc 4 (.int .i64 1) (by decide) rfl;exact⟨b,o,q,rfl,⟨h0,h1,h2,h3,h4⟩,hl,ho.o.2⟩
theorem yn(w:World):Calls Tryz.prog 8 #[] w fun e w'=>e= .returned (.bool true)/\Below w.heap.size w w':=by
 have hmx:Tryz.prog.follows .mixedOrders=true:=by kernel_rfl
 have heq:=Rs.tJ;go_enter Tryz.func8,Tryz.ntmps8;go_wp2_with fail;refine(Df.Mt w).mono ?_;rintro e w1 ⟨rfl,h1⟩;have H1:=hid h1.o;clear h1;go_wp2_with fail;refine(Df.JJ w1 H1.o.2).mono ?_;rintro e w2 ⟨gb,rfl,h2⟩;have H2:Hid (Below w.heap.size w w2/\Df.Gm w1.heap.size w2 gb iX):=⟨H1.o.1.trans (h2.o.1.mono H1.o.1.size),h2.o.2⟩;clear h2 H1;have hok:Df.gI iX:=by
  obtain⟨nv,ev,fv,pv,ys,ss,hg⟩:=H2.o.2;exact hg.ok
 have ZQ:=hid (dB w2 H2.o.2 hok Lf.NK);go_wp2_with fail;refine ZQ.o.mono ?_;clear ZQ;rintro e w3 h3;obtain⟨b3,a,ha,hr⟩:=h3.o.rg hok Lf.NK 1 (fun _=>3);have hsame:=ha.same NI;rcases hr with⟨rfl,_⟩|⟨rfl,_⟩|⟨R,rb,sF,rfl,hk,rfl,hrb,hold,hrg⟩
 ·rcases hsame with⟨_,k⟩|⟨k,_⟩|⟨_,_,k,_⟩<;>cases k
 ·rcases hsame with⟨k,_⟩|⟨_,k⟩|⟨_,_,k,_⟩<;>cases k
 have HRR:Hid (∀p,p<7->R p=JI p):=by
  rcases hsame with⟨k,_⟩|⟨k,_⟩|⟨R1,R2,k1,k2,k3⟩
  ·cases k
  ·cases k
  ·cases k1;cases k2;rw[mO]at k3;exact k3
 have H3:Hid (Below w.heap.size w w3/\Gk iX R/\RG 1 w3 sF rb iX R (fun _ _=>0) (fun _=>[]) (fun _=>[]) (fun _ _=>0) (fun _=>[]) []):=⟨H2.o.1.trans (b3.mono H2.o.1.size),hk,hrg⟩;have HOW:Hid (∀k,rP 1 sF k->w.heap.size<=k):=fun k e=>by
  by_cases z:k<w2.heap.size
  ·have e1:=hold k z;have e2:=e.1;rw[e1]at e2;omega
  ·have:=H2.o.1.size;omega
 clear h3 b3 ha hsame hk hrb hold hrg H2 hok;go_wp2_with fail;refine(Gg 0 4 w3).mono ?_;rintro e w4 ⟨rfl,h4⟩;have H4:Hid (Below w.heap.size w w4/\Gk iX R/\RG 1 w4 sF rb iX R (fun _ _=>0) (fun _=>[]) (fun _=>[]) (fun _ _=>0) (fun _=>[]) []):=⟨H3.o.1.trans (h4.mono H3.o.1.size),H3.o.2.1,H3.o.2.2.below H3.o.2.1 h4 (fun _ _=>rfl)⟩;clear h4 H3;obtain⟨W5,bT⟩:=aB (w4.alloc (.cells #[.int .i64 0, .int .u64 4, .int .u64 0, .int .u64 0, .int .i64 1] 49));obtain⟨b5,hb5⟩:=aB (w4.heap.size);have H5:Hid (Below w.heap.size w W5/\Ls EC W5 (.slice (some ⟨b5,0,none⟩) 1 1) [kx]/\Gk iX R/\RG 1 W5 sF rb iX R (fun _ _=>0) (fun _=>[]) (fun _=>[]) (fun _ _=>0) (fun _=>[]) []):=by
  have g5:=((Gr.refl w4).alloc (.cells #[.int .i64 0, .int .u64 4, .int .u64 0, .int .u64 0, .int .i64 1] 49)).below;have hl:=Ig w4 kx;obtain⟨a1,a2,a3⟩:=dZ (k:=4) (by decide);have ec:cc kx=#[.int .i64 0, .int .u64 4, .int .u64 0, .int .u64 0, .int .i64 1]:=by
   unfold cc kx;simp only[a1,a2,a3];rfl
  rw[ec]at hl;rw[bT,hb5];exact⟨H4.o.1.trans (g5.mono H4.o.1.size),hl,H4.o.2.1,H4.o.2.2.below H4.o.2.1 g5 (fun _ _=>rfl)⟩
 have HCH:Hid (Calls Tryz.prog 10 #[.pointer (some ⟨rb,0,none⟩), .slice (some ⟨b5,0,none⟩) 1 1] W5 fun e w'=>e= .returned (.int .i64 0)/\Hid (Gq w rb w')):=by
  have hch:=H5.o.2.2.2.change H5.o.2.2.1 [kx] _ H5.o.2.1 (by rw[mO];decide);refine hch.mono ?_;rintro e w' ⟨rfl,h⟩;have h0:=UD;rw[<-mO]at h0;have h0':jk (bg iX.nodes) iX.arity (fun _ _=>0) [kx]=0:=h0;refine⟨by rw[h0'], ?_⟩;obtain⟨tag',h1,h2,h3⟩:=h.o;have hbl:Below w.heap.size w w':=H5.o.1.trans (h2.below H5.o.1.size HOW.o);rcases h3 with⟨hz,_⟩|⟨_,On,Cn,Fn,hq⟩
  ·exact absurd h0' hz
  ·have hev:=hq.ev;rw[mO]at hev;have hf:=Js HRR.o hev;have ht:=MG hf;refine⟨hbl,tag',R,zW (fun _=>[]) [kx],On,Cn,Fn,lI (fun _ _=>0) [kx],H5.o.2.2.1, ?_,hf, ?_⟩
   ·have:=hq;rw[mO,ht]at this;exact this
   ·show bR (fun _=>0) (prt [kx] 0) (dV 4)=1;have hp:prt [kx] 0=[(dV 4,1)]:=(by simp[prt,kx]);rw[hp,Ht (fun _=>by show(-2147483647:Int)<=0/\(0:Int)<=2147483647;decide) (dV 4) 1 (by decide)];simp
 clear HOW HRR;go_wp2_with fail;rw[<-bT,<-hb5];clear bT hb5;refine HCH.o.mono ?_;clear HCH H5 H4;rintro e w6 ⟨rfl,K6⟩;go_wp2_with fail;refine K6.o.VC.mono ?_;rintro e w7 ⟨b7,o7,c7,rfl,h7⟩;have K7:Hid (Gq w rb w7):=K6.o.below h7.o.2.2;have T7:=hid h7.o;clear h7;go_wp2_with fail;refine K7.o.TJ.mono ?_;rintro e w8 ⟨b8,o8,c8,rfl,h8⟩;have K8:Hid (Gq w rb w8):=K7.o.below h8.o.2.2;have T8:Hid (∀W,Below w8.heap.size w8 W->Gq w rb W/\W.cell? ⟨b7,o7,none⟩=some (.int .u64 5)/\b7<W.heap.size/\W.cell? ⟨b8,o8+10,none⟩=some (.int .i64 2)/\W.cell? ⟨b8,o8+10+1,none⟩=some (.int .u64 5)/\W.cell? ⟨b8,o8+10+2,none⟩=some (.int .u64 0)/\W.cell? ⟨b8,o8+10+3,none⟩=some (.int .u64 0)/\W.cell? ⟨b8,o8+10+4,none⟩=some (.int .i64 1)/\b8<W.heap.size):=fun W hW=>by
  have hl8:b8<w8.heap.size:=h8.o.2.1;have hl7:b7<w7.heap.size:=T7.o.2.1;have YC:b7<w8.heap.size:=nL hl7 h8.o.2.2.size;refine⟨K8.o.below hW, ?_,nL YC hW.size, ?_⟩
  ·rw[World.cell?_of_block (a:=⟨b7,o7,none⟩) (hW.block _ YC),World.cell?_of_block (a:=⟨b7,o7,none⟩) (h8.o.2.2.block _ hl7)];exact T7.o.1
  ·have e:∀j,W.cell? ⟨b8,j,none⟩=w8.cell? ⟨b8,j,none⟩:=fun j=>World.cell?_of_block (a:=⟨b8,j,none⟩) (hW.block _ hl8);simp only[e];obtain⟨c0,c1,c2,c3,c4⟩:=h8.o.1;exact⟨c0,c1,c2,c3,c4,nL hl8 hW.size⟩
 clear h8 T7 K6 K7 K8;have heq:∀W,Sem.run Tryz.prog (Op.equalIn 10000 49 (.agg #[.int .i64 2, .int .u64 5, .int .u64 0, .int .u64 0, .int .i64 1]) (.agg #[.int .i64 2, .int .u64 5, .int .u64 0, .int .u64 0, .int .i64 1])) W= .ok true W:=fun W=>by
  have h:=Rs.tJ (⟨(2,5,0,0),by decide⟩,1) (⟨(2,5,0,0),by decide⟩,1) W;rw[decide_eq_true rfl]at h;exact h
 go_upto_region 9 with fail;have hS0:Below w8.heap.size w8 w8.drew:=(Gr.refl w8).drew.below;refine av (S:=fun W:World=>Below w8.heap.size w8 W) (D:=[]) hmx ?_;refine' au 0 hS0 ?_;refine' au 1 hS0 ?_;refine' au 2 hS0 ?_;refine' au 3 hS0 ?_;refine' au 4 hS0 ?_;refine' aR 5 hS0 ?h ?_;case h=>(intro W hSw;obtain⟨-,c0,c1,c2,c3,c4,c5,c6,c7⟩:=T8.o W hSw;go_simp;try(with_reducible rfl))
 refine' aR 6 hS0 ?h ?_;case h=>(intro W hSw;obtain⟨-,c0,c1,c2,c3,c4,c5,c6,c7⟩:=T8.o W hSw;go_simp;try(with_reducible rfl))
 refine' aR 7 hS0 ?h ?_;case h=>(intro W hSw;obtain⟨-,c0,c1,c2,c3,c4,c5,c6,c7⟩:=T8.o W hSw;go_simp;try(with_reducible rfl))
 refine' au 8 hS0 ?_;refine' au 9 hS0 ?_;refine' au 10 hS0 ?_;refine' au 11 hS0 ?_;refine' au 12 hS0 ?_;refine' au 13 hS0 ?_;refine' au 14 hS0 ?_;refine' au 15 hS0 ?_;refine' au 16 hS0 ?_;refine' aR 17 hS0 ?h ?_;case h=>(intro W hSw;obtain⟨-,c0,c1,c2,c3,c4,c5,c6,c7⟩:=T8.o W hSw;go_simp;try(with_reducible rfl))
 refine' aR 18 hS0 ?h ?_;case h=>(intro W hSw;obtain⟨-,c0,c1,c2,c3,c4,c5,c6,c7⟩:=T8.o W hSw;go_simp;try(with_reducible rfl))
 refine bF 19 fun K hK=> ?_;rw[if_pos (by kernel_rfl)];go_simp;refine(Gg 2 5 _).mono ?_;rintro e y9 ⟨rfl,g9⟩;have fZ:Below w8.heap.size w8 y9:=hS0.trans (g9.mono hS0.size);clear g9;go_wp2_with fail;refine hK.o _ _ (fun hD=>fZ) ?_;clear hK K;try simp only[Act.put,qI,q0,qS]
 refine' au 20 fZ ?_;refine' aR 21 fZ ?h ?_;case h=>(intro W hSw;have hq:=heq W;go_simp;try(with_reducible rfl))
 refine' au 22 fZ ?_;refine' au 23 fZ ?_;refine' au 24 fZ ?_;refine' au 25 fZ ?_;refine bF 26 fun K hK=> ?_;rw[if_pos (by kernel_rfl)];go_simp;refine((T8.o _ fZ).1.open 4 (by decide)).mono ?_;rintro e y10 ⟨rfl,g10⟩;have qi:Below w8.heap.size w8 y10:=fZ.trans (g10.mono fZ.size);clear g10;go_wp2_with fail;refine hK.o _ _ (fun hD=>qi) ?_;clear hK K;try simp only[Act.put,qI,q0,qS]
 refine' au 27 qi ?_;refine' au 28 qi ?_;refine' au 29 qi ?_;refine' au 30 qi ?_;refine bF 31 fun K hK=> ?_;rw[if_pos (by kernel_rfl)];go_simp;refine((T8.o _ qi).1.open 3 (by decide)).mono ?_;rintro e y11 ⟨rfl,g11⟩;have FJ:Below w8.heap.size w8 y11:=qi.trans (g11.mono qi.size);clear g11;go_wp2_with fail;refine hK.o _ _ (fun hD=>FJ) ?_;clear hK K;try simp only[Act.put,qI,q0,qS]
 refine' au 32 FJ ?_;refine' au 33 FJ ?_;refine' au 34 FJ ?_;refine' au 35 FJ ?_;refine bF 36 fun K hK=> ?_;rw[if_pos (by kernel_rfl)];go_simp;refine(Gg 0 4 _).mono ?_;rintro e y12 ⟨rfl,g12⟩;have Ni:Below w8.heap.size w8 y12:=FJ.trans (g12.mono FJ.size);clear g12;go_wp2_with fail;refine hK.o _ _ (fun hD=>Ni) ?_;clear hK K;try simp only[Act.put,qI,q0,qS]
 refine bF 37 fun K hK=> ?_;rw[if_pos (by kernel_rfl)];go_simp;refine((T8.o _ Ni).1.count).mono ?_;rintro e y13 ⟨rfl,g13⟩;have Nh:Below w8.heap.size w8 y13:=Ni.trans (g13.mono Ni.size);clear g13;go_wp2_with fail;refine hK.o _ _ (fun hD=>Nh) ?_;clear hK K;try simp only[Act.put,qI,q0,qS]
 refine' au 38 Nh ?_;refine' au 39 Nh ?_;refine' au 40 Nh ?_;try simp only[Act.put,qI,q0]
 refine aj (by kernel_rfl) ?_ _;go_wp2_with fail;go_ret;exact⟨rfl,(T8.o _ Nh).1.1⟩
end Rc
end Go.Proofs.YteekbpokkjjipaaGreat
