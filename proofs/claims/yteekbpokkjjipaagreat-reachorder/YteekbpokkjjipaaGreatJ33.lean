import Derived.Test.YteekbpokkjjipaaGreatJ32
variable{w W w':Go.World}{B M i N rb k p tb B0:Nat}{tag t:Nat->Nat}{v:Go.Value}{S:Nat->Prop}{α:Type}
set_option maxHeartbeats 8000000
set_option maxRecDepth 100000
namespace Go.Proofs.YteekbpokkjjipaaGreat
namespace Rc
open Go.RowKit Go.Sort Go.Maps Pt Hc
open Lf (E8 uL uC)
open Df (bD gQ aO gZ eH)
def loc(i:Nat)(tag:Nat->Nat)(k:Nat):Nat:=if tag k=0 then 0 else if i*8589934592<tag k/\tag k<i*8589934592+8589934592 then tag k-i*8589934592 else 4294967299
def YA(w:World)(tag:Nat->Nat)(i N:Nat)(t:Nat->Nat)(k:Nat):Nat:=if k<w.heap.size then tag k else if 2<=t k/\t k<3+2*N then i*8589934592+t k else 0
def gW(i:Nat)(tag:Nat->Nat)(k:Nat):Prop:=i*8589934592<tag k/\tag k<i*8589934592+8589934592
theorem NC:loc i tag k=0↔tag k=0:=by
 unfold loc;by_cases h:tag k=0
 ·rw[if_pos h];exact⟨fun _=>h,fun _=>rfl⟩
 ·rw[if_neg h];split
  ·rename_i h2;exact⟨fun e=>absurd e (by omega),fun e=>absurd e h⟩
  ·exact⟨fun e=>absurd e (by decide),fun e=>absurd e h⟩
theorem RL(h:loc i tag k≠0)(h2:loc i tag k≠4294967299):gW i tag k:=by
 unfold loc at h h2;unfold gW;by_cases e:tag k=0
 ·rw[if_pos e]at h;exact absurd rfl h
 ·rw[if_neg e]at h h2;split at h2
  ·assumption
  ·exact absurd rfl h2
theorem Bc(h:tag k≠0)(h2:¬gW i tag k):loc i tag k=4294967299:=by
 have h3:¬(i*8589934592<tag k/\tag k<i*8589934592+8589934592):=h2;unfold loc;rw[if_neg h,if_neg h3]
theorem rz(h:k<w.heap.size):YA w tag i N t k=tag k:=if_pos h
theorem Bb(hN:N<=192)(ho:∀k,k<w.heap.size->(t k=0\/(2<=t k/\t k<3+2*N))->loc i tag k=t k)(k:Nat)(h:t k=0\/(2<=t k/\t k<3+2*N)):loc i (YA w tag i N t) k=t k:=by
 by_cases hk:k<w.heap.size
 ·rw[<-ho k hk h];unfold loc;rw[rz hk]
 ·have e:YA w tag i N t k=if 2<=t k/\t k<3+2*N then i*8589934592+t k else 0:=if_neg hk
  rcases h with h|h
  ·rw[if_neg (by omega)]at e;rw[NC.2 e,h]
  ·rw[if_pos h]at e;unfold loc;rw[e,if_neg (by omega),if_pos (by omega)];omega
structure Gk(g:bD)(R:Nat->Nat->List ah):Prop where
 ok:gQ g
 gp:uC g
 no:eH (gZ g).length (gZ g) (gZ g).length≠none
 res:∀p,p<aO g.nodes->rR PX (uL g) p (some (R p))
theorem Gk.of{g:bD}{R:Nat->Nat->List ah}(h:E8 g (some (some R)))(ok:gQ g)(gp:uC g):Gk g R:=by
 cases h with
 | tab _ h1 h2 => exact⟨ok,gp,h1,h2⟩
section
variable {g:bD} {R:Nat->Nat->List ah}
theorem Gk.n(h:Gk g R):aO g.nodes<=192:=Df.mJ h.ok
theorem Gk.tbl(h:Gk g R):Ci (aO g.nodes) (sH g) (uL g) R:=Md h.ok h.res
theorem Gk.ord(h:Gk g R):rJ (aO g.nodes) (sH g) (mI (aO g.nodes) (lT (rZ (aO g.nodes) R))):=QX h.ok h.gp h.no h.res
theorem Gk.rm(h:Gk g R):Rm (aO g.nodes) (sH g) 7000 432 186624 549755813888:=⟨h.n,Jd h.ok,RJ h.ok,by decide,nR _,nR _,by decide⟩
end
structure RG(i:Nat)(w:World)(tag:Nat->Nat)(rb:Nat)(g:bD)(R:Nat->Nat->List ah)(c:Nat->ah->Int)(K O:Nat->List ah)(C:Nat->ah->Int)(F:Nat->List ah)(U:List Th):Prop where
 q:Rq w (loc i tag) rb g.arity (aO g.nodes) (sH g) (rZ (aO g.nodes) R) c K O C F U
 ev:Ev (aO g.nodes) (sH g) R c K O C F
 kt:sN (fun p=>(K p).length) (List.range (aO g.nodes))<=7000
 ul:U.length<=1000000000
section
variable {i:Nat} {w w':World} {tag tag':Nat->Nat} {rb:Nat} {g:bD} {R:Nat->Nat->List ah} {c:Nat->ah->Int} {K O:Nat->List ah} {C:Nat->ah->Int} {F:Nat->List ah} {U:List Th} {S:Nat->Prop}
theorem RG.keep(h:RG i w tag rb g R c K O C F U)(hk:Gk g R)(hK:Kp S w w')(hS:∀k,k<w.heap.size->S k->tag k≠0/\¬gW i tag k)(hT:∀k,k<w.heap.size->tag' k=tag k):RG i w' tag' rb g R c K O C F U:=by
 have hn:=hk.n;refine⟨h.q.keep hK (fun k hk e=> ?_) (fun k hk=>by unfold loc;rw[hT k hk]),h.ev,h.kt,h.ul⟩;obtain⟨e1,e2⟩:=hS k hk e;rw[Bc e1 e2];exact⟨by decide,by omega⟩
theorem RG.below(h:RG i w tag rb g R c K O C F U)(hk:Gk g R)(hb:Below w.heap.size w w')(hT:∀k,k<w.heap.size->tag' k=tag k):RG i w' tag' rb g R c K O C F U:=h.keep hk (Kp.of_below (S:=fun _=>False) hb) (fun _ _ e=>e.elim) hT
theorem RG.oK(h:RG i w tag rb g R c K O C F U)(hp:p<aO g.nodes):(O p).length<=7000/\(K p).length<=7000:=by
 have h1:=h.ev.inK hp;have h2:=ko (f:=fun q=>(K q).length) (mR.2 hp);have h3:=h.kt;omega
theorem RG.fK(h:RG i w tag rb g R c K O C F U)(hk:Gk g R)(hp:p<aO g.nodes):(F p).length<=448000:=by
 have h1:=hk.tbl.short (O:=O) (h.ev.OY p hp);have h2:=h.ev.QI h.kt;omega
theorem QC{F Fn:Nat->List ah}(hN:N<=192)(h1:∀p,p<N->(F p).Nodup/\(Fn p).Nodup)(h2:∀p,p<N->(F p).length<=448000/\(Fn p).length<=448000):(nV N F Fn).length<=1000000000:=by
 have key:∀l:List Nat,(∀p∈l,p<N)->(l.flatMap fun p=>(mh (F p) (Fn p)).map fun d=>((p:Int),d.1,d.2)).length<=l.length*896000:=fun l hl=>by
  refine iD _ _ _ fun p hp=> ?_;have hp:=hl p hp;rw[fQ];have:=(jT (h1 p hp).1 (h1 p hp).2).len;have:=h2 p hp;omega
 have h3:=key (List.range N) fun p hp=>mR.1 hp;rw[List.length_range]at h3;have:N*896000<=192*896000:=nM _ hN;unfold nV;omega
def ChG(i:Nat)(w:World)(tag:Nat->Nat)(rb:Nat)(g:bD)(R:Nat->Nat->List ah)(c:Nat->ah->Int)(K O:Nat->List ah)(C:Nat->ah->Int)(F:Nat->List ah)(U:List Th)(l:List Th)(w':World):Prop:=
 ∃tag',(∀k,k<w.heap.size->tag' k=tag k)/\Kp (gW i tag) w w'/\((jb (aO g.nodes) g.arity c l≠0/\Below w.heap.size w w'/\RG i w' tag' rb g R c K O C F U)\/(jb (aO g.nodes) g.arity c l=0/\∃On Cn Fn,RG i w' tag' rb g R (lH c l) (Bf K l) On Cn Fn (nV (aO g.nodes) F Fn)))
theorem Be{K:Nat->List ah}{l:List Th}:sN (fun p=>(Bf K l p).length) (List.range N)<=sN (fun p=>(K p).length) (List.range N)+l.length:=by
 have e1:(fun p=>(Bf K l p).length)=fun p=>(K p).length+(prt l p).length:=by
  funext p
  unfold Bf;rw[dK,fQ]
 rw[e1,mH];have e2:=iZ l (fun x=>x.1.toNat) N;have e3:sN (fun p=>(prt l p).length) (List.range N)<=sN (fun q=>(l.filter fun s=>decide (s.1.toNat=q)).length) (List.range N):=kr fun p _=>by
  unfold prt;rw[fQ,<-List.countP_eq_length_filter,<-List.countP_eq_length_filter];refine List.countP_mono_left fun x _ hx=> ?_;have:x.1=(p:Int):=by simpa using hx
  simp[this]
 omega
theorem RG.change(h:RG i w tag rb g R c K O C F U)(hk:Gk g R)(l:List Th)(v:Value)(hv:Ls EC w v l)(hT:sN (fun p=>(K p).length) (List.range (aO g.nodes))+l.length<=7000):
    Calls Tryz.prog 10 #[.pointer (some ⟨rb,0,none⟩),v] w fun e w'=>e= .returned (.int .i64 (jb (aO g.nodes) g.arity c l))/\Hid (ChG i w tag rb g R c K O C F U l w'):=by
 refine(Hw l v w h.q h.ev hk.tbl hk.ord VI hv hk.rm hT).mono ?_;rintro e w' hc0;obtain⟨he,hc⟩:=hc0.o;subst he;refine⟨rfl, ?_⟩;rcases hc with⟨hz,hb⟩|⟨hz,hch⟩
 ·exact⟨tg tag w 0,fun k hk=>aj hk,Kp.of_below hb, .inl ⟨hz,hb,h.below hk hb (fun k hk=>aj hk)⟩⟩
 ·obtain⟨On,Cn,Fn,t',hev,hq,hKp,hold⟩:=hch;have hkt:sN (fun p=>(Bf K l p).length) (List.range (aO g.nodes))<=7000:=nT Be hT;have hfl:∀p,p<aO g.nodes->(Fn p).length<=448000:=fun p hp=>by
   have h1:=hk.tbl.short (O:=On) (hev.OY p hp);have h2:=hev.QI hkt;omega
  refine⟨YA w tag i (aO g.nodes) t',fun k hk=>rz hk,hKp.mono fun k e=> ?_, .inr ⟨hz,On,Cn,Fn,hq.retag fun k e=>(Bb hk.n (fun k hk _=>(hold k hk).symm) k e),hev,hkt,QC hk.n (fun p hp=>⟨(h.ev.yc.fr p hp).nodup,(hev.yc.fr p hp).nodup⟩) (fun p hp=>⟨h.fK hk hp,hfl p hp⟩)⟩⟩;have hn:=hk.n;exact RL (by omega) (by omega)
def CpG(i j:Nat)(w:World)(tag:Nat->Nat)(rb iH:Nat)(g:bD)(R:Nat->Nat->List ah)(c:Nat->ah->Int)(K O:Nat->List ah)(C:Nat->ah->Int)(F:Nat->List ah)(U:List Th)(w':World):Prop:=
 ∃tag',(∀k,k<w.heap.size->tag' k=tag k)/\Below w.heap.size w w'/\w.heap.size<=iH/\RG i w' tag' rb g R c K O C F U/\RG j w' tag' iH g R c K O C F U
theorem RG.copy(h:RG i w tag rb g R c K O C F U)(hk:Gk g R)(j:Nat):
    Calls Tryz.prog 22 #[.pointer (some ⟨rb,0,none⟩)] w fun e w'=>∃iH,e= .returned (.pointer (some ⟨iH,0,none⟩))/\Hid (CpG i j w tag rb iH g R c K O C F U w'):=by
 refine(xJ w h.q hk.n (fun p hp=>by have:=(h.oK hp).1;omega) (fun p hp=>by have:=h.fK hk hp;omega) h.ul).mono ?_;rintro e w' ⟨iH,rfl,hc⟩;obtain⟨t',h1,h2,h3,h4,h5⟩:=hc.o;have hn:=hk.n;refine⟨iH,rfl,YA w tag j (aO g.nodes) t',fun k hk=>rz hk,h5,h1,h.below hk h5 (fun k hk=>rz hk),⟨h4.retag fun k e=>Bb hk.n (fun k hk e=> ?_) k e,h.ev,h.kt,h.ul⟩⟩;have e2:=h2 k hk;by_cases z:loc i tag k=0
 ·rw[if_pos z]at e2;rw[e2];exact NC.2 (NC.1 z)
 ·rw[if_neg z]at e2;omega
theorem NwR.rg{e:Ending}(h:NwR w g e w')(ok:gQ g)(gp:uC g)(i:Nat)(tag:Nat->Nat):Below w.heap.size w w'/\∃a,E8 g a/\((a=none/\e= .returned (.tuple #[.pointer none, .int .i64 27]))\/(a=some none/\e= .returned (.tuple #[.pointer none, .int .i64 28]))\/∃R rb tag',a=some (some R)/\Gk g R/\e= .returned (.tuple #[.pointer (some ⟨rb,0,none⟩), .int .i64 0])/\w.heap.size<=rb/\(∀k,k<w.heap.size->tag' k=tag k)/\RG i w' tag' rb g R (fun _ _=>0) (fun _=>[]) (fun _=>[]) (fun _ _=>0) (fun _=>[]) []):=by
 obtain⟨h1,a,ha,hr⟩:=h;refine⟨h1,a,ha, ?_⟩;rcases hr with hr|hr|⟨R,rb,t,rfl,rfl,h2,h3,h4,h5⟩
 ·exact .inl hr
 ·exact .inr (.inl hr)
 ·have hk:=Gk.of ha ok gp;have hn:=hk.n;refine .inr (.inr ⟨R,rb,YA w tag i (aO g.nodes) t,rfl,hk,rfl,h2,fun k hk=>rz hk,h5.retag fun k e=>Bb hk.n (fun k hk e=> ?_) k e,Ev.init _ _ _, ?_,by simp⟩)
  ·rw[h3 k hk]at e;omega
  ·have:∀l:List Nat,sN (fun _=>([]:List ah).length) l=0:=fun l=>by
     rw[wo];simp
   rw[this];exact zL _
def OZ(N:Nat)(F:Nat->List ah)(p:Int):List ah:=if 0<=p/\p<(N:Int)then F p.toNat else[]
theorem xA(hp:p<N)(F:Nat->List ah):OZ N F (p:Int)=F p:=by
 unfold OZ;rw[if_pos (by omega),tN]
theorem RG.front(h:RG i w tag rb g R c K O C F U)(hk:Gk g R)(p:Int):
    Calls Tryz.prog 12 #[.pointer (some ⟨rb,0,none⟩), .int .i64 p] w fun e w'=>∃v,e= .returned v/\w'.ownsRow w.heap.size 45 3 v (OZ (aO g.nodes) F p).length (eG (OZ (aO g.nodes) F p))/\Below w.heap.size w w':=by
 obtain⟨sv,rv,ov,cv,uv,os,ms,h1,h2,h3⟩:=h.q;have hn:=hk.n;obtain⟨nm,hnm⟩:∃nm:Nat->Nat,∀p mb,ms[p]? =some mb->Ml w (loc i tag) (3+p) mb (nm p) (C p) (F p):=by
  have hx:∀p,∃n,∀mb,ms[p]? =some mb->Ml w (loc i tag) (3+p) mb n (C p) (F p):=fun p=>by
   cases e:ms[p]? with
   | none => exact⟨0,fun mb hm=>by cases hm⟩
   | some m=>
    obtain⟨n,hn⟩:=h3 p m e;exact⟨n,fun mb hm=>by cases hm;exact hn⟩
  exact Classical.axiomOfChoice hx
 have key:=sK (nc:=nm) (tag:=fun k=>if loc i tag k=2 then 0 else loc i tag k) p w (h1.rd (fun k e=>by rw[if_neg (by omega),e]) (fun k e=>by rw[if_pos e])) h1.ow.1 (by rw[h1.ol,h1.ml]) (fun q mb hq=>(hnm q mb hq).retag fun k e=>by rw[if_neg (by omega),e]) (fun q hq=>by have:=h.fK hk (p:=q) (by rw[<-h1.ml];exact hq);omega);have e:Kr ms F p=OZ (aO g.nodes) F p:=by unfold Kr OZ;rw[h1.ml]
 rw[e]at key;exact key
theorem RG.open(h:RG i w tag rb g R c K O C F U)(hk:Gk g R)(p:Int)(u:ah):
    Calls Tryz.prog 16 #[.pointer (some ⟨rb,0,none⟩), .int .i64 p, .agg #[.int .u64 u.1.1, .int .u64 u.1.2.1, .int .u64 u.1.2.2]] w fun e w'=>e= .returned (.bool (bG au (OZ (aO g.nodes) F p) u))/\Below w.heap.size w w':=by
 obtain⟨sv,rv,ov,cv,uv,os,ms,h1,h2,h3⟩:=h.q;have key:=wJ p u w h1 h3 (fun q hq=>by have:=h.fK hk hq;omega);have e:Kr ms F p=OZ (aO g.nodes) F p:=by unfold Kr OZ;rw[h1.ml]
 rw[e]at key;exact key
theorem RG.counts(h:RG i w tag rb g R c K O C F U)(hk:Gk g R):
    Calls Tryz.prog 13 #[.pointer (some ⟨rb,0,none⟩)] w fun e w'=>∃p n q X,e= .returned (.slice p n q)/\Hid ((∀p,p<aO g.nodes->Nz c p (X p))/\w'.ownsRow w.heap.size 49 5 (.slice p n q) (kM c X (aO g.nodes)).length (fl EC (kM c X (aO g.nodes)))/\Below w.heap.size w w'):=by
 obtain⟨sv,rv,ov,cv,uv,os,ms,h1,h2,h3⟩:=h.q;exact Hl w h1 h2 hk.n (fun p u hp=>h.ev.kp p u hp) (fun p hp=>by have:=(h.oK hp).2;omega)
theorem RG.turns(h:RG i w tag rb g R c K O C F U):Calls Tryz.prog 19 #[.pointer (some ⟨rb,0,none⟩)] w fun e w'=>∃p n q,e= .returned (.slice p n q)/\Hid (w'.ownsRow w.heap.size 49 5 (.slice p n q) U.length (fl EC U)/\Below w.heap.size w w'):=by
 obtain⟨sv,rv,ov,cv,uv,os,ms,h1,h2,h3⟩:=h.q;exact yM w h1 h.ul
theorem RG.count(h:RG i w tag rb g R c K O C F U)(p:Int)(u:ah):Calls Tryz.prog 36 #[.pointer (some ⟨rb,0,none⟩), .agg #[.int .i64 p, .int .u64 u.1.1, .int .u64 u.1.2.1, .int .u64 u.1.2.2]] w fun e w'=>e= .returned (.int .i64 (if 0<=p/\p<(aO g.nodes:Int)then c p.toNat u else 0))/\Gr w w':=by
 obtain⟨sv,rv,ov,cv,uv,os,ms,h1,h2,h3⟩:=h.q;have key:=dQ p u w h1.blk h1.ow.1 (fun q m hq=>by
  obtain⟨tb,b,cb,v,k1,_⟩:=h2 q m hq;exact⟨tb,b,cb,_,v,_,k1⟩) (C:=c)
 unfold Ce at key;rw[h1.ol]at key;exact key
end
end Rc
namespace Rc
open Go.RowKit Go.Sort Go.Maps Pt Hc
open Lf (E8 dY eD Ky Eb iy O9 nC)
open Df (jk GZ Qk aO)
attribute[local go_sem ↓]wp_at_zero wp_at_succ
theorem uZ(w:World)(x:Th):Ls EC (w.alloc (.cells (cc x) 49)) (.slice (some ⟨w.heap.size,0,none⟩) 1 1) [x]:=by
 refine Or.inr ⟨w.heap.size,0,1,rfl,by simp,fun j u hj=> ?_⟩;have h:=(aa (ai w (.cells (cc x) 49))).1 (0+j);rw[h,nZ,<-hj];simp[fl,EC,cc]
theorem Ih(p a:Int)(w:World):Calls Tryz.prog 35 #[.int .i64 p, .int .u64 a] w fun e w'=>e= .returned (.agg #[.int .i64 p, .int .u64 a, .int .u64 0, .int .u64 0])/\Below w.heap.size w w':=by
 obtain⟨W1,hW1⟩:=aD (w.alloc (.cells #[.int .i64 0, .int .u64 0, .int .u64 0, .int .u64 0] 47));obtain⟨yb,hyb⟩:=aD (w.heap.size);have HB1:Hid (Below w.heap.size w W1/\W1.heap[yb]? =some (.cells #[.int .i64 0, .int .u64 0, .int .u64 0, .int .u64 0] 47 (0,0))/\w.heap.size=yb):=by
  rw[hW1,hyb];exact⟨((Gr.refl w).alloc _).below,ai _ _,rfl⟩
 go_enter Tryz.func35,Tryz.ntmps35;go_upto_region 1 with fail;rw[<-hW1,<-hyb];clear hW1 hyb;have c4:=(aa HB1.o.2.1).1;have f4:=(aa HB1.o.2.1).2;have l4:=ae HB1.o.2.1;have HE:Hid (Below w.heap.size w ((((W1.setCell ⟨yb,0,none⟩ (.int .i64 p)).setCell ⟨yb,1,none⟩ (.int .u64 a)).setCell ⟨yb,2,none⟩ (.int .u64 0)).setCell ⟨yb,3,none⟩ (.int .u64 0))):=by
  obtain⟨q1,k1⟩:=Df.bE HB1.o.2.1 0 (.int .i64 p);obtain⟨q2,k2⟩:=Df.bE q1 1 (.int .u64 a);obtain⟨q3,k3⟩:=Df.bE q2 2 (.int .u64 0);obtain⟨q4,k4⟩:=Df.bE q3 3 (.int .u64 0);have kk:=((k1.trans k2 (fun _ _ h=>h)).trans k3 (fun _ _ h=>h)).trans k4 (fun _ _ h=>h);exact HB1.o.1.trans (kk.below HB1.o.1.size fun k hk=>by rw[hk,HB1.o.2.2];exact nR _)
 go_wp2_with fail;refine bR (v:= .agg #[.int .i64 p, .int .u64 a, .int .u64 0, .int .u64 0]) (by simp only[results,Tryz.results35];go_simp) rfl ?_;exact⟨rfl,HE.o⟩
def kx:Th:=((0:Int),dY 4,1)
def kd(p:Nat):Nat:=if p=2\/p=4 then 1 else 0
theorem UC:∀p,p<7->Eb 0 p=some (kd p):=by decide
theorem SQ(x:ah):mh [] [x]=[(x,1)]:=by
 have e1:jE [x]=[x]:=by simp[jE,qH]
 have e:yg ([]:List ah) [x]++yg [x] []=[x]:=by simp[yg]
 unfold mh;rw[e,e1];simp
theorem VW:jb 7 1 (fun _ _=>0) [kx]=0:=by
 obtain⟨a1,a2,a3⟩:=eD (k:=4) (by decide);have h1:gB 7 1 [kx]=0:=DX fun x hx=>by
  rw[vF]at hx;subst hx;refine⟨⟨0,rfl,by decide⟩, ?_⟩;show bL (dY 4).1.1 (dY 4).1.2.1 (dY 4).1.2.2 1=0;rw[a2,a3];simp[bL]
 have h2:Cc (fun _ _=>0) [kx]=true:=by
  have hp:prt [kx] 0=[(dY 4,1)]:=by simp[prt,kx]
  have hn:bP (fun _=>0) [(dY 4,1)] (dY 4)=1:=by
   rw[I6 (fun _=>by show(-2147483647:Int)<=0/\(0:Int)<=2147483647;decide) (dY 4) 1 (by decide)];simp
  unfold Cc;rw[bA,List.all_eq_true,List.all_eq_true];refine⟨fun x hx=> ?_,fun x hx=> ?_⟩
  ·rw[vF]at hx;subst hx;show(!Tt.dR 1)=true;rw[Tt.dG.2 (by omega)];rfl
  ·rw[vF]at hx;subst hx;show(!Tt.dR (bP (fun _=>0) (prt [kx] 0) (dY 4)))=true;rw[hp,hn,Tt.dG.2 (by omega)];rfl
 unfold jb;rw[if_neg (by rw[h1];decide),if_pos h2]
theorem Kg{R:Nat->Nat->List ah}(hR:∀p,p<7->R p=Ky p){K On:Nat->List ah}{Cn:Nat->ah->Int}{Fn:Nat->List ah}{L:Nat->List (Nat×ah)}(h:Ev 7 L R (lH (fun _ _=>0) [kx]) K On Cn Fn)(p:Nat)(hp:p<7):Fn p=[dY (kd p+4)]:=by
 have hO0:On 0=[dY 4]:=by
  have hq:prt [kx] 0=[(dY 4,1)]:=by simp[prt,kx]
  have e:lH (fun _ _=>0) [kx] 0=fun u=>if u=dY 4 then 1 else 0:=by
   unfold lH;rw[hq,I6 (fun _=>by show(-2147483647:Int)<=0/\(0:Int)<=2147483647;decide) (dY 4) 1 (by decide)]
   funext u
   by_cases k:u=dY 4
   ·rw[if_pos k,if_pos k];rfl
   ·rw[if_neg k,if_neg k]
  have h1:=h.own 0 (by decide);rw[e]at h1;refine h1.same ⟨List.pairwise_singleton _ _,fun x hx=> ?_,fun y hy=> ?_⟩
  ·rw[vF]at hx;rw[if_pos hx];decide
  ·by_cases k:y=dY 4
   ·subst k;simp[bG,oQ.refl]
   ·rw[if_neg k]at hy;exact absurd hy (by decide)
 have hOq:∀q,q<7->q≠0->On q=[]:=fun q hq hq0=>by
  have e0:prt [kx] q=[]:=by
   unfold prt;rw[List.filter_eq_nil_iff.2 fun x hx=>by
    rw[vF]at hx;subst hx;show ¬decide ((0:Int)=(q:Int))=true;rw[dE];omega]
   rfl
  have e:lH (fun _ _=>0) [kx] q=fun _=>0:=by
   unfold lH;rw[e0,zh (fun _=>by show(-2147483647:Int)<=0/\(0:Int)<=2147483647;decide)]
  have h1:=h.own q hq;rw[e]at h1;exact h1.same fJ.nil
 have hx:∀x,x∈jm 7 R On p↔x=dY (kd p+4):=fun x=>by
  rw[qV];have hd:kd p<=1:=by unfold kd;split<;>omega
  constructor
  ·rintro⟨q,u,a,hq,hu,ha,hx⟩;by_cases hq0:q=0
   ·subst hq0;rw[hO0,vF]at hu;rw[hR 0 (by decide)]at ha;obtain⟨k,hk,rfl⟩:=iy.1 ha;rw[UC p hp]at hk;cases hk;subst hu;rw[Lf.uQ (by omega)]at hx;exact(oJ hx).symm
   ·rw[hOq q hq hq0]at hu;cases hu
  ·rintro rfl;refine⟨0,dY 4,dY (kd p),by decide,by rw[hO0];exact List.mem_singleton_self _,by rw[hR 0 (by decide)];exact iy.2 ⟨_,UC p hp,rfl⟩,Lf.uQ (by omega)⟩
 refine(h.OY p hp).same bH ⟨List.pairwise_singleton _ _,fun a=> ?_⟩;rw[vF,hx];exact⟨fun e=>⟨e,fun b hb _=>by rw[(hx b).1 hb,e]⟩,fun e=>e.1⟩
theorem NL{Fn:Nat->List ah}(h:∀p,p<7->Fn p=[dY (kd p+4)]):nV 7 (fun _=>[]) Fn=[((0:Int),dY 4,1),(1,dY 4,1),(2,dY 5,1),(3,dY 4,1),(4,dY 5,1),(5,dY 4,1),(6,dY 4,1)]:=by
 unfold nV;rw[show List.range 7=[0,1,2,3,4,5,6]from rfl];simp only[K4,List.flatMap_nil,h 0 (by decide),h 1 (by decide),h 2 (by decide),h 3 (by decide),h 4 (by decide),h 5 (by decide),h 6 (by decide),SQ,List.map_cons,List.map_nil,kd];rfl
theorem RP(k:Nat)(hk:k<=1000):bG au [dY 4] (dY k)=decide (4<=k):=by
 obtain⟨a1,a2,a3⟩:=eD (k:=4) (by decide);obtain⟨b1,b2,b3⟩:=eD (k:=k) (by omega);rw[Bool.eq_iff_iff,dE];unfold bG;rw[List.any_eq_true];constructor
 ·rintro⟨x,hx,h⟩;rw[vF]at hx;subst hx;have:=(jc _ _).1 h;have h3:(dY 4).1.1<=(dY k).1.1:=this.1;omega
 ·intro h;refine⟨dY 4,List.mem_singleton_self _,(jc _ _).2 ⟨?_, ?_, ?_⟩⟩
  ·show(dY 4).1.1<=_;omega
  ·show(dY 4).1.2.1<=_;omega
  ·show(dY 4).1.2.2<=_;omega
def Ik(w:World)(rb:Nat)(W:World):Prop:=Below w.heap.size w W/\∃tag R K O C F c,Gk jk R/\RG 1 W tag rb jk R c K O C F [((0:Int),dY 4,1),(1,dY 4,1),(2,dY 5,1),(3,dY 4,1),(4,dY 5,1),(5,dY 4,1),(6,dY 4,1)]/\(∀p,p<7->F p=[dY (kd p+4)])/\c 0 (dY 4)=1
theorem Ik.below{W':World}(h:Ik w rb W)(hb:Below W.heap.size W W'):Ik w rb W':=by
 obtain⟨h1,tag,R,K,O,C,F,c,h2,h3,h4,h5⟩:=h;exact⟨h1.trans (hb.mono h1.size),tag,R,K,O,C,F,c,h2,h3.below h2 hb (fun _ _=>rfl),h4,h5⟩
theorem Ik.open(h:Ik w rb W)(k:Nat)(hk:k<=1000):Calls Tryz.prog 16 #[.pointer (some ⟨rb,0,none⟩), .int .i64 6, .agg #[.int .u64 (k:Int), .int .u64 0, .int .u64 0]] W fun e w'=>e= .returned (.bool (decide (4<=k)))/\Below W.heap.size W w':=by
 obtain⟨h1,tag,R,K,O,C,F,c,h2,h3,h4,h5⟩:=h;have hp:=h3.open h2 6 (dY k);obtain⟨b1,b2,b3⟩:=eD (k:=k) (by omega);rw[b1,b2,b3,show OZ (aO jk.nodes) F 6=F 6 from xA (p:=6) (by rw[nC];decide) F,h4 6 (by decide)]at hp;have e:kd 6+4=4:=rfl;rw[e,RP k hk]at hp;exact hp
theorem Ik.count(h:Ik w rb W):Calls Tryz.prog 36 #[.pointer (some ⟨rb,0,none⟩), .agg #[.int .i64 0, .int .u64 4, .int .u64 0, .int .u64 0]] W fun e w'=>e= .returned (.int .i64 1)/\Below W.heap.size W w':=by
 obtain⟨h1,tag,R,K,O,C,F,c,h2,h3,h4,h5⟩:=h;have hp:=h3.count 0 (dY 4);obtain⟨b1,b2,b3⟩:=eD (k:=4) (by decide);rw[b1,b2,b3,nC,if_pos (by omega)]at hp;rw[show((0:Int).toNat)=0 from rfl,h5]at hp;exact hp.mono fun e w' h=>⟨h.1,h.2.below⟩
theorem Ik.Xk(h:Ik w rb W):Calls Tryz.prog 12 #[.pointer (some ⟨rb,0,none⟩), .int .i64 4] W fun e w'=>∃b o c,e= .returned (.slice (some ⟨b,o,none⟩) 1 c)/\Hid (w'.cell? ⟨b,o,none⟩=some (.int .u64 5)/\b<w'.heap.size/\Below W.heap.size W w'):=by
 obtain⟨h1,tag,R,K,O,C,F,c,h2,h3,h4,h5⟩:=h;have hp:=h3.front h2 4;rw[show OZ (aO jk.nodes) F 4=F 4 from xA (p:=4) (by rw[nC];decide) F,h4 4 (by decide),show kd 4+4=5 from rfl]at hp;refine hp.mono ?_;rintro e w' ⟨v,rfl,ho,hb⟩;obtain⟨b,o,c,hv,hl,hc⟩:=Ls.get (E:=ET) (j:=0) (aJ (E:=ET) ho) rfl;subst hv;obtain⟨a1,_,_⟩:=eD (k:=5) (by decide);have h0:=hc 0 (.int .u64 5) (by decide) (by rw[<-show((dY 5).1.1:Int)=5 from a1];rfl);exact⟨b,o,c,rfl,by simpa using h0,hl,hb⟩
theorem Ik.Va(h:Ik w rb W):Calls Tryz.prog 19 #[.pointer (some ⟨rb,0,none⟩)] W fun e w'=>∃b o c,e= .returned (.slice (some ⟨b,o,none⟩) 7 c)/\Hid ((w'.cell? ⟨b,o+10,none⟩=some (.int .i64 2)/\w'.cell? ⟨b,o+10+1,none⟩=some (.int .u64 5)/\w'.cell? ⟨b,o+10+2,none⟩=some (.int .u64 0)/\w'.cell? ⟨b,o+10+3,none⟩=some (.int .u64 0)/\w'.cell? ⟨b,o+10+4,none⟩=some (.int .i64 1))/\b<w'.heap.size/\Below W.heap.size W w'):=by
 obtain⟨h1,tag,R,K,O,C,F,c,h2,h3,h4,h5⟩:=h;refine h3.turns.mono ?_;rintro e w' ⟨p,n,q,rfl,ho⟩;obtain⟨b,o,c,hv,hl,hc⟩:=Ls.get (E:=EC) (j:=2) (aJ (E:=EC) ho.o.1) rfl;injection hv with e1 e2 e3;subst e1 e2 e3;obtain⟨a1,a2,a3⟩:=eD (k:=5) (by decide);have k1:((dY 5).1.1:Int)=5:=a1;have k2:((dY 5).1.2.1:Int)=0:=a2;have k3:((dY 5).1.2.2:Int)=0:=a3;have h0:=hc 0 (.int .i64 2) (by decide) rfl;have h1:=hc 1 (.int .u64 5) (by decide) (by rw[<-k1];rfl);have h2:=hc 2 (.int .u64 0) (by decide) (by rw[<-k2];rfl);have h3:=hc 3 (.int .u64 0) (by decide) (by rw[<-k3];rfl);have h4:=hc 4 (.int .i64 1) (by decide) rfl;exact⟨b,o,q,rfl,⟨h0,h1,h2,h3,h4⟩,hl,ho.o.2⟩
theorem oC(w:World):Calls Tryz.prog 8 #[] w fun e w'=>e= .returned (.bool true)/\Below w.heap.size w w':=by
 have hmx:Tryz.prog.follows .mixedOrders=true:=by kernel_rfl
 have heq:=Rs.uU;go_enter Tryz.func8,Tryz.ntmps8;go_wp2_with fail;refine(Df.NA w).mono ?_;rintro e w1 ⟨rfl,h1⟩;have H1:=hid h1.o;clear h1;go_wp2_with fail;refine(Df.Kz w1 H1.o.2).mono ?_;rintro e w2 ⟨gb,rfl,h2⟩;have H2:Hid (Below w.heap.size w w2/\Df.Gm w1.heap.size w2 gb jk):=⟨H1.o.1.trans (h2.o.1.mono H1.o.1.size),h2.o.2⟩;clear h2 H1;have hok:Df.gQ jk:=by
  obtain⟨nv,ev,fv,pv,ys,ss,hg⟩:=H2.o.2;exact hg.ok
 have HRN:=hid (dD w2 H2.o.2 hok Lf.Pd);go_wp2_with fail;refine HRN.o.mono ?_;clear HRN;rintro e w3 h3;obtain⟨b3,a,ha,hr⟩:=h3.o.rg hok Lf.Pd 1 (fun _=>3);have hsame:=ha.same O9;rcases hr with⟨rfl,_⟩|⟨rfl,_⟩|⟨R,rb,mD,rfl,hk,rfl,hrb,hold,hrg⟩
 ·rcases hsame with⟨_,k⟩|⟨k,_⟩|⟨_,_,k,_⟩<;>cases k
 ·rcases hsame with⟨k,_⟩|⟨_,k⟩|⟨_,_,k,_⟩<;>cases k
 have HRR:Hid (∀p,p<7->R p=Ky p):=by
  rcases hsame with⟨k,_⟩|⟨k,_⟩|⟨R1,R2,k1,k2,k3⟩
  ·cases k
  ·cases k
  ·cases k1;cases k2;rw[nC]at k3;exact k3
 have H3:Hid (Below w.heap.size w w3/\Gk jk R/\RG 1 w3 mD rb jk R (fun _ _=>0) (fun _=>[]) (fun _=>[]) (fun _ _=>0) (fun _=>[]) []):=⟨H2.o.1.trans (b3.mono H2.o.1.size),hk,hrg⟩;have HOW:Hid (∀k,gW 1 mD k->w.heap.size<=k):=fun k e=>by
  by_cases z:k<w2.heap.size
  ·have e1:=hold k z;have e2:=e.1;rw[e1]at e2;omega
  ·have:=H2.o.1.size;omega
 clear h3 b3 ha hsame hk hrb hold hrg H2 hok;go_wp2_with fail;refine(Ih 0 4 w3).mono ?_;rintro e w4 ⟨rfl,h4⟩;have H4:Hid (Below w.heap.size w w4/\Gk jk R/\RG 1 w4 mD rb jk R (fun _ _=>0) (fun _=>[]) (fun _=>[]) (fun _ _=>0) (fun _=>[]) []):=⟨H3.o.1.trans (h4.mono H3.o.1.size),H3.o.2.1,H3.o.2.2.below H3.o.2.1 h4 (fun _ _=>rfl)⟩;clear h4 H3;obtain⟨W5,bV⟩:=aD (w4.alloc (.cells #[.int .i64 0, .int .u64 4, .int .u64 0, .int .u64 0, .int .i64 1] 49));obtain⟨b5,hb5⟩:=aD (w4.heap.size);have H5:Hid (Below w.heap.size w W5/\Ls EC W5 (.slice (some ⟨b5,0,none⟩) 1 1) [kx]/\Gk jk R/\RG 1 W5 mD rb jk R (fun _ _=>0) (fun _=>[]) (fun _=>[]) (fun _ _=>0) (fun _=>[]) []):=by
  have g5:=((Gr.refl w4).alloc (.cells #[.int .i64 0, .int .u64 4, .int .u64 0, .int .u64 0, .int .i64 1] 49)).below;have hl:=uZ w4 kx;obtain⟨a1,a2,a3⟩:=eD (k:=4) (by decide);have ec:cc kx=#[.int .i64 0, .int .u64 4, .int .u64 0, .int .u64 0, .int .i64 1]:=by
   unfold cc kx;simp only[a1,a2,a3];rfl
  rw[ec]at hl;rw[bV,hb5];exact⟨H4.o.1.trans (g5.mono H4.o.1.size),hl,H4.o.2.1,H4.o.2.2.below H4.o.2.1 g5 (fun _ _=>rfl)⟩
 have HCH:Hid (Calls Tryz.prog 10 #[.pointer (some ⟨rb,0,none⟩), .slice (some ⟨b5,0,none⟩) 1 1] W5 fun e w'=>e= .returned (.int .i64 0)/\Hid (Ik w rb w')):=by
  have hch:=H5.o.2.2.2.change H5.o.2.2.1 [kx] _ H5.o.2.1 (by rw[nC];decide);refine hch.mono ?_;rintro e w' ⟨rfl,h⟩;have h0:=VW;rw[<-nC]at h0;have h0':jb (aO jk.nodes) jk.arity (fun _ _=>0) [kx]=0:=h0;refine⟨by rw[h0'], ?_⟩;obtain⟨tag',h1,h2,h3⟩:=h.o;have hbl:Below w.heap.size w w':=H5.o.1.trans (h2.below H5.o.1.size HOW.o);rcases h3 with⟨hz,_⟩|⟨_,On,Cn,Fn,hq⟩
  ·exact absurd h0' hz
  ·have hev:=hq.ev;rw[nC]at hev;have hf:=Kg HRR.o hev;have ht:=NL hf;refine⟨hbl,tag',R,Bf (fun _=>[]) [kx],On,Cn,Fn,lH (fun _ _=>0) [kx],H5.o.2.2.1, ?_,hf, ?_⟩
   ·have:=hq;rw[nC,ht]at this;exact this
   ·show bP (fun _=>0) (prt [kx] 0) (dY 4)=1;have hp:prt [kx] 0=[(dY 4,1)]:=(by simp[prt,kx]);rw[hp,I6 (fun _=>by show(-2147483647:Int)<=0/\(0:Int)<=2147483647;decide) (dY 4) 1 (by decide)];simp
 clear HOW HRR;go_wp2_with fail;rw[<-bV,<-hb5];clear bV hb5;refine HCH.o.mono ?_;clear HCH H5 H4;rintro e w6 ⟨rfl,K6⟩;go_wp2_with fail;refine K6.o.Xk.mono ?_;rintro e w7 ⟨b7,o7,c7,rfl,h7⟩;have K7:Hid (Ik w rb w7):=K6.o.below h7.o.2.2;have T7:=hid h7.o;clear h7;go_wp2_with fail;refine K7.o.Va.mono ?_;rintro e w8 ⟨b8,o8,c8,rfl,h8⟩;have K8:Hid (Ik w rb w8):=K7.o.below h8.o.2.2;have T8:Hid (∀W,Below w8.heap.size w8 W->Ik w rb W/\W.cell? ⟨b7,o7,none⟩=some (.int .u64 5)/\b7<W.heap.size/\W.cell? ⟨b8,o8+10,none⟩=some (.int .i64 2)/\W.cell? ⟨b8,o8+10+1,none⟩=some (.int .u64 5)/\W.cell? ⟨b8,o8+10+2,none⟩=some (.int .u64 0)/\W.cell? ⟨b8,o8+10+3,none⟩=some (.int .u64 0)/\W.cell? ⟨b8,o8+10+4,none⟩=some (.int .i64 1)/\b8<W.heap.size):=fun W hW=>by
  have hl8:b8<w8.heap.size:=h8.o.2.1;have hl7:b7<w7.heap.size:=T7.o.2.1;have aaa:b7<w8.heap.size:=nL hl7 h8.o.2.2.size;refine⟨K8.o.below hW, ?_,nL aaa hW.size, ?_⟩
  ·rw[yJ (a:=⟨b7,o7,none⟩) (hW.block _ aaa),yJ (a:=⟨b7,o7,none⟩) (h8.o.2.2.block _ hl7)];exact T7.o.1
  ·have e:∀j,W.cell? ⟨b8,j,none⟩=w8.cell? ⟨b8,j,none⟩:=fun j=>yJ (a:=⟨b8,j,none⟩) (hW.block _ hl8);simp only[e];obtain⟨c0,c1,c2,c3,c4⟩:=h8.o.1;exact⟨c0,c1,c2,c3,c4,nL hl8 hW.size⟩
 clear h8 T7 K6 K7 K8;have heq:∀W,Sem.run Tryz.prog (Op.equalIn 10000 49 (.agg #[.int .i64 2, .int .u64 5, .int .u64 0, .int .u64 0, .int .i64 1]) (.agg #[.int .i64 2, .int .u64 5, .int .u64 0, .int .u64 0, .int .i64 1])) W= .ok true W:=fun W=>by
  have h:=Rs.uU (⟨(2,5,0,0),by decide⟩,1) (⟨(2,5,0,0),by decide⟩,1) W;rw[decide_eq_true rfl]at h;exact h
 go_upto_region 9 with fail;have hS0:Below w8.heap.size w8 w8.drew:=(Gr.refl w8).drew.below;refine ay (S:=fun W:World=>Below w8.heap.size w8 W) (D:=[]) hmx ?_;refine' av 0 hS0 ?_;refine' av 1 hS0 ?_;refine' av 2 hS0 ?_;refine' av 3 hS0 ?_;refine' av 4 hS0 ?_;refine' bB 5 hS0 ?h ?_;case h=>(intro W hSw;obtain⟨-,c0,c1,c2,c3,c4,c5,c6,c7⟩:=T8.o W hSw;go_simp;try(with_reducible rfl))
 refine' bB 6 hS0 ?h ?_;case h=>(intro W hSw;obtain⟨-,c0,c1,c2,c3,c4,c5,c6,c7⟩:=T8.o W hSw;go_simp;try(with_reducible rfl))
 refine' bB 7 hS0 ?h ?_;case h=>(intro W hSw;obtain⟨-,c0,c1,c2,c3,c4,c5,c6,c7⟩:=T8.o W hSw;go_simp;try(with_reducible rfl))
 refine' av 8 hS0 ?_;refine' av 9 hS0 ?_;refine' av 10 hS0 ?_;refine' av 11 hS0 ?_;refine' av 12 hS0 ?_;refine' av 13 hS0 ?_;refine' av 14 hS0 ?_;refine' av 15 hS0 ?_;refine' av 16 hS0 ?_;refine' bB 17 hS0 ?h ?_;case h=>(intro W hSw;obtain⟨-,c0,c1,c2,c3,c4,c5,c6,c7⟩:=T8.o W hSw;go_simp;try(with_reducible rfl))
 refine' bB 18 hS0 ?h ?_;case h=>(intro W hSw;obtain⟨-,c0,c1,c2,c3,c4,c5,c6,c7⟩:=T8.o W hSw;go_simp;try(with_reducible rfl))
 refine bN 19 fun K hK=> ?_;rw[if_pos (by kernel_rfl)];go_simp;refine(Ih 2 5 _).mono ?_;rintro e y9 ⟨rfl,g9⟩;have jG:Below w8.heap.size w8 y9:=hS0.trans (g9.mono hS0.size);clear g9;go_wp2_with fail;refine hK.o _ _ (fun hD=>jG) ?_;clear hK K;try simp only[Act.put,qI,q0,qS]
 refine' av 20 jG ?_;refine' bB 21 jG ?h ?_;case h=>(intro W hSw;have hq:=heq W;go_simp;try(with_reducible rfl))
 refine' av 22 jG ?_;refine' av 23 jG ?_;refine' av 24 jG ?_;refine' av 25 jG ?_;refine bN 26 fun K hK=> ?_;rw[if_pos (by kernel_rfl)];go_simp;refine((T8.o _ jG).1.open 4 (by decide)).mono ?_;rintro e y10 ⟨rfl,g10⟩;have ry:Below w8.heap.size w8 y10:=jG.trans (g10.mono jG.size);clear g10;go_wp2_with fail;refine hK.o _ _ (fun hD=>ry) ?_;clear hK K;try simp only[Act.put,qI,q0,qS]
 refine' av 27 ry ?_;refine' av 28 ry ?_;refine' av 29 ry ?_;refine' av 30 ry ?_;refine bN 31 fun K hK=> ?_;rw[if_pos (by kernel_rfl)];go_simp;refine((T8.o _ ry).1.open 3 (by decide)).mono ?_;rintro e y11 ⟨rfl,g11⟩;have GL:Below w8.heap.size w8 y11:=ry.trans (g11.mono ry.size);clear g11;go_wp2_with fail;refine hK.o _ _ (fun hD=>GL) ?_;clear hK K;try simp only[Act.put,qI,q0,qS]
 refine' av 32 GL ?_;refine' av 33 GL ?_;refine' av 34 GL ?_;refine' av 35 GL ?_;refine bN 36 fun K hK=> ?_;rw[if_pos (by kernel_rfl)];go_simp;refine(Ih 0 4 _).mono ?_;rintro e y12 ⟨rfl,g12⟩;have OO:Below w8.heap.size w8 y12:=GL.trans (g12.mono GL.size);clear g12;go_wp2_with fail;refine hK.o _ _ (fun hD=>OO) ?_;clear hK K;try simp only[Act.put,qI,q0,qS]
 refine bN 37 fun K hK=> ?_;rw[if_pos (by kernel_rfl)];go_simp;refine((T8.o _ OO).1.count).mono ?_;rintro e y13 ⟨rfl,g13⟩;have OM:Below w8.heap.size w8 y13:=OO.trans (g13.mono OO.size);clear g13;go_wp2_with fail;refine hK.o _ _ (fun hD=>OM) ?_;clear hK K;try simp only[Act.put,qI,q0,qS]
 refine' av 38 OM ?_;refine' av 39 OM ?_;refine' av 40 OM ?_;try simp only[Act.put,qI,q0]
 refine ak (by kernel_rfl) ?_ _;go_wp2_with fail;go_ret;exact⟨rfl,(T8.o _ OM).1.1⟩
end Rc
namespace Lf.Rb
open Go.RowKit Go.Sort Pt
open Df (hid dJ bD nJ gP aO rQ gZ gQ LV EL aB aU aF aH aa ae bE eH Gm ji)
attribute[local go_sem ↓]wp_at_zero wp_at_succ
def X6{α:Type}(E:El α)(B M:Nat)(w:World)(v:Value)(l:List α):Prop:=Ls E w v l/\∀k,v.ownBlock=some k->B<=k/\k<M
theorem X6.kp{E:El α}{l:List α}(h:X6 E B M w v l)(hk:Kp S w w')(hS:∀k,B<=k->k<M->¬S k):X6 E B M w' v l:=⟨hk.ls h.1 fun k e=>hS k (h.2 k e).1 (h.2 k e).2,h.2⟩
theorem Ba{E:El α}{T:TypeId}{l:List α}(hB:B0<=B)(h:w.ownsRow B T E.k v l.length (fl E l)):X6 E B0 w.heap.size w v l:=⟨aJ h,fun k hk=>⟨nT hB (h.lt k hk).1,(h.lt k hk).2⟩⟩
def UJ(B M:Nat)(w:World)(v:Value)(n:Nat)(R:Nat->Nat->List ah):Prop:=∃us:List LV,X6 EL B M w v us/\us.length=n/\∀(p:Nat) (u:LV),us[p]? =some u->∃vs:List LV,X6 EL B M w u.v vs/\vs.length=n/\∀(q:Nat) (x:LV),vs[q]? =some x->X6 ET B M w x.v (R p q)
theorem UJ.kp{n:Nat}{R:Nat->Nat->List ah}(h:UJ B M w v n R)(hk:Kp S w w')(hS:∀k,B<=k->k<M->¬S k):UJ B M w' v n R:=by
 obtain⟨us,h1,h2,h3⟩:=h;refine⟨us,h1.kp hk hS,h2,fun p u hu=> ?_⟩;obtain⟨vs,a1,a2,a3⟩:=h3 p u hu;exact⟨vs,a1.kp hk hS,a2,fun q x hx=>(a3 q x hx).kp hk hS⟩
theorem UJ.tq{n:Nat}{R:Nat->Nat->List ah}(h:UJ B M w v n R):Tq M w v n R:=by
 obtain⟨us,h1,h2,h3⟩:=h;refine⟨us,⟨h1.1,fun k e=>(h1.2 k e).2⟩,h2,fun p u hu=> ?_⟩;obtain⟨vs,a1,a2,a3⟩:=h3 p u hu;exact⟨vs,⟨a1.1,fun k e=>(a1.2 k e).2⟩,a2,fun q x hx=>⟨(a3 q x hx).1,fun k e=>((a3 q x hx).2 k e).2⟩⟩
theorem Vb{n:Nat}{us:List LV}{R:Nat->Nat->List ah}(hB:B0<=B)(h:T3 B w v us n R)(hn:us.length=n):UJ B0 w.heap.size w v n R:=by
 refine⟨us,Ba (E:=EL) hB h.row,hn,fun p u hu=> ?_⟩;obtain⟨vs,a1,a2,a3⟩:=h.each p u hu;exact⟨vs,Ba (E:=EL) hB (by rw[a2];exact a1),a2,fun q x hx=>Ba (E:=ET) hB (a3 q x hx)⟩
def Cr(B M:Nat)(w:World)(tb n:Nat)(R:Nat->Nat->List ah):Prop:=∃v,w.heap[tb]? =some (.cells #[v] 105 (0,0))/\B<=tb/\tb<M/\UJ B M w v n R
theorem Cr.kp{n:Nat}{R:Nat->Nat->List ah}(h:Cr B M w tb n R)(hk:Kp S w w')(hS:∀k,B<=k->k<M->¬S k):Cr B M w' tb n R:=by
 obtain⟨v,h1,h2,h3,h4⟩:=h;exact⟨v,(hk.block _ (ae h1) (hS tb h2 h3)).trans h1,h2,h3,h4.kp hk hS⟩
theorem Cr.tv{n:Nat}{R:Nat->Nat->List ah}(h:Cr B M w tb n R):Tv M w (.pointer (some ⟨tb,0,none⟩)) n R:=by
 obtain⟨v,h1,_,h3,h4⟩:=h;exact Or.inr ⟨tb,rfl,v,h1,h3,h4.tq⟩
def TF(w:World)(g:bD)(e:Ending)(w':World):Prop:=Below w.heap.size w w'/\∃a,E8 g a/\((a=none/\e= .returned (.tuple #[.pointer none, .int .i64 27]))\/(a=some none/\e= .returned (.tuple #[.pointer none, .int .i64 28]))\/∃R tb,a=some (some R)/\e= .returned (.tuple #[.pointer (some ⟨tb,0,none⟩), .int .i64 0])/\Cr w.heap.size w'.heap.size w' tb (aO g.nodes) R)
theorem dD{gb:Nat}{g:bD}(w:World)(h:Gm B w gb g)(j4:gQ g)(hP:uC g):Calls Tryz.prog 33 #[.pointer (some ⟨gb,0,none⟩)] w (TF w g):=by
 have wZ:=ji w h j4;have HM:Hid (∀W,Below w.heap.size w W->Gm B W gb g):=fun W hb=>h.below hb;have jC:=hid j4;have Yc:=hid hP;have hpl:=Df.mJ j4;clear h j4 hP;go_enter Tryz.func33,Tryz.ntmps33;go_wp2_with fail;refine wZ.mono ?_;clear wZ;rintro r w1 ⟨hb1,hr⟩;rcases hr with⟨hno,rfl⟩|⟨o,f,d,hso,rfl,_⟩
 ·have FIN:Hid (TF w g (.returned (.tuple #[.pointer none, .int .i64 27])) w1):=⟨hb1,none, .cyc hno,Or.inl ⟨rfl,rfl⟩⟩;go_wp2;refine bR (v:= .tuple #[.pointer none, .int .i64 27]) (by simp[results,Tryz.results33,go_sem]) rfl ?_;exact FIN.o
 ·have TL:Hid (eH (gZ g).length (gZ g) (gZ g).length≠none):=fun e=>by rw[hso]at e;cases e
  clear hso;have hst:=dA w1 (HM.o w1 hb1) jC.o Yc.o;have HB1:=hid hb1;clear hb1;go_wp2_with fail;refine hst.mono ?_;clear hst;rintro r w2 ⟨gs,vs,rfl,hb2,hvl,hfw⟩;obtain⟨n,hn⟩:=aD (aO g.nodes);rw[<-hn]at hfw hvl hpl⊢;have HN:=hid hn;have JG:Hid (Sp w2 (.slice (some ⟨gs,0,none⟩) n n) (FM n (uS g))):=by
   have h1:=hfw.sp;rw[hvl]at h1;exact h1
  have HB2:=hid (HB1.o.trans (hb2.mono HB1.o.size));clear hb2 hfw hvl hn HB1;obtain⟨tb,htb⟩:=aD (w2.heap.size);obtain⟨W3,hW3⟩:=aD (w2.alloc (.cells #[.slice none 0 0] 105));have P3:Hid (Below w2.heap.size w2 W3/\W3.heap[tb]? =some (.cells #[.slice none 0 0] 105 (0,0))/\w2.heap.size<=tb):=by
   rw[hW3,htb];exact⟨((Gr.refl w2).alloc _).below,ai _ _,nR _⟩
  have HW3:Hid (w2.alloc (.cells #[.slice none 0 0] 105)=W3/\w2.heap.size=tb):=⟨hW3.symm,htb.symm⟩;clear hW3 htb;go_upto_region 6 with fail;rw[HW3.o.1,HW3.o.2];clear HW3;go_wp2_with fail;go_loopw [8,9,10,25] (fun _ _ _ Vx wr=>∃(i:Nat) (v:Value) (us:List LV) (R:Nat->Nat->List ah),i<=n/\Vx= .int .i64 i/\Hid (us.length=i/\Below w2.heap.size w2 wr/\wr.heap[tb]? =some (.cells #[v] 105 (0,0))/\T3 w2.heap.size wr v us n R/\∀p,p<i->rR PX (uL g) p (some (R p)))) (fun _ _ _ Vx _=>n-(intOf Vx).toNat);case atStart=>exact⟨0,_,[],fun _ _=>[],zL _,rfl,rfl,P3.o.1,P3.o.2.1,T3.nil _ _ _ _,fun p hp=>absurd hp (nW _)⟩
  case round=>
   obtain⟨i,v,us,R,hi,rfl,HI⟩:=hrel;by_cases hlt:i<n
   ·have hltz:(i:Int)<(n:Int):=(by omega);have hi0:(0:Int)<=(i:Int):=(by omega);have hlf:=pz i n 432 (.slice (some ⟨gs,0,none⟩) n n) (FM n (uS g)) wr (JG.o.below HI.o.2.1) (jL _ _) hlt (by
     have h:=Mo jC.o (l:=uS g) (fun c hc=>kT.1 hc);rw[<-HN.o]at h;rw[jL]at h;exact h) (Mr (Am jC.o)) (by
     have:64*n*(432+1)<=64*192*(432+1):=Nat.mul_le_mul (Nat.mul_le_mul (nR _) hpl) (nR _);omega)
    go_wp2_with fail;refine hlf.mono ?_;clear hlf;rintro r w5 ⟨hb5,a,hres,hcase⟩;have Im:Hid (rR PX (uL g) i a):=by
     rw[HN.o,CR]at hres;exact hres
    clear hres;rcases hcase with⟨rfl,rfl⟩|⟨rows,v5,vs5,rfl,rfl,Gw⟩
    ·have FIN:Hid (TF w g (.returned (.tuple #[.pointer none, .int .i64 28])) w5):=⟨HB2.o.trans ((HI.o.2.1.trans (hb5.mono HI.o.2.1.size)).mono HB2.o.size),some none, .wide TL.o i (by rw[<-HN.o];exact hlt) Im.o,Or.inr (Or.inl ⟨rfl,rfl⟩)⟩;clear hb5;go_wp2;refine bR (v:= .tuple #[.pointer none, .int .i64 28]) (by simp[results,Tryz.results33,go_sem]) rfl ?_;exact FIN.o
    ·have hrw:BP wr.heap.size w5 v5 n rows:=by
       rw[jL]at Gw;exact Gw.rw2
     obtain⟨u,hu⟩:∃u:LV,u.v=v5:=by
      obtain⟨vs,h1,_⟩:=hrw;obtain⟨q,m,c,e⟩:=aB h1;exact⟨⟨q,m,c⟩,e.symm⟩
     subst hu;clear Gw;have hbx:=(hb5.block _ (ae HI.o.2.2.1)).trans HI.o.2.2.1;have cx:=(aa hbx).1;have lx:=ae hbx;have HT5:=hid (HI.o.2.2.2.1.below hb5);have sW:Hid (BP w2.heap.size w5 u.v n rows/\w5.heap[tb]? =some (.cells #[v] 105 (0,0))/\Below w2.heap.size w2 w5):=⟨hrw.base HI.o.2.1.size,hbx,HI.o.2.1.trans (hb5.mono HI.o.2.1.size)⟩;have HOW:Hid (w5.ownsRow w2.heap.size 143 1 v i (fl EL us)):=aS HT5.o.row HI.o.1 rfl;have Uj:w2.heap.size<=w5.heap.size:=sW.o.2.2.size;obtain⟨uq,um,uc⟩:=u;clear hrw hbx hb5;go_wp2_with (at_builtin;refine fU EL Tryz.underlying103 Jj rfl (by decide) rfl _ _ rfl w2.heap.size _ i _ rfl HOW.o ⟨uq,um,uc⟩ rfl (by omega) (by unfold maxLen;omega) Uj _ rfl _ ?_);intro g6 c6 w6 qA ny DI;have Xd:Kp (fun k=>v.ownBlock=some k) w5 w6:=Kp.grownBy ny (fun _ h=>h);have sI:w6.heap[tb]? =some (.cells #[v] 105 (0,0)):=(Xd.block _ (ae sW.o.2.1) (fun e=>aH HOW.o sW.o.2.1 (by decide) tb e rfl)).trans sW.o.2.1;have Qq:Hid (T3 w2.heap.size w6 (.slice (some ⟨g6,0,none⟩) (i+1) c6) (us++[⟨uq,um,uc⟩]) n (fun p=>if p=i then rows else R p)):=by
      have e:=HI.o.1;have h1:=HT5.o.app (g:=g6) (cap:=c6) (w1:=w6) sW.o.1 (by rw[e];exact qA) ny;rw[e]at h1;exact h1
     have Ez:Hid (Below w2.heap.size w2 w6):=sW.o.2.2.trans (Xd.below sW.o.2.2.size (fun k hk=>(HOW.o.lt k hk).1));have cx6:=(aa sI).1;have fx6:=(aa sI).2;have lx6:=ae sI;obtain⟨b7,k7⟩:=bE sI 0 (.slice (some ⟨g6,0,none⟩) (i+1) c6);have P7:Hid ((w6.setCell ⟨tb,0,none⟩ (.slice (some ⟨g6,0,none⟩) (i+1) c6)).heap[tb]? =some (.cells #[.slice (some ⟨g6,0,none⟩) (i+1) c6] 105 (0,0))/\Below w2.heap.size w2 (w6.setCell ⟨tb,0,none⟩ (.slice (some ⟨g6,0,none⟩) (i+1) c6))/\T3 w2.heap.size (w6.setCell ⟨tb,0,none⟩ (.slice (some ⟨g6,0,none⟩) (i+1) c6)) (.slice (some ⟨g6,0,none⟩) (i+1) c6) (us++[⟨uq,um,uc⟩]) n (fun p=>if p=i then rows else R p)):=⟨b7,Ez.o.trans (k7.below Ez.o.size (fun k hk=>by rw[hk];exact P3.o.2.2)),Qq.o.block sI (by decide) (by decide) (by decide) k7⟩;clear b7 k7 sI qA ny DI Xd cx lx;go_wp2_with fail;go_roundw;case rel=>
      refine⟨i+1,_,us++[⟨uq,um,uc⟩],fun p=>if p=i then rows else R p,by omega,by first|rfl|go_num,by rw[dK,HI.o.1];rfl,P7.o.2.1,P7.o.1,P7.o.2.2,fun p hp=> ?_⟩
      by_cases e:p=i
      ·subst e;simp only[if_true];exact Im.o
      ·simp only[if_neg e];exact HI.o.2.2.2.2 p (by omega)
     case measure=>simp[intOf];omega
   ·have hltz:¬(i:Int)<(n:Int):=(by omega);have hie:i=n:=(by omega);subst hie;have FIN:Hid (TF w g (.returned (.tuple #[.pointer (some ⟨tb,0,none⟩), .int .i64 0])) wr):=⟨HB2.o.trans (HI.o.2.1.mono HB2.o.size),some (some R), .tab R TL.o (by rw[<-HN.o];exact HI.o.2.2.2.2),Or.inr (Or.inr ⟨R,tb,rfl,rfl,by
     rw[<-HN.o];exact⟨v,HI.o.2.2.1,nT HB2.o.size P3.o.2.2,ae HI.o.2.2.1,Vb HB2.o.size HI.o.2.2.2.1 HI.o.1⟩⟩)⟩
    go_wp2;refine bR (v:= .tuple #[.pointer (some ⟨tb,0,none⟩), .int .i64 0]) (by simp[results,Tryz.results33,go_sem]) rfl ?_;exact FIN.o
end Lf.Rb
namespace Rc
open Go.RowKit Go.Sort Go.Maps Pt Hc
open Lf (E8 uC)
open Lf.Rb (Cr UJ)
open Df (aO GR NV dN jH iQ xX)
attribute[local go_sem ↓]wp_at_zero wp_at_succ
theorem LZ{n:Nat}{R R':Nat->Nat->List ah}(h:Cr B M w tb n R)(hs:∀p,p<n->R p=R' p):Cr B M w tb n R':=by
 obtain⟨v,h1,h2,h3,us,h4,h5,h6⟩:=h;refine⟨v,h1,h2,h3,us,h4,h5,fun p u hu=> ?_⟩;obtain⟨vs,a1,a2,a3⟩:=h6 p u hu;have hp:p<n:=by
  have:=(lG.1 hu).1;omega
 exact⟨vs,a1,a2,fun q x hx=>by rw[<-hs p hp];exact a3 q x hx⟩
def YZ(w:World)(tag:Nat->Nat)(i:Nat)(g:Df.bD)(e:Ending)(w':World):Prop:=
 Below w.heap.size w w'/\(e= .returned (.tuple #[.pointer none, .pointer none, .bool true])\/∃R rb tb tag' B M,Gk g R/\e= .returned (.tuple #[.pointer (some ⟨rb,0,none⟩), .pointer (some ⟨tb,0,none⟩), .bool true])/\(∀k,k<w.heap.size->tag' k=tag k)/\(∀k,B<=k->k<M->tag' k=0)/\w.heap.size<=B/\M<=w'.heap.size/\RG i w' tag' rb g R (fun _ _=>0) (fun _=>[]) (fun _=>[]) (fun _ _=>0) (fun _=>[]) []/\Cr B M w' tb (aO g.nodes) R)
theorem Kq{M0:Nat}{nv ev:Value}{a:Int}{xs:List NV}{es:List dN}(w:World)(hG:GR M0 w nv ev xs es)(hC:xX ev xs)(hP:uC (jH a xs es))(i:Nat)(tag:Nat->Nat):Calls Tryz.prog 7 #[.agg (iQ a nv ev)] w fun e w'=>Hid (YZ w tag i (jH a xs es) e w'):=by
 obtain⟨xb,hxb⟩:=aD (w.heap.size);obtain⟨W0,hW0⟩:=aD (w.alloc (.cells (iQ a nv ev) 25));have P0:Hid (Below w.heap.size w W0/\W0.heap[xb]? =some (.cells (iQ a nv ev) 25 (0,0))):=by
  rw[hW0,hxb];exact⟨((Gr.refl w).alloc _).below,ai _ _⟩
 have hnw:=Df.dD (a:=a) W0 (hG.below P0.o.1) hC;have HW0:Hid (w.alloc (.cells (iQ a nv ev) 25)=W0/\w.heap.size=xb):=⟨hW0.symm,hxb.symm⟩;have c0:=(aa P0.o.2).1;have l0:=ae P0.o.2;have HP:=hid hP;clear hG hC hW0 hxb hP;obtain⟨g,hg⟩:=aD (jH a xs es);rw[<-hg]at hnw HP⊢;clear hg;have FNO:Hid (∀W,Below w.heap.size w W->YZ w tag i g (.returned (.tuple #[.pointer none, .pointer none, .bool true])) W):=fun W h=>⟨h, .inl rfl⟩;go_enter Tryz.func7,Tryz.ntmps7;go_upto_region 1 with fail;rw[HW0.o.1,HW0.o.2];clear HW0;go_wp2_with fail;refine hnw.mono ?_;clear hnw c0 l0;rintro r w1 ⟨hb1,e,t,hfl,hr⟩;have B1:Hid (Below w.heap.size w w1):=P0.o.1.trans (hb1.mono P0.o.1.size);rcases hr with⟨hne,rfl⟩|⟨rfl,gb,rfl,hgm⟩
 ·clear hfl hb1;go_wp2_with fail;refine bR (v:= .tuple #[.pointer none, .pointer none, .bool true]) (by simp[results,Tryz.results7,go_sem]) rfl ?_;exact FNO.o _ B1.o
 ·have jC:=hid (hfl.ok.1 rfl);have HRN:=hid (dD w1 hgm jC.o HP.o);have HGM:=hid hgm;clear hfl hb1 hgm;go_wp2_with fail;refine HRN.o.mono ?_;clear HRN;rintro r w2 h2;obtain⟨b2,a2,ha2,hr⟩:=h2.o.rg jC.o HP.o i tag;have B2:Hid (Below w.heap.size w w2):=B1.o.trans (b2.mono B1.o.size);have YP:=hid (Lf.Rb.dD w2 (HGM.o.below b2) jC.o HP.o);have H2:=hid (show w1.heap.size<=w2.heap.size/\w.heap.size<=w1.heap.size from⟨b2.size,B1.o.size⟩);clear h2 b2 HGM;rcases hr with⟨rfl,rfl⟩|⟨rfl,rfl⟩|⟨R,rb,Aj,rfl,hk,rfl,hrb,hold,hrg⟩
  ·go_wp2_with fail;refine YP.o.mono ?_;clear YP;rintro r w3 ⟨b3,a3,GK,hr3⟩;have B3:Hid (Below w.heap.size w w3):=B2.o.trans (b3.mono B2.o.size);rcases hr3 with⟨rfl,rfl⟩|⟨rfl,rfl⟩|⟨R3,tb,rfl,rfl,htp⟩
   ·clear b3 ha2 GK;go_wp2_with fail;refine bR (v:= .tuple #[.pointer none, .pointer none, .bool true]) (by simp[results,Tryz.results7,go_sem]) rfl ?_;exact FNO.o _ B3.o
   ·rcases ha2.same GK with⟨_,k⟩|⟨k,_⟩|⟨_,_,k,_⟩<;>cases k
   ·rcases ha2.same GK with⟨_,k⟩|⟨k,_⟩|⟨_,_,k,_⟩<;>cases k
  ·go_wp2_with fail;refine YP.o.mono ?_;clear YP;rintro r w3 ⟨b3,a3,GK,hr3⟩;have B3:Hid (Below w.heap.size w w3):=B2.o.trans (b3.mono B2.o.size);rcases hr3 with⟨rfl,rfl⟩|⟨rfl,rfl⟩|⟨R3,tb,rfl,rfl,htp⟩
   ·rcases ha2.same GK with⟨k,_⟩|⟨_,k⟩|⟨_,_,k,_⟩<;>cases k
   ·clear b3 ha2 GK;go_wp2_with fail;refine bR (v:= .tuple #[.pointer none, .pointer none, .bool true]) (by simp[results,Tryz.results7,go_sem]) rfl ?_;exact FNO.o _ B3.o
   ·rcases ha2.same GK with⟨k,_⟩|⟨_,k⟩|⟨_,_,k,_⟩<;>cases k
  ·have HK:=hid hk;have HRG:=hid hrg;have HOLD:=hid hold;have HA:=hid ha2;clear hk hrg hold ha2 hrb;go_wp2_with fail;refine YP.o.mono ?_;clear YP;rintro r w3 ⟨b3,a3,GK,hr3⟩;have B3:Hid (Below w.heap.size w w3):=B2.o.trans (b3.mono B2.o.size);rcases hr3 with⟨rfl,rfl⟩|⟨rfl,rfl⟩|⟨R3,tb,rfl,rfl,htp⟩
   ·rcases HA.o.same GK with⟨k,_⟩|⟨k,_⟩|⟨_,_,k,k2,_⟩
    ·cases k
    ·cases k
    ·cases k2
   ·rcases HA.o.same GK with⟨k,_⟩|⟨k,_⟩|⟨_,_,k,k2,_⟩
    ·cases k
    ·cases k
    ·cases k2
   ·have hs:∀p,p<aO g.nodes->R3 p=R p:=by
      rcases HA.o.same GK with⟨k,_⟩|⟨k,_⟩|⟨R1,R2,k,k2,k3⟩
      ·cases k
      ·cases k
      ·cases k;cases k2;exact fun p hp=>(k3 p hp).symm
    have FIN:Hid (YZ w tag i g (.returned (.tuple #[.pointer (some ⟨rb,0,none⟩), .pointer (some ⟨tb,0,none⟩), .bool true])) w3):=by
     refine⟨B3.o, .inr ⟨R,rb,tb,tg Aj w2 0,w2.heap.size,w3.heap.size,HK.o,rfl,fun k hk=> ?_,fun k h1 _=>aR (by omega), ?_,nR _,HRG.o.below HK.o b3 (fun k hk=>aj hk),LZ htp hs⟩⟩
     ·rw[aj (by have:=H2.o;omega)];exact HOLD.o k (by have:=H2.o;omega)
     ·have:=H2.o;omega
    clear b3 GK htp hs;go_wp2_with fail;refine bR (v:= .tuple #[.pointer (some ⟨rb,0,none⟩), .pointer (some ⟨tb,0,none⟩), .bool true]) (by simp[results,Tryz.results7,go_sem]) rfl ?_;exact FIN.o
end Rc
end Go.Proofs.YteekbpokkjjipaaGreat
