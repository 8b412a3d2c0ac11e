import Derived.Test.YtiiefcalkjeieaaGreatJ21
import Derived.Sort.KeysCollected
import Derived.Defers
import Derived.Recover
variable{b tb g n hb np N:Nat}{v ff:Go.Value}{w:Go.World}{rs:List Nat}{t:Go.TypeId}
set_option maxHeartbeats 8000000
set_option maxRecDepth 100000
namespace Go.Proofs.YtiiefcalkjeieaaGreat
namespace Rs
open Go.RowKit Go.Sort Go.Maps
attribute[local go_sem ↓]wp_at_zero wp_at_succ
theorem laidOut:laidOutB Tryz.prog=true:=by kernel_rfl
abbrev Sm:={ p:Int×Int×Int×Int // (Lit.int .i64 p.1).wf=true/\(Lit.int .u64 p.2.1).wf=true/\(Lit.int .u64 p.2.2.1).wf=true/\(Lit.int .u64 p.2.2.2).wf=true }
instance:Inhabited Sm:=⟨⟨(0,0,0,0),by decide⟩⟩
abbrev mv(p:Sm):Value:= .agg #[.int .i64 p.1.1, .int .u64 p.1.2.1, .int .u64 p.1.2.2.1, .int .u64 p.1.2.2.2]
theorem Nb{s t:Sm}(h0:s.1.1=t.1.1)(h1:s.1.2.1=t.1.2.1)(h2:s.1.2.2.1=t.1.2.2.1)(h3:s.1.2.2.2=t.1.2.2.2):s=t:=Subtype.ext (Prod.ext h0 (Prod.ext h1 (Prod.ext h2 h3)))
theorem VI:(match Tryz.prog.underlying 47 with|some (.array _ _)|some (.struct _)=>true|_=>false)=true:=by kernel_rfl
theorem ZQ:(47:TypeId)<Tryz.prog.types.size:=of_decide_eq_true (by kernel_rfl)
theorem Nk:∃d,Tryz.prog.types.size+1=d+3:=by
 have h:decide (2<=Tryz.prog.types.size)=true:=by kernel_rfl
 have h':=of_decide_eq_true h;exact⟨Tryz.prog.types.size-2,by omega⟩
theorem OA:WideMaps.KeyLaw Tryz.prog 47:=deep_law_laid laidOut (m:=3) (by omega) ZQ (by kernel_rfl) VI
theorem Cx:Tryz.prog.cellsOf 47=4:=by kernel_rfl
theorem oZ:Tryz.prog.cellsOf 45=3:=by kernel_rfl
theorem yo:Tryz.prog.cellsOf 43=1:=by kernel_rfl
theorem Yh:Tryz.prog.cellsOf 3=1:=by kernel_rfl
theorem OH:Tryz.prog.keyType 47=true:=by kernel_rfl
theorem jV{q:IntKind}(hu:Tryz.prog.underlying t=some (.int q))(d:Nat)(n:Int)(h:(Lit.int q n).wf=true):Tryz.prog.keyLits (d+1) t [.int q n]=some [.int q n]:=by
 unfold Program.keyLits;simp only[hu];simp[h]
theorem iL{q:IntKind}(hu:Tryz.prog.underlying t=some (.int q))(d:Nat){x:Value}{ls:List Lit}(h:Tryz.prog.keyLits (d+1) t [x]=some ls):∃n,x= .int q n/\(Lit.int q n).wf=true/\ls=[.int q n]:=by
 unfold Program.keyLits at h;simp only[hu]at h;split at h<;>simp_all
theorem xG(d:Nat)(x y z:Value):Tryz.prog.keyLits (d+2) 45 [x,y,z]=(do let a <-Tryz.prog.keyLits (d+1) 43 [x];let b <-Tryz.prog.keyLits (d+1) 43 [y];let c <-Tryz.prog.keyLits (d+1) 43 [z];pure (a++(b++c))):=by
 conv=>lhs;unfold Program.keyLits
 simp only[Tryz.underlying45,oZ];simp[yo];cases Tryz.prog.keyLits (d+1) 43 [x]<;>cases Tryz.prog.keyLits (d+1) 43 [y]<;>cases Tryz.prog.keyLits (d+1) 43 [z]<;>simp
theorem Oy(d:Nat)(x y z u:Value):Tryz.prog.keyLits (d+3) 47 [x,y,z,u]=(do let a <-Tryz.prog.keyLits (d+2) 3 [x];let b <-Tryz.prog.keyLits (d+2) 45 [y,z,u];pure (a++b)):=by
 conv=>lhs;unfold Program.keyLits
 simp only[Tryz.underlying47,Cx];simp[oZ,Yh];cases Tryz.prog.keyLits (d+2) 3 [x]<;>cases Tryz.prog.keyLits (d+2) 45 [y,z,u]<;>simp
theorem JG(p:Sm):keyOf Tryz.prog 47 (mv p)=some (.string (keyBytes [.int .i64 p.1.1, .int .u64 p.1.2.1, .int .u64 p.1.2.2.1, .int .u64 p.1.2.2.2])):=by
 obtain⟨d,hd⟩:=Nk;have h1:=jV Tryz.underlying3 (d+1) p.1.1 p.2.1;have h2:=jV Tryz.underlying43 d p.1.2.1 p.2.2.1;have h3:=jV Tryz.underlying43 d p.1.2.2.1 p.2.2.2.1;have h4:=jV Tryz.underlying43 d p.1.2.2.2 p.2.2.2.2;have hf:(mv p).formed Tryz.prog 47=true:=by simp[Value.formed,Tryz.underlying47,Cx]
 unfold keyOf;rw[Tryz.underlying47];simp only[OH,hf,Bool.and_self,if_true,hd];simp only[Value.cells,Oy,xG,h1,h2,h3,h4];simp
theorem U0(v:Value)(l:Lit)(h:keyOf Tryz.prog 47 v=some l):∃p:Sm,v=mv p:=by
 obtain⟨d,hd⟩:=Nk;unfold keyOf at h;rw[Tryz.underlying47]at h;simp only[OH,Bool.true_and]at h;split at h
 ·next hf=>
  cases v<;>simp[Value.formed,Tryz.underlying47,Cx]at hf
  next cs=>
  obtain⟨cs⟩:=cs
  match cs,hf with
  | [x,y,z,u],_=>
   simp only[Value.cells,hd,Oy,xG]at h;cases h1:Tryz.prog.keyLits (d+2) 3 [x]with
   | none => simp[h1]at h
   | some a=>
    cases h2:Tryz.prog.keyLits (d+1) 43 [y]with
    | none => simp[h1,h2]at h
    | some b=>
     cases h3:Tryz.prog.keyLits (d+1) 43 [z]with
     | none => simp[h1,h2,h3]at h
     | some c=>
      cases h4:Tryz.prog.keyLits (d+1) 43 [u]with
      | none => simp[h1,h2,h3,h4]at h
      | some e=>
       obtain⟨n1,rfl,w1,_⟩:=iL Tryz.underlying3 (d+1) h1;obtain⟨n2,rfl,w2,_⟩:=iL Tryz.underlying43 d h2;obtain⟨n3,rfl,w3,_⟩:=iL Tryz.underlying43 d h3;obtain⟨n4,rfl,w4,_⟩:=iL Tryz.underlying43 d h4;exact⟨⟨(n1,n2,n3,n4),w1,w2,w3,w4⟩,rfl⟩
 ·cases h
def ZM:KK Tryz.prog 47 Sm where
 enc:=mv
 lit p:= .string (keyBytes [.int .i64 p.1.1, .int .u64 p.1.2.1, .int .u64 p.1.2.2.1, .int .u64 p.1.2.2.2])
 law:=Keyed.of_law OA
 key:=JG
 inv v l h:=by
  obtain⟨p,rfl⟩:=U0 v l h;rw[JG p]at h;exact⟨p,rfl,(oJ h).symm⟩
 inj p q h:=by
  have e:=OA.inj (JG p) ((JG q).trans (congrArg some h.symm));obtain⟨⟨a,b,c,d⟩,_⟩:=p;obtain⟨⟨a',b',c',d'⟩,_⟩:=q;simp at e;obtain⟨rfl,rfl,rfl,rfl⟩:=e;rfl
abbrev fv(f:Nat):Value:= .func (.func f) #[] #[]
def ES:El Sm where
 k:=4
 enc p:=[.int .i64 p.1.1, .int .u64 p.1.2.1, .int .u64 p.1.2.2.1, .int .u64 p.1.2.2.2]
 len _:=rfl
 one x u hu:=by
  simp at hu;rcases hu with rfl|rfl|rfl|rfl<;>rfl
abbrev Cg:=Sm×Int
abbrev gv(c:Cg):Value:= .agg #[.int .i64 c.1.1.1, .int .u64 c.1.1.2.1, .int .u64 c.1.1.2.2.1, .int .u64 c.1.1.2.2.2, .int .i64 c.2]
theorem Eb:(Tryz.prog.info? 47).map (fun i=>(i.zero,i.size,i.bytes))=some (some (.agg #[.int .i64 0, .int .u64 0, .int .u64 0, .int .u64 0]),4,32):=by kernel_rfl
theorem pX:(Tryz.prog.info? 49).map (fun i=>(i.zero,i.size,i.bytes))=some (some (.agg #[.int .i64 0, .int .u64 0, .int .u64 0, .int .u64 0, .int .i64 0]),5,40):=by kernel_rfl
theorem Ls.atS{l:List Sm}(h:Ls ES w v l){j:Nat}{p:Sm}(hj:l[j]? =some p):
    ∃b off c,v= .slice (some ⟨b,off,none⟩) l.length c/\b<w.heap.size/\aj w b (off+j*4) (.int .i64 p.1.1)/\aj w b (off+j*4+1) (.int .u64 p.1.2.1)/\aj w b (off+j*4+2) (.int .u64 p.1.2.2.1)/\aj w b (off+j*4+3) (.int .u64 p.1.2.2.2):=by
 obtain⟨b,off,c,hv,hb,hc⟩:=h.get hj;exact⟨b,off,c,hv,hb,hc 0 _ (by decide) rfl,hc 1 _ (by decide) rfl,hc 2 _ (by decide) rfl,hc 3 _ (by decide) rfl⟩
theorem iI(x y:Int):c64 x y<0↔x<y:=by unfold c64;(repeat split)<;>omega
theorem gy(x y:Int):c64 x y=0↔x=y:=by unfold c64;(repeat split)<;>omega
theorem qN(a b c x y z:Int):mE a b c x y z<0↔a<x\/(a=x/\(b<y\/(b=y/\c<z))):=by
 have h1:=iI a x;have h2:=gy a x;have h3:=iI b y;have h4:=gy b y;have h5:=iI c z;unfold mE Mi;generalize c64 a x=p at *;generalize c64 b y=q at *;generalize c64 c z=r at *
 (repeat split)<;>omega
def Wu(p q:Int):Int:=if p=0 then q else p
def Gu(s t:Sm):Int:=Wu (c64 s.1.1 t.1.1) (mE s.1.2.1 s.1.2.2.1 s.1.2.2.2 t.1.2.1 t.1.2.2.1 t.1.2.2.2)
theorem DI(d:Nat)(a b c x y z:Int)(w:World):Sem.run Tryz.prog (Op.equalIn (d+2) 45 (.agg #[.int .u64 a, .int .u64 b, .int .u64 c]) (.agg #[.int .u64 x, .int .u64 y, .int .u64 z])) w= .ok (qE a b c x y z) w:=by
 have u3:=Tryz.underlying43;have a3:=Tryz.isAgg43;have z3:=Tryz.sizeOf43;have hS:Tryz.prog.underlying 45=some (.struct (Tryz.prog.fieldsOf 45)):=by kernel_rfl
 have hp:Tryz.prog.stoodInHeld 45=false:=by kernel_rfl
 rw[show(d+2:Nat)=(d+1)+1 from rfl,run_equalIn_agg w (d+1) 45 _ _ hS hp];simp only[Program.fieldsOf,Tryz.underlying45];go_simp;by_cases h1:a=x<;>by_cases h2:b=y<;>by_cases h3:c=z<;>simp[qE,h1,h2,h3]
theorem wR(d:Nat)(p a b c q x y z:Int)(w:World):Sem.run Tryz.prog (Op.equalIn (d+3) 47 (.agg #[.int .i64 p, .int .u64 a, .int .u64 b, .int .u64 c]) (.agg #[.int .i64 q, .int .u64 x, .int .u64 y, .int .u64 z])) w= .ok (p==q&&qE a b c x y z) w:=by
 have u4:=Tryz.underlying3;have a4:=Tryz.isAgg3;have z4:=Tryz.sizeOf3;have a5:=Tryz.isAgg45;have z5:=Tryz.sizeOf45;have hP:=DI d;have hS:Tryz.prog.underlying 47=some (.struct (Tryz.prog.fieldsOf 47)):=by kernel_rfl
 have hp:Tryz.prog.stoodInHeld 47=false:=by kernel_rfl
 rw[show(d+3:Nat)=(d+2)+1 from rfl,run_equalIn_agg w (d+2) 47 _ _ hS hp];simp only[Program.fieldsOf,Tryz.underlying47];go_simp;by_cases h1:p=q<;>cases qE a b c x y z<;>simp[h1]
theorem VX(s t:Sm):(s.1.1==t.1.1&&qE s.1.2.1 s.1.2.2.1 s.1.2.2.2 t.1.2.1 t.1.2.2.1 t.1.2.2.2)=decide (s=t):=by
 rw[Bool.eq_iff_iff];simp only[bA,beq_iff_eq,qM,decide_eq_true_iff];exact⟨fun h=>Nb h.1 h.2.1 h.2.2.1 h.2.2.2,fun h=>by subst h;exact⟨rfl,rfl,rfl,rfl⟩⟩
theorem vD(h k:Cg)(w:World):Sem.run Tryz.prog (Op.equalIn 10000 49 (gv h) (gv k)) w= .ok (decide (h=k)) w:=by
 obtain⟨s,m⟩:=h;obtain⟨t,n⟩:=k;have hd:decide (((s,m):Cg)=(t,n))=((s.1.1==t.1.1&&qE s.1.2.1 s.1.2.2.1 s.1.2.2.2 t.1.2.1 t.1.2.2.1 t.1.2.2.2)&&m==n):=by
  rw[VX,Bool.eq_iff_iff];simp
 rw[hd];clear hd;obtain⟨⟨p,a,b,c⟩,_⟩:=s;obtain⟨⟨q,x,y,z⟩,_⟩:=t;have u4:=Tryz.underlying2;have a4:=Tryz.isAgg2;have z4:=Tryz.sizeOf2;have a5:=Tryz.isAgg47;have z5:=Tryz.sizeOf47;have hP:=wR 9996;have hS:Tryz.prog.underlying 49=some (.struct (Tryz.prog.fieldsOf 49)):=by kernel_rfl
 have hp:Tryz.prog.stoodInHeld 49=false:=by kernel_rfl
 rw[show(10000:Nat)=9999+1 from rfl,run_equalIn_agg w 9999 49 _ _ hS hp];simp only[Program.fieldsOf,Tryz.underlying49];go_simp;by_cases h1:p=q<;>by_cases h2:m=n<;>cases qE a b c x y z<;>simp[h1,h2]
end Rs
namespace Rc
open Go.RowKit Go.Sort Pt Hc
attribute[local go_sem ↓]wp_at_zero wp_at_succ
def Jc(a b:Th):Prop:=a.1=b.1/\a.2.1=b.2.1
def VQ(a b:Th):Bool:=a.1==b.1&&qE a.2.1.1.1 a.2.1.1.2.1 a.2.1.1.2.2 b.2.1.1.1 b.2.1.1.2.1 b.2.1.1.2.2
theorem Dy(a b:Th):VQ a b=true↔Jc a b:=by
 unfold VQ Jc;rw[bA,beq_iff_eq,qM];exact⟨fun h=>⟨h.1,dw h.2.1 h.2.2.1 h.2.2.2⟩,fun h=>⟨h.1,by rw[h.2];exact⟨rfl,rfl,rfl⟩⟩⟩
structure Tk(w wr:World)(hb:Nat)(ff v vr:Value)(f:Th->Int)(L0 L M:List It)(np b2 b4 b6:Nat)(c2 c4 c6:Th):Prop where
 hq:Hq wr hb ff vr f L np
 k2:wr.heap[b2]? =some (.cells (cc c2) 49 (0,0))
 k4:wr.heap[b4]? =some (.cells (cc c4) 49 (0,0))
 k6:wr.heap[b6]? =some (.cells (cc c6) 49 (0,0))
 ge:w.heap.size<=b2/\w.heap.size<=b4/\w.heap.size<=b6
 ne:b2≠b4/\b2≠b6/\b4≠b6
 perm:(M++L).Perm L0
 kp:Kp (fun k=>k=hb\/v.ownBlock=some k) w wr
 row:∀g,vr.ownBlock=some g->v.ownBlock=some g\/w.heap.size<=g
theorem lX{L:List It}{cs:Array Value}(h:Hb w hb ff v L np)(hc:w.heap[b]? =some (.cells cs 49 (0,0))):¬(b=hb\/v.ownBlock=some b):=by
 rintro(rfl|e)
 ·have:=h.blk;rw[hc]at this;simp at this
 ·obtain⟨_,⟨h0,_⟩|⟨g,cap,cur,hv,_,hh,_⟩⟩:=h.own
  ·rw[h0]at e;simp[Value.ownBlock]at e
  ·rw[hv]at e;have e2:g=b:=(by simpa[Value.ownBlock]using e);rw[e2,hc]at hh;simp at hh
section
variable {w wr w':World} {hb np b2 b4 b6:Nat} {ff v vr v':Value} {f:Th->Int} {L0 L L' M:List It} {c2 c4 c6:Th}
theorem Tk.gr(h:Tk w wr hb ff v vr f L0 L M np b2 b4 b6 c2 c4 c6)(g:Bw wr w'):Tk w w' hb ff v vr f L0 L M np b2 b4 b6 c2 c4 c6:=
 ⟨h.hq.below g,(g.block _ (ae h.k2)).trans h.k2,(g.block _ (ae h.k4)).trans h.k4,(g.block _ (ae h.k6)).trans h.k6,h.ge,h.ne,h.perm,h.kp.trans (Kp.of_below (S:=fun _=>False) g) (fun _ _ h=>h.elim),h.row⟩
theorem Tk.pop(h:Tk w wr hb ff v vr f L0 L M np b2 b4 b6 c2 c4 c6){t:It}(hq:Hq w' hb ff v' f L' np)(hp:(t::L').Perm L)(ht:dX hb vr v' wr w'):Tk w w' hb ff v v' f L0 L' (M++[t]) np b2 b4 b6 c2 c4 c6:=by
 have o2:=lX h.hq.h h.k2;have o4:=lX h.hq.h h.k4;have o6:=lX h.hq.h h.k6;refine⟨hq,(ht.1.block _ (ae h.k2) o2).trans h.k2,(ht.1.block _ (ae h.k4) o4).trans h.k4,(ht.1.block _ (ae h.k6) o6).trans h.k6,h.ge,h.ne, ?_,h.kp.trans ht.1 (fun j hj e=> ?_),fun g hg=> ?_⟩
 ·rw[aA];exact(List.Perm.append_left M hp).trans h.perm
 ·rcases e with e|e
  ·exact .inl e
  ·rcases h.row j e with e2|e2
   ·exact .inr e2
   ·omega
 ·rcases ht.2 g hg with e|e
  ·exact h.row g e
  ·exact .inr (nT h.kp.size e)
theorem Yi(c:Th)(n:Int):(cc c).setIfInBounds 4 (iV n)=cc (c.1,c.2.1,n):=rfl
theorem Tk.abq(h:Tk w wr hb ff v vr f L0 L M np b2 b4 b6 c2 c4 c6)(n:Int):Tk w (wr.setCell ⟨b4,4,none⟩ (iV n)) hb ff v vr f L0 L M np b2 b4 b6 c2 (c4.1,c4.2.1,n) c6:=by
 obtain⟨q,k⟩:=aP h.k4 4 (iV n);rw[Yi]at q;have o4:=lX h.hq.h h.k4;exact⟨h.hq.kp k (fun e=>o4 (.inl e.symm)) (fun g hg e=>o4 (.inr (by rw[<-e];exact hg))),(k.block _ (ae h.k2) h.ne.1).trans h.k2,q,(k.block _ (ae h.k6) (fun e=>h.ne.2.2 e.symm)).trans h.k6,h.ge,h.ne,h.perm,h.kp.trans k (fun j hj e=>by have:=h.ge.2.1;omega),h.row⟩
theorem Tk.SC(h:Tk w wr hb ff v vr f L0 L M np b2 b4 b6 c2 c4 c6)(c:Th):Tk w (wr.alloc (.cells (cc c) 49)) hb ff v vr f L0 L M np b2 b4 wr.heap.size c2 c4 c:=by
 have g:=((Gr.refl wr).alloc (.cells (cc c) 49)).below;have h2:=h.gr g;exact⟨h2.hq,h2.k2,h2.k4,ah _ _,⟨h.ge.1,h.ge.2.1,h.kp.size⟩,⟨h.ne.1,fun e=>by have:=ae h.k2;omega,fun e=>by have:=ae h.k4;omega⟩,h2.perm,h2.kp,h2.row⟩
abbrev uP(W:World)(b:Nat)(c:Th):World:=((((W.setCell ⟨b,0,none⟩ (.int .i64 c.1)).setCell ⟨b,1,none⟩ (.int .u64 c.2.1.1.1)).setCell ⟨b,2,none⟩ (.int .u64 c.2.1.1.2.1)).setCell ⟨b,3,none⟩ (.int .u64 c.2.1.1.2.2)).setCell ⟨b,4,none⟩ (.int .i64 c.2.2)
theorem qU{W:World}{c0:Th}(h:W.heap[b]? =some (.cells (cc c0) 49 (0,0)))(c:Th):(uP W b c).heap[b]? =some (.cells (cc c) 49 (0,0))/\Kp (fun k=>k=b) W (uP W b c):=by
 obtain⟨q0,k0⟩:=aP h 0 (iV c.1);obtain⟨q1,k1⟩:=aP q0 1 (uV c.2.1.1.1);obtain⟨q2,k2⟩:=aP q1 2 (uV c.2.1.1.2.1);obtain⟨q3,k3⟩:=aP q2 3 (uV c.2.1.1.2.2);obtain⟨q4,k4⟩:=aP q3 4 (iV c.2.2);exact⟨q4,(((k0.tr k1).tr k2).tr k3).tr k4⟩
theorem Tk.abp(h:Tk w wr hb ff v vr f L0 L M np b2 b4 b6 c2 c4 c6)(c:Th):Tk w (uP wr b6 c) hb ff v vr f L0 L M np b2 b4 b6 c2 c4 c:=by
 obtain⟨q,k⟩:=qU h.k6 c;have o6:=lX h.hq.h h.k6;exact⟨h.hq.kp k (fun e=>o6 (.inl e.symm)) (fun g hg e=>o6 (.inr (by rw[<-e];exact hg))),(k.block _ (ae h.k2) h.ne.2.1).trans h.k2,(k.block _ (ae h.k4) h.ne.2.2).trans h.k4,q,h.ge,h.ne,h.perm,h.kp.trans k (fun j hj e=>by have:=h.ge.2.2;omega),h.row⟩
theorem Tk.set2(h:Tk w wr hb ff v vr f L0 L M np b2 b4 b6 c2 c4 c6)(c:Th):Tk w (uP wr b2 c) hb ff v vr f L0 L M np b2 b4 b6 c c4 c6:=by
 obtain⟨q,k⟩:=qU h.k2 c;have o2:=lX h.hq.h h.k2;exact⟨h.hq.kp k (fun e=>o2 (.inl e.symm)) (fun g hg e=>o2 (.inr (by rw[<-e];exact hg))),q,(k.block _ (ae h.k4) (fun e=>h.ne.1 e.symm)).trans h.k4,(k.block _ (ae h.k6) (fun e=>h.ne.2.1 e.symm)).trans h.k6,h.ge,h.ne,h.perm,h.kp.trans k (fun j hj e=>by have:=h.ge.1;omega),h.row⟩
end
def nG(M:List It):Int:=(M.map fun x=>x.1.2.2).sum
theorem NU(M:List It)(t:It):nG (M++[t])=nG M+t.1.2.2:=by simp[nG]
theorem Sy{M:List It}(h:∀x∈M,-1<=x.1.2.2/\x.1.2.2<=1): -(M.length:Int)<=nG M/\nG M<=M.length:=by
 induction M with
 | nil => simp[nG]
 | cons a M ih=>
  have h1:=h a mX;have h2:=ih fun x hx=>h x (mO _ hx);have e:nG (a::M)=a.1.2.2+nG M:=by simp[nG]
  rw[e,lC];omega
def Tkn(w:World)(hb:Nat)(ff v:Value)(f:Th->Int)(L0:List It)(np:Nat)(e:Ending)(w':World):Prop:=
 (L0=[]/\e= .returned (ans zt false)/\Hq w' hb ff v f [] np/\Bw w w')\/
 ∃c v' L' M,e= .returned (ans c true)/\Hq w' hb ff v' f L' np/\(M++L').Perm L0/\M≠[]/\(∀x∈M,Jc x.1 c)/\c.2.2=nG M/\(∀x∈L',¬Jc x.1 c/\f c<f x.1)/\dX hb v v' w w'
theorem JD{a b:Th}(h:Jc a b):kU N rs a=kU N rs b:=by
 obtain⟨p,t,n⟩:=a;obtain⟨q,u,m⟩:=b;obtain⟨h1,h2⟩:=h;simp only at h1 h2;subst h1 h2;rfl
theorem JE(hr:∀x∈rs,x<=N){a b:Th}(ha:Vp N a)(hb:Vp N b)(h:kU N rs a=kU N rs b):Jc a b:=by
 obtain⟨p,e1,hp⟩:=ha;obtain⟨q,e2,hq⟩:=hb;have FK:∀j,mi rs j<=N:=fun j=>by
  unfold mi;rw[List.getD_eq_getElem?_getD];cases k:rs[j]? with
  | none => simp
  | some z => exact hr z (lM k)
 unfold kU at h;rw[e1,e2,tN,tN]at h;obtain⟨h1,h2⟩:=Ji (N:=N) (rk:=mi rs) (p:=p) (q:=q) (t:=a.2.1) (u:=b.2.1) (by omega) (by omega) (FK p) (FK q) (by omega);exact⟨by rw[e1,e2,h1],h2⟩
def Tp(L:List It)(c:Th)(mb:Bool):Prop:=(mb=false/\L=[])\/(mb=true/\∃y,L[0]? =some y/\c=y.1)
theorem UU{f:Th->Int}{L:List It}(w:World)(h:Hq w hb ff v f L np):∃c mb,Tp L c mb/\CL 138 #[aB hb] w fun e w'=>e= .returned (ans c mb)/\Gr w w':=by
 cases L with
 | nil => exact⟨zt,false, .inl ⟨rfl,rfl⟩,kJ w h.h⟩
 | cons y L => exact⟨y.1,true, .inr ⟨rfl,y,rfl,rfl⟩,qZ w h.h rfl⟩
structure Mf(M:List It)(c:Th)(n:Int):Prop where
 ne:M≠[]
 st:∀x∈M,Jc x.1 c
 sm:n=nG M
theorem Mf.snoc{M:List It}{c:Th}{n:Int}{t:It}(h:Mf M c n)(ht:Jc t.1 c):Mf (M++[t]) c (n+t.1.2.2):=
 ⟨by simp,fun x hx=>by
  rcases kr.1 hx with k|k
  ·exact h.st x k
  ·rw[yM]at k;rw[k];exact ht,by rw[NU,h.sm]⟩
theorem Km{L0:List It}{K:World->Prop}(w:World)(hH:Hq w hb ff v (kU N rs) L0 np)(hl:L0.length<=1099511627776)(hr:∀x∈rs,x<=N)(hF:Hc.dZ K (Vp N) ff (key (kU N rs)))(hK:∀W,Kp (fun k=>k=hb\/v.ownBlock=some k) w W->K W)(hV:∀y∈L0,Vp N y.1)(h1:∀x∈L0,-1<=x.1.2.2/\x.1.2.2<=1):
    CL 79 #[aB hb] w fun e w'=>Hid (Tkn w hb ff v (kU N rs) L0 np e w'):=by
 have aaA:=fun(p a b c q x y z:Int) W=>Rs.wR 9997 p a b c q x y z W;obtain⟨W1,hW1⟩:=aF (w.alloc (.cells (cc zt) 49));obtain⟨b2,hb2⟩:=aF (w.heap.size);have G1:Gr w W1:=by rw[hW1];exact(Gr.refl _).alloc _
 have LZ:Hid (W1.heap[b2]? =some (.cells (cc zt) 49 (0,0))):=by rw[hW1,hb2];exact ah _ _
 have FR:=hid (hH.below G1.below);have HB2:Hid (b2=w.heap.size):=hb2;have yJ:=hid G1;have HK:=hid hK;have HV:=hid hV;have HN:=hid h1;have HF:=hid hF;have HL:=hid hl;have HR:=hid hr;have HH:=hid hH;simp only[cc]at hW1;clear hH hK hV h1 hF hl hr G1;go_enter Tryz.func79,Tryz.ntmps79;go_upto_region 1 with fail;rw[<-hW1,<-hb2];clear hW1 hb2;cases L0 with
 | nil=>
  go_wp2_with fail;refine(wY _ FR.o.h).mono ?_;rintro e w2 ⟨rfl,g2⟩;have uK:=hid (FR.o.below g2);simp only[Hc.ans,Hc.tv];go_upto_region 2 with fail;obtain⟨W3,hW3⟩:=aF (w2.alloc (.cells (cc zt) 49));obtain⟨b4,hb4⟩:=aF (w2.heap.size);have G3:Gr w2 W3:=by rw[hW3];exact(Gr.refl _).alloc _
  have Zn:Hid (W3.heap[b4]? =some (.cells (cc zt) 49 (0,0))):=by rw[hW3,hb4];exact ah _ _
  have HY3:Hid (W3.heap[b2]? =some (.cells (cc zt) 49 (0,0))):=(G3.below.block b2 (nL (ae LZ.o) g2.size)).trans ((g2.block b2 (ae LZ.o)).trans LZ.o);have FP:=hid (uK.o.below G3.below);have HB3:Hid (Bw w W3/\b4≠b2):=⟨yJ.o.below.trans ((g2.trans (G3.below.mono g2.size)).mono yJ.o.size),fun e=>by have:=ae LZ.o;have:=g2.size;omega⟩;simp only[cc]at hW3;rw[<-hW3,<-hb4];clear hW3 hb4 G3 uK g2;go_wp2_with fail;refine(kJ _ FP.o.h).mono ?_;rintro e w4 ⟨rfl,g4⟩;have HX4:=hid ((g4.below.block b4 (ae Zn.o)).trans Zn.o);have HY4:=hid ((g4.below.block b2 (ae HY3.o)).trans HY3.o);have Ay:=hid (FP.o.below g4.below);have FD:=hid (HB3.o.1.trans (g4.below.mono HB3.o.1.size));simp only[Hc.ans,Hc.tv];go_upto_region 3 with fail;obtain⟨W5,bW⟩:=aF (w4.alloc (.cells (cc zt) 49));have G5:Gr w4 W5:=by rw[bW];exact(Gr.refl _).alloc _
  have Zm:=hid ((G5.below.block b4 (ae HX4.o)).trans HX4.o);have HY5:=hid ((G5.below.block b2 (ae HY4.o)).trans HY4.o);have HH5:=hid (Ay.o.below G5.below);have Da:=hid (FD.o.trans (G5.below.mono FD.o.size));simp only[cc]at bW;rw[<-bW];clear bW G5 HX4 HY4 Ay FD g4;refine wp_loop_rounds 1 ?_;rw[rounds_succ];obtain⟨x0,x1,x2,x3,x4,xz⟩:=vN Zm.o;obtain⟨y0,y1,y2,y3,y4,yz⟩:=vN HY5.o;have fz:=(aa HY5.o).2;obtain⟨q5,k5⟩:=qU HY5.o zt;have HQ5:=hid q5;have UF:Hid (Tkn w hb ff v (kU N rs) [] np (.returned (ans zt false)) (uP W5 b2 zt)):= .inl ⟨rfl,rfl,HH5.o.kp k5 (fun e=>by have:=HH.o.h.lt;have:=HB2.o;omega) (fun g hg e=>by have:=(HH.o.h.row g hg);have:=HB2.o;omega),Da.o.trans (k5.below Da.o.size fun k hk=>by rw[hk,HB2.o];exact nR _)⟩;simp only[uP,zt]at UF HQ5;clear q5 k5;go_wp2_with fail;refine bR (v:=ans zt false) ?_ rfl UF;have qq:=(aa HQ5.o).1;have q0:=qq 0;have q1:=qq 1;have q2:=qq 2;have q3:=qq 3;have q4:=qq 4;simp[results,Tryz.results79,go_sem,q0,q1,q2,q3,q4]
 | cons t0 L1=>
  have Qx:=hid (qY (t:=t0) W1 FR.o rfl (nT HL.o (by decide)) HF.o (HK.o W1 (Kp.bg yJ.o)) HV.o);go_wp2_with fail;refine Qx.o.mono ?_;rintro e w2 ⟨v2,L2,rfl,hq2,hp2,ho2,ht2⟩;clear Qx;have o2:=lX FR.o.h LZ.o;have Uy:=hid ((ht2.1.block b2 (ae LZ.o) o2).trans LZ.o);have HT2:=hid ht2;have HQ2:=hid hq2;have Qz:=hid hp2;have Vx:=hid ho2;clear hq2 hp2 ho2 ht2 o2;simp only[Hc.ans,Hc.tv];go_upto_region 2 with fail;obtain⟨W3,hW3⟩:=aF (w2.alloc (.cells (cc t0.1) 49));obtain⟨b4,hb4⟩:=aF (w2.heap.size);have G3:Gr w2 W3:=by rw[hW3];exact(Gr.refl _).alloc _
  have Zn:Hid (W3.heap[b4]? =some (.cells (cc t0.1) 49 (0,0))):=by rw[hW3,hb4];exact ah _ _
  have FD:=hid hb4;have Mx:=hid G3;simp only[cc]at hW3;rw[<-hW3,<-hb4];clear hW3 hb4 G3;obtain⟨c6,mb,hTp,hpk⟩:=UU W3 (HQ2.o.below Mx.o.below);have HTP:=hid hTp;have HPK:=hid hpk;clear hTp hpk;go_wp2_with fail;refine HPK.o.mono ?_;rintro e w4 ⟨rfl,g4⟩;clear HPK;have FT:=hid g4;clear g4;simp only[Hc.ans,Hc.tv];go_upto_region 3 with fail;obtain⟨W5,bW⟩:=aF (w4.alloc (.cells (cc c6) 49));obtain⟨b6,hb6⟩:=aF (w4.heap.size);have si:Hid (Tk w W5 hb ff v v2 (kU N rs) (t0::L1) L2 [t0] np b2 b4 b6 zt (t0.1.1,t0.1.2.1,t0.1.2.2) c6):=by
   have g5:Gr w4 W5:=(by rw[bW];exact(Gr.refl _).alloc _);have gg:Bw w2 W5:=(Mx.o.trans (FT.o.trans g5)).below;have g35:Bw W3 W5:=(FT.o.trans g5).below;have z1:=yJ.o.size;have z2:=HT2.o.1.size;have z3:=Mx.o.size;have z4:=FT.o.size;have e2:=HB2.o;have e4:=FD.o;have l2:=ae Uy.o;have l3:=ae Zn.o;refine⟨HQ2.o.below gg,(gg.block _ l2).trans Uy.o,(g35.block _ l3).trans Zn.o,by rw[bW,hb6];exact ah _ _,⟨by omega,by omega,by omega⟩,⟨by omega,by omega,by omega⟩,Qz.o, ?_,fun g hg=> ?_⟩
   ·exact((Kp.bg yJ.o).tr HT2.o.1).trans (Kp.of_below (S:=fun _=>False) gg) (fun _ _ h=>h.elim)
   ·rcases HT2.o.2 g hg with k|k
    ·exact .inl k
    ·exact .inr (by omega)
  simp only[cc]at bW;rw[<-bW,<-hb6];have HMF:Hid (Mf [t0] t0.1 t0.1.2.2/\(∀x∈L2,kU N rs t0.1<=kU N rs x.1)/\L2.length<=(t0::L1).length):=by
   refine⟨⟨by simp,fun x hx=>by rw[yM]at hx;rw[hx];exact⟨rfl,rfl⟩,by simp[nG]⟩,fun x hx=> ?_, ?_⟩
   ·rcases Vx.o x hx with k|k<;>omega
   ·have:=Qz.o.length_eq;simp only[lC]at this⊢;omega
  clear bW hb6 Uy Zn FD Mx FT HQ2 Qz Vx HT2;go_loopg [6,7] (t0::L1).length (fun gk s6 s7 wr=>∃(b6:Nat) (vr:Value) (L M:List It) (n:Int) (c6:Th) (mb:Bool),s6=aB b6/\s7= .bool mb/\Hid (Tk w wr hb ff v vr (kU N rs) (t0::L1) L M np b2 b4 b6 zt (t0.1.1,t0.1.2.1,n) c6)/\Hid (Tp L c6 mb/\Mf M t0.1 n/\(∀x∈L,kU N rs t0.1<=kU N rs x.1)/\L.length<=gk));case atStart=>exact⟨b6,v2,L2,[t0],t0.1.2.2,c6,mb,rfl,rfl,si.o,⟨HTP.o,HMF.o.1,HMF.o.2.1,HMF.o.2.2⟩⟩
  case round=>
   clear si HTP HMF;obtain⟨b6,vr,L,M,n,c6,mb,rfl,rfl,si,MB⟩:=hrel;obtain⟨x0,x1,x2,x3,x4,xz⟩:=vN si.o.k4;obtain⟨y0,y1,y2,y3,y4,yz⟩:=vN si.o.k6;simp only at x0 x1 x2 x3 x4;have UG:Hid ((∀x∈L,¬Jc x.1 t0.1)->Tkn w hb ff v (kU N rs) (t0::L1) np (.returned (ans (t0.1.1,t0.1.2.1,n) true)) (uP wr b2 (t0.1.1,t0.1.2.1,n))):=fun hns=>by
    have h2:=si.o.set2 (t0.1.1,t0.1.2.1,n);have hc:Jc (t0.1.1,t0.1.2.1,n) t0.1:=⟨rfl,rfl⟩;refine .inr ⟨(t0.1.1,t0.1.2.1,n),vr,L,M,rfl,h2.hq,h2.perm,MB.o.2.1.ne,fun x hx=>MB.o.2.1.st x hx,MB.o.2.1.sm,fun x hx=>⟨hns x hx, ?_⟩,h2.kp,h2.row⟩;have k1:=MB.o.2.2.1 x hx;have k2:kU N rs t0.1≠kU N rs x.1:=fun e=>hns x hx (JE HR.o (HV.o x (si.o.perm.mem_iff.1 (List.mem_append_right _ hx))) (HV.o t0 (by simp)) e.symm);rw[JD hc];omega
   obtain⟨z0,z1,z2,z3,z4,zz⟩:=vN si.o.k2;have fz:=(aa si.o.k2).2;have HS2:=hid (si.o.set2 (t0.1.1,t0.1.2.1,n)).k2;simp only[uP]at UG HS2;cases mb with
   | false=>
    have HE:Hid (L=[]):=by
     rcases MB.o.1 with k|k
     ·exact k.2
     ·exact absurd k.1 (by simp)
    have UF:=hid (UG.o (by rw[HE.o];intro x hx;cases hx));go_wp2_with fail;refine bR (v:=ans (t0.1.1,t0.1.2.1,n) true) ?_ rfl UF;have qq:=(aa HS2.o).1;have q0:=qq 0;have q1:=qq 1;have q2:=qq 2;have q3:=qq 3;have q4:=qq 4;simp[results,Tryz.results79,go_sem,q0,q1,q2,q3,q4]
   | true=>
    obtain⟨y,hy,hc6⟩:∃y,L[0]? =some y/\c6=y.1:=by
     rcases MB.o.1 with k|k
     ·exact absurd k.1 (by simp)
     ·exact k.2
    have HY:=hid hy;subst hc6;clear hy;obtain⟨sb,hsb⟩:=aF (VQ y.1 t0.1);have aaB:=fun W=>aaA y.1.1 y.1.2.1.1.1 y.1.2.1.1.2.1 y.1.2.1.1.2.2 t0.1.1 t0.1.2.1.1.1 t0.1.2.1.1.2.1 t0.1.2.1.1.2.2 W;have e9:(y.1.1==t0.1.1&&qE y.1.2.1.1.1 y.1.2.1.1.2.1 y.1.2.1.1.2.2 t0.1.2.1.1.1 t0.1.2.1.1.2.1 t0.1.2.1.1.2.2)=sb:=(by rw[hsb];rfl);simp only[e9]at aaB;have gK:=hid hsb;clear aaA e9 hsb;cases sb with
    | false=>
     have UF:=hid (UG.o (fun x hx hs=>by
      have h1:¬Jc y.1 t0.1:=fun h=>(by have:=gK.o;rw[(Dy _ _).2 h]at this;cases this);obtain⟨_,k1⟩:=si.o.hq.first HY.o;have k2:=MB.o.2.2.1 y (lM HY.o);have k3:kU N rs t0.1≠kU N rs y.1:=fun e=>h1 (JE HR.o (HV.o y (si.o.perm.mem_iff.1 (List.mem_append_right _ (lM HY.o)))) (HV.o t0 (by simp)) e.symm);have k4:=k1 x hx;have k5:=JD (N:=N) (rs:=rs) hs;omega))
     go_wp2_with fail;refine bR (v:=ans (t0.1.1,t0.1.2.1,n) true) ?_ rfl UF;have qq:=(aa HS2.o).1;have q0:=qq 0;have q1:=qq 1;have q2:=qq 2;have q3:=qq 3;have q4:=qq 4;simp[results,Tryz.results79,go_sem,q0,q1,q2,q3,q4]
    | true=>
     have HST:Hid (Jc y.1 t0.1):=(Dy _ _).1 gK.o.symm;have HVL:Hid (∀z∈L,Vp N z.1/\-1<=z.1.2.2/\z.1.2.2<=1):=fun z hz=>⟨HV.o z (si.o.perm.mem_iff.1 (List.mem_append_right _ hz)),HN.o z (si.o.perm.mem_iff.1 (List.mem_append_right _ hz))⟩;have Vb:M.length+L.length<=1099511627776:=by
      have:=si.o.perm.length_eq;rw[dQ]at this;have:=HL.o;omega
     have hbd: -1099511627776<=n/\n<=1099511627776:=by
      have:=Sy (M:=M) fun x hx=>HN.o x (si.o.perm.mem_iff.1 (List.mem_append_left _ hx));rw[<-MB.o.2.1.sm]at this;omega
     have hyN:=(HVL.o y (lM HY.o)).2;have hlp:0<L.length:=(lG.1 HY.o).1;obtain⟨gk,rfl⟩:∃g',gk=g'+1:=⟨gk-1,by have:=MB.o.2.2.2;omega⟩;obtain⟨m,hm⟩:=aF (y.1.2.2);rw[<-hm]at hyN y4;have hw:wrap64 (n+m)=n+m:=(by unfold wrap64;omega);have HM:=hid hm;have Aw:=hid (And.intro hbd hyN);have vO:Hid (M.length+L.length<=1099511627776/\0<L.length):=⟨Vb,hlp⟩;have f4:=(aa si.o.k4).2;obtain⟨W6,Pw⟩:=aF (wr.setCell ⟨b4,4,none⟩ (iV (n+m)));have Q4:Hid (Tk w W6 hb ff v vr (kU N rs) (t0::L1) L M np b2 b4 b6 zt (t0.1.1,t0.1.2.1,n+m) y.1):=(by rw[Pw];exact si.o.abq (n+m));clear hm hbd hyN Vb hlp z0 z1 z2 z3 z4 zz fz HS2 UG;go_upto_region 6 with fail;rw[<-Pw];clear Pw x0 x1 x2 x3 x4 xz y0 y1 y2 y3 y4 yz f4 hw aaB si;have Qx:=hid (qY (t:=y) W6 Q4.o.hq HY.o (by have:=vO.o;omega) HF.o (HK.o W6 Q4.o.kp) (fun z hz=>(HVL.o z hz).1));go_wp2_with fail;refine Qx.o.mono ?_;rintro e w7 ⟨v7,L7,rfl,hq7,hp7,Tx,QR⟩;have HT7:=hid (Q4.o.pop hq7 hp7 QR);have HP7:Hid ((y::L7).Perm L):=hp7;clear Qx hq7 hp7 Tx QR Q4;simp only[Hc.ans,Hc.tv];obtain⟨y0,y1,y2,y3,y4,yz⟩:=vN HT7.o.k6;go_upto_region 4 with fail;obtain⟨W8,QT⟩:=aF (w7.alloc (.cells (cc y.1) 49));obtain⟨b8,dP⟩:=aF (w7.heap.size);have HT8:Hid (Tk w W8 hb ff v v7 (kU N rs) (t0::L1) L7 (M++[y]) np b2 b4 b8 zt (t0.1.1,t0.1.2.1,n+m) y.1):=(by rw[QT,dP];exact HT7.o.SC y.1);simp only[cc]at QT;rw[<-QT,<-dP];clear QT dP y0 y1 y2 y3 y4 yz HT7;obtain⟨c9,mb9,hTp,hpk⟩:=UU W8 HT8.o.hq;have HTP:=hid hTp;have HPK:=hid hpk;clear hTp hpk;go_wp2_with fail;refine HPK.o.mono ?_;rintro e w9 ⟨rfl,g9⟩;have HT9:=hid (HT8.o.gr g9.below);clear HPK g9 HT8;simp only[Hc.ans,Hc.tv];obtain⟨y0,y1,y2,y3,y4,yz⟩:=vN HT9.o.k6;have f9:=(aa HT9.o.k6).2;have abb:=hid (HT9.o.abp c9);simp only[uP]at abb;clear HT9;go_wp2_with fail;go_roundg gk;case measure=>omega
     case rel=>
      refine⟨b8,v7,L7,M++[y],n+m,c9,mb9,rfl,rfl,abb.o,⟨HTP.o, ?_,fun x hx=>MB.o.2.2.1 x (HP7.o.mem_iff.1 (mO _ hx)), ?_⟩⟩
      ·rw[HM.o];exact MB.o.2.1.snoc HST.o
      ·have k1:=HP7.o.length_eq;have k2:=MB.o.2.2.2;rw[lC]at k1;omega
end Rc
namespace Rs.Tt
open Go.RowKit Go.Sort Go.Maps
attribute[local go_sem ↓]wp_at_zero wp_at_succ
theorem zeroE(w:World):(zeroValue 2).run Tryz.prog w= .ok (iV 0) w:=by kernel_rfl
def dW(n:Int):Bool:=decide (n < -2147483647)|| decide (2147483647<n)
theorem dK{n:Int}:dW n=false↔-2147483647<=n/\n<=2147483647:=by unfold dW;simp
theorem Vk{n:Int}:dW n=true↔n < -2147483647\/2147483647<n:=by unfold dW;simp
theorem gI(n:Int)(w:World):CL 143 #[iV n] w fun e w'=>e= .returned (.bool (dW n))/\w'=w:=by
 unfold dW;go_enter Tryz.func143,Tryz.ntmps143;go_wp2;all_goals (go_ret;refine⟨?_,rfl⟩;simp_all)
theorem heap_alloc2_new(w:World)(o p:Obj):(((w.alloc o).alloc p)).heap[w.heap.size+1]? =some p:=by
 have:=ah (w.alloc o) p;simpa using this
theorem heap_alloc2_old(w:World)(o p:Obj):(((w.alloc o).alloc p)).heap[w.heap.size]? =some o:=by
 rw[Below.heap_alloc _ _ _ (by simp)];exact ah _ _
structure Tl(w:World)(tb b g n:Nat)(f:Sm->Int):Prop where
 blk:w.heap[tb]? =some (.cells #[fv g, .map (some b)] 238 (0,0))
 ta:Ta ZM 2 w b n f
 bd:∀s,-2147483647<=f s/\f s<=2147483647
section
variable {w w':World} {tb b g n:Nat} {f:Sm->Int}
theorem Tl.lt(h:Tl w tb b g n f):tb<w.heap.size:=(aG.1 h.blk).1
theorem Tl.c0(h:Tl w tb b g n f):w.cell? ⟨tb,0,none⟩=some (fv g):=by simp[World.cell?,h.blk]
theorem Tl.c1(h:Tl w tb b g n f):w.cell? ⟨tb,1,none⟩=some (.map (some b)):=by simp[World.cell?,h.blk]
theorem Tl.ne(h:Tl w tb b g n f):tb≠b:=fun e=>by
 obtain⟨D,⟨es,clock,hb,_⟩,_⟩:=h.ta;rw[<-e,h.blk]at hb;cases hb
theorem Tl.kp{S:Nat->Prop}(h:Tl w tb b g n f)(hk:Kp S w w')(h1:¬S tb)(h2:¬S b):Tl w' tb b g n f:=
 ⟨(hk.block tb h.lt h1).trans h.blk,h.ta.kept (hk.block b h.ta.lt h2),h.bd⟩
theorem Tl.below(h:Tl w tb b g n f)(hb:Bw w w'):Tl w' tb b g n f:=h.kp (S:=fun _=>False) (Kp.of_below hb) (fun h=>h) (fun h=>h)
theorem Tl.gr(h:Tl w tb b g n f)(hb:Gr w w'):Tl w' tb b g n f:=h.below hb.below
end
theorem dI(g:Nat)(w:World):CL 77 #[fv g] w fun e w'=>e= .returned (.pointer (some ⟨w.heap.size+1,0,none⟩))/\Tl w' (w.heap.size+1) w.heap.size g 0 (fun _=>0)/\Gr w w':=by
 have hmm:=@run_makeMap Tryz.prog;go_enter Tryz.func77,Tryz.ntmps77;go_wp2;go_ret;refine⟨rfl,⟨?_, ?_,fun _=> ?_⟩,((Gr.refl _).alloc _).alloc _⟩
 ·exact heap_alloc2_new _ _ _
 ·exact(Ta.made w).kept ((heap_alloc2_old _ _ _).trans (MapKept.heap_alloc w _).1.symm)
 ·decide
theorem lH(w:World):CallsD Tryz.prog 208 #[] .returning w fun e u' w'=>e= .returned (.tuple #[])/\u'= .returning/\w'=w:=by
 refine callsD_of_wpS Tryz.func208 rfl fun c₀ cs hu=> ?_;apply wpS_region;simp[wpOpsS,go_sem,recoverD,hu,Tryz.ntmps208,bodyPostS,results,Tryz.results208];cases c₀
 simp_all
abbrev bx(x:Sm)(w:World):World:=w.alloc (.cells #[.int .i64 x.1.1, .int .u64 x.1.2.1, .int .u64 x.1.2.2.1, .int .u64 x.1.2.2.2] 47)
theorem dV{f:Sm->Int}(x:Sm)(w:World)(h:Tl w tb b g n f):
    CL 144 #[aB tb,mv x] w fun e w'=>e= .returned (.tuple #[iV (f x), .bool true])/\Gr w w':=by
 have hmx:Tryz.prog.follows .mixedOrders=true:=by kernel_rfl
 have HT:Hid (Tl (bx x w).drew tb b g n f):=(h.gr ((Gr.refl _).alloc _)).gr (Gr.refl _).drew;have hblk:(bx x w).heap[w.heap.size]? =some (.cells #[iV x.1.1,uV x.1.2.1,uV x.1.2.2.1,uV x.1.2.2.2] 47 (0,0)):=ah _ _;have S0:(bx x w).drew.cell? ⟨tb,1,none⟩=some (.map (some b))/\(bx x w).drew.cell? ⟨w.heap.size,0,none⟩=some (iV x.1.1)/\(bx x w).drew.cell? ⟨w.heap.size,1,none⟩=some (uV x.1.2.1)/\(bx x w).drew.cell? ⟨w.heap.size,2,none⟩=some (uV x.1.2.2.1)/\(bx x w).drew.cell? ⟨w.heap.size,3,none⟩=some (uV x.1.2.2.2):=by
  refine⟨HT.o.c1, ?_, ?_, ?_, ?_⟩<;>(show(bx x w).cell? _=_;simp only[World.cell?];rw[hblk];rfl)
 obtain⟨D,hown,h1,h2⟩:=HT.o.ta;have hx:=h1 x;obtain⟨c,hrun,hat,_⟩:=hown.lookup_int ZM.law Tryz.underlying235 Tryz.underlying2 (zeroE _) (ZM.key x);have e0:c=f x:=by
  rw[hx]at hat;simpa using hat.symm
 subst e0;have hrun:(Instr.lookup 235 (.map (some b)) (mv x) false).run Tryz.prog (bx x w).drew= .ok (iV (f x)) (bx x w).drew:=hrun;have hG:Gr w (bx x w).drew:=((Gr.refl _).alloc _).drew;clear hx hat h1 h2 hown h HT hblk;generalize f x=r at hrun⊢;go_enter_defers Tryz.func144,Tryz.ntmps144;go_wp2_with fail;go_region_held3 (fun w'=>aj w' tb 1 (.map (some b))/\w'.cell? ⟨w.heap.size,0,none⟩=some (iV x.1.1)/\w'.cell? ⟨w.heap.size,1,none⟩=some (uV x.1.2.1)/\w'.cell? ⟨w.heap.size,2,none⟩=some (uV x.1.2.2.1)/\w'.cell? ⟨w.heap.size,3,none⟩=some (uV x.1.2.2.2))
  (first|exact S0) (fail)
 go_wp2;refine leaves_cons (f:=208) (args:=#[]) (by simp) (by simp[go_sem]) ?_;refine(lH _).mono ?_;rintro e u' w'' ⟨rfl,rfl,rfl⟩;simp[Leaves,settle,results,Tryz.results144,go_sem];exact hG
theorem bX(x:Sm)(w:World):(bx x w).cell? ⟨w.heap.size,0,none⟩=some (iV x.1.1)/\(bx x w).cell? ⟨w.heap.size,1,none⟩=some (uV x.1.2.1)/\(bx x w).cell? ⟨w.heap.size,2,none⟩=some (uV x.1.2.2.1)/\(bx x w).cell? ⟨w.heap.size,3,none⟩=some (uV x.1.2.2.2):=by
 have hblk:(bx x w).heap[w.heap.size]? =some (.cells #[iV x.1.1,uV x.1.2.1,uV x.1.2.2.1,uV x.1.2.2.2] 47 (0,0)):=ah _ _;refine⟨?_, ?_, ?_, ?_⟩<;>(simp only[World.cell?];rw[hblk];rfl)
theorem Bn{f:Sm->Int}(x:Sm)(v:Int)(w:World)(h:Tl w tb b g n f)(hn:n<maxLen)(hv: -2147483647<=v/\v<=2147483647):
    CL 145 #[aB tb,mv x,iV v] w fun e w'=>e= .returned (.tuple #[])/\Tl w' tb b g (n+1) (upd f x v)/\Kp (fun k=>k=b) w w':=by
 have hmx:Tryz.prog.follows .mixedOrders=true:=by kernel_rfl
 have HT:Hid (Tl (bx x w).drew tb b g n f):=(h.gr ((Gr.refl _).alloc _)).gr (Gr.refl _).drew;have HG:Hid (Gr w (bx x w).drew):=((Gr.refl _).alloc _).drew;have S0:(bx x w).drew.cell? ⟨tb,1,none⟩=some (.map (some b))/\(bx x w).drew.cell? ⟨w.heap.size,0,none⟩=some (iV x.1.1)/\(bx x w).drew.cell? ⟨w.heap.size,1,none⟩=some (uV x.1.2.1)/\(bx x w).drew.cell? ⟨w.heap.size,2,none⟩=some (uV x.1.2.2.1)/\(bx x w).drew.cell? ⟨w.heap.size,3,none⟩=some (uV x.1.2.2.2):=
  ⟨HT.o.c1,(bX x w).1,(bX x w).2.1,(bX x w).2.2.1,(bX x w).2.2.2⟩
 have Pq:∀s,-2147483647<=upd f x v s/\upd f x v s<=2147483647:=fun s=>by unfold upd;split;exact hv;exact h.bd s
 have vQ:Hid (∀s,-2147483647<=upd f x v s/\upd f x v s<=2147483647):=Pq;obtain⟨D,hown,h1,h2⟩:=HT.o.ta;have hne:=HT.o.ne;have hlt:=HT.o.lt;have hbl:b<w.heap.size:=h.ta.lt;have hbx:w.heap.size<(bx x w).drew.heap.size:=by show w.heap.size<(bx x w).heap.size;simp
 clear h Pq;by_cases h0:v=0
 ·subst h0;have ht:=EY h1 h2 x;obtain⟨w1,hrun,hown1,hturn1⟩:=hown.drop ZM.law Tryz.underlying235 (ZM.key x) 0;have hrun:Sem.run Tryz.prog (Builtin.delete_ #[235,47] 0 #[.map (some b),mv x]) (bx x w).drew= .ok (.tuple #[]) w1:=hrun;have qH:Hid ((bx x w).drew.grownBy w1 (some b)):=hturn1.grown;have S1:aj w1 tb 1 (.map (some b))/\w1.cell? ⟨w.heap.size,0,none⟩=some (iV x.1.1)/\w1.cell? ⟨w.heap.size,1,none⟩=some (uV x.1.2.1)/\w1.cell? ⟨w.heap.size,2,none⟩=some (uV x.1.2.2.1)/\w1.cell? ⟨w.heap.size,3,none⟩=some (uV x.1.2.2.2):=by
   have e1:∀q,w1.cell? ⟨tb,q,none⟩=(bx x w).drew.cell? ⟨tb,q,none⟩:=fun q=>zh (a:=⟨tb,q,none⟩) (qH.o.block tb hlt (by simp[hne]));have e2:∀q,w1.cell? ⟨w.heap.size,q,none⟩=(bx x w).drew.cell? ⟨w.heap.size,q,none⟩:=fun q=>zh (a:=⟨w.heap.size,q,none⟩) (qH.o.block w.heap.size hbx (by simp;omega));exact⟨(e1 1).trans S0.1,(e2 0).trans S0.2.1,(e2 1).trans S0.2.2.1,(e2 2).trans S0.2.2.2.1,(e2 3).trans S0.2.2.2.2⟩
  have HE:Hid (Tl w1 tb b g (n+1) (upd f x 0)/\Kp (fun k=>k=b) w w1):=
   ⟨⟨(qH.o.block tb hlt (by simp[hne])).trans HT.o.blk,⟨_,hown1.mono (Nat.le_succ _),ht.1,ht.2⟩,vQ.o⟩,(Kp.bg (S:=fun k=>k=b) HG.o).tr (Kp.grownBy (S:=fun k=>k=b) qH.o (fun k hk=>by simpa using hk.symm))⟩
  clear h1 h2 hown hown1 hturn1 qH vQ HT HG hlt hbx;go_enter Tryz.func145,Tryz.ntmps145;go_wp2_with fail;go_region_held3 (fun w'=>aj w' tb 1 (.map (some b))/\w'.cell? ⟨w.heap.size,0,none⟩=some (iV x.1.1)/\w'.cell? ⟨w.heap.size,1,none⟩=some (uV x.1.2.1)/\w'.cell? ⟨w.heap.size,2,none⟩=some (uV x.1.2.2.1)/\w'.cell? ⟨w.heap.size,3,none⟩=some (uV x.1.2.2.2))
   (first|exact S0|exact S1) (fail)
  go_wp2;refine bR (results_none rfl _ _ _) rfl ?_;exact⟨rfl,HE.o.1,HE.o.2⟩
 ·have ht:=DK (hown.isMap) h1 h2 x v h0;have hwf:(Lit.int .i64 v).wf=true:=WalkArith.wf_i64 (by omega);obtain⟨w1,hrun,hown1,hturn1⟩:=hown.store ZM.law Tryz.underlying235 hn (ZM.key x) (plainElem_int Tryz.underlying2 hwf);have hrun:(Instr.mapUpdate 235 (.map (some b)) (mv x) (iV v)).run Tryz.prog (bx x w).drew= .ok () w1:=hrun;have qH:Hid ((bx x w).drew.grownBy w1 (some b)):=hturn1.grown;have S1:aj w1 tb 1 (.map (some b))/\w1.cell? ⟨w.heap.size,0,none⟩=some (iV x.1.1)/\w1.cell? ⟨w.heap.size,1,none⟩=some (uV x.1.2.1)/\w1.cell? ⟨w.heap.size,2,none⟩=some (uV x.1.2.2.1)/\w1.cell? ⟨w.heap.size,3,none⟩=some (uV x.1.2.2.2):=by
   have e1:∀q,w1.cell? ⟨tb,q,none⟩=(bx x w).drew.cell? ⟨tb,q,none⟩:=fun q=>zh (a:=⟨tb,q,none⟩) (qH.o.block tb hlt (by simp[hne]));have e2:∀q,w1.cell? ⟨w.heap.size,q,none⟩=(bx x w).drew.cell? ⟨w.heap.size,q,none⟩:=fun q=>zh (a:=⟨w.heap.size,q,none⟩) (qH.o.block w.heap.size hbx (by simp;omega));exact⟨(e1 1).trans S0.1,(e2 0).trans S0.2.1,(e2 1).trans S0.2.2.1,(e2 2).trans S0.2.2.2.1,(e2 3).trans S0.2.2.2.2⟩
  have HE:Hid (Tl w1 tb b g (n+1) (upd f x v)/\Kp (fun k=>k=b) w w1):=
   ⟨⟨(qH.o.block tb hlt (by simp[hne])).trans HT.o.blk,⟨_,hown1,ht.1,ht.2⟩,vQ.o⟩,(Kp.bg (S:=fun k=>k=b) HG.o).tr (Kp.grownBy (S:=fun k=>k=b) qH.o (fun k hk=>by simpa using hk.symm))⟩
  clear h1 h2 hown hown1 hturn1 qH vQ HT HG hlt hbx;go_enter Tryz.func145,Tryz.ntmps145;go_wp2_with fail;go_region_held3 (fun w'=>aj w' tb 1 (.map (some b))/\w'.cell? ⟨w.heap.size,0,none⟩=some (iV x.1.1)/\w'.cell? ⟨w.heap.size,1,none⟩=some (uV x.1.2.1)/\w'.cell? ⟨w.heap.size,2,none⟩=some (uV x.1.2.2.1)/\w'.cell? ⟨w.heap.size,3,none⟩=some (uV x.1.2.2.2))
   (first|exact S0|exact S1) (fail)
  go_wp2;go_end0;exact⟨rfl,HE.o.1,HE.o.2⟩
theorem CE{x:Sm}{w2:World}(h:Gr (bx x w) w2):w2.cell? ⟨w.heap.size,0,none⟩=some (iV x.1.1)/\w2.cell? ⟨w.heap.size,1,none⟩=some (uV x.1.2.1)/\w2.cell? ⟨w.heap.size,2,none⟩=some (uV x.1.2.2.1)/\w2.cell? ⟨w.heap.size,3,none⟩=some (uV x.1.2.2.2):=by
 have hz:w.heap.size<(bx x w).heap.size:=by simp
 exact⟨(h.cell hz).trans (bX x w).1,(h.cell hz).trans (bX x w).2.1,(h.cell hz).trans (bX x w).2.2.1,(h.cell hz).trans (bX x w).2.2.2⟩
def Fq(f:Sm->Int)(x:Sm)(v:Int):Int:=if dW v=true\/dW (f x+v)=true then 12 else 0
def yx(f:Sm->Int)(x:Sm)(v:Int):Sm->Int:=if dW v=true\/dW (f x+v)=true then f else upd f x (f x+v)
theorem pz{f:Sm->Int}(x:Sm)(v:Int)(w:World)(h:Tl w tb b g n f)(hn:n<maxLen):
    CL 81 #[aB tb,mv x,iV v] w fun e w'=>e= .returned (iV (Fq f x v))/\Tl w' tb b g (n+1) (yx f x v)/\Kp (fun k=>k=b) w w':=by
 have hb:=h.bd x;have HG:Hid (Gr w (bx x w)):=(Gr.refl _).alloc _;have HT:Hid (Tl (bx x w) tb b g n f):=h.gr HG.o;have hco:=dV x (bx x w) HT.o;have hset:=fun(W:World) (hW:Gr (bx x w) W) (hv: -2147483647<=f x+v/\f x+v<=2147483647)=>Bn x (f x+v) W (HT.o.gr hW) hn hv;have h1:=fun W=>gI v W;have h2:=fun W=>gI (f x+v) W;have Q8:Hid (∀W,Gr (bx x w) W->Kp (fun k=>k=b) w W):=fun W hW=>(Kp.bg (HG.o.trans hW));unfold Fq yx;clear h;cases hv:dW v with
 | true=>
  rw[hv]at h1;clear hv;rw[if_pos (Or.inl rfl),if_pos (Or.inl rfl)];go_enter Tryz.func81,Tryz.ntmps81;go_wp2_with fail;refine(h1 _).mono ?_;rintro e w1 ⟨rfl,rfl⟩;go_wp2;go_ret;exact⟨rfl,⟨HT.o.blk,HT.o.ta.mono (Nat.le_succ _),HT.o.bd⟩,Q8.o _ (Gr.refl _)⟩
 | false=>
  have hv':=dK.1 hv;rw[hv]at h1;clear hv;cases hv2:dW (f x+v)with
  | true=>
   rw[hv2]at h2;clear hv2 hset;rw[if_pos (Or.inr rfl),if_pos (Or.inr rfl)];generalize f x=c at *;go_enter Tryz.func81,Tryz.ntmps81;go_wp2_with fail;refine(h1 _).mono ?_;rintro e w1 ⟨rfl,rfl⟩;go_wp2_with fail;refine hco.mono ?_;rintro e w2 ⟨rfl,g2⟩;go_wp2_with fail;refine(h2 _).mono ?_;rintro e w3 ⟨rfl,rfl⟩;go_wp2;go_ret;have ht:=HT.o.gr g2;exact⟨rfl,⟨ht.blk,ht.ta.mono (Nat.le_succ _),ht.bd⟩,Q8.o _ g2⟩
  | false=>
   have hv3:=dK.1 hv2;rw[hv2]at h2;clear hv2;rw[if_neg (by simp),if_neg (by simp)];have O8:=fun W hW=>hset W hW hv3;clear hset;generalize f x=c at *;go_enter Tryz.func81,Tryz.ntmps81;go_wp2_with fail;refine(h1 _).mono ?_;rintro e w1 ⟨rfl,rfl⟩;go_wp2_with fail;refine hco.mono ?_;rintro e w2 ⟨rfl,g2⟩;obtain⟨c0,c1,c2,c3⟩:=CE g2;go_wp2_with fail;refine(h2 _).mono ?_;rintro e w3 ⟨rfl,rfl⟩;go_wp2_with fail;refine(O8 _ g2).mono ?_;rintro e w4 ⟨rfl,ht,hk⟩;go_wp2;go_ret;exact⟨rfl,ht,(Q8.o _ g2).tr hk⟩
theorem Ck{f:Sm->Int}(x:Sm)(w:World)(h:Tl w tb b g n f):
    CL 149 #[aB tb,mv x] w fun e w'=>e= .returned (iV (f x))/\Gr w w':=by
 have HG:Hid (Gr w (bx x w)):=(Gr.refl _).alloc _;have hco:=dV x (bx x w) (h.gr HG.o);generalize f x=c at hco⊢;clear h;go_enter Tryz.func149,Tryz.ntmps149;go_wp2_with fail;refine hco.mono ?_;rintro e w1 ⟨rfl,g1⟩;go_wp2;go_ret;exact⟨rfl,HG.o.trans g1⟩
end Rs.Tt
end Go.Proofs.YtiiefcalkjeieaaGreat
