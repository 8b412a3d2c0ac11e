import Derived.Test.YteekbpokkjjipaaGreatStZ
import Derived.Test.YteekbpokkjjipaaGreatJ23
import Derived.Sort.OwnSorted
import Derived.Shelf.GgSortFunc.InsertionK
import Derived.Shelf.SlSortCmp.Kit1
import Derived.Test.YteekbpokkjjipaaGreatMSo
import Derived.Test.YteekbpokkjjipaaGreatKArgs
variable{n g B gb tb b base cap:Nat}{w:Go.World}{e t:Go.TypeId}
set_option maxHeartbeats 4000000
set_option maxRecDepth 100000
namespace Go.Proofs.YteekbpokkjjipaaGreat
namespace Lf.Rz
open Go.RowKit Go.Sort Pt
open Df (bI bg gI Gm)
def SS(w:World)(g:bI)(r:Ending)(w':World):Prop:=Sz.SS 167 165 w g r w'
theorem dw{g:bI}(w:World)(h:Gm B w gb g)(jR:gI g)(hP:sD g):Calls Tryz.prog 104 #[.pointer (some ⟨gb,0,none⟩)] w (SS w g):=Sz.dw (.inr ⟨rfl,rfl,rfl,rfl⟩) w h jR hP
end Lf.Rz
namespace Lf
open Go.RowKit Go.Sort Pt
open Df (bI bg gI Gm)
def SS(w:World)(g:bI)(r:Ending)(w':World):Prop:=Sz.SS 215 213 w g r w'
theorem dw{g:bI}(w:World)(h:Gm B w gb g)(jR:gI g)(hP:sD g):Calls Tryz.prog 73 #[.pointer (some ⟨gb,0,none⟩)] w (SS w g):=Sz.dw (.inl ⟨rfl,rfl,rfl,rfl⟩) w h jR hP
end Lf
namespace Rs
open Go.RowKit Go.Sort Go.Maps
attribute [local go_sem ↓] Go.wp_at_zero Go.wp_at_succ
theorem laidOut:laidOutB Tryz.prog=true:=by kernel_rfl
abbrev Sm:={ p:Int×Int×Int×Int // (Lit.int .i64 p.1).wf=true/\(Lit.int .u64 p.2.1).wf=true/\(Lit.int .u64 p.2.2.1).wf=true/\(Lit.int .u64 p.2.2.2).wf=true }
instance:Inhabited Sm:=⟨⟨(0,0,0,0),by decide⟩⟩
abbrev mv(p:Sm):Value:= .agg #[.int .i64 p.1.1, .int .u64 p.1.2.1, .int .u64 p.1.2.2.1, .int .u64 p.1.2.2.2]
theorem KX{s t:Sm}(h0:s.1.1=t.1.1)(h1:s.1.2.1=t.1.2.1)(h2:s.1.2.2.1=t.1.2.2.1)(h3:s.1.2.2.2=t.1.2.2.2):s=t:=Subtype.ext (Prod.ext h0 (Prod.ext h1 (Prod.ext h2 h3)))
theorem TE:(match Tryz.prog.underlying 47 with|some (.array _ _)|some (.struct _)=>true|_=>false)=true:=by kernel_rfl
theorem XO:(47:TypeId)<Tryz.prog.types.size:=of_decide_eq_true (by kernel_rfl)
theorem Lb:∃d,Tryz.prog.types.size+1=d+3:=by
 have h:decide (2<=Tryz.prog.types.size)=true:=by kernel_rfl
 have h':=of_decide_eq_true h;exact⟨Tryz.prog.types.size-2,by omega⟩
theorem MC:WideMaps.KeyLaw Tryz.prog 47:=deep_law_laid laidOut (m:=3) (by omega) XO (by kernel_rfl) TE
theorem Av:Tryz.prog.cellsOf 47=4:=by kernel_rfl
theorem nK:Tryz.prog.cellsOf 45=3:=by kernel_rfl
theorem wH:Tryz.prog.cellsOf 43=1:=by kernel_rfl
theorem V3:Tryz.prog.cellsOf 3=1:=by kernel_rfl
theorem MJ:Tryz.prog.keyType 47=true:=by kernel_rfl
theorem jE{q:IntKind}(hu:Tryz.prog.underlying t=some (.int q))(d:Nat)(n:Int)(h:(Lit.int q n).wf=true):Tryz.prog.keyLits (d+1) t [.int q n]=some [.int q n]:=by
 unfold Program.keyLits;simp only[hu];simp[h]
theorem iq{q:IntKind}(hu:Tryz.prog.underlying t=some (.int q))(d:Nat){x:Value}{ls:List Lit}(h:Tryz.prog.keyLits (d+1) t [x]=some ls):∃n,x= .int q n/\(Lit.int q n).wf=true/\ls=[.int q n]:=by
 unfold Program.keyLits at h;simp only[hu]at h;split at h<;>simp_all
theorem vE(d:Nat)(x y z:Value):Tryz.prog.keyLits (d+2) 45 [x,y,z]=(do let a <-Tryz.prog.keyLits (d+1) 43 [x];let b <-Tryz.prog.keyLits (d+1) 43 [y];let c <-Tryz.prog.keyLits (d+1) 43 [z];pure (a++(b++c))):=by
 conv=>lhs;unfold Program.keyLits
 simp only[Tryz.underlying45,nK];simp[wH];cases Tryz.prog.keyLits (d+1) 43 [x]<;>cases Tryz.prog.keyLits (d+1) 43 [y]<;>cases Tryz.prog.keyLits (d+1) 43 [z]<;>simp
theorem Mx(d:Nat)(x y z u:Value):Tryz.prog.keyLits (d+3) 47 [x,y,z,u]=(do let a <-Tryz.prog.keyLits (d+2) 3 [x];let b <-Tryz.prog.keyLits (d+2) 45 [y,z,u];pure (a++b)):=by
 conv=>lhs;unfold Program.keyLits
 simp only[Tryz.underlying47,Av];simp[nK,V3];cases Tryz.prog.keyLits (d+2) 3 [x]<;>cases Tryz.prog.keyLits (d+2) 45 [y,z,u]<;>simp
theorem Ik(p:Sm):keyOf Tryz.prog 47 (mv p)=some (.string (keyBytes [.int .i64 p.1.1, .int .u64 p.1.2.1, .int .u64 p.1.2.2.1, .int .u64 p.1.2.2.2])):=by
 obtain⟨d,hd⟩:=Lb;have h1:=jE Tryz.underlying3 (d+1) p.1.1 p.2.1;have h2:=jE Tryz.underlying43 d p.1.2.1 p.2.2.1;have h3:=jE Tryz.underlying43 d p.1.2.2.1 p.2.2.2.1;have h4:=jE Tryz.underlying43 d p.1.2.2.2 p.2.2.2.2;have hf:(mv p).formed Tryz.prog 47=true:=by simp[Value.formed,Tryz.underlying47,Av]
 unfold keyOf;rw[Tryz.underlying47];simp only[MJ,hf,Bool.and_self,if_true,hd];simp only[Value.cells,Mx,vE,h1,h2,h3,h4];simp
theorem Si(v:Value)(l:Lit)(h:keyOf Tryz.prog 47 v=some l):∃p:Sm,v=mv p:=by
 obtain⟨d,hd⟩:=Lb;unfold keyOf at h;rw[Tryz.underlying47]at h;simp only[MJ,Bool.true_and]at h;split at h
 ·next hf=>
  cases v<;>simp[Value.formed,Tryz.underlying47,Av]at hf
  next cs=>
  obtain⟨cs⟩:=cs
  match cs,hf with
  | [x,y,z,u],_=>
   simp only[Value.cells,hd,Mx,vE]at h;cases h1:Tryz.prog.keyLits (d+2) 3 [x]with
   | none => simp[h1]at h
   | some a=>
    cases h2:Tryz.prog.keyLits (d+1) 43 [y]with
    | none => simp[h1,h2]at h
    | some b=>
     cases h3:Tryz.prog.keyLits (d+1) 43 [z]with
     | none => simp[h1,h2,h3]at h
     | some c=>
      cases h4:Tryz.prog.keyLits (d+1) 43 [u]with
      | none => simp[h1,h2,h3,h4]at h
      | some e=>
       obtain⟨n1,rfl,w1,_⟩:=iq Tryz.underlying3 (d+1) h1;obtain⟨n2,rfl,w2,_⟩:=iq Tryz.underlying43 d h2;obtain⟨n3,rfl,w3,_⟩:=iq Tryz.underlying43 d h3;obtain⟨n4,rfl,w4,_⟩:=iq Tryz.underlying43 d h4;exact⟨⟨(n1,n2,n3,n4),w1,w2,w3,w4⟩,rfl⟩
 ·cases h
def ZM:KK Tryz.prog 47 Sm where
 enc:=mv
 lit p:= .string (keyBytes [.int .i64 p.1.1, .int .u64 p.1.2.1, .int .u64 p.1.2.2.1, .int .u64 p.1.2.2.2])
 law:=Keyed.of_law MC
 key:=Ik
 inv v l h:=by
  obtain⟨p,rfl⟩:=Si v l h;rw[Ik p]at h;exact⟨p,rfl,(Option.some.inj h).symm⟩
 inj p q h:=by
  have e:=MC.inj (Ik p) ((Ik q).trans (congrArg some h.symm));obtain⟨⟨a,b,c,d⟩,_⟩:=p;obtain⟨⟨a',b',c',d'⟩,_⟩:=q;simp at e;obtain⟨rfl,rfl,rfl,rfl⟩:=e;rfl
abbrev fv(f:Nat):Value:= .func (.func f) #[] #[]
def ES:El Sm where
 k:=4
 enc p:=[.int .i64 p.1.1, .int .u64 p.1.2.1, .int .u64 p.1.2.2.1, .int .u64 p.1.2.2.2]
 len _:=rfl
 one x u hu:=by
  simp at hu;rcases hu with rfl|rfl|rfl|rfl<;>rfl
abbrev Cg:=Sm×Int
abbrev gv(c:Cg):Value:= .agg #[.int .i64 c.1.1.1, .int .u64 c.1.1.2.1, .int .u64 c.1.1.2.2.1, .int .u64 c.1.1.2.2.2, .int .i64 c.2]
theorem Cc:(Tryz.prog.info? 47).map (fun i=>(i.zero,i.size,i.bytes))=some (some (.agg #[.int .i64 0, .int .u64 0, .int .u64 0, .int .u64 0]),4,32):=by kernel_rfl
theorem vH:(Tryz.prog.info? 49).map (fun i=>(i.zero,i.size,i.bytes))=some (some (.agg #[.int .i64 0, .int .u64 0, .int .u64 0, .int .u64 0, .int .i64 0]),5,40):=by kernel_rfl
theorem Ls.atS{v:Value}{l:List Sm}(h:Ls ES w v l){j:Nat}{p:Sm}(hj:l[j]? =some p):
    ∃b off c,v= .slice (some ⟨b,off,none⟩) l.length c/\b<w.heap.size/\w.cell? ⟨b,off+j*4,none⟩=some (.int .i64 p.1.1)/\w.cell? ⟨b,off+j*4+1,none⟩=some (.int .u64 p.1.2.1)/\w.cell? ⟨b,off+j*4+2,none⟩=some (.int .u64 p.1.2.2.1)/\w.cell? ⟨b,off+j*4+3,none⟩=some (.int .u64 p.1.2.2.2):=by
 obtain⟨b,off,c,hv,hb,hc⟩:=h.get hj;exact⟨b,off,c,hv,hb,hc 0 _ (by decide) rfl,hc 1 _ (by decide) rfl,hc 2 _ (by decide) rfl,hc 3 _ (by decide) rfl⟩
theorem ik(x y:Int):c64 x y<0↔x<y:=by unfold c64;(repeat split)<;>omega
theorem fJ(x y:Int):c64 x y=0↔x=y:=by unfold c64;(repeat split)<;>omega
theorem pF(a b c x y z:Int):kG a b c x y z<0↔a<x\/(a=x/\(b<y\/(b=y/\c<z))):=by
 have h1:=ik a x;have h2:=fJ a x;have h3:=ik b y;have h4:=fJ b y;have h5:=ik c z;unfold kG Kc;generalize c64 a x=p at *;generalize c64 b y=q at *;generalize c64 c z=r at *
 (repeat split)<;>omega
def Uv(p q:Int):Int:=if p=0 then q else p
def Et(s t:Sm):Int:=Uv (c64 s.1.1 t.1.1) (kG s.1.2.1 s.1.2.2.1 s.1.2.2.2 t.1.2.1 t.1.2.2.1 t.1.2.2.2)
theorem BC(d:Nat)(a b c x y z:Int)(w:World):Sem.run Tryz.prog (Op.equalIn (d+2) 45 (.agg #[.int .u64 a, .int .u64 b, .int .u64 c]) (.agg #[.int .u64 x, .int .u64 y, .int .u64 z])) w= .ok (oV a b c x y z) w:=by
 have u3:=Tryz.underlying43;have a3:=Tryz.isAgg43;have z3:=Tryz.sizeOf43;have hS:Tryz.prog.underlying 45=some (.struct (Tryz.prog.fieldsOf 45)):=by kernel_rfl
 have hp:Tryz.prog.stoodInHeld 45=false:=by kernel_rfl
 rw[show(d+2:Nat)=(d+1)+1 from rfl,run_equalIn_agg w (d+1) 45 _ _ hS hp];simp only[Program.fieldsOf,Tryz.underlying45];go_simp;by_cases h1:a=x<;>by_cases h2:b=y<;>by_cases h3:c=z<;>simp[oV,h1,h2,h3]
theorem BF(d:Nat)(p a b c q x y z:Int)(w:World):Sem.run Tryz.prog (Op.equalIn (d+3) 47 (.agg #[.int .i64 p, .int .u64 a, .int .u64 b, .int .u64 c]) (.agg #[.int .i64 q, .int .u64 x, .int .u64 y, .int .u64 z])) w= .ok (p==q&&oV a b c x y z) w:=by
 have u4:=Tryz.underlying3;have a4:=Tryz.isAgg3;have z4:=Tryz.sizeOf3;have a5:=Tryz.isAgg45;have z5:=Tryz.sizeOf45;have hP:=BC d;have hS:Tryz.prog.underlying 47=some (.struct (Tryz.prog.fieldsOf 47)):=by kernel_rfl
 have hp:Tryz.prog.stoodInHeld 47=false:=by kernel_rfl
 rw[show(d+3:Nat)=(d+2)+1 from rfl,run_equalIn_agg w (d+2) 47 _ _ hS hp];simp only[Program.fieldsOf,Tryz.underlying47];go_simp;by_cases h1:p=q<;>cases oV a b c x y z<;>simp[h1]
theorem TZ(s t:Sm):(s.1.1==t.1.1&&oV s.1.2.1 s.1.2.2.1 s.1.2.2.2 t.1.2.1 t.1.2.2.1 t.1.2.2.2)=decide (s=t):=by
 rw[Bool.eq_iff_iff];simp only[Bool.and_eq_true,beq_iff_eq,sZ,decide_eq_true_iff];exact⟨fun h=>KX h.1 h.2.1 h.2.2.1 h.2.2.2,fun h=>by subst h;exact⟨rfl,rfl,rfl,rfl⟩⟩
theorem tJ(h k:Cg)(w:World):Sem.run Tryz.prog (Op.equalIn 10000 49 (gv h) (gv k)) w= .ok (decide (h=k)) w:=by
 obtain⟨s,m⟩:=h;obtain⟨t,n⟩:=k;have hd:decide (((s,m):Cg)=(t,n))=((s.1.1==t.1.1&&oV s.1.2.1 s.1.2.2.1 s.1.2.2.2 t.1.2.1 t.1.2.2.1 t.1.2.2.2)&&m==n):=by
  rw[TZ,Bool.eq_iff_iff];simp
 rw[hd];clear hd;obtain⟨⟨p,a,b,c⟩,_⟩:=s;obtain⟨⟨q,x,y,z⟩,_⟩:=t;have u4:=Tryz.underlying2;have a4:=Tryz.isAgg2;have z4:=Tryz.sizeOf2;have a5:=Tryz.isAgg47;have z5:=Tryz.sizeOf47;have hP:=BF 9996;have hS:Tryz.prog.underlying 49=some (.struct (Tryz.prog.fieldsOf 49)):=by kernel_rfl
 have hp:Tryz.prog.stoodInHeld 49=false:=by kernel_rfl
 rw[show(10000:Nat)=9999+1 from rfl,run_equalIn_agg w 9999 49 _ _ hS hp];simp only[Program.fieldsOf,Tryz.underlying49];go_simp;by_cases h1:p=q<;>by_cases h2:m=n<;>cases oV a b c x y z<;>simp[h1,h2]
end Rs
section
open Go.RowKit Go.Sort Go.Maps
open Tt (Tl dQ dP)
attribute [local go_sem ↓] Go.wp_at_zero Go.wp_at_succ
def sm(ds:List Dl):Tm->Int:=ds.foldl (fun g d=>upd g d.1 (wrap64 (g d.1+d.2))) (fun _=>0)
theorem zo{ds:List Dl}{k:Nat}{d:Dl}(h:ds[k]? =some d):sm (ds.take (k+1))=upd (sm (ds.take k)) d.1 (wrap64 (sm (ds.take k) d.1+d.2)):=by
 unfold sm;rw[List.take_add_one,h,List.foldl_append];rfl
def bR(f:Tm->Int)(ds:List Dl)(t:Tm):Int:=wrap64 (sm ds t+f t)
def bad(f:Tm->Int)(ds:List Dl):Bool:=ds.any (fun d=>dQ d.2)|| ds.any (fun d=>dQ (bR f ds d.1))
theorem wf_wrap(z:Int):(Lit.int .i64 (wrap64 z)).wf=true:=WalkArith.wf_i64 (by unfold wrap64;omega)
theorem mZ.all{P:Program}{k:TypeId}{K:Type}[DecidableEq K]{Z:KK P k K}{D:DataW Unit}{left:Lit->Bool}{ss ks:List K}(h:mZ Z D left ss)(h2:∀s,Maps.has D (Z.lit s)=true↔s∈ks)(hl:∀kl,left kl=false):ss.Nodup/\∀s,s∈ss↔s∈ks:=
 ⟨h.1,fun s=>by rw[h.2 s,hl,h2];simp⟩
theorem Kz{key:Value}{kl:Lit}(h:keyOf Tryz.prog 45 key=some kl):∃x,key=tv x:=by
 obtain⟨x,hx,_⟩:=ZT.inv _ _ h;exact⟨x,hx⟩
theorem Gf{f:Tm->Int}(ds:List Dl)(v:Value)(w:World)(h:Tl w tb b g n f)(hv:Ls ED w v ds)(hl:ds.length*32<=140737488355328):
    Calls Tryz.prog 139 #[cv tb,v] w fun e w'=>Below w.heap.size w w'/\
     ((bad f ds=true/\e= .returned (.tuple #[.slice none 0 0, .bool false]))\/
      (bad f ds=false/\∃(ks:List Tm) (v':Value),(ks.Nodup/\∀t,t∈ks↔t∈ds.map Prod.fst)/\e= .returned (.tuple #[v', .bool true])/\w'.ownsRow w.heap.size 163 4 v' ks.length (fl ED (ks.map fun t=>(t,bR f ds t))))):=by
 have hmx:Tryz.prog.follows .mixedOrders=true:=by kernel_rfl
 have hmm:=@run_makeMap Tryz.prog;obtain⟨pl,cl,rfl⟩:=hv.form;obtain⟨W1,hW1⟩:=aB ((w.alloc (.cells #[.pointer (some ⟨tb,0,none⟩)] 176)).alloc (.map #[] 0));have G1:Gr w W1:=by rw[hW1];exact((Gr.refl _).alloc _).alloc _
 obtain⟨B0,hB0⟩:=aB (w.heap.size);obtain⟨mb,hmb⟩:=aB (w.heap.size+1);have hz:B0<W1.heap.size:=by rw[hW1];simp;omega
 have c0:W1.cell? ⟨B0,0,none⟩=some (.pointer (some ⟨tb,0,none⟩)):=by rw[hW1,hB0];simp
 have Ox:Hid (Mq ZT 2 W1 mb 0 (fun _=>0) []):=by
  have:=Mq.made (Z:=ZT) (e:=2) (w.alloc (.cells #[.pointer (some ⟨tb,0,none⟩)] 176));rw[hW1,hmb];simpa[Hid]using this
 have HL:Hid (Ls ED W1 (.slice pl ds.length cl) ds):=hv.below G1.below;have Z5:Hid (∀k,(Value.slice pl ds.length cl).ownBlock=some k->k<w.heap.size):=hv.blk;have HT:Hid (Tl w tb b g n f):=h;have HG:Hid (Gr w W1):=G1;have hbm:B0≠mb:=by omega
 have hbw:w.heap.size<=mb:=by omega
 have HBB:Hid (B0=w.heap.size):=hB0;clear h hv G1;go_enter Tryz.func139,Tryz.ntmps139;go_wp2_with fail;rw[<-hW1,<-hmb,<-hB0];clear hW1 hmb hB0;go_loopw [8,15] (fun _ s15 wr=>∃k:Nat,k<=ds.length/\s15= .int .i64 k/\Hid (Mq ZT 2 wr mb k (sm (ds.take k)) ((ds.take k).map Prod.fst)/\Kp (fun j=>j=mb) W1 wr/\∀d∈ds.take k,dQ d.2=false)) (fun _ s15 _=>ds.length-(RowKit.intOf s15).toNat);case atStart=>exact⟨0,Nat.zero_le _,rfl,by simpa[sm]using Ox.o,Kp.refl _ _,by simp⟩
 case round=>
  obtain⟨k,hk,rfl,HI⟩:=hrel;have jl:Hid (Below w.heap.size w wr):=HG.o.below.trans (HI.o.2.1.below HG.o.size (fun j hj=>by omega));by_cases hlt:k<ds.length
  ·have hltz:(k:Int)<(ds.length:Int):=(by omega);obtain⟨d,hd⟩:∃d,ds[k]? =some d:=⟨ds[k],by simp⟩;have Fz:d∈ds:=lM hd;obtain⟨b1,o1,c1,e1,z1,x1,x2,x3,x4⟩:=(HI.o.2.1.ls HL.o (fun j hj hs=>by have:=Z5.o j hj;omega)).at4 hd;simp only[vS]at e1;obtain⟨rfl,-,rfl⟩:=e1;have HS:Hid (sm (ds.take (k+1))=upd (sm (ds.take k)) d.1 (wrap64 (sm (ds.take k) d.1+d.2))):=zo hd;have qJ:Hid (ds.take (k+1)=ds.take k++[d]):=(by rw[List.take_add_one,hd];rfl);have hbe:=rQ d.2;have HD:Hid (ds[k]? =some d):=hd;have HDM:Hid (d∈ds):=Fz;clear hd Fz;cases hq:dQ d.2 with
   | true=>
    rw[hq]at hbe;go_wp2_with (go_at_call 198;refine(hbe _).mono ?_;rintro e w2 ⟨rfl,rfl⟩);go_ret2;refine⟨jl.o.trans (((Gr.refl _).alloc _).below.mono jl.o.size),Or.inl ⟨?_,rfl⟩⟩;unfold bad;rw[Bool.or_eq_true];exact Or.inl (List.any_eq_true.2 ⟨d,HDM.o,hq⟩)
   | false=>
    rw[hq]at hbe;obtain⟨W2,hW2⟩:=aB (wr.alloc (.cells #[.int .u64 d.1.1.1, .int .u64 d.1.1.2.1, .int .u64 d.1.1.2.2, .int .i64 d.2] 163));obtain⟨nb,hnb⟩:=aB (wr.heap.size);have G2:Gr wr W2:=(by rw[hW2];exact(Gr.refl _).alloc _);have U2:mb<wr.heap.size:=HI.o.1.lt;have hM2:Mq ZT 2 W2.drew mb k (sm (ds.take k)) ((ds.take k).map Prod.fst):=HI.o.1.kept (G2.drew.below.block mb U2);obtain⟨v0,st,w1,w2,hL0,hE,hL1,hSt,YY,hg1,hg2⟩:=hM2.bump (t:=301) MB Tryz.underlying301 Tryz.underlying2 Tt.zeroE (by unfold maxLen;omega) d.1 (wrap64 (sm (ds.take k) d.1+d.2)) (wf_wrap _);have HW2:Hid (Mq ZT 2 w2 mb (k+1) (sm (ds.take (k+1))) ((ds.take (k+1)).map Prod.fst)/\Kp (fun j=>j=mb) W1 w2/\∀d∈ds.take (k+1),dQ d.2=false):=by
     refine⟨?_,HI.o.2.1.trans ((Kp.aU (S:=fun j=>j=mb) G2.drew).trans (Kp.grownBy (S:=fun j=>j=mb) hg2 (fun j hj=>by simpa using hj.symm)) (fun _ _ h=>h)) (fun _ _ h=>h), ?_⟩
     ·rw[HS.o,qJ.o];simpa using YY
     ·rw[qJ.o];intro e he;rcases jQ.1 he with he|he
      ·exact HI.o.2.2 e he
      ·simp at he;subst he;exact hq
    have hblk:W2.heap[nb]? =some (.cells #[.int .u64 d.1.1.1, .int .u64 d.1.1.2.1, .int .u64 d.1.1.2.2, .int .i64 d.2] 163 (0,0)):=(by rw[hW2,hnb];exact ai _ _);have hnl:nb<W2.drew.heap.size:=(aG.1 hblk).1;have y0:∀q,w1.cell? ⟨nb,q,none⟩=W2.drew.cell? ⟨nb,q,none⟩:=fun q=>World.cell?_of_block (a:=⟨nb,q,none⟩) (hg1.block nb hnl (by simp;omega));have q0:W2.cell? ⟨nb,0,none⟩=some (.int .u64 d.1.1.1):=(by simp only[World.cell?];rw[hblk];rfl);have q1:W2.cell? ⟨nb,1,none⟩=some (.int .u64 d.1.1.2.1):=(by simp only[World.cell?];rw[hblk];rfl);have q2:W2.cell? ⟨nb,2,none⟩=some (.int .u64 d.1.1.2.2):=(by simp only[World.cell?];rw[hblk];rfl);have q3:W2.cell? ⟨nb,3,none⟩=some (.int .i64 d.2):=(by simp only[World.cell?];rw[hblk];rfl);have r0:=(y0 0).trans q0;have r1:=(y0 1).trans q1;have r2:=(y0 2).trans q2;have r3:=(y0 3).trans q3;have hL0:(Instr.lookup 301 (.map (some mb)) (tv d.1) false).run Tryz.prog W2.drew= .ok (.int .i64 (sm (ds.take k) d.1)) W2.drew:=hL0;have hL1:(Instr.lookup 301 (.map (some mb)) (tv d.1) false).run Tryz.prog w1= .ok (.int .i64 (sm (ds.take k) d.1)) w1:=hL1;have hE:(Instr.mapEntry 301 (.map (some mb)) (tv d.1)).run Tryz.prog W2.drew= .ok (.tuple #[v0, .int .i64 st]) w1:=hE;have hSt:(Instr.entryStore 301 (.map (some mb)) (.int .i64 st) (.int .i64 (wrap64 (sm (ds.take k) d.1+d.2)))).run Tryz.prog w1= .ok () w2:=hSt;generalize sm (ds.take k) d.1=c at hL0 hL1 hSt;go_wp2_with (go_at_call 198;refine(hbe _).mono ?_;rintro e w2 ⟨rfl,rfl⟩);rw[<-hW2,<-hnb];clear hW2 hnb x1 x2 x3 x4 hblk y0 hM2 YY hg1 hg2 G2;go_region;all_goals go_wp2
    all_goals exact⟨⟨k+1,by omega,by go_num,HW2.o⟩,by simp[RowKit.intOf];omega⟩
  ·have hltz:¬(k:Int)<(ds.length:Int):=(by omega);have hk':k=ds.length:=(by omega);subst hk';have hD:=HI.o.1;have uh:Hid (∀d∈ds,dQ d.2=false):=(by have:=HI.o.2.2;rw[List.take_length]at this;exact this);rw[List.take_length]at hD;obtain⟨D,hown,h1,h2⟩:=hD;have h1':Hid (∀s,D.atKey (ZT.lit s) (nd 0)=nd (sm ds s)):=h1;have hsz:=hown.size_le;have hlen:=fun ty=>hown.len Tryz.underlying301 ty;have H2:Hid (∀s,Maps.has D (ZT.lit s)=true↔s∈ds.map Prod.fst):=h2;have c0r:wr.cell? ⟨B0,0,none⟩=some (.pointer (some ⟨tb,0,none⟩)):=(HI.o.2.1.cell hz hbm).trans c0;have hzr:B0<wr.heap.size:=nL hz HI.o.2.1.size;have hbl:mb<wr.heap.size:=hown.lt;clear HI h1 h2 hltz hlt hk Ox c0 hz HL Z5 HG;obtain⟨i0,hi,hz0,hz1,hz2⟩:=info_parts Fb;obtain⟨wL,hwL⟩:∃x,x=wr:=⟨wr,rfl⟩;subst hwL;go_wp2_with (first
    | (at_make;refine wpList_make_own _ rfl _ _ 159 rfl wL.heap.size 163 i0 (.agg #[.int .u64 0, .int .u64 0, .int .u64 0, .int .i64 0]) 4 Tryz.underlying159 hi hz0 hz1 _ _ _ (Maps.size D) rfl rfl rfl (by rw[hz2];omega) (by unfold maxLen;omega) (nR _) ?_;intro w1 Cs hg1)
    | (at_range;refine wpList_range_own _ rfl _ 301 rfl 45 2 ZT.law Tryz.underlying301 _ mb ds.length _ rfl (hown.kept hg1 (by simp)) ?_;intro w0 hrg0 hg0 hs0)
    | go_in)
   go_frame;go_loopw [9,10,11] (fun v _ _ wr=>∃(left:Lit->Bool) (cnt:Nat) (ss:List Tm),wr.ranges Tryz.prog 45 (plainElem Tryz.prog 2) mb w1.heap.size ds.length D left cnt/\ss.length+cnt<=Maps.size D/\
       wr.ownsRow wL.heap.size 163 4 v ss.length (fl ED (ss.map fun t=>(t,bR f ds t)))/\v≠ .slice none 0 0/\mZ ZT D left ss/\Below wL.heap.size wL wr/\Hid (∀t∈ss,dQ (bR f ds t)=false))
    (fun _ _ _ wr=>wr.rangeLeft mb w1.heap.size)
   case atStart=>
    exact⟨_,_,[],hrg0,by simp,Cs.kept hg0 (Or.inr (by simp[Value.ownBlock])),by simp,mZ.start D,
     ((Below.refl _ _).grown hg1 (nR _) (fun j hj=>by cases hj)).grown hg0 hg1.size (fun j hj=>by cases hj),by simp[Hid]⟩
   case round=>
    obtain⟨left,cnt,ss,hrg,hcs,hrow,hnn,hC,hnx,HB⟩:=hrel;go_wp2_with (first
     | (at_next; refine wpList_next_ranges _ rfl _ rfl 45 ZT.law (plainElem Tryz.prog 2) tv (Value.int .i64) (fun key kl hk => Kz hk) (fun v y hv=>by obtain⟨c,rfl,_⟩:=plainElem_int_inv Tryz.underlying2 hv;exact⟨c,rfl⟩) mb w1.heap.size ds.length _ _ _ rfl hrg ?_ ?_)
     | go_in)
    ·intro hc0 hl0;have hA:=hC.all H2.o hl0;go_wp2;go_ret2;refine⟨jl.o.trans (hnx.mono jl.o.size),Or.inr ⟨?_,ss,_,hA,rfl,aK hrow jl.o.size⟩⟩;unfold bad;rw[Bool.or_eq_false_iff,List.any_eq_false,List.any_eq_false];refine⟨fun d hd=>by rw[uh.o d hd];simp,fun d hd=>by rw[HB.o d.1 ((hA.2 d.1).2 (List.mem_map_of_mem hd))];simp⟩
    ·intro ta lF tc tp c kl yd yp w2 cnt2 hkey hlk hv hat hrg2 hlt2 hg2 hs2 hen;obtain⟨x,hx⟩:∃x:Tm,x=⟨(ta,lF,tc),tp⟩:=⟨_,rfl⟩;rw[<-hx]at hkey hen⊢;clear hx tp ta lF tc;obtain rfl:kl=ZT.lit x:=by
      have h7:=(ZT.key x).symm.trans hkey;exact(Option.some.inj h7).symm
     obtain rfl:c=sm ds x:=by
      obtain⟨c',e1,e2,_⟩:=plainElem_int_inv Tryz.underlying2 hv;have e3:=(h1'.o x).symm.trans (hat _);cases e1;cases e2;simpa using e3.symm
     have HXM:Hid (x∈ds.map Prod.fst):=(H2.o x).1 (has_true_of_atKey hat);have hrow2:=hrow.kept hg2 (Or.inr (row_ne_iter hrow hrg).symm);have B2:Below wL.heap.size wL w2:=hnx.grown hg2 hnx.size (fun j hj=>by cases hj;exact hg1.size);have Gw:=hC.step hlk hat;have c02:w2.cell? ⟨B0,0,none⟩=some (.pointer (some ⟨tb,0,none⟩)):=(B2.cell (p:=⟨B0,0,none⟩) hzr).trans c0r;have hz2':B0<w2.heap.size:=nL hzr B2.size;obtain⟨W3,hW3⟩:=aB (w2.alloc (.cells #[.int .u64 x.1.1, .int .u64 x.1.2.1, .int .u64 x.1.2.2] 45));obtain⟨nb,hnb⟩:=aB (w2.heap.size);have G3:Gr w2 W3:=(by rw[hW3];exact(Gr.refl _).alloc _);have B3:Below wL.heap.size wL W3:=B2.trans (G3.below.mono B2.size);have hco:=kT x W3 ((HT.o.below jl.o).below B3);have hblk:W3.heap[nb]? =some (.cells #[.int .u64 x.1.1, .int .u64 x.1.2.1, .int .u64 x.1.2.2] 45 (0,0)):=(by rw[hW3,hnb];exact ai _ _);have hnl:nb<W3.heap.size:=(aG.1 hblk).1;have q0:W3.cell? ⟨nb,0,none⟩=some (.int .u64 x.1.1):=(by simp only[World.cell?];rw[hblk];rfl);have q1:W3.cell? ⟨nb,1,none⟩=some (.int .u64 x.1.2.1):=(by simp only[World.cell?];rw[hblk];rfl);have q2:W3.cell? ⟨nb,2,none⟩=some (.int .u64 x.1.2.2):=(by simp only[World.cell?];rw[hblk];rfl);have c03:=(G3.cell hz2').trans c02;have hrow3:=ag hrow2 G3.below;have hrg3:=hrg2.kept (row:=none) ⟨G3.below.os,G3.below.tape,G3.below.output,G3.below.size,fun k hk _=>G3.below.block k hk⟩ (by simp) (by simp);have hbe:=rQ (bR f ds x);have hnc:bR f ds x=wrap64 (sm ds x+f x):=rfl;rw[hnc]at hbe;have uf:Hid (fl ED ((ss++[x]).map fun t=>(t,bR f ds t))=fl ED (ss.map fun t=>(t,bR f ds t))++ED.enc (x,wrap64 (sm ds x+f x))):=by
      rw[DD,aS,<-hnc];simp[Hid,fl]
     have Tn:Hid (bR f ds x=wrap64 (sm ds x+f x)):=hnc;clear hnc;generalize sm ds x=sx at *;generalize f x=fx at *;clear hs2 hblk hrow2 hrg2 hv hat hkey hlk;cases hq:dQ (wrap64 (sx+fx))with
     | true=>
      rw[hq]at hbe;go_wp2_with fail;rw[<-hW3];refine hco.mono ?_;rintro e w4 ⟨rfl,hg4⟩;go_wp2_with (go_at_call 198;refine(hbe _).mono ?_;rintro e w5 ⟨rfl,rfl⟩);go_ret2;refine⟨jl.o.trans ((B3.trans (hg4.below.mono B3.size)).mono jl.o.size),Or.inl ⟨?_,rfl⟩⟩;unfold bad;rw[Bool.or_eq_true];obtain⟨d,hd,hdx⟩:=mM.1 HXM.o;exact Or.inr (List.any_eq_true.2 ⟨d,hd,by rw[hdx,Tn.o];exact hq⟩)
     | false=>
      rw[hq]at hbe;go_wp2_with fail;rw[<-hW3];refine hco.mono ?_;rintro e w4 ⟨rfl,hg4⟩;have r0:=(hg4.cell hnl).trans q0;have r1:=(hg4.cell hnl).trans q1;have r2:=(hg4.cell hnl).trans q2;have aav:=nL hnl hg4.size;rw[hnb]at r0 r1 r2 aav;have B4:Below wL.heap.size wL w4:=B3.trans (hg4.below.mono B3.size);have hrow4:=ag hrow3 hg4.below;have MZ:=hrg3.kept (row:=none) ⟨hg4.below.os,hg4.below.tape,hg4.below.output,hg4.below.size,fun k hk _=>hg4.below.block k hk⟩ (by simp) (by simp);clear q0 q1 q2 hrow3 hrg3 hco hg4;go_wp2_with (first
       | (go_at_call 198;refine(hbe _).mono ?_;rintro e w5 ⟨rfl,rfl⟩)
       | (at_builtin;refine pE rfl _ _ rfl wL.heap.size _ ss.length _ rfl hrow4 (x,wrap64 (sx+fx)) rfl (by omega) B4.size ?_;intro g' cap' w6 oZ mJ Cv)
       | go_in)
      have Yl:=MZ.kept mJ (row_ne_low hrow4 hbl) (row_ne_iter hrow4 MZ);go_roundw;case rel=>
       refine⟨_,cnt2,ss++[x],Yl,by simp;omega, ?_,by simp,Gw, ?_,fun t ht=> ?_⟩
       ·rw[uf.o,dH];exact oZ
       ·exact B4.trans ((Kp.grownBy (S:=fun k=>wL.heap.size<=k) mJ (fun k hk=>(hrow4.lt k hk).1)).below B4.size (fun _ h=>h))
       ·rcases jQ.1 ht with h|h
        ·exact HB.o t h
        ·simp at h;subst h;rw[Tn.o];exact hq
      case measure=>rw[Yl.left_eq,hrg.left_eq];exact hlt2
end
section
open Go.RowKit Go.Sort Go.Shelf Go.Lib
section
variable {α:Type} [Inhabited α] {E:El α}
theorem CO(hk:0<E.k)(ts:List α):flatK E.enc E.k ts.toArray=(fl E ts).toArray:=by
 refine ext_get! (by rw[size_flatK];simp[gu]) fun t ht=> ?_;rw[size_flatK]at ht;have ht':t<ts.length*E.k:=by simpa using ht
 have hq:t/E.k<ts.length:=(Nat.div_lt_iff_lt_mul hk).2 ht';rw[get_flatK _ _ _ t ht];have h1:=FP E ts (t/E.k) (t%E.k) ts[t/E.k] (by simp) (Nat.mod_lt _ hk);rw[Nat.div_add_mod']at h1;have h3:(ts.toArray)[t/E.k]! =ts[t/E.k]:=by simp[hq]
 rw[h3];have h4:((fl E ts).toArray)[t]! =((fl E ts)[t]?).getD default:=by simp
 rw[h4,h1];simp
theorem mI(hk:0<E.k){ts:List α}(h:w.ownsRow base e E.k (.slice (some ⟨g,0,none⟩) ts.length cap) ts.length (fl E ts)):HoldsK E.enc E.k w g 0 ts.toArray:=by
 obtain⟨_,⟨h0,_⟩|⟨g',cap',cur,hv,hg,hh,hc1,hc2,hsz,htk⟩⟩:=id h
 ·cases h0
 cases hv;unfold HoldsK;rw[CO hk];intro j hj;have hj':j<(fl E ts).length:=by simpa using hj
 refine⟨?_, ?_⟩
 ·have:=h.cells (g:=g) rfl j _ (nY hj');rw[JY]at this;rw[this];simp[hj']
 ·simp only[World.frozen?,hh];simp
theorem sJ(hk:0<E.k){os:Array Obj}{cur:Array Value}(us:List α)(hb:w.heap[g]? =some (.cells cur e (0,0))):
    (sortWorldK E.enc E.k w g 0 n us.toArray os).heap[g]? =some (.cells (putCells id 0 (fl E us).toArray cur) e (0,0)):=by
 have hg:g<w.heap.size:=(aG.1 hb).1;unfold sortWorldK putRowK;rw[CO hk,heap_grow_old _ _ (by simpa using hg)];simp[putRow,mapBlock,Sort.ahead,Array.getElem?_modify,hb,onCells]
theorem Bo(cur:Array Value)(vs:List Value)(h:vs.length<=cur.size):(putCells id 0 vs.toArray cur).toList.take vs.length=vs:=by
 apply List.ext_getElem?;intro j;by_cases hj:j<vs.length
 ·rw[List.getElem?_take_of_lt hj,Array.getElem?_toList];simp[putCells,hj,show j<cur.size by omega]
 ·rw[List.getElem?_take_eq_none (by omega),lQ (by omega)]
theorem rO(hk:0<E.k){ts us:List α}{os:Array Obj}(h:w.ownsRow base e E.k (.slice (some ⟨g,0,none⟩) ts.length cap) ts.length (fl E ts))(hl:us.length=ts.length):
    (sortWorldK E.enc E.k w g 0 n us.toArray os).ownsRow base e E.k (.slice (some ⟨g,0,none⟩) ts.length cap) ts.length (fl E us):=by
 obtain⟨_,⟨h0,_⟩|⟨g',cap',cur,hv,hg,hh,hc1,hc2,hsz,htk⟩⟩:=id h
 ·cases h0
 cases hv;have hle:(fl E us).length<=cur.size:=by rw[gu,hl,hsz];exact Nat.mul_le_mul_right _ hc1
 refine⟨by rw[gu,hl], .inr ⟨g,cap,_,rfl,hg,sJ hk us hh,hc1,hc2,by simp[putCells,hsz], ?_⟩⟩;have:=Bo cur (fl E us) hle
 rwa [gu,hl]at this
theorem ym{us:List α}{os:Array Obj}:Kp (fun k=>k=g) w (sortWorldK E.enc E.k w g 0 n us.toArray os):=by
 refine⟨rfl,rfl,rfl,by simp[sortWorldK,putRowK,putRow,mapBlock,Sort.ahead,grow],fun k hk hne=> ?_⟩;unfold sortWorldK putRowK;rw[heap_grow_old _ _ (by simpa[putRow,mapBlock,Sort.ahead]using hk)];have:g≠k:=fun e=>hne e.symm;simp[putRow,mapBlock,Sort.ahead,Array.getElem?_modify,this]
end
section
variable {K:Type}
def uF(cf:K->K->Int)(ks:List K):List K:=ks.mergeSort fun x y=> !(ltOf cf) y x
theorem dx(cf:K->K->Int)(ks:List K):(uF cf ks).length=ks.length:=List.length_mergeSort ..
theorem kJ(cf:K->K->Int)(ks:List K):(uF cf ks).Perm ks:=List.mergeSort_perm ..
theorem iV{cf:K->K->Int}{ks:List K}{x:K}:x∈uF cf ks↔x∈ks:=(kJ cf ks).mem_iff
theorem pJ{cf:K->K->Int}(hO:SWO (ltOf cf))(a:List K):(uF cf a).Pairwise fun x y=>(!(ltOf cf) y x)=true:=by
 refine List.pairwise_mergeSort (fun x y z h1 h2=> ?_) (fun x y=> ?_) a
 ·simp only[Bool.not_eq_true']at *;exact hO.ntrans z y x h2 h1
 ·cases h1:ltOf cf y x with
  | false => simp
  | true=>
   cases h2:ltOf cf x y with
   | false => simp
   | true => have:=hO.trans x y x h2 h1;rw[hO.irrefl]at this;cases this
end
end
section
open Go.RowKit Go.Sort Go.Maps Go.Shelf Go.Lib
open Tt (Tl dQ dP)
attribute [local go_sem ↓] Go.wp_at_zero Go.wp_at_succ
theorem vC(x y:Tm):ltOf wZ x y=dh x y:=rfl
theorem XK:SWO (ltOf wZ) where
 irrefl x:=nQ.oN x
 trans x y z h1 h2:=nQ.tr x y z h1 h2
 ntrans x y z h1 h2:=by
  rw[vC,y8]at *;omega
theorem aae(x y:Tm)(h1:ltOf wZ x y=false)(h2:ltOf wZ y x=false):x=y:=by
 by_cases e:x=y
 ·exact e
 ·have:=nQ.tot x y e h1;rw[vC]at h2;rw[this]at h2;cases h2
theorem NU(blk off size:Nat)(w:World):CmpLays Tryz.prog 17 #[] ET.enc 3 wZ blk off size w:=
 fun _ _ _ _ x y=>eX x.1.1 x.1.2.1 x.1.2.2 y.1.1 y.1.2.1 y.1.2.2 _
abbrev jh(ks:List Tm):List Tm:=uF wZ ks
theorem oF{ks:List Tm}(h:ks.Nodup):(jh ks).Pairwise fun a b=>dh a b=true:=by
 have h1:=pJ XK ks;have h2:(jh ks).Nodup:=(kJ wZ ks).nodup_iff.2 h;refine List.Pairwise.imp₂ (R:=fun x y=>(!(ltOf wZ) y x)=true) (S:=fun x y=>x≠y) (fun {a b} ha hb=> ?_) h1 h2;have ha':dh b a=false:=by simpa[vC]using ha
 exact nQ.tot b a (fun e=>hb e.symm) ha'
theorem uH(g cap base:Nat)(ts:List Tm)(w:World)(h:w.ownsRow base 45 3 (.slice (some ⟨g,0,none⟩) ts.length cap) ts.length (eu ts))(hsz:ts.length<4611686018427387904):
    Calls Tryz.prog 211 #[.slice (some ⟨g,0,none⟩) ts.length cap, .func (.func 17) #[] #[]] w fun e w'=>e= .returned (.tuple #[])/\w'.ownsRow base 45 3 (.slice (some ⟨g,0,none⟩) ts.length cap) ts.length (eu (jh ts))/\Kp (fun k=>k=g) w w':=by
 have eg:∀args w,(callFunc 17 args).run Tryz.prog w= .ok (.enter 17 args) w:=enters_of Tryz.func17 (by kernel_rfl) rfl;have hg:g<w.heap.size:=(h.lt g rfl).2;have hcon:=AnyQ.slices_SortFunc_total Tryz.lSortT 3 Tryz.isAgg45 Tryz.sizeOf45 ET.enc (fun _=>rfl) ET.one wZ XK 17 #[] g 0 cap ts.toArray w eg (NU g 0 _ w) (mI (E:=ET) (by decide) h) hg (by simpa using hsz) aae;change Calls Tryz.prog 211 _ _ _ at hcon;rw[List.size_toArray]at hcon;refine hcon.mono ?_;rintro e w' ⟨rfl,n,os,rfl⟩;exact⟨rfl,rO (E:=ET) (by decide) h (dx wZ ts),ym (E:=ET)⟩
theorem vF{f:Tm->Int}(w:World)(h:Tl w tb b 17 n f)(hn:n*24<=140737488355328):
    Calls Tryz.prog 151 #[.pointer (some ⟨tb,0,none⟩)] w fun e w'=>∃(v:Value) (ks:List Tm),oU f ks/\e= .returned v/\
     w'.ownsRow w.heap.size 45 3 v (jh ks).length (eu (jh ks))/\v≠ .slice none 0 0/\Below w.heap.size w w':=by
 obtain⟨i0,hi,hz0,hz1,hz2⟩:=info_parts MN;have HT:Hid (Tl w tb b 17 n f):=h;have c0:=h.c0;have c1:=h.c1;have hlt:=h.lt;obtain⟨D,hown,h1,h2⟩:=h.ta;have hbl:=hown.lt;have hsz:=hown.size_le;have hlen:=fun ty=>hown.len Tryz.underlying301 ty;clear h h1;go_enter Tryz.func151,Tryz.ntmps151;go_wp2_with (first
  | (at_make;refine wpList_make_own _ rfl _ _ 39 rfl w.heap.size 45 i0 (.agg #[.int .u64 0, .int .u64 0, .int .u64 0]) 3 Tryz.underlying39 hi hz0 hz1 _ _ _ (Maps.size D) rfl rfl rfl (by rw[hz2];omega) (by unfold maxLen;omega) (nR _) ?_;intro w1 Cs hg1
     have c1b:=(HT.o.kp (Kp.grownBy (S:=fun _=>False) hg1 (fun k hk=>by cases hk)) (fun h=>h) (fun h=>h)).c1)
  | (at_range;refine wpList_range_own _ rfl _ 301 rfl 45 2 ZT.law Tryz.underlying301 _ b n _ rfl (hown.kept hg1 (by simp)) ?_;intro w0 hrg0 hg0 hs0)
  | go_in)
 go_frame;go_loopw [3,4] (fun v _ wr=>∃(left:Lit->Bool) (cnt:Nat) (ss:List Tm),wr.ranges Tryz.prog 45 (plainElem Tryz.prog 2) b w1.heap.size n D left cnt/\ss.length+cnt<=Maps.size D/\
     wr.ownsRow w.heap.size 45 3 v ss.length (eu ss)/\v≠ .slice none 0 0/\mZ ZT D left ss/\Below w.heap.size w wr)
  (fun _ _ wr=>wr.rangeLeft b w1.heap.size)
 case atStart=>
  exact⟨_,_,[],hrg0,by simp,Cs.kept hg0 (Or.inr (by simp[Value.ownBlock])),by simp,mZ.start D,
   ((Below.refl _ _).grown hg1 (nR _) (fun j hj=>by cases hj)).grown hg0 hg1.size (fun j hj=>by cases hj)⟩
 case round=>
  obtain⟨left,cnt,ss,hrg,hcs,hrow,hnn,hC,hnx⟩:=hrel;go_wp2_with (first
   | (at_next; refine wpList_next_ranges _ rfl _ rfl 45 ZT.law (plainElem Tryz.prog 2) tv (Value.int .i64) (fun key kl hk => Kz hk) (fun v y hv=>by obtain⟨c,rfl,_⟩:=plainElem_int_inv Tryz.underlying2 hv;exact⟨c,rfl⟩) b w1.heap.size n _ _ _ rfl hrg ?_ ?_)
   | go_in)
  ·intro hc0 hl0;rcases hrow.2 with⟨hnil,_⟩|⟨gb,cap,cur,rfl,hbase,hb,h3,h4,h5,h6⟩
   ·exact absurd hnil hnn
   have hS:=hC.sup h2 hl0;have c0r:=(hnx.cell (p:=⟨tb,0,none⟩) hlt).trans c0;have hc:=uH gb cap w.heap.size ss wr hrow (by omega);clear h6 hb h5;go_wp2_with (go_at_call 211;refine hc.mono ?_;rintro e w' ⟨rfl,ho',hk'⟩);go_ret;refine⟨_,ss,hS,rfl,by rw[dx];exact ho',by simp, ?_⟩;exact hnx.trans (hk'.below hnx.size (fun k hk=>by rw[hk];exact hbase))
  ·intro ta lF tc tp c kl yd yp w2 cnt2 hkey hlk hv hat hrg2 hlt2 hg2 hs2 hen;obtain⟨x,hx⟩:∃x:Tm,x=⟨(ta,lF,tc),tp⟩:=⟨_,rfl⟩;rw[<-hx]at hkey hen⊢;clear hx tp ta lF tc;obtain rfl:kl=ZT.lit x:=by
    have h7:=(ZT.key x).symm.trans hkey;exact(Option.some.inj h7).symm
   have hrow2:=hrow.kept hg2 (Or.inr (row_ne_iter hrow hrg).symm);have B2:Below w.heap.size w w2:=hnx.grown hg2 hnx.size (fun j hj=>by cases hj;exact hg1.size);have Gw:=hC.step hlk hat;clear hs2 hv hat hkey hlk;go_wp2_with (first
    | (at_builtin;refine Cz.fM true rfl _ _ rfl w.heap.size _ ss.length _ rfl (hrow2.alloc _) x (by show Value.slice (some ⟨w2.heap.size+1,0,none⟩) 1 1=_;simp) (by omega) (by have:=B2.size;simp;omega) ?_;intro g' cap' w3 ho3 hg3 hl3)
    | go_in)
   have hrg3:=(hrg2.alloc _).kept hg3 (row_ne_low hrow2 hbl) (row_ne_iter hrow2 hrg2);go_roundw;case rel=>
    refine⟨_,cnt2,ss++[x],hrg3,by simp;omega, ?_,by simp,Gw, ?_⟩
    ·rw[jc,tV,dH];exact ho3
    ·exact(B2.alloc B2.size _).grown hg3 (by have:=B2.size;simp;omega) (fun j hj=>(hrow2.lt j hj).1)
   case measure=>rw[hrg3.left_eq,hrg.left_eq];exact hlt2
theorem vw{f:Tm->Int}(w:World)(h:Tl w tb b 17 n f)(hn:n*24<=140737488355328):
    Calls Tryz.prog 88 #[cv tb] w fun e w'=>∃(v:Value) (ks:List Tm),oU f ks/\e= .returned v/\
     w'.ownsRow w.heap.size 45 3 v (jh ks).length (eu (jh ks))/\v≠ .slice none 0 0/\Below w.heap.size w w':=by
 have hk:=fun o=>vF _ (h.gr ((Gr.refl w).alloc o)) hn;have HG:Hid (∀o,Gr w (w.alloc o)):=fun o=>(Gr.refl w).alloc o;clear h;go_enter Tryz.func88,Tryz.ntmps88;go_wp2_with fail;refine(hk _).mono ?_;rintro e w1 ⟨v,ks,hS,rfl,ho,hv,hb⟩;go_wp2;go_ret;exact⟨_,ks,hS,rfl,aK ho (by simp),hv,(HG.o _).below.trans (hb.mono (by simp))⟩
end
namespace Rs
open Go.RowKit Go.Sort Go.Maps Go.Shelf
def slt(s t:Sm):Bool:=ltOf Et s t
theorem nz(s t:Sm):slt s t=true↔s.1.1<t.1.1\/(s.1.1=t.1.1/\(s.1.2.1<t.1.2.1\/(s.1.2.1=t.1.2.1/\(s.1.2.2.1<t.1.2.2.1\/(s.1.2.2.1=t.1.2.2.1/\s.1.2.2.2<t.1.2.2.2))))):=by
 unfold slt ltOf Et;have h1:=ik s.1.1 t.1.1;have h2:=fJ s.1.1 t.1.1;have h3:=pF s.1.2.1 s.1.2.2.1 s.1.2.2.2 t.1.2.1 t.1.2.2.1 t.1.2.2.2;rw[decide_eq_true_iff];unfold Uv;generalize c64 s.1.1 t.1.1=p at *;generalize kG s.1.2.1 s.1.2.2.1 s.1.2.2.2 t.1.2.1 t.1.2.2.1 t.1.2.2.2=q at *;split<;>omega
theorem zx(s t:Sm):slt s t=false↔¬(s.1.1<t.1.1\/(s.1.1=t.1.1/\(s.1.2.1<t.1.2.1\/(s.1.2.1=t.1.2.1/\(s.1.2.2.1<t.1.2.2.1\/(s.1.2.2.1=t.1.2.2.1/\s.1.2.2.2<t.1.2.2.2)))))):=by
 rw[<-nz,Bool.not_eq_true]
theorem qb(x y:Sm):ltOf Et x y=slt x y:=rfl
theorem XI(x y:Sm)(h1:ltOf Et x y=false)(h2:ltOf Et y x=false):x=y:=by
 rw[qb,zx]at h1 h2;exact KX (by omega) (by omega) (by omega) (by omega)
theorem XL:SWO (ltOf Et) where
 irrefl x:=by rw[qb,zx];omega
 trans x y z h1 h2:=by rw[qb,nz]at *;omega
 ntrans x y z h1 h2:=by rw[qb,zx]at *;omega
abbrev iD(ks:List Sm):List Sm:=uF Et ks
theorem Em{ks:List Sm}(h:ks.Nodup):(iD ks).Pairwise fun a b=>slt a b=true:=by
 have h1:=pJ XL ks;have h2:(iD ks).Nodup:=(kJ Et ks).nodup_iff.2 h;refine List.Pairwise.imp₂ (R:=fun x y=>(!(ltOf Et) y x)=true) (S:=fun x y=>x≠y) (fun {a b} ha hb=> ?_) h1 h2;have ha':ltOf Et b a=false:=by simpa using ha
 cases hq:slt a b with
 | true => rfl
 | false => exact absurd (XI a b hq ha') hb
end Rs
namespace Df
open Go.RowKit Go.Sort
attribute [local go_sem ↓] Go.wp_at_zero Go.wp_at_succ
theorem vT{g:bI}(w:World)(h:Gm B w gb g):Calls Tryz.prog 103 #[.pointer (some ⟨gb,0,none⟩)] w fun r w'=>r= .returned (.int .i64 g.arity)/\w'=w:=by
 obtain⟨nv,ev,fv,pv,ys,ss,h⟩:=h;have cg:=(aa h.rows.blk).1;have lg:=ae h.rows.blk;clear h;go_enter Tryz.func103,Tryz.ntmps103;go_wp2_with fail;go_ret;exact⟨rfl,rfl⟩
end Df
section
open Go.ChangeShapes Go.WideShapes Go.ChangeAt Go.RowKit
theorem pW:joinedFacts Tryz.checked.prog 3 Tryz.f3 (OpenSpec.ofChange Rows.reachFrontsSpec).bare Rows.reachFrontsRow=true:=by kernel_rfl
end
end Go.Proofs.YteekbpokkjjipaaGreat
