import Derived.Deep.DrawnRows
import Derived.Deep.QuietTactic
import Derived.BigQuiet
import Derived.Deep.RegionLaw
import Derived.Test.YtiiefcalkjeieaaGreatJ2
import Derived.DeepKeys4
import Derived.Shelf.SlSortCmp.QuietGrown
variable{w:Go.World}{v:Go.Value}{t:Go.TypeId}
set_option maxHeartbeats 1000000
set_option maxRecDepth 100000
namespace Go.Proofs.YtiiefcalkjeieaaGreat
section
open Go.RowKit Go.Sort
def qE(a b c x y z:Int):Bool:=(a==x)&&((b==y)&&(c==z))
theorem qM(a b c x y z:Int):qE a b c x y z=true↔a=x/\b=y/\c=z:=by simp[qE]
theorem Bp(a b c x y z:Int)(w:World):Sem.run Tryz.prog (Op.equalIn 10000 45 (.agg #[uV a,uV b,uV c]) (.agg #[uV x,uV y,uV z])) w= .ok (qE a b c x y z) w:=by
 have u3:=Tryz.underlying43;have a3:=Tryz.isAgg43;have z3:=Tryz.sizeOf43;have hS:Tryz.prog.underlying 45=some (.struct (Tryz.prog.fieldsOf 45)):=by kernel_rfl
 have hp:Tryz.prog.stoodInHeld 45=false:=by kernel_rfl
 rw[show(10000:Nat)=9999+1 from rfl,run_equalIn_agg w 9999 45 _ _ hS hp];simp only[Program.fieldsOf,Tryz.underlying45];go_simp;by_cases h1:a=x<;>by_cases h2:b=y<;>by_cases h3:c=z<;>simp[qE,h1,h2,h3]
theorem Kv(d:Nat)(p q r p' q' r':Bool)(w:World):Sem.run Tryz.prog (Op.equalIn (d+2) 116 (.agg #[.bool p, .bool q, .bool r]) (.agg #[.bool p', .bool q', .bool r'])) w= .ok (p==p'&&(q==q'&&r==r')) w:=by
 have u3:=Tryz.underlying4;have a3:=Tryz.isAgg4;have z3:=Tryz.sizeOf4;have hu:Tryz.prog.underlying 116=some (.array 3 4):=by kernel_rfl
 have hb:∀x y W,Sem.run Tryz.prog (Op.equalIn (d+1) 4 (.bool x) (.bool y)) W= .ok (x==y) W:=fun x y W=>run_equalIn_bool' W d 4 x y u3;rw[Op.equalIn];simp only[Sem.run_bind,run_underlying hu,Result.andThen_ok,Std.Legacy.Range.forIn_eq_forIn_range',Std.Legacy.Range.size];go_simp;simp only[show List.range' 0 3=[0,1,2]from rfl,List.forIn_cons,List.forIn_nil];cases p<;>cases p'<;>cases q<;>cases q'<;>cases r<;>cases r'<;>go_simp
theorem Nv(p q r p' q' r':Bool)(w:World):Sem.run Tryz.prog (Op.equalIn 10000 116 (.agg #[.bool p, .bool q, .bool r]) (.agg #[.bool p', .bool q', .bool r'])) w= .ok (p==p'&&(q==q'&&r==r')) w:=Kv 9998 p q r p' q' r' w
attribute[local go_sem ↓]wp_at_zero wp_at_succ
def Gh(a b c x y z:Int):Bool:=decide (a<=x)&&(decide (b<=y)&&decide (c<=z))
def c64(x y:Int):Int:=if x<y then -1 else if y<x then 1 else 0
def Mi(p q r:Int):Int:=if p=0 then(if q=0 then r else q)else p
def mE(a b c x y z:Int):Int:=Mi (c64 a x) (c64 b y) (c64 c z)
theorem Bq{k:IntKind}{a b:Int}(h:a=b):Ending.returned (.int k a)= .returned (.int k b):=by rw[h]
theorem Tc(x y:Int)(w:World):
    CL 52 #[uV x,uV y] w fun e w'=>e= .returned (.bool (decide (x<=y)))/\w'=w:=by
 go_enter Tryz.func52,Tryz.ntmps52;go_wp2;go_ret;exact⟨rfl,rfl⟩
theorem KE(a b c x y z:Int)(w:World):
    CL 51 #[.agg #[uV a,uV b,uV c], .agg #[uV x,uV y,uV z], .func (.func 52) #[] #[]] w fun e w'=>
     e= .returned (.agg #[.bool (decide (a<=x)), .bool (decide (b<=y)), .bool (decide (c<=z))])/\Gr w w':=by
 go_enter Tryz.func51,Tryz.ntmps51;go_wp2;go_region_held3 (fun w'=>w'.cell? ⟨w.heap.size,0,none⟩=some (uV a)/\w'.cell? ⟨w.heap.size,1,none⟩=some (uV b)/\w'.cell? ⟨w.heap.size,2,none⟩=some (uV c)/\w'.cell? ⟨w.heap.size+1,0,none⟩=some (uV x)/\w'.cell? ⟨w.heap.size+1,1,none⟩=some (uV y)/\w'.cell? ⟨w.heap.size+1,2,none⟩=some (uV z)) (go_keep)
  (first|(go_at_call 52;refine(Tc _ _ _).mono ?_;rintro e w' ⟨rfl,rfl⟩))
 go_wp2;exact bR (v:= .agg #[.bool (decide (a<=x)), .bool (decide (b<=y)), .bool (decide (c<=z))]) (by simp[results,Tryz.results51,go_sem]) rfl ⟨rfl,((((Gr.refl _).alloc _).alloc _).alloc _).drew⟩
theorem uf(a b c x y z:Int)(w:World):
    CL 18 #[.agg #[uV a,uV b,uV c], .agg #[uV x,uV y,uV z]] w fun e w'=>
     e= .returned (.bool (Gh a b c x y z))/\Gr w w':=by
 unfold Gh;have H:=fun W=>KE a b c x y z W;have heq:=fun p q r p' q' r' W=>Nv p q r p' q' r' W;generalize decide (a<=x)=p1 at *;generalize decide (b<=y)=p2 at *;generalize decide (c<=z)=p3 at *;go_enter Tryz.func18,Tryz.ntmps18;go_wp2_with (go_at_call 51;refine(H _).mono ?_;rintro e w1 ⟨rfl,hg⟩);go_ret;exact⟨rfl,(((Gr.refl _).alloc _).alloc _|>.trans hg).alloc _⟩
theorem KQ(x:Int)(w:World):
    CL 92 #[uV x] w fun e w'=>e= .returned (.bool false)/\w'=w:=by
 go_enter Tryz.func92,Tryz.ntmps92;go_wp2;go_ret;exact⟨by simp,rfl⟩
theorem Lx(x y:Int)(w:World):
    CL 49 #[uV x,uV y] w fun e w'=>e= .returned (iV (c64 x y))/\w'=w:=by
 have H:=fun v W=>KQ v W;go_enter Tryz.func49,Tryz.ntmps49;go_wp2_with (go_at_call 92;refine(H _ _).mono ?_;rintro e w1 ⟨rfl,rfl⟩);all_goals go_ret
 all_goals refine⟨?_,rfl⟩
 all_goals refine Bq ?_
 all_goals unfold c64
 all_goals (repeat split)<;>omega
theorem j4(a b c:Int)(w:World):
    CL 133 #[.agg #[uV a,uV b,uV c]] w fun e w'=>
     e= .returned (.agg #[uV a,uV b,uV c])/\Gr w w':=by
 go_enter Tryz.func133,Tryz.ntmps133;go_wp2;exact bR (v:= .agg #[uV a,uV b,uV c]) (by simp[results,Tryz.results133,go_sem]) rfl ⟨rfl,(((Gr.refl _).alloc _).alloc _)⟩
theorem qg(a b c:Int)(w:World):
    CL 134 #[.agg #[uV a,uV b,uV c]] w fun e w'=>
     e= .returned (.agg #[uV a,uV b,uV c])/\Gr w w':=by
 go_enter Tryz.func134,Tryz.ntmps134;go_wp2;exact bR (v:= .agg #[uV a,uV b,uV c]) (by simp[results,Tryz.results134,go_sem]) rfl ⟨rfl,(((Gr.refl _).alloc _).alloc _)⟩
theorem Gx(a b c:Int)(w1:World):Sem.run Tryz.prog (Builtin.clear_ #[233] 0 #[.slice (some ⟨w1.heap.size,1,none⟩) 2 2]) (w1.alloc (.cells #[uV a,uV b,uV c] 231))= .ok (.tuple #[]) (w1.alloc (.cells #[uV a,uV 0,uV 0] 231)):=by
 unfold Builtin.clear_;go_simp;rw[show(Builtin.zeroCells #[Value.int IntKind.u64 0] 2).toList=[Value.int IntKind.u64 0,Value.int IntKind.u64 0]from by kernel_rfl];go_simp
theorem Gw(a b c:Int)(w1:World):Sem.run Tryz.prog (Builtin.clear_ #[233] 0 #[.slice (some ⟨w1.heap.size,2,none⟩) 1 1]) (w1.alloc (.cells #[uV a,uV b,uV c] 231))= .ok (.tuple #[]) (w1.alloc (.cells #[uV a,uV b,uV 0] 231)):=by
 unfold Builtin.clear_;go_simp;rw[show(Builtin.zeroCells #[Value.int IntKind.u64 0] 1).toList=[Value.int IntKind.u64 0]from by kernel_rfl];go_simp
theorem Gv(p:Option Addr)(n:Nat)(w1:World):Sem.run Tryz.prog (Builtin.clear_ #[233] 0 #[.slice p 0 n]) w1= .ok (.tuple #[]) w1:=by
 unfold Builtin.clear_;cases p<;>go_simp
def bN(_a b c n:Int):Int:=if n<1\/3<n then 10 else if (n<2->b=0)/\(n<3->c=0)then 0 else 10
theorem FE(a b c n:Int)(w:World):
    CL 75 #[.agg #[uV a,uV b,uV c],iV n] w fun e w'=>
     e= .returned (iV (bN a b c n))/\Gr w w':=by
 have heq:=fun a b c x y z W=>Bp a b c x y z W;by_cases h1:n<1
 ·have hr:bN a b c n=10:=by simp[bN,h1]
  rw[hr];clear hr;go_enter Tryz.func75,Tryz.ntmps75;go_wp2;go_ret;exact⟨rfl,(Gr.refl _).alloc _⟩
 ·by_cases h3:3<n
  ·have hr:bN a b c n=10:=(by simp[bN,h3]);rw[hr];clear hr;go_enter Tryz.func75,Tryz.ntmps75;go_wp2;go_ret;exact⟨rfl,(Gr.refl _).alloc _⟩
  ·have hn:n=1\/n=2\/n=3:=(by omega);clear h1 h3;have hk1:=fun a b c W=>Gx a b c W;have hk2:=fun a b c W=>Gw a b c W;have hk3:=fun p n W=>Gv p n W;rcases hn with rfl|rfl|rfl
   ·have hE:(qE a 0 0 a b c=true/\bN a b c 1=0)\/(qE a 0 0 a b c=false/\bN a b c 1=10):=by
      by_cases hb:b=0<;>by_cases hc:c=0<;>simp[qE,bN,hb,hc]<;>omega
    rcases hE with⟨hE,hT⟩|⟨hE,hT⟩;all_goals rw[hT];clear hT
    all_goals go_enter Tryz.func75,Tryz.ntmps75
    all_goals go_wp2_with (go_at_call 133;refine(j4 _ _ _ _).mono ?_;rintro e w1 ⟨rfl,hg⟩;obtain⟨hc,hf⟩:=hg.cells;have hz:w.heap.size<w1.heap.size:=by { have:=hg.size;simp at this;omega };have hz':w.heap.size<w1.heap.size+1:=by omega)
    all_goals go_region_held3 (fun w'=>w'.cell? ⟨w.heap.size,0,none⟩=some (uV a)/\w'.cell? ⟨w.heap.size,1,none⟩=some (uV b)/\w'.cell? ⟨w.heap.size,2,none⟩=some (uV c)/\w'.cell? ⟨w1.heap.size,0,none⟩=some (uV a)/\w'.cell? ⟨w1.heap.size,1,none⟩=some (uV 0)/\w'.cell? ⟨w1.heap.size,2,none⟩=some (uV 0)) (go_keep)
     (first|(go_at_call 134;refine(qg _ _ _ _).mono ?_;rintro e w2 ⟨rfl,hg2⟩;obtain⟨hc2,hf2⟩:=hg2.cells))
    all_goals go_wp2
    all_goals go_ret
    all_goals exact⟨rfl,((((Gr.refl _).alloc _).trans hg).alloc _).drew.trans hg2⟩
   ·have hE:(qE a b 0 a b c=true/\bN a b c 2=0)\/(qE a b 0 a b c=false/\bN a b c 2=10):=by
      by_cases hc:c=0<;>simp[qE,bN,hc]<;>omega
    rcases hE with⟨hE,hT⟩|⟨hE,hT⟩;all_goals rw[hT];clear hT
    all_goals go_enter Tryz.func75,Tryz.ntmps75
    all_goals go_wp2_with (go_at_call 133;refine(j4 _ _ _ _).mono ?_;rintro e w1 ⟨rfl,hg⟩;obtain⟨hc,hf⟩:=hg.cells;have hz:w.heap.size<w1.heap.size:=by { have:=hg.size;simp at this;omega };have hz':w.heap.size<w1.heap.size+1:=by omega)
    all_goals go_region_held3 (fun w'=>w'.cell? ⟨w.heap.size,0,none⟩=some (uV a)/\w'.cell? ⟨w.heap.size,1,none⟩=some (uV b)/\w'.cell? ⟨w.heap.size,2,none⟩=some (uV c)/\w'.cell? ⟨w1.heap.size,0,none⟩=some (uV a)/\w'.cell? ⟨w1.heap.size,1,none⟩=some (uV b)/\w'.cell? ⟨w1.heap.size,2,none⟩=some (uV 0)) (go_keep)
     (first|(go_at_call 134;refine(qg _ _ _ _).mono ?_;rintro e w2 ⟨rfl,hg2⟩;obtain⟨hc2,hf2⟩:=hg2.cells))
    all_goals go_wp2
    all_goals go_ret
    all_goals exact⟨rfl,((((Gr.refl _).alloc _).trans hg).alloc _).drew.trans hg2⟩
   ·have hE:(qE a b c a b c=true/\bN a b c 3=0)\/(qE a b c a b c=false/\bN a b c 3=10):=by
      simp[qE,bN]
    rcases hE with⟨hE,hT⟩|⟨hE,hT⟩;all_goals rw[hT];clear hT
    all_goals go_enter Tryz.func75,Tryz.ntmps75
    all_goals go_wp2_with (go_at_call 133;refine(j4 _ _ _ _).mono ?_;rintro e w1 ⟨rfl,hg⟩;obtain⟨hc,hf⟩:=hg.cells;have hz:w.heap.size<w1.heap.size:=by { have:=hg.size;simp at this;omega };have hz':w.heap.size<w1.heap.size+1:=by omega)
    all_goals go_region_held3 (fun w'=>w'.cell? ⟨w.heap.size,0,none⟩=some (uV a)/\w'.cell? ⟨w.heap.size,1,none⟩=some (uV b)/\w'.cell? ⟨w.heap.size,2,none⟩=some (uV c)/\w'.cell? ⟨w1.heap.size,0,none⟩=some (uV a)/\w'.cell? ⟨w1.heap.size,1,none⟩=some (uV b)/\w'.cell? ⟨w1.heap.size,2,none⟩=some (uV c)) (go_keep)
     (first|(go_at_call 134;refine(qg _ _ _ _).mono ?_;rintro e w2 ⟨rfl,hg2⟩;obtain⟨hc2,hf2⟩:=hg2.cells))
    all_goals go_wp2
    all_goals go_ret
    all_goals exact⟨rfl,((((Gr.refl _).alloc _).trans hg).alloc _).drew.trans hg2⟩
theorem KD(a b c x y z:Int)(w:World):
    Calls Tryz.prog 48 #[.agg #[.int .u64 a, .int .u64 b, .int .u64 c], .agg #[.int .u64 x, .int .u64 y, .int .u64 z], .func (.func 49) #[] #[]] w fun e w'=>
     e= .returned (.agg #[.int .i64 (c64 a x), .int .i64 (c64 b y), .int .i64 (c64 c z)])/\Gr w w':=by
 go_enter Tryz.func48,Tryz.ntmps48;go_wp2;go_region_held3 (fun w'=>w'.cell? ⟨w.heap.size,0,none⟩=some (.int .u64 a)/\w'.cell? ⟨w.heap.size,1,none⟩=some (.int .u64 b)/\w'.cell? ⟨w.heap.size,2,none⟩=some (.int .u64 c)/\w'.cell? ⟨w.heap.size+1,0,none⟩=some (.int .u64 x)/\w'.cell? ⟨w.heap.size+1,1,none⟩=some (.int .u64 y)/\w'.cell? ⟨w.heap.size+1,2,none⟩=some (.int .u64 z)) (go_keep)
  (first|(go_at_call 49;refine(Lx _ _ _).mono ?_;rintro e w' ⟨rfl,rfl⟩))
 go_wp2;exact bR (v:= .agg #[.int .i64 (c64 a x), .int .i64 (c64 b y), .int .i64 (c64 c z)]) (by simp[results,Tryz.results48,go_sem]) rfl ⟨rfl,((((Gr.refl _).alloc _).alloc _).alloc _).drew⟩
theorem zN(p q r:Int)(b:Nat)(w:World)(h0:w.cell? ⟨b,0,none⟩=some (.int .i64 p))(h1:w.cell? ⟨b,1,none⟩=some (.int .i64 q))(h2:w.cell? ⟨b,2,none⟩=some (.int .i64 r)):
    Calls Tryz.prog 50 #[.slice (some ⟨b,0,none⟩) 3 3] w fun e w'=>e= .returned (.int .i64 (Mi p q r))/\w'=w:=by
 by_cases e0:p=0
 ·subst e0;by_cases e1:q=0
  ·subst e1;by_cases e2:r=0
   ·subst e2;go_enter Tryz.func50,Tryz.ntmps50;go_wp2;refine wp_loop_rounds 4 ?_;rw[rounds_succ];go_wp2;rw[rounds_succ];go_wp2;rw[rounds_succ];go_wp2;rw[rounds_succ];go_wp2;go_ret;exact⟨rfl,rfl⟩
   ·have b2:(r != 0)=true:=(by rw[bne_iff_ne];exact e2);go_enter Tryz.func50,Tryz.ntmps50;go_wp2;refine wp_loop_rounds 3 ?_;rw[rounds_succ];go_wp2;rw[rounds_succ];go_wp2;rw[rounds_succ];go_wp2;go_ret;exact⟨rfl,rfl⟩
  ·have b1:(q != 0)=true:=(by rw[bne_iff_ne];exact e1);have hr:Mi 0 q r=q:=(by simp[Mi,e1]);rw[hr];clear hr;go_enter Tryz.func50,Tryz.ntmps50;go_wp2;refine wp_loop_rounds 2 ?_;rw[rounds_succ];go_wp2;rw[rounds_succ];go_wp2;go_ret;exact⟨rfl,rfl⟩
 ·have b0:(p != 0)=true:=by rw[bne_iff_ne];exact e0
  have hr:Mi p q r=p:=by simp[Mi,e0]
  rw[hr];clear hr;go_enter Tryz.func50,Tryz.ntmps50;go_wp2;refine wp_loop_rounds 1 ?_;rw[rounds_succ];go_wp2;go_ret;exact⟨rfl,rfl⟩
theorem gP(a b c x y z:Int)(w:World):
    Calls Tryz.prog 17 #[.agg #[.int .u64 a, .int .u64 b, .int .u64 c], .agg #[.int .u64 x, .int .u64 y, .int .u64 z]] w fun e w'=>
     e= .returned (.int .i64 (mE a b c x y z))/\Gr w w':=by
 unfold mE;have H:=fun W=>KD a b c x y z W;generalize c64 a x=p at *;generalize c64 b y=q at *;generalize c64 c z=r at *;go_enter Tryz.func17,Tryz.ntmps17;go_wp2_with (first|(go_at_call 48;refine(H _).mono ?_;rintro e w1 ⟨rfl,hg⟩)|(go_at_call 50;refine(zN p q r _ _ (by simp) (by simp) (by simp)).mono ?_;rintro e w2 ⟨rfl,rfl⟩));go_ret;exact⟨rfl,(((Gr.refl _).alloc _).alloc _|>.trans hg).alloc _⟩
end
section
open Go.RowKit Go.Sort Go.Maps
theorem laidOut:laidOutB Tryz.prog=true:=by kernel_rfl
abbrev Tm:={ p:Int×Int×Int // (Lit.int .u64 p.1).wf=true/\(Lit.int .u64 p.2.1).wf=true/\(Lit.int .u64 p.2.2).wf=true }
instance:Inhabited Tm:=⟨⟨(0,0,0),by decide⟩⟩
abbrev tv(t:Tm):Value:= .agg #[.int .u64 t.1.1, .int .u64 t.1.2.1, .int .u64 t.1.2.2]
def ET:El Tm where
 k:=3
 enc t:=[.int .u64 t.1.1, .int .u64 t.1.2.1, .int .u64 t.1.2.2]
 len _:=rfl
 one x u hu:=by
  simp at hu;rcases hu with rfl|rfl|rfl<;>rfl
theorem Gg{s t:Tm}(h1:s.1.1=t.1.1)(h2:s.1.2.1=t.1.2.1)(h3:s.1.2.2=t.1.2.2):s=t:=Subtype.ext (Prod.ext h1 (Prod.ext h2 h3))
theorem Ja(s t:Tm):qE s.1.1 s.1.2.1 s.1.2.2 t.1.1 t.1.2.1 t.1.2.2=decide (s=t):=by
 rw[Bool.eq_iff_iff,qM,decide_eq_true_iff];exact⟨fun h=>Gg h.1 h.2.1 h.2.2,fun h=>by subst h;exact⟨rfl,rfl,rfl⟩⟩
abbrev eQ(l:List Tm):List Value:=fl ET l
theorem TU:eQ []=[]:=rfl
theorem jF(a b:List Tm):eQ (a++b)=eQ a++eQ b:=aT ET a b
theorem vL(t:Tm):eQ [t]=ET.enc t:=dM ET t
theorem iA(ts:List Tm):(eQ ts).length=ts.length*3:=fP ET ts
theorem EH(l:List Tm)(k:Nat):(eQ l).take (k*3)=eQ (l.take k):=Cr ET l k
theorem PR(l:List Tm)(k:Nat):(eQ l).drop (k*3)=eQ (l.drop k):=JS ET l k
theorem EJ(ts:List Tm):∀u∈eQ ts,u.oneCell'=true:=xU ET ts
abbrev oz(w:World)(v:Value)(ts:List Tm):Prop:=Ls ET w v ts
theorem Ls.at3{ts:List Tm}(h:Ls ET w v ts){j:Nat}{t:Tm}(hj:ts[j]? =some t):
    ∃b off c,v= .slice (some ⟨b,off,none⟩) ts.length c/\b<w.heap.size/\aj w b (off+j*3) (.int .u64 t.1.1)/\aj w b (off+j*3+1) (.int .u64 t.1.2.1)/\aj w b (off+j*3+2) (.int .u64 t.1.2.2):=by
 obtain⟨b,off,c,hv,hb,hc⟩:=h.get hj;exact⟨b,off,c,hv,hb,hc 0 _ (by decide) rfl,hc 1 _ (by decide) rfl,hc 2 _ (by decide) rfl⟩
theorem dG{base:Nat}{e:TypeId}{ts:List Tm}(h:w.ownsRow base e 3 v ts.length (eQ ts)):oz w v ts:=aK (E:=ET) h
theorem G8:(Tryz.prog.info? 45).map (fun i=>(i.zero,i.size,i.bytes))=some (some (.agg #[.int .u64 0, .int .u64 0, .int .u64 0]),3,24):=by kernel_rfl
def aC(s t:Tm):Bool:=Gh s.1.1 s.1.2.1 s.1.2.2 t.1.1 t.1.2.1 t.1.2.2
def A7(s t:Tm):Int:=mE s.1.1 s.1.2.1 s.1.2.2 t.1.1 t.1.2.1 t.1.2.2
def dL(s t:Tm):Bool:=decide (A7 s t<0)
theorem jl(s t:Tm):aC s t=true↔s.1.1<=t.1.1/\s.1.2.1<=t.1.2.1/\s.1.2.2<=t.1.2.2:=by simp[aC,Gh]
theorem iI(x y:Int):c64 x y<0↔x<y:=by unfold c64;(repeat split)<;>omega
theorem gy(x y:Int):c64 x y=0↔x=y:=by unfold c64;(repeat split)<;>omega
theorem qN(a b c x y z:Int):mE a b c x y z<0↔a<x\/(a=x/\(b<y\/(b=y/\c<z))):=by
 have h1:=iI a x;have h2:=gy a x;have h3:=iI b y;have h4:=gy b y;have h5:=iI c z;unfold mE Mi;generalize c64 a x=p at *;generalize c64 b y=q at *;generalize c64 c z=r at *
 (repeat split)<;>omega
theorem Kl(a b c x y z:Int):mE a b c x y z=0↔a=x/\b=y/\c=z:=by
 have h2:=gy a x;have h4:=gy b y;have h5:=gy c z;unfold mE Mi;generalize c64 a x=p at *;generalize c64 b y=q at *;generalize c64 c z=r at *
 (repeat split)<;>omega
theorem kX(s t:Tm):dL s t=true↔s.1.1<t.1.1\/(s.1.1=t.1.1/\(s.1.2.1<t.1.2.1\/(s.1.2.1=t.1.2.1/\s.1.2.2<t.1.2.2))):=by
 unfold dL A7;rw[decide_eq_true_iff];exact qN _ _ _ _ _ _
theorem AU(s t:Tm):dL s t=false↔¬(s.1.1<t.1.1\/(s.1.1=t.1.1/\(s.1.2.1<t.1.2.1\/(s.1.2.1=t.1.2.1/\s.1.2.2<t.1.2.2)))):=by
 rw[<-kX,Bool.not_eq_true]
theorem pG:rX aC dL where
 refl a:=by rw[jl];omega
 trans a b c h1 h2:=by rw[jl]at *;omega
 Yq a b h1 h2:=by
  rw[jl]at *;exact Gg (by omega) (by omega) (by omega)
 qy a:=by rw[AU];omega
 tr a b c h1 h2:=by rw[kX]at *;omega
 tot a b hne h:=by
  rw[AU]at h;rw[kX];have:¬(a.1.1=b.1.1/\a.1.2.1=b.1.2.1/\a.1.2.2=b.1.2.2):=fun e=>hne (Gg e.1 e.2.1 e.2.2);omega
theorem VH:(match Tryz.prog.underlying 45 with|some (.array _ _)|some (.struct _)=>true|_=>false)=true:=by kernel_rfl
theorem UR:(45:TypeId)<Tryz.prog.types.size:=of_decide_eq_true (by kernel_rfl)
theorem Oz:WideMaps.KeyLaw Tryz.prog 45:=deep_law_laid laidOut (m:=3) (by omega) UR (by kernel_rfl) VH
theorem oZ:Tryz.prog.cellsOf 45=3:=by kernel_rfl
theorem yo:Tryz.prog.cellsOf 43=1:=by kernel_rfl
theorem OG:Tryz.prog.keyType 45=true:=by kernel_rfl
theorem jV{q:IntKind}(hu:Tryz.prog.underlying t=some (.int q))(d:Nat)(n:Int)(h:(Lit.int q n).wf=true):Tryz.prog.keyLits (d+1) t [.int q n]=some [.int q n]:=by
 unfold Program.keyLits;simp only[hu];simp[h]
theorem iL{q:IntKind}(hu:Tryz.prog.underlying t=some (.int q))(d:Nat){x:Value}{ls:List Lit}(h:Tryz.prog.keyLits (d+1) t [x]=some ls):∃n,x= .int q n/\(Lit.int q n).wf=true/\ls=[.int q n]:=by
 unfold Program.keyLits at h;simp only[hu]at h;split at h<;>simp_all
theorem xG(d:Nat)(x y z:Value):Tryz.prog.keyLits (d+2) 45 [x,y,z]=(do let a <-Tryz.prog.keyLits (d+1) 43 [x];let b <-Tryz.prog.keyLits (d+1) 43 [y];let c <-Tryz.prog.keyLits (d+1) 43 [z];pure (a++(b++c))):=by
 conv=>lhs;unfold Program.keyLits
 simp only[Tryz.underlying45,oZ];simp[yo];cases Tryz.prog.keyLits (d+1) 43 [x]<;>cases Tryz.prog.keyLits (d+1) 43 [y]<;>cases Tryz.prog.keyLits (d+1) 43 [z]<;>simp
theorem Nj:∃d,Tryz.prog.types.size+1=d+2:=⟨Tryz.prog.types.size-1,by have h:(45:Nat)<Tryz.prog.types.size:=UR;omega⟩
theorem JF(p:Tm):keyOf Tryz.prog 45 (tv p)=some (.string (keyBytes [.int .u64 p.1.1, .int .u64 p.1.2.1, .int .u64 p.1.2.2])):=by
 obtain⟨d,hd⟩:=Nj;have h1:=jV Tryz.underlying43 d p.1.1 p.2.1;have h2:=jV Tryz.underlying43 d p.1.2.1 p.2.2.1;have h3:=jV Tryz.underlying43 d p.1.2.2 p.2.2.2;have hf:(tv p).formed Tryz.prog 45=true:=by simp[Value.formed,Tryz.underlying45,oZ]
 unfold keyOf;rw[Tryz.underlying45];simp only[OG,hf,Bool.and_self,if_true,hd];simp only[Value.cells,xG,h1,h2,h3];simp
theorem aaa(v:Value)(l:Lit)(h:keyOf Tryz.prog 45 v=some l):∃p:Tm,v=tv p:=by
 obtain⟨d,hd⟩:=Nj;unfold keyOf at h;rw[Tryz.underlying45]at h;simp only[OG,Bool.true_and]at h;split at h
 ·next hf=>
  cases v<;>simp[Value.formed,Tryz.underlying45,oZ]at hf
  next cs=>
  obtain⟨cs⟩:=cs
  match cs,hf with
  | [x,y,z],_=>
   simp only[Value.cells,hd,xG]at h;cases h1:Tryz.prog.keyLits (d+1) 43 [x]with
   | none => simp[h1]at h
   | some a=>
    cases h2:Tryz.prog.keyLits (d+1) 43 [y]with
    | none => simp[h1,h2]at h
    | some b=>
     cases h3:Tryz.prog.keyLits (d+1) 43 [z]with
     | none => simp[h1,h2,h3]at h
     | some c=>
      obtain⟨n1,rfl,w1,_⟩:=iL Tryz.underlying43 d h1;obtain⟨n2,rfl,w2,_⟩:=iL Tryz.underlying43 d h2;obtain⟨n3,rfl,w3,_⟩:=iL Tryz.underlying43 d h3;exact⟨⟨(n1,n2,n3),w1,w2,w3⟩,rfl⟩
 ·cases h
def ZT:KK Tryz.prog 45 Tm where
 enc:=tv
 lit p:= .string (keyBytes [.int .u64 p.1.1, .int .u64 p.1.2.1, .int .u64 p.1.2.2])
 law:=Keyed.of_law Oz
 key:=JF
 inv v l h:=by
  obtain⟨p,rfl⟩:=aaa v l h;rw[JF p]at h;exact⟨p,rfl,(oJ h).symm⟩
 inj p q h:=by
  have e:=Oz.inj (JF p) ((JF q).trans (congrArg some h.symm));obtain⟨⟨a,b,c⟩,_⟩:=p;obtain⟨⟨a',b',c'⟩,_⟩:=q;simp at e;obtain⟨rfl,rfl,rfl⟩:=e;rfl
abbrev fv(f:Nat):Value:= .func (.func f) #[] #[]
structure dZ(f:Nat)(r:Tm->Tm->Bool):Prop where
 enter:∀args w,(callFunc f args).run Tryz.prog w= .ok (.enter f args) w
 calls:∀(a b:Tm) (W:World),CL f #[tv a,tv b] W fun e w'=>e= .returned (.bool (r a b))/\Gr W w'
theorem fJ:dZ 18 aC:=
 ⟨enters_of Tryz.func18 (by kernel_rfl) rfl,fun a b W=>uf _ _ _ _ _ _ W⟩
theorem jM:dZ 106 dL:=by
 refine⟨enters_of Tryz.func106 (by kernel_rfl) rfl,fun a b W=> ?_⟩;have h:=fun W=>gP a.1.1 a.1.2.1 a.1.2.2 b.1.1 b.1.2.1 b.1.2.2 W;unfold dL;rw[show mE a.1.1 a.1.2.1 a.1.2.2 b.1.1 b.1.2.1 b.1.2.2=A7 a b from rfl]at h;generalize A7 a b=r at h⊢;go_enter Tryz.func106,Tryz.ntmps106;go_wp2_with fail;refine(h _).mono ?_;rintro e w' ⟨rfl,hg⟩;go_wp2;go_ret;exact⟨rfl,(((Gr.refl _).alloc _).alloc _).trans hg⟩
end
section
open Go.RowKit Go.Sort
def kI(a b c x y z:Nat):Bool:=decide (a+x<18446744073709551616)&&(decide (b+y<18446744073709551616)&&decide (c+z<18446744073709551616))
def Gz(ok:Bool)(s:Nat):Nat:=if ok then s else 0
theorem kz(a x:Nat)(h:a+x<18446744073709551616):IntKind.u64.wrap ((x:Int)+a)=((a+x:Nat):Int):=by
 simp[IntKind.wrap,IntKind.signed,IntKind.bits];omega
theorem sD(a x:Nat)(ha:a<18446744073709551616)(hx:x<18446744073709551616)(h:¬a+x<18446744073709551616):IntKind.u64.wrap ((x:Int)+a)<x:=by
 simp[IntKind.wrap,IntKind.signed,IntKind.bits];omega
theorem IV(a b c x y z:Nat)(w:World)(ha:a<18446744073709551616)(hb:b<18446744073709551616)(hc:c<18446744073709551616)(hx:x<18446744073709551616)(hy:y<18446744073709551616)(hz:z<18446744073709551616):
    CL 15 #[.agg #[uV a,uV b,uV c], .agg #[uV x,uV y,uV z]] w fun e w'=>
     e= .returned (.tuple #[.agg #[uV (Gz (kI a b c x y z) (a+x):Nat),uV (Gz (kI a b c x y z) (b+y):Nat),uV (Gz (kI a b c x y z) (c+z):Nat)], .bool (kI a b c x y z)])/\Bw w w':=by
 have hA:=fun p q r W=>uf x y z p q r W;cases hp:kI a b c x y z
 ·have ht:Gh x y z (IntKind.u64.wrap ((x:Int)+a)) (IntKind.u64.wrap ((y:Int)+b)) (IntKind.u64.wrap ((z:Int)+c))=false:=by
    rw[<-Bool.not_eq_true,Gh];simp only[bA,decide_eq_true_iff];intro ⟨h1,h2,h3⟩;have e1:a+x<18446744073709551616:=Classical.byContradiction fun h=>(by have:=sD a x ha hx h;omega);have e2:b+y<18446744073709551616:=Classical.byContradiction fun h=>(by have:=sD b y hb hy h;omega);have e3:c+z<18446744073709551616:=Classical.byContradiction fun h=>(by have:=sD c z hc hz h;omega);simp[kI,e1,e2,e3]at hp
  simp only[Gz,Bool.false_eq_true,if_false];clear ha hb hc hx hy hz hp;go_enter Tryz.func15,Tryz.ntmps15;go_wp2_with (go_at_call 18;refine(hA _ _ _ _).mono ?_;rintro e w1 ⟨rfl,hg1⟩;rw[ht];obtain⟨hc1,hf1⟩:=hg1.cells;have hz1:w.heap.size+2<w1.heap.size:=by { have:=hg1.size;simp at this;omega });refine bR (v:= .tuple #[.agg #[uV 0,uV 0,uV 0], .bool false]) (by simp[results,Tryz.results15,go_sem, *]) rfl ⟨rfl, ?_⟩;have hB:Bw w w1:=((((((Gr.refl _).alloc _).alloc _).alloc _).alloc _).trans hg1).below;have k:w.heap.size<=w.heap.size+1+1:=by omega
  exact((hB.setCell (p:=⟨w.heap.size+1+1,0,none⟩) k _).setCell (p:=⟨w.heap.size+1+1,1,none⟩) k _).setCell (p:=⟨w.heap.size+1+1,2,none⟩) k _
 ·have e1:a+x<18446744073709551616:=by simp[kI]at hp;omega
  have e2:b+y<18446744073709551616:=by simp[kI]at hp;omega
  have e3:c+z<18446744073709551616:=by simp[kI]at hp;omega
  have ht:Gh x y z (IntKind.u64.wrap ((x:Int)+a)) (IntKind.u64.wrap ((y:Int)+b)) (IntKind.u64.wrap ((z:Int)+c))=true:=by
   rw[kz a x e1,kz b y e2,kz c z e3];simp[Gh];omega
  have ht1:Gh x y z ((a+x:Nat):Int) ((b+y:Nat):Int) ((c+z:Nat):Int)=true:=by simp[Gh];omega
  have ht2:Gh x y z ((a:Int)+x) ((b:Int)+y) ((c:Int)+z)=true:=by simp[Gh];omega
  have s1:=kz a x e1;have s2:=kz b y e2;have s3:=kz c z e3;simp only[Gz,if_true];clear ha hb hc hx hy hz hp e1 e2 e3;go_enter Tryz.func15,Tryz.ntmps15;go_wp2_with (go_at_call 18;refine(hA _ _ _ _).mono ?_;rintro e w1 ⟨rfl,hg1⟩;first|rw[ht]|rw[ht1]|rw[ht2];obtain⟨hc1,hf1⟩:=hg1.cells;have hz1:w.heap.size+2<w1.heap.size:=by { have:=hg1.size;simp at this;omega });refine bR (v:= .tuple #[.agg #[uV (a+x:Nat),uV (b+y:Nat),uV (c+z:Nat)], .bool true]) (by simp[results,Tryz.results15,go_sem, *]) rfl ⟨rfl, ?_⟩;have hB:Bw w w1:=((((((Gr.refl _).alloc _).alloc _).alloc _).alloc _).trans hg1).below;have k:w.heap.size<=w.heap.size+1+1:=by omega
  exact((hB.setCell (p:=⟨w.heap.size+1+1,0,none⟩) k _).setCell (p:=⟨w.heap.size+1+1,1,none⟩) k _).setCell (p:=⟨w.heap.size+1+1,2,none⟩) k _
theorem Qu(a b c x y z:Nat)(w:World)(ha:a<18446744073709551616)(hb:b<18446744073709551616)(hc:c<18446744073709551616)(hx:x<18446744073709551616)(hy:y<18446744073709551616)(hz:z<18446744073709551616):
    CL 130 #[.agg #[uV a,uV b,uV c], .agg #[uV x,uV y,uV z]] w fun e w'=>
     e= .returned (.tuple #[.agg #[uV (Gz (kI a b c x y z) (a+x):Nat),uV (Gz (kI a b c x y z) (b+y):Nat),uV (Gz (kI a b c x y z) (c+z):Nat)], .bool (kI a b c x y z)])/\Bw w w':=by
 have hO:=fun W=>IV a b c x y z W ha hb hc hx hy hz;generalize Gz (kI a b c x y z) (a+x)=s1 at *;generalize Gz (kI a b c x y z) (b+y)=s2 at *;generalize Gz (kI a b c x y z) (c+z)=s3 at *;generalize kI a b c x y z=ok at *;clear ha hb hc hx hy hz;go_enter Tryz.func130,Tryz.ntmps130;go_wp2_with (go_at_call 15;refine(hO _).mono ?_;rintro e w1 ⟨rfl,hb1⟩;obtain⟨hc1,hf1⟩:=Fp hb1;have hz1:w.heap.size+2<w1.heap.size:=by { have:=hb1.size;simp at this;omega };have hz2:w.heap.size+1+1<w1.heap.size:=by omega);refine bR (v:= .tuple #[.agg #[uV s1,uV s2,uV s3], .bool ok]) (by simp[results,Tryz.results130,go_sem, *]) rfl ⟨rfl, ?_⟩;have hB:Bw w w1:=((((Gr.refl _).alloc _).alloc _).alloc _).below.trans (hb1.mono (by simp;omega));have k:w.heap.size<=w.heap.size+1+1:=by omega
 have hq:=((hB.setCell (p:=⟨w.heap.size+1+1,0,none⟩) k (uV s1)).setCell (p:=⟨w.heap.size+1+1,1,none⟩) k (uV s2)).setCell (p:=⟨w.heap.size+1+1,2,none⟩) k (uV s3);exact hq.alloc hq.size _
theorem wZ(a b c x y z:Int)(w:World):
    CL 184 #[.agg #[uV a,uV b,uV c], .agg #[uV x,uV y,uV z]] w fun e w'=>e= .returned (.bool (Gh a b c x y z))/\Gr w w':=by
 have hA:=fun W=>uf a b c x y z W;generalize Gh a b c x y z=p at *;go_enter Tryz.func184,Tryz.ntmps184;go_wp2_with (go_at_call 18;refine(hA _).mono ?_;rintro e w1 ⟨rfl,hg1⟩);go_ret;exact⟨rfl,(((Gr.refl _).alloc _).alloc _).trans hg1⟩
theorem Bv(a b c x y z:Int)(w:World):
    CL 185 #[.agg #[uV a,uV b,uV c], .agg #[uV x,uV y,uV z]] w fun e w'=>e= .returned (iV (mE a b c x y z))/\Gr w w':=by
 have hA:=fun W=>gP a b c x y z W;generalize mE a b c x y z=p at *;go_enter Tryz.func185,Tryz.ntmps185;go_wp2_with (go_at_call 17;refine(hA _).mono ?_;rintro e w1 ⟨rfl,hg1⟩);go_ret;exact⟨rfl,(((Gr.refl _).alloc _).alloc _).trans hg1⟩
end
end Go.Proofs.YtiiefcalkjeieaaGreat
