import Derived.Deep.RegionHeld3
import Derived.Deep.DrawnRows
import Derived.Deep.QuietTactic
import Derived.BigQuiet
import Derived.Deep.RegionLaw
import Derived.Test.YteekbpokkjjipaaGreatJ2
import Derived.DeepKeys4
import Derived.Shelf.SlSortCmp.QuietGrown
variable{z:Bool}{w:Go.World}{v:Go.Value}{t:Go.TypeId}{cb:Nat}
set_option maxHeartbeats 2000000
set_option maxRecDepth 100000
namespace Go.Proofs.YteekbpokkjjipaaGreat
section
open Go.RowKit Go.Sort
def pR(a b c x y z:Int):Bool:=(a==x)&&((b==y)&&(c==z))
theorem nX(a b c x y z:Int):pR a b c x y z=true↔a=x/\b=y/\c=z:=by simp[pR]
theorem AB(a b c x y z:Int)(w:World):Sem.run Tryz.prog (Op.equalIn 10000 45 (.agg #[.int .u64 a, .int .u64 b, .int .u64 c]) (.agg #[.int .u64 x, .int .u64 y, .int .u64 z])) w= .ok (pR a b c x y z) w:=by
 have u3:=Tryz.underlying43;have a3:=Tryz.isAgg43;have z3:=Tryz.sizeOf43;have hS:Tryz.prog.underlying 45=some (.struct (Tryz.prog.fieldsOf 45)):=by kernel_rfl
 have hp:Tryz.prog.stoodInHeld 45=false:=by kernel_rfl
 rw[show(10000:Nat)=9999+1 from rfl,run_equalIn_agg w 9999 45 _ _ hS hp];simp only[Program.fieldsOf,Tryz.underlying45];go_simp;by_cases h1:a=x<;>by_cases h2:b=y<;>by_cases h3:c=z<;>simp[pR,h1,h2,h3]
theorem JX(d:Nat)(p q r p' q' r':Bool)(w:World):Sem.run Tryz.prog (Op.equalIn (d+2) 116 (.agg #[.bool p, .bool q, .bool r]) (.agg #[.bool p', .bool q', .bool r'])) w= .ok (p==p'&&(q==q'&&r==r')) w:=by
 have u3:=Tryz.underlying4;have a3:=Tryz.isAgg4;have z3:=Tryz.sizeOf4;have hu:Tryz.prog.underlying 116=some (.array 3 4):=by kernel_rfl
 have hb:∀x y W,Sem.run Tryz.prog (Op.equalIn (d+1) 4 (.bool x) (.bool y)) W= .ok (x==y) W:=fun x y W=>run_equalIn_bool' W d 4 x y u3;rw[Op.equalIn];simp only[Sem.run_bind,run_underlying hu,Result.andThen_ok,Std.Legacy.Range.forIn_eq_forIn_range',Std.Legacy.Range.size];go_simp;simp only[show List.range' 0 3=[0,1,2]from rfl,List.forIn_cons,List.forIn_nil];cases p<;>cases p'<;>cases q<;>cases q'<;>cases r<;>cases r'<;>go_simp
theorem MQ(p q r p' q' r':Bool)(w:World):Sem.run Tryz.prog (Op.equalIn 10000 116 (.agg #[.bool p, .bool q, .bool r]) (.agg #[.bool p', .bool q', .bool r'])) w= .ok (p==p'&&(q==q'&&r==r')) w:=JX 9998 p q r p' q' r' w
attribute[local go_sem ↓]wp_at_zero wp_at_succ
def FJ(a b c x y z:Int):Bool:=decide (a<=x)&&(decide (b<=y)&&decide (c<=z))
def c64(x y:Int):Int:=if x<y then -1 else if y<x then 1 else 0
def La(p q r:Int):Int:=if p=0 then(if q=0 then r else q)else p
def lV(a b c x y z:Int):Int:=La (c64 a x) (c64 b y) (c64 c z)
theorem AJ{k:IntKind}{a b:Int}(h:a=b):Ending.returned (.int k a)= .returned (.int k b):=by rw[h]
theorem RO(x y:Int)(w:World):
    Calls Tryz.prog 52 #[.int .u64 x, .int .u64 y] w fun e w'=>e= .returned (.bool (decide (x<=y)))/\w'=w:=by
 go_enter Tryz.func52,Tryz.ntmps52;go_wp2;go_ret;exact⟨rfl,rfl⟩
theorem J6(a b c x y z:Int)(w:World):
    Calls Tryz.prog 51 #[.agg #[.int .u64 a, .int .u64 b, .int .u64 c], .agg #[.int .u64 x, .int .u64 y, .int .u64 z], .func (.func 52) #[] #[]] w fun e w'=>
     e= .returned (.agg #[.bool (decide (a<=x)), .bool (decide (b<=y)), .bool (decide (c<=z))])/\Gr w w':=by
 go_enter Tryz.func51,Tryz.ntmps51;go_wp2;go_region_held3 (fun w'=>w'.cell? ⟨w.heap.size,0,none⟩=some (.int .u64 a)/\w'.cell? ⟨w.heap.size,1,none⟩=some (.int .u64 b)/\w'.cell? ⟨w.heap.size,2,none⟩=some (.int .u64 c)/\w'.cell? ⟨w.heap.size+1,0,none⟩=some (.int .u64 x)/\w'.cell? ⟨w.heap.size+1,1,none⟩=some (.int .u64 y)/\w'.cell? ⟨w.heap.size+1,2,none⟩=some (.int .u64 z)) (go_keep)
  (first|(go_at_call 52;refine(RO _ _ _).mono ?_;rintro e w' ⟨rfl,rfl⟩))
 go_wp2;exact bR (v:= .agg #[.bool (decide (a<=x)), .bool (decide (b<=y)), .bool (decide (c<=z))]) (by simp[results,Tryz.results51,go_sem]) rfl ⟨rfl,((((Gr.refl _).alloc _).alloc _).alloc _).drew⟩
theorem sZ(a b c x y z:Int)(w:World):
    Calls Tryz.prog 18 #[.agg #[.int .u64 a, .int .u64 b, .int .u64 c], .agg #[.int .u64 x, .int .u64 y, .int .u64 z]] w fun e w'=>
     e= .returned (.bool (FJ a b c x y z))/\Gr w w':=by
 unfold FJ;have H:=fun W=>J6 a b c x y z W;have heq:=fun p q r p' q' r' W=>MQ p q r p' q' r' W;generalize decide (a<=x)=p1 at *;generalize decide (b<=y)=p2 at *;generalize decide (c<=z)=p3 at *;go_enter Tryz.func18,Tryz.ntmps18;go_wp2_with (go_at_call 51;refine(H _).mono ?_;rintro e w1 ⟨rfl,hg⟩);go_ret;exact⟨rfl,(((Gr.refl _).alloc _).alloc _|>.trans hg).alloc _⟩
theorem Kj(x:Int)(w:World):
    Calls Tryz.prog 92 #[.int .u64 x] w fun e w'=>e= .returned (.bool false)/\w'=w:=by
 go_enter Tryz.func92,Tryz.ntmps92;go_wp2;go_ret;exact⟨by simp,rfl⟩
theorem KJ(x y:Int)(w:World):
    Calls Tryz.prog 49 #[.int .u64 x, .int .u64 y] w fun e w'=>e= .returned (.int .i64 (c64 x y))/\w'=w:=by
 have H:=fun v W=>Kj v W;go_enter Tryz.func49,Tryz.ntmps49;go_wp2_with (go_at_call 92;refine(H _ _).mono ?_;rintro e w1 ⟨rfl,rfl⟩);all_goals go_ret
 all_goals refine⟨?_,rfl⟩
 all_goals refine AJ ?_
 all_goals unfold c64
 all_goals (repeat split)<;>omega
theorem jW(a b c:Int)(w:World):
    Calls Tryz.prog 133 #[.agg #[.int .u64 a, .int .u64 b, .int .u64 c]] w fun e w'=>
     e= .returned (.agg #[.int .u64 a, .int .u64 b, .int .u64 c])/\Gr w w':=by
 go_enter Tryz.func133,Tryz.ntmps133;go_wp2;exact bR (v:= .agg #[.int .u64 a, .int .u64 b, .int .u64 c]) (by simp[results,Tryz.results133,go_sem]) rfl ⟨rfl,(((Gr.refl _).alloc _).alloc _)⟩
theorem pQ(a b c:Int)(w:World):
    Calls Tryz.prog 134 #[.agg #[.int .u64 a, .int .u64 b, .int .u64 c]] w fun e w'=>
     e= .returned (.agg #[.int .u64 a, .int .u64 b, .int .u64 c])/\Gr w w':=by
 go_enter Tryz.func134,Tryz.ntmps134;go_wp2;exact bR (v:= .agg #[.int .u64 a, .int .u64 b, .int .u64 c]) (by simp[results,Tryz.results134,go_sem]) rfl ⟨rfl,(((Gr.refl _).alloc _).alloc _)⟩
theorem FW(a b c:Int)(w1:World):Sem.run Tryz.prog (Builtin.clear_ #[233] 0 #[.slice (some ⟨w1.heap.size,1,none⟩) 2 2]) (w1.alloc (.cells #[.int .u64 a, .int .u64 b, .int .u64 c] 231))= .ok (.tuple #[]) (w1.alloc (.cells #[.int .u64 a, .int .u64 0, .int .u64 0] 231)):=by
 unfold Builtin.clear_;go_simp;rw[show(Builtin.zeroCells #[Value.int IntKind.u64 0] 2).toList=[Value.int IntKind.u64 0,Value.int IntKind.u64 0]from by kernel_rfl];go_simp
theorem FV(a b c:Int)(w1:World):Sem.run Tryz.prog (Builtin.clear_ #[233] 0 #[.slice (some ⟨w1.heap.size,2,none⟩) 1 1]) (w1.alloc (.cells #[.int .u64 a, .int .u64 b, .int .u64 c] 231))= .ok (.tuple #[]) (w1.alloc (.cells #[.int .u64 a, .int .u64 b, .int .u64 0] 231)):=by
 unfold Builtin.clear_;go_simp;rw[show(Builtin.zeroCells #[Value.int IntKind.u64 0] 1).toList=[Value.int IntKind.u64 0]from by kernel_rfl];go_simp
theorem FU(p:Option Addr)(n:Nat)(w1:World):Sem.run Tryz.prog (Builtin.clear_ #[233] 0 #[.slice p 0 n]) w1= .ok (.tuple #[]) w1:=by
 unfold Builtin.clear_;cases p<;>go_simp
def bL(_a b c n:Int):Int:=if n<1\/3<n then 10 else if (n<2->b=0)/\(n<3->c=0)then 0 else 10
theorem EJ(a b c n:Int)(w:World):
    Calls Tryz.prog 75 #[.agg #[.int .u64 a, .int .u64 b, .int .u64 c], .int .i64 n] w fun e w'=>
     e= .returned (.int .i64 (bL a b c n))/\Gr w w':=by
 have heq:=fun a b c x y z W=>AB a b c x y z W;by_cases h1:n<1
 ·have hr:bL a b c n=10:=by simp[bL,h1]
  rw[hr];clear hr;go_enter Tryz.func75,Tryz.ntmps75;go_wp2;go_ret;exact⟨rfl,(Gr.refl _).alloc _⟩
 ·by_cases h3:3<n
  ·have hr:bL a b c n=10:=(by simp[bL,h3]);rw[hr];clear hr;go_enter Tryz.func75,Tryz.ntmps75;go_wp2;go_ret;exact⟨rfl,(Gr.refl _).alloc _⟩
  ·have hn:n=1\/n=2\/n=3:=(by omega);clear h1 h3;have hk1:=fun a b c W=>FW a b c W;have hk2:=fun a b c W=>FV a b c W;have hk3:=fun p n W=>FU p n W;rcases hn with rfl|rfl|rfl
   ·have hE:(pR a 0 0 a b c=true/\bL a b c 1=0)\/(pR a 0 0 a b c=false/\bL a b c 1=10):=by
      by_cases hb:b=0<;>by_cases hc:c=0<;>simp[pR,bL,hb,hc]<;>omega
    rcases hE with⟨hE,hT⟩|⟨hE,hT⟩;all_goals rw[hT];clear hT
    all_goals go_enter Tryz.func75,Tryz.ntmps75
    all_goals go_wp2_with (go_at_call 133;refine(jW _ _ _ _).mono ?_;rintro e w1 ⟨rfl,hg⟩;obtain⟨hc,hf⟩:=hg.cells;have hz:w.heap.size<w1.heap.size:=by { have:=hg.size;simp at this;omega };have hz':w.heap.size<w1.heap.size+1:=by omega)
    all_goals go_region_held3 (fun w'=>w'.cell? ⟨w.heap.size,0,none⟩=some (.int .u64 a)/\w'.cell? ⟨w.heap.size,1,none⟩=some (.int .u64 b)/\w'.cell? ⟨w.heap.size,2,none⟩=some (.int .u64 c)/\w'.cell? ⟨w1.heap.size,0,none⟩=some (.int .u64 a)/\w'.cell? ⟨w1.heap.size,1,none⟩=some (.int .u64 0)/\w'.cell? ⟨w1.heap.size,2,none⟩=some (.int .u64 0)) (go_keep)
     (first|(go_at_call 134;refine(pQ _ _ _ _).mono ?_;rintro e w2 ⟨rfl,hg2⟩;obtain⟨hc2,hf2⟩:=hg2.cells))
    all_goals go_wp2
    all_goals go_ret
    all_goals exact⟨rfl,((((Gr.refl _).alloc _).trans hg).alloc _).drew.trans hg2⟩
   ·have hE:(pR a b 0 a b c=true/\bL a b c 2=0)\/(pR a b 0 a b c=false/\bL a b c 2=10):=by
      by_cases hc:c=0<;>simp[pR,bL,hc]<;>omega
    rcases hE with⟨hE,hT⟩|⟨hE,hT⟩;all_goals rw[hT];clear hT
    all_goals go_enter Tryz.func75,Tryz.ntmps75
    all_goals go_wp2_with (go_at_call 133;refine(jW _ _ _ _).mono ?_;rintro e w1 ⟨rfl,hg⟩;obtain⟨hc,hf⟩:=hg.cells;have hz:w.heap.size<w1.heap.size:=by { have:=hg.size;simp at this;omega };have hz':w.heap.size<w1.heap.size+1:=by omega)
    all_goals go_region_held3 (fun w'=>w'.cell? ⟨w.heap.size,0,none⟩=some (.int .u64 a)/\w'.cell? ⟨w.heap.size,1,none⟩=some (.int .u64 b)/\w'.cell? ⟨w.heap.size,2,none⟩=some (.int .u64 c)/\w'.cell? ⟨w1.heap.size,0,none⟩=some (.int .u64 a)/\w'.cell? ⟨w1.heap.size,1,none⟩=some (.int .u64 b)/\w'.cell? ⟨w1.heap.size,2,none⟩=some (.int .u64 0)) (go_keep)
     (first|(go_at_call 134;refine(pQ _ _ _ _).mono ?_;rintro e w2 ⟨rfl,hg2⟩;obtain⟨hc2,hf2⟩:=hg2.cells))
    all_goals go_wp2
    all_goals go_ret
    all_goals exact⟨rfl,((((Gr.refl _).alloc _).trans hg).alloc _).drew.trans hg2⟩
   ·have hE:(pR a b c a b c=true/\bL a b c 3=0)\/(pR a b c a b c=false/\bL a b c 3=10):=by
      simp[pR,bL]
    rcases hE with⟨hE,hT⟩|⟨hE,hT⟩;all_goals rw[hT];clear hT
    all_goals go_enter Tryz.func75,Tryz.ntmps75
    all_goals go_wp2_with (go_at_call 133;refine(jW _ _ _ _).mono ?_;rintro e w1 ⟨rfl,hg⟩;obtain⟨hc,hf⟩:=hg.cells;have hz:w.heap.size<w1.heap.size:=by { have:=hg.size;simp at this;omega };have hz':w.heap.size<w1.heap.size+1:=by omega)
    all_goals go_region_held3 (fun w'=>w'.cell? ⟨w.heap.size,0,none⟩=some (.int .u64 a)/\w'.cell? ⟨w.heap.size,1,none⟩=some (.int .u64 b)/\w'.cell? ⟨w.heap.size,2,none⟩=some (.int .u64 c)/\w'.cell? ⟨w1.heap.size,0,none⟩=some (.int .u64 a)/\w'.cell? ⟨w1.heap.size,1,none⟩=some (.int .u64 b)/\w'.cell? ⟨w1.heap.size,2,none⟩=some (.int .u64 c)) (go_keep)
     (first|(go_at_call 134;refine(pQ _ _ _ _).mono ?_;rintro e w2 ⟨rfl,hg2⟩;obtain⟨hc2,hf2⟩:=hg2.cells))
    all_goals go_wp2
    all_goals go_ret
    all_goals exact⟨rfl,((((Gr.refl _).alloc _).trans hg).alloc _).drew.trans hg2⟩
theorem J5(a b c x y z:Int)(w:World):
    Calls Tryz.prog 48 #[.agg #[.int .u64 a, .int .u64 b, .int .u64 c], .agg #[.int .u64 x, .int .u64 y, .int .u64 z], .func (.func 49) #[] #[]] w fun e w'=>
     e= .returned (.agg #[.int .i64 (c64 a x), .int .i64 (c64 b y), .int .i64 (c64 c z)])/\Gr w w':=by
 go_enter Tryz.func48,Tryz.ntmps48;go_wp2;go_region_held3 (fun w'=>w'.cell? ⟨w.heap.size,0,none⟩=some (.int .u64 a)/\w'.cell? ⟨w.heap.size,1,none⟩=some (.int .u64 b)/\w'.cell? ⟨w.heap.size,2,none⟩=some (.int .u64 c)/\w'.cell? ⟨w.heap.size+1,0,none⟩=some (.int .u64 x)/\w'.cell? ⟨w.heap.size+1,1,none⟩=some (.int .u64 y)/\w'.cell? ⟨w.heap.size+1,2,none⟩=some (.int .u64 z)) (go_keep)
  (first|(go_at_call 49;refine(KJ _ _ _).mono ?_;rintro e w' ⟨rfl,rfl⟩))
 go_wp2;exact bR (v:= .agg #[.int .i64 (c64 a x), .int .i64 (c64 b y), .int .i64 (c64 c z)]) (by simp[results,Tryz.results48,go_sem]) rfl ⟨rfl,((((Gr.refl _).alloc _).alloc _).alloc _).drew⟩
theorem zb(p q r:Int)(b:Nat)(w:World)(h0:w.cell? ⟨b,0,none⟩=some (.int .i64 p))(h1:w.cell? ⟨b,1,none⟩=some (.int .i64 q))(h2:w.cell? ⟨b,2,none⟩=some (.int .i64 r)):
    Calls Tryz.prog 50 #[.slice (some ⟨b,0,none⟩) 3 3] w fun e w'=>e= .returned (.int .i64 (La p q r))/\w'=w:=by
 by_cases e0:p=0
 ·subst e0;by_cases e1:q=0
  ·subst e1;by_cases e2:r=0
   ·subst e2;go_enter Tryz.func50,Tryz.ntmps50;go_wp2;refine wp_loop_rounds 4 ?_;rw[rounds_succ];go_wp2;rw[rounds_succ];go_wp2;rw[rounds_succ];go_wp2;rw[rounds_succ];go_wp2;go_ret;exact⟨rfl,rfl⟩
   ·have b2:(r != 0)=true:=(by rw[bne_iff_ne];exact e2);go_enter Tryz.func50,Tryz.ntmps50;go_wp2;refine wp_loop_rounds 3 ?_;rw[rounds_succ];go_wp2;rw[rounds_succ];go_wp2;rw[rounds_succ];go_wp2;go_ret;exact⟨rfl,rfl⟩
  ·have b1:(q != 0)=true:=(by rw[bne_iff_ne];exact e1);have hr:La 0 q r=q:=(by simp[La,e1]);rw[hr];clear hr;go_enter Tryz.func50,Tryz.ntmps50;go_wp2;refine wp_loop_rounds 2 ?_;rw[rounds_succ];go_wp2;rw[rounds_succ];go_wp2;go_ret;exact⟨rfl,rfl⟩
 ·have b0:(p != 0)=true:=by rw[bne_iff_ne];exact e0
  have hr:La p q r=p:=by simp[La,e0]
  rw[hr];clear hr;go_enter Tryz.func50,Tryz.ntmps50;go_wp2;refine wp_loop_rounds 1 ?_;rw[rounds_succ];go_wp2;go_ret;exact⟨rfl,rfl⟩
theorem gG(a b c x y z:Int)(w:World):
    Calls Tryz.prog 17 #[.agg #[.int .u64 a, .int .u64 b, .int .u64 c], .agg #[.int .u64 x, .int .u64 y, .int .u64 z]] w fun e w'=>
     e= .returned (.int .i64 (lV a b c x y z))/\Gr w w':=by
 unfold lV;have H:=fun W=>J5 a b c x y z W;generalize c64 a x=p at *;generalize c64 b y=q at *;generalize c64 c z=r at *;go_enter Tryz.func17,Tryz.ntmps17;go_wp2_with (first|(go_at_call 48;refine(H _).mono ?_;rintro e w1 ⟨rfl,hg⟩)|(go_at_call 50;refine(zb p q r _ _ (by simp) (by simp) (by simp)).mono ?_;rintro e w2 ⟨rfl,rfl⟩));go_ret;exact⟨rfl,(((Gr.refl _).alloc _).alloc _|>.trans hg).alloc _⟩
end
section
open Go.RowKit Go.Sort Go.Maps
theorem laidOut:laidOutB Tryz.prog=true:=by kernel_rfl
abbrev Tm:={ p:Int×Int×Int // (Lit.int .u64 p.1).wf=true/\(Lit.int .u64 p.2.1).wf=true/\(Lit.int .u64 p.2.2).wf=true }
instance:Inhabited Tm:=⟨⟨(0,0,0),by decide⟩⟩
abbrev tv(t:Tm):Value:= .agg #[.int .u64 t.1.1, .int .u64 t.1.2.1, .int .u64 t.1.2.2]
def ET:El Tm where
 k:=3
 enc t:=[.int .u64 t.1.1, .int .u64 t.1.2.1, .int .u64 t.1.2.2]
 len _:=rfl
 one x u hu:=by
  simp at hu;rcases hu with rfl|rfl|rfl<;>rfl
theorem FI{s t:Tm}(h1:s.1.1=t.1.1)(h2:s.1.2.1=t.1.2.1)(h3:s.1.2.2=t.1.2.2):s=t:=Subtype.ext (Prod.ext h1 (Prod.ext h2 h3))
theorem IA(s t:Tm):pR s.1.1 s.1.2.1 s.1.2.2 t.1.1 t.1.2.1 t.1.2.2=decide (s=t):=by
 rw[Bool.eq_iff_iff,nX,decide_eq_true_iff];exact⟨fun h=>FI h.1 h.2.1 h.2.2,fun h=>by subst h;exact⟨rfl,rfl,rfl⟩⟩
abbrev eG(l:List Tm):List Value:=fl ET l
theorem SE:eG []=[]:=rfl
theorem jy(a b:List Tm):eG (a++b)=eG a++eG b:=aT ET a b
theorem vv(t:Tm):eG [t]=ET.enc t:=dx ET t
theorem ig(ts:List Tm):(eG ts).length=ts.length*3:=gD ET ts
theorem D5(l:List Tm)(k:Nat):(eG l).take (k*3)=eG (l.take k):=Bz ET l k
theorem O5(l:List Tm)(k:Nat):(eG l).drop (k*3)=eG (l.drop k):=Jt ET l k
theorem D6(ts:List Tm):∀u∈eG ts,u.oneCell'=true:=xB ET ts
abbrev nK(w:World)(v:Value)(ts:List Tm):Prop:=Ls ET w v ts
theorem Ls.at3{ts:List Tm}(h:Ls ET w v ts){j:Nat}{t:Tm}(hj:ts[j]? =some t):
    ∃b off c,v= .slice (some ⟨b,off,none⟩) ts.length c/\b<w.heap.size/\w.cell? ⟨b,off+j*3,none⟩=some (.int .u64 t.1.1)/\w.cell? ⟨b,off+j*3+1,none⟩=some (.int .u64 t.1.2.1)/\w.cell? ⟨b,off+j*3+2,none⟩=some (.int .u64 t.1.2.2):=by
 obtain⟨b,off,c,hv,hb,hc⟩:=h.get hj;exact⟨b,off,c,hv,hb,hc 0 _ (by decide) rfl,hc 1 _ (by decide) rfl,hc 2 _ (by decide) rfl⟩
theorem dC{base:Nat}{e:TypeId}{ts:List Tm}(h:w.ownsRow base e 3 v ts.length (eG ts)):nK w v ts:=aJ (E:=ET) h
theorem NW:(Tryz.prog.info? 45).map (fun i=>(i.zero,i.size,i.bytes))=some (some (.agg #[.int .u64 0, .int .u64 0, .int .u64 0]),3,24):=by kernel_rfl
def au(s t:Tm):Bool:=FJ s.1.1 s.1.2.1 s.1.2.2 t.1.1 t.1.2.1 t.1.2.2
def Ah(s t:Tm):Int:=lV s.1.1 s.1.2.1 s.1.2.2 t.1.1 t.1.2.1 t.1.2.2
def dH(s t:Tm):Bool:=decide (Ah s t<0)
theorem jc(s t:Tm):au s t=true↔s.1.1<=t.1.1/\s.1.2.1<=t.1.2.1/\s.1.2.2<=t.1.2.2:=by simp[au,FJ]
theorem iA(x y:Int):c64 x y<0↔x<y:=by unfold c64;(repeat split)<;>omega
theorem fP(x y:Int):c64 x y=0↔x=y:=by unfold c64;(repeat split)<;>omega
theorem qE(a b c x y z:Int):lV a b c x y z<0↔a<x\/(a=x/\(b<y\/(b=y/\c<z))):=by
 have h1:=iA a x;have h2:=fP a x;have h3:=iA b y;have h4:=fP b y;have h5:=iA c z;unfold lV La;generalize c64 a x=p at *;generalize c64 b y=q at *;generalize c64 c z=r at *
 (repeat split)<;>omega
theorem JP(a b c x y z:Int):lV a b c x y z=0↔a=x/\b=y/\c=z:=by
 have h2:=fP a x;have h4:=fP b y;have h5:=fP c z;unfold lV La;generalize c64 a x=p at *;generalize c64 b y=q at *;generalize c64 c z=r at *
 (repeat split)<;>omega
theorem kR(s t:Tm):dH s t=true↔s.1.1<t.1.1\/(s.1.1=t.1.1/\(s.1.2.1<t.1.2.1\/(s.1.2.1=t.1.2.1/\s.1.2.2<t.1.2.2))):=by
 unfold dH Ah;rw[decide_eq_true_iff];exact qE _ _ _ _ _ _
theorem Ab(s t:Tm):dH s t=false↔¬(s.1.1<t.1.1\/(s.1.1=t.1.1/\(s.1.2.1<t.1.2.1\/(s.1.2.1=t.1.2.1/\s.1.2.2<t.1.2.2)))):=by
 rw[<-kR,Bool.not_eq_true]
theorem oQ:rO au dH where
 refl a:=by rw[jc];omega
 trans a b c h1 h2:=by rw[jc]at *;omega
 XY a b h1 h2:=by
  rw[jc]at *;exact FI (by omega) (by omega) (by omega)
 p9 a:=by rw[Ab];omega
 tr a b c h1 h2:=by rw[kR]at *;omega
 tot a b hne h:=by
  rw[Ab]at h;rw[kR];have:¬(a.1.1=b.1.1/\a.1.2.1=b.1.2.1/\a.1.2.2=b.1.2.2):=fun e=>hne (FI e.1 e.2.1 e.2.2);omega
theorem U6:(match Tryz.prog.underlying 45 with|some (.array _ _)|some (.struct _)=>true|_=>false)=true:=by kernel_rfl
theorem T9:(45:TypeId)<Tryz.prog.types.size:=of_decide_eq_true (by kernel_rfl)
theorem NH:WideMaps.KeyLaw Tryz.prog 45:=deep_law_laid laidOut (m:=3) (by omega) T9 (by kernel_rfl) U6
theorem oL:Tryz.prog.cellsOf 45=3:=by kernel_rfl
theorem xP:Tryz.prog.cellsOf 43=1:=by kernel_rfl
theorem NN:Tryz.prog.keyType 45=true:=by kernel_rfl
theorem jR{q:IntKind}(hu:Tryz.prog.underlying t=some (.int q))(d:Nat)(n:Int)(h:(Lit.int q n).wf=true):Tryz.prog.keyLits (d+1) t [.int q n]=some [.int q n]:=by
 unfold Program.keyLits;simp only[hu];simp[h]
theorem iC{q:IntKind}(hu:Tryz.prog.underlying t=some (.int q))(d:Nat){x:Value}{ls:List Lit}(h:Tryz.prog.keyLits (d+1) t [x]=some ls):∃n,x= .int q n/\(Lit.int q n).wf=true/\ls=[.int q n]:=by
 unfold Program.keyLits at h;simp only[hu]at h;split at h<;>simp_all
theorem wU(d:Nat)(x y z:Value):Tryz.prog.keyLits (d+2) 45 [x,y,z]=(do let a <-Tryz.prog.keyLits (d+1) 43 [x];let b <-Tryz.prog.keyLits (d+1) 43 [y];let c <-Tryz.prog.keyLits (d+1) 43 [z];pure (a++(b++c))):=by
 conv=>lhs;unfold Program.keyLits
 simp only[Tryz.underlying45,oL];simp[xP];cases Tryz.prog.keyLits (d+1) 43 [x]<;>cases Tryz.prog.keyLits (d+1) 43 [y]<;>cases Tryz.prog.keyLits (d+1) 43 [z]<;>simp
theorem MG:∃d,Tryz.prog.types.size+1=d+2:=⟨Tryz.prog.types.size-1,by have h:(45:Nat)<Tryz.prog.types.size:=T9;omega⟩
theorem Jh(p:Tm):keyOf Tryz.prog 45 (tv p)=some (.string (keyBytes [.int .u64 p.1.1, .int .u64 p.1.2.1, .int .u64 p.1.2.2])):=by
 obtain⟨d,hd⟩:=MG;have h1:=jR Tryz.underlying43 d p.1.1 p.2.1;have h2:=jR Tryz.underlying43 d p.1.2.1 p.2.2.1;have h3:=jR Tryz.underlying43 d p.1.2.2 p.2.2.2;have hf:(tv p).formed Tryz.prog 45=true:=by simp[Value.formed,Tryz.underlying45,oL]
 unfold keyOf;rw[Tryz.underlying45];simp only[NN,hf,Bool.and_self,if_true,hd];simp only[Value.cells,wU,h1,h2,h3];simp
theorem ZB(v:Value)(l:Lit)(h:keyOf Tryz.prog 45 v=some l):∃p:Tm,v=tv p:=by
 obtain⟨d,hd⟩:=MG;unfold keyOf at h;rw[Tryz.underlying45]at h;simp only[NN,Bool.true_and]at h;split at h
 ·next hf=>
  cases v<;>simp[Value.formed,Tryz.underlying45,oL]at hf
  next cs=>
  obtain⟨cs⟩:=cs
  match cs,hf with
  | [x,y,z],_=>
   simp only[Value.cells,hd,wU]at h;cases h1:Tryz.prog.keyLits (d+1) 43 [x]with
   | none => simp[h1]at h
   | some a=>
    cases h2:Tryz.prog.keyLits (d+1) 43 [y]with
    | none => simp[h1,h2]at h
    | some b=>
     cases h3:Tryz.prog.keyLits (d+1) 43 [z]with
     | none => simp[h1,h2,h3]at h
     | some c=>
      obtain⟨n1,rfl,w1,_⟩:=iC Tryz.underlying43 d h1;obtain⟨n2,rfl,w2,_⟩:=iC Tryz.underlying43 d h2;obtain⟨n3,rfl,w3,_⟩:=iC Tryz.underlying43 d h3;exact⟨⟨(n1,n2,n3),w1,w2,w3⟩,rfl⟩
 ·cases h
def ZT:KK Tryz.prog 45 Tm where
 enc:=tv
 lit p:= .string (keyBytes [.int .u64 p.1.1, .int .u64 p.1.2.1, .int .u64 p.1.2.2])
 law:=Keyed.of_law NH
 key:=Jh
 inv v l h:=by
  obtain⟨p,rfl⟩:=ZB v l h;rw[Jh p]at h;exact⟨p,rfl,(oJ h).symm⟩
 inj p q h:=by
  have e:=NH.inj (Jh p) ((Jh q).trans (congrArg some h.symm));obtain⟨⟨a,b,c⟩,_⟩:=p;obtain⟨⟨a',b',c'⟩,_⟩:=q;simp at e;obtain⟨rfl,rfl,rfl⟩:=e;rfl
abbrev fv(f:Nat):Value:= .func (.func f) #[] #[]
structure dW(f:Nat)(r:Tm->Tm->Bool):Prop where
 enter:∀args w,(callFunc f args).run Tryz.prog w= .ok (.enter f args) w
 calls:∀(a b:Tm) (W:World),Calls Tryz.prog f #[tv a,tv b] W fun e w'=>e= .returned (.bool (r a b))/\Gr W w'
theorem fD:dW 18 au:=
 ⟨enters_of Tryz.func18 (by kernel_rfl) rfl,fun a b W=>sZ _ _ _ _ _ _ W⟩
theorem jJ:dW 106 dH:=by
 refine⟨enters_of Tryz.func106 (by kernel_rfl) rfl,fun a b W=> ?_⟩;have h:=fun W=>gG a.1.1 a.1.2.1 a.1.2.2 b.1.1 b.1.2.1 b.1.2.2 W;unfold dH;rw[show lV a.1.1 a.1.2.1 a.1.2.2 b.1.1 b.1.2.1 b.1.2.2=Ah a b from rfl]at h;generalize Ah a b=r at h⊢;go_enter Tryz.func106,Tryz.ntmps106;go_wp2_with fail;refine(h _).mono ?_;rintro e w' ⟨rfl,hg⟩;go_wp2;go_ret;exact⟨rfl,(((Gr.refl _).alloc _).alloc _).trans hg⟩
end
namespace Cz
open Go.RowKit Go.Sort
attribute[local go_sem ↓]wp_at_zero wp_at_succ
structure Num where
 c1:Nat
 p1:Nat
 s1:Nat
 cf:Nat
 xf:Nat
 cv:Nat
 pl:Nat
 st:Nat
 pt:Nat
 is:Nat
 t1:Nat
 t2:Nat
 t3:Nat
 t4:Nat
abbrev nm:Bool->Num
 | true => ⟨154,280,279,153,213,91,255,252,256,207,45,39,257,177⟩
 | false => ⟨193,250,248,192,249,131,190,189,191,128,52,50,297,218⟩
theorem Gf(z:Bool):Tryz.prog.underlying (nm z).t2=some (.slice (nm z).t1):=by
 cases z
 ·exact Tryz.underlying50
 ·exact Tryz.underlying39
theorem I5(z:Bool):(Tryz.prog.info? (nm z).t1).map (fun i=>(i.zero,i.size,i.bytes))=some (some (.agg #[.int .u64 0, .int .u64 0, .int .u64 0]),3,24):=by
 cases z
 ·kernel_rfl
 ·kernel_rfl
theorem AZ(z:Bool):(∀args w,(callFunc (nm z).c1 args).run Tryz.prog w= .ok (.enter (nm z).c1 args) w)/\(∀args w,(callFunc (nm z).p1 args).run Tryz.prog w= .ok (.enter (nm z).p1 args) w)/\(∀args w,(callFunc (nm z).s1 args).run Tryz.prog w= .ok (.enter (nm z).s1 args) w):=by
 cases z
 ·exact⟨enters_of Tryz.func193 (by kernel_rfl) rfl,enters_of Tryz.func250 (by kernel_rfl) rfl,enters_of Tryz.func248 (by kernel_rfl) rfl⟩
 ·exact⟨enters_of Tryz.func154 (by kernel_rfl) rfl,enters_of Tryz.func280 (by kernel_rfl) rfl,enters_of Tryz.func279 (by kernel_rfl) rfl⟩
theorem Eg(z:Bool)(fb:Nat)(au:Tm->Tm->Bool)(hF:dW fb au)(x v:Tm)(B1 B2 cb:Nat)(w:World)(h1:B1<w.heap.size)(h2:B2<w.heap.size)(hc:cb<w.heap.size)
    (c1:w.cell? ⟨B1,0,none⟩=some (.pointer (some ⟨cb,0,none⟩))) (c20:w.cell? ⟨B2,0,none⟩=some (.int .u64 v.1.1)) (c21:w.cell? ⟨B2,1,none⟩=some (.int .u64 v.1.2.1)) (UG:w.cell? ⟨B2,2,none⟩=some (.int .u64 v.1.2.2)) (cf:w.cell? ⟨cb,0,none⟩=some (fv fb)) :
    Calls Tryz.prog (nm z).c1 #[tv x, .pointer (some ⟨B1,0,none⟩), .pointer (some ⟨B2,0,none⟩)] w fun e w'=>e= .returned (.bool (au x v))/\Gr w w':=by
 let zq:=z
 rcases Bool.eq_false_or_eq_true z with rfl|rfl;all_goals
  (try dsimp only[nm])
  have he:=hF.enter;have hcall:=hF.calls x v;generalize au x v=r at hcall⊢;have hm:Tryz.prog.follows .mixedOrders=true:=by kernel_rfl
  obtain⟨W1,hW1⟩:=aD (w.alloc (.cells #[.int .u64 x.1.1, .int .u64 x.1.2.1, .int .u64 x.1.2.2] (nm zq).t1));dsimp only[nm,zq]at hW1;have G1:Gr w W1:=by rw[hW1];exact(Gr.refl _).alloc _
  have hz:w.heap.size<W1.heap.size:=by rw[hW1];simp
  obtain⟨nb,hnb⟩:=aD (w.heap.size);have k1:=cell_grown (a:=⟨B1,0,none⟩) (nU h1 hz) ((G1.cell h1).trans c1);have k2:=cell_grown (a:=⟨B2,0,none⟩) (nU h2 hz) ((G1.cell h2).trans c20);have k3:=cell_grown (a:=⟨B2,1,none⟩) (nU h2 hz) ((G1.cell h2).trans c21);have k3b:=cell_grown (a:=⟨B2,2,none⟩) (nU h2 hz) ((G1.cell h2).trans UG);have k4:=cell_grown (a:=⟨cb,0,none⟩) (nU hc hz) ((G1.cell hc).trans cf);have k5:=cell_grown (w:=W1) (a:=⟨nb,0,none⟩) (v:= .int .u64 x.1.1) (by rw[hnb];exact hz) (by rw[hW1,hnb];simp);have k6:=cell_grown (w:=W1) (a:=⟨nb,1,none⟩) (v:= .int .u64 x.1.2.1) (by rw[hnb];exact hz) (by rw[hW1,hnb];simp);have k7:=cell_grown (w:=W1) (a:=⟨nb,2,none⟩) (v:= .int .u64 x.1.2.2) (by rw[hnb];exact hz) (by rw[hW1,hnb];simp);first|go_enter Tryz.func154,Tryz.ntmps154|go_enter Tryz.func193,Tryz.ntmps193
  go_wp2_with fail;rw[<-hW1,<-hnb];clear hW1 hnb c1 c20 c21 UG cf;go_quiet_grown (first|(go_at_fn fb;refine Calls.grown_of (v:= .bool r) (hcall _)));go_wp2;go_ret;exact⟨rfl,(G1.drewN _).grown _⟩
theorem Ak(z:Bool)(fb:Nat)(au:Tm->Tm->Bool)(hF:dW fb au)(x v:Tm)(B1 B2 cb:Nat)(w:World)(h1:B1<w.heap.size)(h2:B2<w.heap.size)(hc:cb<w.heap.size)
    (c1:w.cell? ⟨B1,0,none⟩=some (.pointer (some ⟨cb,0,none⟩))) (c20:w.cell? ⟨B2,0,none⟩=some (.int .u64 v.1.1)) (c21:w.cell? ⟨B2,1,none⟩=some (.int .u64 v.1.2.1)) (UG:w.cell? ⟨B2,2,none⟩=some (.int .u64 v.1.2.2)) (cf:w.cell? ⟨cb,0,none⟩=some (fv fb)) :
    Calls Tryz.prog (nm z).s1 #[tv x, .pointer (some ⟨B1,0,none⟩), .pointer (some ⟨B2,0,none⟩)] w fun e w'=>e= .returned (.bool (au v x))/\Gr w w':=by
 let zq:=z
 rcases Bool.eq_false_or_eq_true z with rfl|rfl;all_goals
  (try dsimp only[nm])
  have he:=hF.enter;have hcall:=hF.calls v x;generalize au v x=r at hcall⊢;have hm:Tryz.prog.follows .mixedOrders=true:=by kernel_rfl
  obtain⟨W1,hW1⟩:=aD (w.alloc (.cells #[.int .u64 x.1.1, .int .u64 x.1.2.1, .int .u64 x.1.2.2] (nm zq).t1));dsimp only[nm,zq]at hW1;have G1:Gr w W1:=by rw[hW1];exact(Gr.refl _).alloc _
  have hz:w.heap.size<W1.heap.size:=by rw[hW1];simp
  obtain⟨nb,hnb⟩:=aD (w.heap.size);have k1:=cell_grown (a:=⟨B1,0,none⟩) (nU h1 hz) ((G1.cell h1).trans c1);have k2:=cell_grown (a:=⟨B2,0,none⟩) (nU h2 hz) ((G1.cell h2).trans c20);have k3:=cell_grown (a:=⟨B2,1,none⟩) (nU h2 hz) ((G1.cell h2).trans c21);have k3b:=cell_grown (a:=⟨B2,2,none⟩) (nU h2 hz) ((G1.cell h2).trans UG);have k4:=cell_grown (a:=⟨cb,0,none⟩) (nU hc hz) ((G1.cell hc).trans cf);have k5:=cell_grown (w:=W1) (a:=⟨nb,0,none⟩) (v:= .int .u64 x.1.1) (by rw[hnb];exact hz) (by rw[hW1,hnb];simp);have k6:=cell_grown (w:=W1) (a:=⟨nb,1,none⟩) (v:= .int .u64 x.1.2.1) (by rw[hnb];exact hz) (by rw[hW1,hnb];simp);have k7:=cell_grown (w:=W1) (a:=⟨nb,2,none⟩) (v:= .int .u64 x.1.2.2) (by rw[hnb];exact hz) (by rw[hW1,hnb];simp);first|go_enter Tryz.func279,Tryz.ntmps279|go_enter Tryz.func248,Tryz.ntmps248
  go_wp2_with fail;rw[<-hW1,<-hnb];clear hW1 hnb c1 c20 c21 UG cf;go_quiet_grown (first|(go_at_fn fb;refine Calls.grown_of (v:= .bool r) (hcall _)));go_wp2;go_ret;exact⟨rfl,(G1.drewN _).grown _⟩
theorem F4(z:Bool)(fb:Nat)(au:Tm->Tm->Bool)(hF:dW fb au)(x v:Tm)(B1 B2 cb:Nat)(w:World)(h1:B1<w.heap.size)(h2:B2<w.heap.size)(hc:cb<w.heap.size)
    (c1:w.cell? ⟨B1,0,none⟩=some (.pointer (some ⟨cb,0,none⟩))) (c20:w.cell? ⟨B2,0,none⟩=some (.int .u64 v.1.1)) (c21:w.cell? ⟨B2,1,none⟩=some (.int .u64 v.1.2.1)) (UG:w.cell? ⟨B2,2,none⟩=some (.int .u64 v.1.2.2)) (cf:w.cell? ⟨cb,1,none⟩=some (fv fb)) :
    Calls Tryz.prog (nm z).p1 #[tv x, .pointer (some ⟨B1,0,none⟩), .pointer (some ⟨B2,0,none⟩)] w fun e w'=>e= .returned (.bool (au v x))/\Gr w w':=by
 let zq:=z
 rcases Bool.eq_false_or_eq_true z with rfl|rfl;all_goals
  (try dsimp only[nm])
  have he:=hF.enter;have hcall:=hF.calls v x;generalize au v x=r at hcall⊢;have hm:Tryz.prog.follows .mixedOrders=true:=by kernel_rfl
  obtain⟨W1,hW1⟩:=aD (w.alloc (.cells #[.int .u64 x.1.1, .int .u64 x.1.2.1, .int .u64 x.1.2.2] (nm zq).t1));dsimp only[nm,zq]at hW1;have G1:Gr w W1:=by rw[hW1];exact(Gr.refl _).alloc _
  have hz:w.heap.size<W1.heap.size:=by rw[hW1];simp
  obtain⟨nb,hnb⟩:=aD (w.heap.size);have k1:=cell_grown (a:=⟨B1,0,none⟩) (nU h1 hz) ((G1.cell h1).trans c1);have k2:=cell_grown (a:=⟨B2,0,none⟩) (nU h2 hz) ((G1.cell h2).trans c20);have k3:=cell_grown (a:=⟨B2,1,none⟩) (nU h2 hz) ((G1.cell h2).trans c21);have k3b:=cell_grown (a:=⟨B2,2,none⟩) (nU h2 hz) ((G1.cell h2).trans UG);have k4:=cell_grown (a:=⟨cb,1,none⟩) (nU hc hz) ((G1.cell hc).trans cf);have k5:=cell_grown (w:=W1) (a:=⟨nb,0,none⟩) (v:= .int .u64 x.1.1) (by rw[hnb];exact hz) (by rw[hW1,hnb];simp);have k6:=cell_grown (w:=W1) (a:=⟨nb,1,none⟩) (v:= .int .u64 x.1.2.1) (by rw[hnb];exact hz) (by rw[hW1,hnb];simp);have k7:=cell_grown (w:=W1) (a:=⟨nb,2,none⟩) (v:= .int .u64 x.1.2.2) (by rw[hnb];exact hz) (by rw[hW1,hnb];simp);first|go_enter Tryz.func280,Tryz.ntmps280|go_enter Tryz.func250,Tryz.ntmps250
  go_wp2_with fail;rw[<-hW1,<-hnb];clear hW1 hnb c1 c20 c21 UG cf;go_quiet_grown (first|(go_at_fn fb;refine Calls.grown_of (v:= .bool r) (hcall _)));go_wp2;go_ret;exact⟨rfl,(G1.drewN _).grown _⟩
def xV(g:Nat)(lb:Array Value)(p:Tm->Bool)(w:World):Prop:=∀(W:World) (x:Tm),Gr w W->Calls Tryz.prog g (#[tv x]++lb) W fun e w'=>e= .returned (.bool (p x))/\Gr W w'
def ic(p:Tm->Bool)(l:List Tm):Int:=if l.findIdx p<l.length then(l.findIdx p:Int)else -1
theorem Dx{p:Tm->Bool}{l:List Tm}{k:Nat}{x:Tm}(hx:l[k]? =some x)(hp:p x=true)(hn:∀j y,j<k->l[j]? =some y->p y=false):ic p l=(k:Int):=by
 obtain⟨hk,rfl⟩:=lG.1 hx;have:l.findIdx p=k:=by
  rw[List.findIdx_eq hk];exact⟨hp,fun j hj=>by simpa using hn j _ hj (qw (nU hj hk))⟩
 unfold ic;rw[this,if_pos hk]
theorem zF{p:Tm->Bool}{l:List Tm}(hn:∀j y,j<l.length->l[j]? =some y->p y=false):ic p l= -1:=by
 have:l.findIdx p=l.length:=by
  rw[List.findIdx_eq_length];intro x hx;obtain⟨j,hj⟩:=iG.1 hx;exact hn j x (lG.1 hj).1 hj
 unfold ic;rw[this,if_neg (Nat.lt_irrefl _)]
theorem Dw(p:Tm->Bool)(l:List Tm):decide (0<=ic p l)=l.any p:=by
 unfold ic;by_cases h:l.findIdx p<l.length
 ·rw[if_pos h];have:l.any p=true:=by
   rw[List.findIdx_lt_length]at h;simpa using h
  rw[this];simp
 ·rw[if_neg h];have:l.any p=false:=by
   rw[List.findIdx_lt_length]at h;simpa using h
  rw[this];simp
theorem iq(z:Bool)(v:Value)(l:List Tm)(g:Nat)(lb:Array Value)(p:Tm->Bool)(w:World)(hv:nK w v l)(hl:l.length<=maxLen)(eg:∀args w,(callFunc g args).run Tryz.prog w= .ok (.enter g args) w)(hp:xV g lb p w):
    Calls Tryz.prog (nm z).xf #[v, .func (.func g) #[] lb] w fun e w'=>e= .returned (.int .i64 (ic p l))/\Gr w w':=by
 let zq:=z
 rcases Bool.eq_false_or_eq_true z with rfl|rfl;all_goals
  (try dsimp only[nm])
  unfold maxLen at hl;obtain⟨pl,cl,rfl⟩:=hv.form;have HL:Hid (nK w (.slice pl l.length cl) l):=hv;have HP:Hid (xV g lb p w):=hp;clear hv hp;obtain⟨r,hr⟩:=aD (ic p l);rw[<-hr];have HRR:Hid (r=ic p l):=hr;clear hr;first|go_enter Tryz.func213,Tryz.ntmps213|go_enter Tryz.func249,Tryz.ntmps249
  go_wp2_with fail;go_loopw [5,8] (fun s5 s8 wr=>∃k:Nat,k<=l.length/\s8= .int .i64 k/\Gr w wr/\Hid (∀j y,j<k->l[j]? =some y->p y=false)) (fun _ s8 _=>l.length-(intOf s8).toNat);case atStart=>exact⟨0,zL _,rfl,Gr.refl _,fun j _ hj=>absurd hj (nW _)⟩
  case round=>
   obtain⟨k,hk,rfl,hgr,A⟩:=hrel;by_cases hlt:k<l.length
   ·have hltz:(k:Int)<(l.length:Int):=(by omega);obtain⟨x,hx⟩:∃x,l[k]? =some x:=⟨l[k],by simp⟩;obtain⟨b1,o1,c1,e1,z1,x1,x2,x3⟩:=(HL.o.below hgr.below).at3 hx;simp only[vS]at e1;obtain⟨rfl,-,rfl⟩:=e1;have HX:Hid (l[k]? =some x):=hx;clear hx;have hcall:=HP.o wr x hgr;cases hq:p x with
    | true=>
     rw[hq]at hcall;go_wp2_with (go_at_fn g;refine hcall.mono ?_;rintro e w' ⟨rfl,hb'⟩);go_ret;exact⟨by rw[HRR.o,Dx HX.o hq A.o];rfl,hgr.trans hb'⟩
    | false=>
     rw[hq]at hcall;go_wp2_with (go_at_fn g;refine hcall.mono ?_;rintro e w' ⟨rfl,hb'⟩);refine⟨⟨k+1,by omega,by go_num,hgr.trans hb',fun j y hj hy=> ?_⟩,by simp[intOf];omega⟩;by_cases e:j=k
     ·subst e;have:=HX.o;rw[hy]at this;cases this;exact hq
     ·exact A.o j y (by omega) hy
   ·have hltz:¬(k:Int)<(l.length:Int):=(by omega);have hk':k=l.length:=(by omega);subst hk';go_wp2;go_ret;exact⟨by rw[HRR.o,zF A.o];rfl,hgr⟩
theorem kH(z:Bool)(v:Value)(l:List Tm)(g:Nat)(lb:Array Value)(p:Tm->Bool)(w:World)(hv:nK w v l)(hl:l.length<=maxLen)(eg:∀args w,(callFunc g args).run Tryz.prog w= .ok (.enter g args) w)(hp:xV g lb p w):
    Calls Tryz.prog (nm z).cf #[v, .func (.func g) #[] lb] w fun e w'=>e= .returned (.bool (l.any p))/\Gr w w':=by
 let zq:=z
 rcases Bool.eq_false_or_eq_true z with rfl|rfl;all_goals
  (try dsimp only[nm])
  have h:=iq zq v l g lb p w hv hl eg hp;rw[<-Dw];generalize ic p l=r at h⊢;first|go_enter Tryz.func153,Tryz.ntmps153|go_enter Tryz.func192,Tryz.ntmps192
  go_wp2_with fail;refine h.mono ?_;rintro e w1 ⟨rfl,hg⟩;go_wp2;go_ret;exact⟨by first|rfl|simp,hg⟩
structure Ch(z:Bool)(w:World)(cb fb ff:Nat)(v:Value)(l:List Tm):Prop where
 blk:w.heap[cb]? =some (.cells #[fv fb,fv ff,v] (nm z).t3 (0,0))
 own:w.ownsRow 0 (nm z).t1 3 v l.length (eG l)
 off:v.ownBlock≠some cb
section
variable {w w':World} {cb fb ff:Nat} {v:Value} {l:List Tm}
theorem Ch.lt(h:Ch z w cb fb ff v l):cb<w.heap.size:=(aG.1 h.blk).1
theorem Ch.c0(h:Ch z w cb fb ff v l):w.cell? ⟨cb,0,none⟩=some (fv fb):=by simp[World.cell?,h.blk]
theorem Ch.c1(h:Ch z w cb fb ff v l):w.cell? ⟨cb,1,none⟩=some (fv ff):=by simp[World.cell?,h.blk]
theorem Ch.c2(h:Ch z w cb fb ff v l):w.cell? ⟨cb,2,none⟩=some v:=by simp[World.cell?,h.blk]
theorem Ch.qy(h:Ch z w cb fb ff v l):nK w v l:=dC h.own
theorem Ch.row(h:Ch z w cb fb ff v l):∀k,v.ownBlock=some k->k<w.heap.size:=fun k hk=>(h.own.lt k hk).2
theorem Ch.kp{S:Nat->Prop}(h:Ch z w cb fb ff v l)(hk:Kp S w w')(h1:¬S cb)(h2:∀k,v.ownBlock=some k->¬S k):Ch z w' cb fb ff v l:=
 ⟨(hk.block cb h.lt h1).trans h.blk,ax hk h.own h2,h.off⟩
theorem Ch.below(h:Ch z w cb fb ff v l)(hb:Below w.heap.size w w'):Ch z w' cb fb ff v l:=h.kp (S:=fun _=>False) (Kp.of_below hb) (fun h=>h) (fun _ _ h=>h)
end
def dS(cb:Nat)(v v':Value)(w w':World):Prop:=Kp (fun k=>k=cb\/v.ownBlock=some k) w w'/\∀g,v'.ownBlock=some g->v.ownBlock=some g\/w.heap.size<=g
theorem dS.refl(cb:Nat)(v:Value)(w:World):dS cb v v w w:=⟨Kp.refl _ _,fun _ h=>Or.inl h⟩
theorem dS.of_below{w':World}(h:Below w.heap.size w w'):dS cb v v w w':=⟨Kp.of_below h,fun _ h=>Or.inl h⟩
theorem dS.trans{v1 v2 v3:Value}{a b c:World}(h:dS cb v1 v2 a b)(k:dS cb v2 v3 b c):dS cb v1 v3 a c:=by
 refine⟨h.1.trans k.1 fun j hj hs=> ?_,fun g hg=> ?_⟩
 ·rcases hs with hs|hs
  ·exact Or.inl hs
  ·rcases h.2 j hs with h1|h1
   ·exact Or.inr h1
   ·exact absurd h1 (Nat.not_le.2 hj)
 ·rcases k.2 g hg with h1|h1
  ·exact h.2 g h1
  ·exact Or.inr (nT h.1.size h1)
end Cz
section
open Go.RowKit Go.Sort
def ku(a b c x y z:Nat):Bool:=decide (a+x<18446744073709551616)&&(decide (b+y<18446744073709551616)&&decide (c+z<18446744073709551616))
def FZ(ok:Bool)(s:Nat):Nat:=if ok then s else 0
theorem j5(a x:Nat)(h:a+x<18446744073709551616):IntKind.u64.wrap ((x:Int)+a)=((a+x:Nat):Int):=by
 simp[IntKind.wrap,IntKind.signed,IntKind.bits];omega
theorem rW(a x:Nat)(ha:a<18446744073709551616)(hx:x<18446744073709551616)(h:¬a+x<18446744073709551616):IntKind.u64.wrap ((x:Int)+a)<x:=by
 simp[IntKind.wrap,IntKind.signed,IntKind.bits];omega
theorem Ij(a b c x y z:Nat)(w:World)(ha:a<18446744073709551616)(hb:b<18446744073709551616)(hc:c<18446744073709551616)(hx:x<18446744073709551616)(hy:y<18446744073709551616)(hz:z<18446744073709551616):
    Calls Tryz.prog 15 #[.agg #[.int .u64 a, .int .u64 b, .int .u64 c], .agg #[.int .u64 x, .int .u64 y, .int .u64 z]] w fun e w'=>
     e= .returned (.tuple #[.agg #[.int .u64 (FZ (ku a b c x y z) (a+x):Nat), .int .u64 (FZ (ku a b c x y z) (b+y):Nat), .int .u64 (FZ (ku a b c x y z) (c+z):Nat)], .bool (ku a b c x y z)])/\Below w.heap.size w w':=by
 have hA:=fun p q r W=>sZ x y z p q r W;cases hp:ku a b c x y z
 ·have ht:FJ x y z (IntKind.u64.wrap ((x:Int)+a)) (IntKind.u64.wrap ((y:Int)+b)) (IntKind.u64.wrap ((z:Int)+c))=false:=by
    rw[<-Bool.not_eq_true,FJ];simp only[bA,decide_eq_true_iff];intro ⟨h1,h2,h3⟩;have e1:a+x<18446744073709551616:=Classical.byContradiction fun h=>(by have:=rW a x ha hx h;omega);have e2:b+y<18446744073709551616:=Classical.byContradiction fun h=>(by have:=rW b y hb hy h;omega);have e3:c+z<18446744073709551616:=Classical.byContradiction fun h=>(by have:=rW c z hc hz h;omega);simp[ku,e1,e2,e3]at hp
  simp only[FZ,Bool.false_eq_true,if_false];clear ha hb hc hx hy hz hp;go_enter Tryz.func15,Tryz.ntmps15;go_wp2_with (go_at_call 18;refine(hA _ _ _ _).mono ?_;rintro e w1 ⟨rfl,hg1⟩;rw[ht];obtain⟨hc1,hf1⟩:=hg1.cells;have hz1:w.heap.size+2<w1.heap.size:=by { have:=hg1.size;simp at this;omega });refine bR (v:= .tuple #[.agg #[.int .u64 0, .int .u64 0, .int .u64 0], .bool false]) (by simp[results,Tryz.results15,go_sem, *]) rfl ⟨rfl, ?_⟩;have hB:Below w.heap.size w w1:=((((((Gr.refl _).alloc _).alloc _).alloc _).alloc _).trans hg1).below;have k:w.heap.size<=w.heap.size+1+1:=by omega
  exact((hB.setCell (p:=⟨w.heap.size+1+1,0,none⟩) k _).setCell (p:=⟨w.heap.size+1+1,1,none⟩) k _).setCell (p:=⟨w.heap.size+1+1,2,none⟩) k _
 ·have e1:a+x<18446744073709551616:=by simp[ku]at hp;omega
  have e2:b+y<18446744073709551616:=by simp[ku]at hp;omega
  have e3:c+z<18446744073709551616:=by simp[ku]at hp;omega
  have ht:FJ x y z (IntKind.u64.wrap ((x:Int)+a)) (IntKind.u64.wrap ((y:Int)+b)) (IntKind.u64.wrap ((z:Int)+c))=true:=by
   rw[j5 a x e1,j5 b y e2,j5 c z e3];simp[FJ];omega
  have ht1:FJ x y z ((a+x:Nat):Int) ((b+y:Nat):Int) ((c+z:Nat):Int)=true:=by simp[FJ];omega
  have ht2:FJ x y z ((a:Int)+x) ((b:Int)+y) ((c:Int)+z)=true:=by simp[FJ];omega
  have s1:=j5 a x e1;have s2:=j5 b y e2;have s3:=j5 c z e3;simp only[FZ,if_true];clear ha hb hc hx hy hz hp e1 e2 e3;go_enter Tryz.func15,Tryz.ntmps15;go_wp2_with (go_at_call 18;refine(hA _ _ _ _).mono ?_;rintro e w1 ⟨rfl,hg1⟩;first|rw[ht]|rw[ht1]|rw[ht2];obtain⟨hc1,hf1⟩:=hg1.cells;have hz1:w.heap.size+2<w1.heap.size:=by { have:=hg1.size;simp at this;omega });refine bR (v:= .tuple #[.agg #[.int .u64 (a+x:Nat), .int .u64 (b+y:Nat), .int .u64 (c+z:Nat)], .bool true]) (by simp[results,Tryz.results15,go_sem, *]) rfl ⟨rfl, ?_⟩;have hB:Below w.heap.size w w1:=((((((Gr.refl _).alloc _).alloc _).alloc _).alloc _).trans hg1).below;have k:w.heap.size<=w.heap.size+1+1:=by omega
  exact((hB.setCell (p:=⟨w.heap.size+1+1,0,none⟩) k _).setCell (p:=⟨w.heap.size+1+1,1,none⟩) k _).setCell (p:=⟨w.heap.size+1+1,2,none⟩) k _
theorem PK(a b c x y z:Nat)(w:World)(ha:a<18446744073709551616)(hb:b<18446744073709551616)(hc:c<18446744073709551616)(hx:x<18446744073709551616)(hy:y<18446744073709551616)(hz:z<18446744073709551616):
    Calls Tryz.prog 130 #[.agg #[.int .u64 a, .int .u64 b, .int .u64 c], .agg #[.int .u64 x, .int .u64 y, .int .u64 z]] w fun e w'=>
     e= .returned (.tuple #[.agg #[.int .u64 (FZ (ku a b c x y z) (a+x):Nat), .int .u64 (FZ (ku a b c x y z) (b+y):Nat), .int .u64 (FZ (ku a b c x y z) (c+z):Nat)], .bool (ku a b c x y z)])/\Below w.heap.size w w':=by
 have hO:=fun W=>Ij a b c x y z W ha hb hc hx hy hz;generalize FZ (ku a b c x y z) (a+x)=s1 at *;generalize FZ (ku a b c x y z) (b+y)=s2 at *;generalize FZ (ku a b c x y z) (c+z)=s3 at *;generalize ku a b c x y z=ok at *;clear ha hb hc hx hy hz;go_enter Tryz.func130,Tryz.ntmps130;go_wp2_with (go_at_call 15;refine(hO _).mono ?_;rintro e w1 ⟨rfl,hb1⟩;obtain⟨hc1,hf1⟩:=Er hb1;have hz1:w.heap.size+2<w1.heap.size:=by { have:=hb1.size;simp at this;omega };have hz2:w.heap.size+1+1<w1.heap.size:=by omega);refine bR (v:= .tuple #[.agg #[.int .u64 s1, .int .u64 s2, .int .u64 s3], .bool ok]) (by simp[results,Tryz.results130,go_sem, *]) rfl ⟨rfl, ?_⟩;have hB:Below w.heap.size w w1:=((((Gr.refl _).alloc _).alloc _).alloc _).below.trans (hb1.mono (by simp;omega));have k:w.heap.size<=w.heap.size+1+1:=by omega
 have hq:=((hB.setCell (p:=⟨w.heap.size+1+1,0,none⟩) k (.int .u64 s1)).setCell (p:=⟨w.heap.size+1+1,1,none⟩) k (.int .u64 s2)).setCell (p:=⟨w.heap.size+1+1,2,none⟩) k (.int .u64 s3);exact hq.alloc hq.size _
theorem wG(a b c x y z:Int)(w:World):
    Calls Tryz.prog 184 #[.agg #[.int .u64 a, .int .u64 b, .int .u64 c], .agg #[.int .u64 x, .int .u64 y, .int .u64 z]] w fun e w'=>e= .returned (.bool (FJ a b c x y z))/\Gr w w':=by
 have hA:=fun W=>sZ a b c x y z W;generalize FJ a b c x y z=p at *;go_enter Tryz.func184,Tryz.ntmps184;go_wp2_with (go_at_call 18;refine(hA _).mono ?_;rintro e w1 ⟨rfl,hg1⟩);go_ret;exact⟨rfl,(((Gr.refl _).alloc _).alloc _).trans hg1⟩
theorem AU(a b c x y z:Int)(w:World):
    Calls Tryz.prog 185 #[.agg #[.int .u64 a, .int .u64 b, .int .u64 c], .agg #[.int .u64 x, .int .u64 y, .int .u64 z]] w fun e w'=>e= .returned (.int .i64 (lV a b c x y z))/\Gr w w':=by
 have hA:=fun W=>gG a b c x y z W;generalize lV a b c x y z=p at *;go_enter Tryz.func185,Tryz.ntmps185;go_wp2_with (go_at_call 17;refine(hA _).mono ?_;rintro e w1 ⟨rfl,hg1⟩);go_ret;exact⟨rfl,(((Gr.refl _).alloc _).alloc _).trans hg1⟩
end
end Go.Proofs.YteekbpokkjjipaaGreat
