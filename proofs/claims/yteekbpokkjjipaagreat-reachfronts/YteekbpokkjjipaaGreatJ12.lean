import Derived.Test.YteekbpokkjjipaaGreatJ11
import Derived.Laws.EntriesVeiled
variable{M:Nat}{v:Go.Value}
set_option maxHeartbeats 2000000
namespace Go.Proofs.YteekbpokkjjipaaGreat
namespace Df
open Go.RowKit Go.Sort
attribute [local go_sem ↓] Go.wp_at_zero Go.wp_at_succ
theorem yV{P:Program}{α:Type}(E:El α){e sT:TypeId}{z:Value}{bt:Nat}(hu:P.underlying sT=some (.slice e))(hI:(P.info? e).map (fun i=>(i.zero,i.size,i.bytes))=some (some z,E.k,bt))(hz:z.cells.size=E.k)(hk:0<E.k)
    {w:World} {ops:Array Oper} {rest:List Oper} {o:Oper} {a:Act} {Q:Exit->Act->World->Prop} (hgd:o.guard=none) (s x:Operand) (ho:o.op= .call { callee:= .builtin .append,args:=#[s,x],argTypes:=#[sT,sT] })
    (base:Nat) (v:Value) (n:Nat) (xs:List Value) (hs:a.eval s=v) (hown:w.ownsRow base e E.k v n xs) (M:Nat)
    (v1:Value) (ts:List α) (hx:a.eval x=v1) (hv:Lz E M w v1 ts) (hbig:(n+ts.length)*bt<=140737488355328) (hmx:n+ts.length<=maxLen) (hbase:base<=w.heap.size)
    (h:∀v' w',Hid (w'.ownsRow base e E.k v' (n+ts.length) (xs++fl E ts))->Hid (w.grownBy w' v.ownBlock)->wpList P ops Q rest (a.put o.dst v') w'):wpList P ops Q (o::rest) a w:=by
 rcases hv with⟨hv,_⟩|⟨rfl,p,c,rfl⟩
 ·exact ou E hu hI hz hk hgd s x ho base v n xs hs hown v1 ts hx hv hbig hmx hbase h
 ·obtain⟨i0,hi,hz0,hz1,hz2⟩:=info_parts hI;cases p with
  | none=>
   refine wpList_plain hgd fun K hK=> ?_;have hrun:=run_append_owned_none (P:=P) (w:=w) base sT o.type e i0 E.k hu hi v n xs hown;rw[<-sP (P:=P) w sT o.type v c]at hrun;unfold Oper.wp;simp[execOp,ho,resolve,invoke,builtin,hs,hx,hrun,Result.andThen];refine hK _ _ (h _ _ (show _ from by have h5:w.ownsRow base e E.k v (n+([]:List α).length) (xs++fl E []):=(by simpa[fl]using hown);exact h5) ⟨rfl,rfl,rfl,nR _,fun _ _ _=>rfl⟩)
  | some b=>
   refine wpList_append_own _ hgd s x _ ho base e i0 _ E.k bt hu hi hz0 hz1 hz2 hz hk v n xs hs hown b 0 c [] hx (by simp) (fun j u hj=>by simp at hj) (fun u hu=>by cases hu) hmx hbig hbase ?_;intro v' w' h1 h2 _;exact h v' w' h1 h2
def Cp{α:Type}(E:El α)(T:TypeId)(w:World)(l:List α)(e:Ending)(w':World):Prop:=∃d,e= .returned d/\Below w.heap.size w w'/\w'.ownsRow w.heap.size T E.k d l.length (fl E l)
theorem yL{l:List NV}(w:World)(h:Lz EV M w v l)(hb:l.length*112<=140737488351232):Calls Tryz.prog 111 #[v] w (Cp EV 149 w l):=by
 have HL:=hid h;obtain⟨p,c,rfl⟩:=h.form;clear h;have HB:=hid hb;clear hb;generalize l.length=n at HL;go_enter Tryz.func111,Tryz.ntmps111;go_wp2_with (at_builtin;refine yV EV Tryz.underlying22 Ya rfl (by decide) rfl _ _ rfl w.heap.size _ 0 [] rfl (World.ownsRow_nil _ _ _ _) M _ l rfl HL.o (by have:=HB.o;omega) (by have:=HB.o;unfold maxLen;omega) (nR _) ?_);intro v1 w1 h1 h2;go_wp2_with fail;go_ret;refine⟨_,rfl,(Kp.grownBy (S:=fun k=>(Value.slice none 0 0).ownBlock=some k) h2.o (fun _ h=>h)).below (nR _) (fun k hk=>by simp[Value.ownBlock]at hk),aP h1.o (by simp) (by simp)⟩
theorem rz{l:List dI}(w:World)(h:Lz ED M w v l)(hb:l.length*40<=140737488351232):Calls Tryz.prog 112 #[v] w (Cp ED 151 w l):=by
 have HL:=hid h;obtain⟨p,c,rfl⟩:=h.form;clear h;have HB:=hid hb;clear hb;generalize l.length=n at HL;go_enter Tryz.func112,Tryz.ntmps112;go_wp2_with (at_builtin;refine yV ED Tryz.underlying23 Yc rfl (by decide) rfl _ _ rfl w.heap.size _ 0 [] rfl (World.ownsRow_nil _ _ _ _) M _ l rfl HL.o (by have:=HB.o;omega) (by have:=HB.o;unfold maxLen;omega) (nR _) ?_);intro v1 w1 h1 h2;go_wp2_with fail;go_ret;refine⟨_,rfl,(Kp.grownBy (S:=fun k=>(Value.slice none 0 0).ownBlock=some k) h2.o (fun _ h=>h)).below (nR _) (fun k hk=>by simp[Value.ownBlock]at hk),aP h1.o (by simp) (by simp)⟩
theorem JR{l:List Xj}(w:World)(h:Lz EO M w v l)(hb:l.length*16<=140737488351232):Calls Tryz.prog 113 #[v] w (Cp EO 202 w l):=by
 have HL:=hid h;obtain⟨p,c,rfl⟩:=h.form;clear h;have HB:=hid hb;clear hb;generalize l.length=n at HL;go_enter Tryz.func113,Tryz.ntmps113;go_wp2_with (at_builtin;refine yV EO Tryz.underlying146 Yb rfl (by decide) rfl _ _ rfl w.heap.size _ 0 [] rfl (World.ownsRow_nil _ _ _ _) M _ l rfl HL.o (by have:=HB.o;omega) (by have:=HB.o;unfold maxLen;omega) (nR _) ?_);intro v1 w1 h1 h2;go_wp2_with fail;go_ret;refine⟨_,rfl,(Kp.grownBy (S:=fun k=>(Value.slice none 0 0).ownBlock=some k) h2.o (fun _ h=>h)).below (nR _) (fun k hk=>by simp[Value.ownBlock]at hk),aP h1.o (by simp) (by simp)⟩
theorem yM{l:List dF}(w:World)(h:Lz EC M w v l)(hb:l.length*40<=140737488351232):Calls Tryz.prog 114 #[v] w (Cp EC 205 w l):=by
 have HL:=hid h;obtain⟨p,c,rfl⟩:=h.form;clear h;have HB:=hid hb;clear hb;generalize l.length=n at HL;go_enter Tryz.func114,Tryz.ntmps114;go_wp2_with (at_builtin;refine yV EC Tryz.underlying147 vH rfl (by decide) rfl _ _ rfl w.heap.size _ 0 [] rfl (World.ownsRow_nil _ _ _ _) M _ l rfl HL.o (by have:=HB.o;omega) (by have:=HB.o;unfold maxLen;omega) (nR _) ?_);intro v1 w1 h1 h2;go_wp2_with fail;go_ret;refine⟨_,rfl,(Kp.grownBy (S:=fun k=>(Value.slice none 0 0).ownBlock=some k) h2.o (fun _ h=>h)).below (nR _) (fun k hk=>by simp[Value.ownBlock]at hk),aP h1.o (by simp) (by simp)⟩
theorem fB(n m:Int)(w:World):Calls Tryz.prog 182 #[.int .i64 n, .int .i64 m] w fun r w'=>r= .returned (.bool (decide (0<=n/\n<m)))/\w'=w:=by
 by_cases h:0<=n
 ·go_enter Tryz.func182,Tryz.ntmps182;go_wp2_with fail;go_ret;exact⟨by simp[h],rfl⟩
 ·go_enter Tryz.func182,Tryz.ntmps182;go_wp2_with fail;go_ret;exact⟨by simp;intros;omega,rfl⟩
def nat?(xs:List NV)(i:Int):Option NV:=if 0<=i then xs[i.toNat]? else none
def xA(xs:List NV)(i p:Int):Bool:=match nat? xs i with|some x=>decide (0<=p/\p<x.n.ins)|none=>false
def Ah(xs:List NV)(i p:Int):Bool:=match nat? xs i with|some x=>decide (0<=p/\p<x.n.outs)|none=>false
theorem yG{xs:List NV}(i p:Int)(w:World)(h:Lz EV M w v xs):Calls Tryz.prog 178 #[v, .int .i64 i, .int .i64 p] w fun r w'=>r= .returned (.bool (xA xs i p))/\w'=w:=by
 have ha:=fun(n m:Int) W=>fB n m W;obtain⟨q,c,hv⟩:=h.form;obtain⟨n,hn⟩:=aB (xs.length);rw[<-hn]at hv;subst hv;by_cases hi:0<=i/\i<(n:Int)
 ·obtain⟨j,rfl⟩:∃j:Nat,i=(j:Int):=⟨i.toNat,by omega⟩;obtain⟨y,hy⟩:∃y,xs[j]? =some y:=⟨xs[j]'(by omega),by simp⟩;obtain⟨b,o,c2,e,z,x0,x1,x2,-⟩:=jN (h.ls hy) hy;simp only[vS]at e;obtain⟨rfl,-,rfl⟩:=e;have HM:Hid (xA xs (j:Int) p=decide (0<=p/\p<y.n.ins)):=by
   show _=_;unfold xA nat?;rw[if_pos (by omega),Int.toNat_natCast,hy]
  have h1:=ha (j:Int) (n:Int);have hd:decide (0<=(j:Int)/\(j:Int)<(n:Int))=true:=by simp;omega
  rw[hd]at h1;have h2:=ha p y.n.ins;have hj0:(0:Int)<=(j:Int):=by omega
  have hjn:(j:Int)<(n:Int):=by omega
  clear ha h hy hn hd hi;generalize decide (0<=p/\p<y.n.ins)=bb at HM h2;go_enter Tryz.func178,Tryz.ntmps178;go_wp2_with fail;refine(h1 _).mono ?_;rintro r w1 ⟨rfl,rfl⟩;go_wp2_with fail;refine(h2 _).mono ?_;rintro r w2 ⟨rfl,rfl⟩;go_wp2_with fail;go_ret;exact⟨by rw[HM.o];rfl,rfl⟩
 ·have HM:Hid (xA xs i p=false):=by
    show _=_;unfold xA nat?;by_cases h0:0<=i
    ·rw[if_pos h0,lQ (by omega)]
    ·rw[if_neg h0]
  have h1:=ha i (n:Int);have hd:decide (0<=i/\i<(n:Int))=false:=by simpa using hi
  rw[hd]at h1;clear ha h hn hd hi;go_enter Tryz.func178,Tryz.ntmps178;go_wp2_with fail;refine(h1 _).mono ?_;rintro r w1 ⟨rfl,rfl⟩;go_wp2_with fail;go_ret;exact⟨by rw[HM.o];rfl,rfl⟩
theorem vN{xs:List NV}(i p:Int)(w:World)(h:Lz EV M w v xs):Calls Tryz.prog 177 #[v, .int .i64 i, .int .i64 p] w fun r w'=>r= .returned (.bool (Ah xs i p))/\w'=w:=by
 have ha:=fun(n m:Int) W=>fB n m W;obtain⟨q,c,hv⟩:=h.form;obtain⟨n,hn⟩:=aB (xs.length);rw[<-hn]at hv;subst hv;by_cases hi:0<=i/\i<(n:Int)
 ·obtain⟨j,rfl⟩:∃j:Nat,i=(j:Int):=⟨i.toNat,by omega⟩;obtain⟨y,hy⟩:∃y,xs[j]? =some y:=⟨xs[j]'(by omega),by simp⟩;obtain⟨b,o,c2,e,z,x0,x1,x2,-⟩:=jN (h.ls hy) hy;simp only[vS]at e;obtain⟨rfl,-,rfl⟩:=e;have HM:Hid (Ah xs (j:Int) p=decide (0<=p/\p<y.n.outs)):=by
   show _=_;unfold Ah nat?;rw[if_pos (by omega),Int.toNat_natCast,hy]
  have h1:=ha (j:Int) (n:Int);have hd:decide (0<=(j:Int)/\(j:Int)<(n:Int))=true:=by simp;omega
  rw[hd]at h1;have h2:=ha p y.n.outs;have hj0:(0:Int)<=(j:Int):=by omega
  have hjn:(j:Int)<(n:Int):=by omega
  clear ha h hy hn hd hi;generalize decide (0<=p/\p<y.n.outs)=bb at HM h2;go_enter Tryz.func177,Tryz.ntmps177;go_wp2_with fail;refine(h1 _).mono ?_;rintro r w1 ⟨rfl,rfl⟩;go_wp2_with fail;refine(h2 _).mono ?_;rintro r w2 ⟨rfl,rfl⟩;go_wp2_with fail;go_ret;exact⟨by rw[HM.o];rfl,rfl⟩
 ·have HM:Hid (Ah xs i p=false):=by
    show _=_;unfold Ah nat?;by_cases h0:0<=i
    ·rw[if_pos h0,lQ (by omega)]
    ·rw[if_neg h0]
  have h1:=ha i (n:Int);have hd:decide (0<=i/\i<(n:Int))=false:=by simpa using hi
  rw[hd]at h1;clear ha h hn hd hi;go_enter Tryz.func177,Tryz.ntmps177;go_wp2_with fail;refine(h1 _).mono ?_;rintro r w1 ⟨rfl,rfl⟩;go_wp2_with fail;go_ret;exact⟨by rw[HM.o];rfl,rfl⟩
theorem Ju(own many:Int)(b:Nat)(w:World)(h:w.heap[b]? =some (.cells #[.int .i64 own] 3 (0,0))):Calls Tryz.prog 264 #[.int .i64 many, .pointer (some ⟨b,0,none⟩)] w fun r w'=>r= .returned (.bool (decide (many=own)))/\w'=w:=by
 have c:=(aa h).1;have l:=ae h;clear h;go_enter Tryz.func264,Tryz.ntmps264;go_wp2_with fail;go_ret;exact⟨rfl,rfl⟩
theorem Bi(least many:Int)(b:Nat)(w:World)(h:w.heap[b]? =some (.cells #[.int .i64 least] 3 (0,0))):Calls Tryz.prog 265 #[.int .i64 many, .pointer (some ⟨b,0,none⟩)] w fun r w'=>r= .returned (.bool (decide (least<=many/\many<=4)))/\w'=w:=by
 have c:=(aa h).1;have l:=ae h;clear h;by_cases hm:least<=many
 ·go_enter Tryz.func265,Tryz.ntmps265;go_wp2_with fail;go_ret;exact⟨by simp[hm],rfl⟩
 ·go_enter Tryz.func265,Tryz.ntmps265;go_wp2_with fail;go_ret;exact⟨by simp;intros;omega,rfl⟩
abbrev fj(b:Nat):Value:= .func (.func 264) #[] #[.pointer (some ⟨b,0,none⟩)]
abbrev fu(b:Nat):Value:= .func (.func 265) #[] #[.pointer (some ⟨b,0,none⟩)]
theorem gD(own:Int)(w:World):Calls Tryz.prog 230 #[.int .i64 own] w fun r w'=>r= .returned (fj w.heap.size)/\w'=w.alloc (.cells #[.int .i64 own] 3):=by
 have M7:∀(fn:Fn) (first cap:Array Value) (w:World),(Instr.makeFunc fn first cap).run Tryz.prog w= .ok (.func fn first cap) w:=fun _ _ _ _=>rfl;go_enter Tryz.func230,Tryz.ntmps230;go_wp2_with fail;go_ret;exact⟨rfl,rfl⟩
theorem eD(own:Int)(w:World):Calls Tryz.prog 236 #[.int .i64 own] w fun r w'=>r= .returned (fu w.heap.size)/\w'=w.alloc (.cells #[.int .i64 own] 3):=by
 have M7:∀(fn:Fn) (first cap:Array Value) (w:World),(Instr.makeFunc fn first cap).run Tryz.prog w= .ok (.func fn first cap) w:=fun _ _ _ _=>rfl;go_enter Tryz.func236,Tryz.ntmps236;go_wp2_with fail;go_ret;exact⟨rfl,rfl⟩
theorem zO(w:World)(A B C D:Obj):((((w.alloc A).alloc B).alloc C).alloc D).heap[w.heap.size+1+1+1]? =some D/\((((w.alloc A).alloc B).alloc C).alloc D).heap[w.heap.size+1+1]? =some C/\((((w.alloc A).alloc B).alloc C).alloc D).heap[w.heap.size+1]? =some B/\((((w.alloc A).alloc B).alloc C).alloc D).heap[w.heap.size]? =some A:=by
 obtain⟨h1,h2,h3⟩:=Ux w A B C;have hg:=((Gr.refl (((w.alloc A).alloc B).alloc C)).alloc D).below;have hs:(((w.alloc A).alloc B).alloc C).heap.size=w.heap.size+1+1+1:=by simp
 have h4:=heap_alloc_new (((w.alloc A).alloc B).alloc C) D;rw[hs]at h4;exact⟨h4,(hg.block _ (by rw[hs];omega)).trans h3,(hg.block _ (by rw[hs];omega)).trans h2,(hg.block _ (by rw[hs];omega)).trans h1⟩
theorem E5(w:World)(A B C D E:Obj):(((((w.alloc A).alloc B).alloc C).alloc D).alloc E).heap[w.heap.size+4]? =some E/\(((((w.alloc A).alloc B).alloc C).alloc D).alloc E).heap[w.heap.size+3]? =some D/\(((((w.alloc A).alloc B).alloc C).alloc D).alloc E).heap[w.heap.size+2]? =some C/\(((((w.alloc A).alloc B).alloc C).alloc D).alloc E).heap[w.heap.size+1]? =some B/\(((((w.alloc A).alloc B).alloc C).alloc D).alloc E).heap[w.heap.size]? =some A:=by
 obtain⟨h1,h2,h3,h4⟩:=zO w A B C D;have hg:=((Gr.refl ((((w.alloc A).alloc B).alloc C).alloc D)).alloc E).below;have hs:((((w.alloc A).alloc B).alloc C).alloc D).heap.size=w.heap.size+4:=by simp
 have h5:=heap_alloc_new ((((w.alloc A).alloc B).alloc C).alloc D) E;rw[hs]at h5;exact⟨h5,(hg.block _ (by rw[hs];omega)).trans h1,(hg.block _ (by rw[hs];omega)).trans h2,(hg.block _ (by rw[hs];omega)).trans h3,(hg.block _ (by rw[hs];omega)).trans h4⟩
theorem P9(w:World)(A B C D E F:Obj):((((((w.alloc A).alloc B).alloc C).alloc D).alloc E).alloc F).heap[w.heap.size+5]? =some F/\((((((w.alloc A).alloc B).alloc C).alloc D).alloc E).alloc F).heap[w.heap.size+4]? =some E/\((((((w.alloc A).alloc B).alloc C).alloc D).alloc E).alloc F).heap[w.heap.size+3]? =some D:=by
 obtain⟨h1,h2,-⟩:=E5 w A B C D E;have hg:=((Gr.refl (((((w.alloc A).alloc B).alloc C).alloc D).alloc E)).alloc F).below;have hs:(((((w.alloc A).alloc B).alloc C).alloc D).alloc E).heap.size=w.heap.size+5:=by simp
 have h5:=heap_alloc_new (((((w.alloc A).alloc B).alloc C).alloc D).alloc E) F;rw[hs]at h5;exact⟨h5,(hg.block _ (by rw[hs];omega)).trans h1,(hg.block _ (by rw[hs];omega)).trans h2⟩
def Kd(w:World)(uI:Bool)(i:Int)(uO:Bool)(o:Int)(fw ff fc:Nat)(r:Ending)(w':World):Prop:=∃b1 b2:Nat,r= .returned (.tuple #[.agg #[if uI then fu b1 else fj b1,if uO then fu b2 else fj b2, .func (.func fw) #[] #[], .func (.func ff) #[] #[], .func (.func fc) #[] #[]], .bool true])/\Below w.heap.size w w'/\w'.heap[b1]? =some (.cells #[.int .i64 i] 3 (0,0))/\w'.heap[b2]? =some (.cells #[.int .i64 o] 3 (0,0))
theorem yC(w:World):Calls Tryz.prog 173 #[.int .i64 1] w (Kd w false 0 false 1 231 232 233):=by
 have M7:∀(fn:Fn) (first cap:Array Value) (w:World),(Instr.makeFunc fn first cap).run Tryz.prog w= .ok (.func fn first cap) w:=fun _ _ _ _=>rfl;go_enter Tryz.func173,Tryz.ntmps173;go_wp2_with (first|(go_at_call 230;refine(gD _ _).mono ?_;rintro r w1 ⟨rfl,rfl⟩)|(go_at_call 236;refine(eD _ _).mono ?_;rintro r w1 ⟨rfl,rfl⟩));refine bodyPost_ret (v:= .tuple #[.agg #[fj (w.heap.size+4),fj (w.heap.size+2), .func (.func 231) #[] #[], .func (.func 232) #[] #[], .func (.func 233) #[] #[]], .bool true]) (by simp[results,Tryz.results173,go_sem]) rfl ?_;exact⟨w.heap.size+4,w.heap.size+2,rfl,((((((Gr.refl w).alloc _).alloc _).alloc _).alloc _).alloc _).below,(E5 w _ _ _ _ _).1,(E5 w _ _ _ _ _).2.2.1⟩
theorem yB(w:World):Calls Tryz.prog 173 #[.int .i64 2] w (Kd w false 1 false 1 234 235 233):=by
 have M7:∀(fn:Fn) (first cap:Array Value) (w:World),(Instr.makeFunc fn first cap).run Tryz.prog w= .ok (.func fn first cap) w:=fun _ _ _ _=>rfl;go_enter Tryz.func173,Tryz.ntmps173;go_wp2_with (first|(go_at_call 230;refine(gD _ _).mono ?_;rintro r w1 ⟨rfl,rfl⟩)|(go_at_call 236;refine(eD _ _).mono ?_;rintro r w1 ⟨rfl,rfl⟩));refine bodyPost_ret (v:= .tuple #[.agg #[fj (w.heap.size+1),fj (w.heap.size+2), .func (.func 234) #[] #[], .func (.func 235) #[] #[], .func (.func 233) #[] #[]], .bool true]) (by simp[results,Tryz.results173,go_sem]) rfl ?_;exact⟨w.heap.size+1,w.heap.size+2,rfl,(((((Gr.refl w).alloc _).alloc _).alloc _).alloc _).below,(zO w _ _ _ _).2.2.1,(zO w _ _ _ _).2.1⟩
theorem yA(w:World):Calls Tryz.prog 173 #[.int .i64 3] w (Kd w false 1 false 1 234 235 233):=by
 have M7:∀(fn:Fn) (first cap:Array Value) (w:World),(Instr.makeFunc fn first cap).run Tryz.prog w= .ok (.func fn first cap) w:=fun _ _ _ _=>rfl;go_enter Tryz.func173,Tryz.ntmps173;go_wp2_with (first|(go_at_call 230;refine(gD _ _).mono ?_;rintro r w1 ⟨rfl,rfl⟩)|(go_at_call 236;refine(eD _ _).mono ?_;rintro r w1 ⟨rfl,rfl⟩));refine bodyPost_ret (v:= .tuple #[.agg #[fj (w.heap.size+1),fj (w.heap.size+2), .func (.func 234) #[] #[], .func (.func 235) #[] #[], .func (.func 233) #[] #[]], .bool true]) (by simp[results,Tryz.results173,go_sem]) rfl ?_;exact⟨w.heap.size+1,w.heap.size+2,rfl,(((((Gr.refl w).alloc _).alloc _).alloc _).alloc _).below,(zO w _ _ _ _).2.2.1,(zO w _ _ _ _).2.1⟩
theorem yx(w:World):Calls Tryz.prog 173 #[.int .i64 4] w (Kd w true 1 false 1 231 232 233):=by
 have M7:∀(fn:Fn) (first cap:Array Value) (w:World),(Instr.makeFunc fn first cap).run Tryz.prog w= .ok (.func fn first cap) w:=fun _ _ _ _=>rfl;go_enter Tryz.func173,Tryz.ntmps173;go_wp2_with (first|(go_at_call 230;refine(gD _ _).mono ?_;rintro r w1 ⟨rfl,rfl⟩)|(go_at_call 236;refine(eD _ _).mono ?_;rintro r w1 ⟨rfl,rfl⟩));refine bodyPost_ret (v:= .tuple #[.agg #[fu (w.heap.size+4),fj (w.heap.size+2), .func (.func 231) #[] #[], .func (.func 232) #[] #[], .func (.func 233) #[] #[]], .bool true]) (by simp[results,Tryz.results173,go_sem]) rfl ?_;exact⟨w.heap.size+4,w.heap.size+2,rfl,((((((Gr.refl w).alloc _).alloc _).alloc _).alloc _).alloc _).below,(E5 w _ _ _ _ _).1,(E5 w _ _ _ _ _).2.2.1⟩
theorem yw(w:World):Calls Tryz.prog 173 #[.int .i64 5] w (Kd w false 1 false 1 237 238 239):=by
 have M7:∀(fn:Fn) (first cap:Array Value) (w:World),(Instr.makeFunc fn first cap).run Tryz.prog w= .ok (.func fn first cap) w:=fun _ _ _ _=>rfl;go_enter Tryz.func173,Tryz.ntmps173;go_wp2_with (first|(go_at_call 230;refine(gD _ _).mono ?_;rintro r w1 ⟨rfl,rfl⟩)|(go_at_call 236;refine(eD _ _).mono ?_;rintro r w1 ⟨rfl,rfl⟩));refine bodyPost_ret (v:= .tuple #[.agg #[fj (w.heap.size+1),fj (w.heap.size+2), .func (.func 237) #[] #[], .func (.func 238) #[] #[], .func (.func 239) #[] #[]], .bool true]) (by simp[results,Tryz.results173,go_sem]) rfl ?_;exact⟨w.heap.size+1,w.heap.size+2,rfl,(((((Gr.refl w).alloc _).alloc _).alloc _).alloc _).below,(zO w _ _ _ _).2.2.1,(zO w _ _ _ _).2.1⟩
theorem yu(w:World):Calls Tryz.prog 173 #[.int .i64 6] w (Kd w false 1 false 1 231 232 233):=by
 have M7:∀(fn:Fn) (first cap:Array Value) (w:World),(Instr.makeFunc fn first cap).run Tryz.prog w= .ok (.func fn first cap) w:=fun _ _ _ _=>rfl;go_enter Tryz.func173,Tryz.ntmps173;go_wp2_with (first|(go_at_call 230;refine(gD _ _).mono ?_;rintro r w1 ⟨rfl,rfl⟩)|(go_at_call 236;refine(eD _ _).mono ?_;rintro r w1 ⟨rfl,rfl⟩));refine bodyPost_ret (v:= .tuple #[.agg #[fj (w.heap.size+1),fj (w.heap.size+2), .func (.func 231) #[] #[], .func (.func 232) #[] #[], .func (.func 233) #[] #[]], .bool true]) (by simp[results,Tryz.results173,go_sem]) rfl ?_;exact⟨w.heap.size+1,w.heap.size+2,rfl,(((((Gr.refl w).alloc _).alloc _).alloc _).alloc _).below,(zO w _ _ _ _).2.2.1,(zO w _ _ _ _).2.1⟩
theorem yt(w:World):Calls Tryz.prog 173 #[.int .i64 7] w (Kd w false 1 false 0 231 232 233):=by
 have M7:∀(fn:Fn) (first cap:Array Value) (w:World),(Instr.makeFunc fn first cap).run Tryz.prog w= .ok (.func fn first cap) w:=fun _ _ _ _=>rfl;go_enter Tryz.func173,Tryz.ntmps173;go_wp2_with (first|(go_at_call 230;refine(gD _ _).mono ?_;rintro r w1 ⟨rfl,rfl⟩)|(go_at_call 236;refine(eD _ _).mono ?_;rintro r w1 ⟨rfl,rfl⟩));refine bodyPost_ret (v:= .tuple #[.agg #[fj (w.heap.size+1),fj (w.heap.size+4), .func (.func 231) #[] #[], .func (.func 232) #[] #[], .func (.func 233) #[] #[]], .bool true]) (by simp[results,Tryz.results173,go_sem]) rfl ?_;exact⟨w.heap.size+1,w.heap.size+4,rfl,((((((Gr.refl w).alloc _).alloc _).alloc _).alloc _).alloc _).below,(E5 w _ _ _ _ _).2.2.2.1,(E5 w _ _ _ _ _).1⟩
theorem yo(w:World):Calls Tryz.prog 173 #[.int .i64 8] w (Kd w true 0 true 0 240 241 242):=by
 have M7:∀(fn:Fn) (first cap:Array Value) (w:World),(Instr.makeFunc fn first cap).run Tryz.prog w= .ok (.func fn first cap) w:=fun _ _ _ _=>rfl;go_enter Tryz.func173,Tryz.ntmps173;go_wp2_with (first|(go_at_call 230;refine(gD _ _).mono ?_;rintro r w1 ⟨rfl,rfl⟩)|(go_at_call 236;refine(eD _ _).mono ?_;rintro r w1 ⟨rfl,rfl⟩));refine bodyPost_ret (v:= .tuple #[.agg #[fu (w.heap.size+4),fu (w.heap.size+5), .func (.func 240) #[] #[], .func (.func 241) #[] #[], .func (.func 242) #[] #[]], .bool true]) (by simp[results,Tryz.results173,go_sem]) rfl ?_;exact⟨w.heap.size+4,w.heap.size+5,rfl,(((((((Gr.refl w).alloc _).alloc _).alloc _).alloc _).alloc _).alloc _).below,(P9 w _ _ _ _ _ _).2.1,(P9 w _ _ _ _ _ _).1⟩
theorem Jt(k:Int)(hk:k<1\/8<k)(w:World):Calls Tryz.prog 173 #[.int .i64 k] w fun r w'=>r= .returned (.tuple #[.agg #[.nilFunc, .nilFunc, .nilFunc, .nilFunc, .nilFunc], .bool false])/\Below w.heap.size w w':=by
 have M7:∀(fn:Fn) (first cap:Array Value) (w:World),(Instr.makeFunc fn first cap).run Tryz.prog w= .ok (.func fn first cap) w:=fun _ _ _ _=>rfl;obtain⟨k1,k2,k3,k4,k5,k6,k7,k8⟩:¬k=1/\¬k=2/\¬k=3/\¬k=4/\¬k=5/\¬k=6/\¬k=7/\¬k=8:=by omega
 clear hk;go_enter Tryz.func173,Tryz.ntmps173;go_wp2_with (first|(go_at_call 230;refine(gD _ _).mono ?_;rintro r w1 ⟨rfl,rfl⟩));refine bodyPost_ret (v:= .tuple #[.agg #[.nilFunc, .nilFunc, .nilFunc, .nilFunc, .nilFunc], .bool false]) (by simp[results,Tryz.results173,go_sem]) rfl ?_;exact⟨rfl,(((((Gr.refl w).alloc _).alloc _).alloc _).alloc _).below⟩
end Df
end Go.Proofs.YteekbpokkjjipaaGreat
