import Derived.Test.YteekbpokkjjipaaGreatJ7
import Derived.Laws.EntriesVeiled
import Derived.Test.YteekbpokkjjipaaGreatJ9
variable{M N p q:Nat}{α:Type}{v z:Go.Value}{rk:Nat->Nat}{e sT:Go.TypeId}{ps:List Nat}{f:Nat->Int}
set_option maxHeartbeats 2000000
namespace Go.Proofs.YteekbpokkjjipaaGreat
namespace Df
open Go.RowKit Go.Sort
attribute[local go_sem ↓]wp_at_zero wp_at_succ
theorem zX{P:Program}(E:El α){bt:Nat}(hu:P.underlying sT=some (.slice e))(hI:(P.info? e).map (fun i=>(i.zero,i.size,i.bytes))=some (some z,E.k,bt))(hz:z.cells.size=E.k)(hk:0<E.k)
    {w:World} {ops:Array Oper} {rest:List Oper} {o:Oper} {a:Act} {Q:Exit->Act->World->Prop} (hgd:o.guard=none) (s x:Operand) (ho:o.op= .call { callee:= .builtin .append,args:=#[s,x],argTypes:=#[sT,sT] })
    (base:Nat) (v:Value) (n:Nat) (xs:List Value) (hs:a.eval s=v) (hown:w.ownsRow base e E.k v n xs) (M:Nat)
    (v1:Value) (ts:List α) (hx:a.eval x=v1) (hv:Lz E M w v1 ts) (hbig:(n+ts.length)*bt<=140737488355328) (hmx:n+ts.length<=maxLen) (hbase:base<=w.heap.size)
    (h:∀v' w',Hid (w'.ownsRow base e E.k v' (n+ts.length) (xs++fl E ts))->Hid (w.grownBy w' v.ownBlock)->wpList P ops Q rest (a.put o.dst v') w'):wpList P ops Q (o::rest) a w:=by
 rcases hv with⟨hv,_⟩|⟨rfl,p,c,rfl⟩
 ·exact pJ E hu hI hz hk hgd s x ho base v n xs hs hown v1 ts hx hv hbig hmx hbase h
 ·obtain⟨i0,hi,hz0,hz1,hz2⟩:=info_parts hI;cases p with
  | none=>
   refine wpList_plain hgd fun K hK=> ?_;have hrun:=run_append_owned_none (P:=P) (w:=w) base sT o.type e i0 E.k hu hi v n xs hown;rw[<-uK (P:=P) w sT o.type v c]at hrun;unfold Oper.wp;simp[execOp,ho,resolve,invoke,builtin,hs,hx,hrun,Result.andThen];refine hK _ _ (h _ _ (show _ from by have h5:w.ownsRow base e E.k v (n+([]:List α).length) (xs++fl E []):=(by simpa[fl]using hown);exact h5) ⟨rfl,rfl,rfl,nR _,fun _ _ _=>rfl⟩)
  | some b=>
   refine wpList_append_own _ hgd s x _ ho base e i0 _ E.k bt hu hi hz0 hz1 hz2 hz hk v n xs hs hown b 0 c [] hx (by simp) (fun j u hj=>by simp at hj) (fun u hu=>by cases hu) hmx hbig hbase ?_;intro v' w' h1 h2 _;exact h v' w' h1 h2
def Cp{α:Type}(E:El α)(T:TypeId)(w:World)(l:List α)(e:Ending)(w':World):Prop:=∃d,e= .returned d/\Below w.heap.size w w'/\w'.ownsRow w.heap.size T E.k d l.length (fl E l)
theorem zO{l:List NV}(w:World)(h:Lz EV M w v l)(hb:l.length*112<=140737488351232):Calls Tryz.prog 111 #[v] w (Cp EV 149 w l):=by
 have HL:=hid h;obtain⟨p,c,rfl⟩:=h.form;clear h;have HB:=hid hb;clear hb;generalize l.length=n at HL;go_enter Tryz.func111,Tryz.ntmps111;go_wp2_with (at_builtin;refine zX EV Tryz.underlying22 ZC rfl (by decide) rfl _ _ rfl w.heap.size _ 0 [] rfl (oN _ _ _ _) M _ l rfl HL.o (by have:=HB.o;omega) (by have:=HB.o;unfold maxLen;omega) (nR _) ?_);intro v1 w1 h1 h2;go_wp2_with fail;go_ret;refine⟨_,rfl,(Kp.grownBy (S:=fun k=>(Value.slice none 0 0).ownBlock=some k) h2.o (fun _ h=>h)).below (nR _) (fun k hk=>by simp[Value.ownBlock]at hk),aS h1.o (by simp) (by simp)⟩
theorem sQ{l:List dN}(w:World)(h:Lz ED M w v l)(hb:l.length*40<=140737488351232):Calls Tryz.prog 112 #[v] w (Cp ED 151 w l):=by
 have HL:=hid h;obtain⟨p,c,rfl⟩:=h.form;clear h;have HB:=hid hb;clear hb;generalize l.length=n at HL;go_enter Tryz.func112,Tryz.ntmps112;go_wp2_with (at_builtin;refine zX ED Tryz.underlying23 ZF rfl (by decide) rfl _ _ rfl w.heap.size _ 0 [] rfl (oN _ _ _ _) M _ l rfl HL.o (by have:=HB.o;omega) (by have:=HB.o;unfold maxLen;omega) (nR _) ?_);intro v1 w1 h1 h2;go_wp2_with fail;go_ret;refine⟨_,rfl,(Kp.grownBy (S:=fun k=>(Value.slice none 0 0).ownBlock=some k) h2.o (fun _ h=>h)).below (nR _) (fun k hk=>by simp[Value.ownBlock]at hk),aS h1.o (by simp) (by simp)⟩
theorem KH{l:List YJ}(w:World)(h:Lz EO M w v l)(hb:l.length*16<=140737488351232):Calls Tryz.prog 113 #[v] w (Cp EO 202 w l):=by
 have HL:=hid h;obtain⟨p,c,rfl⟩:=h.form;clear h;have HB:=hid hb;clear hb;generalize l.length=n at HL;go_enter Tryz.func113,Tryz.ntmps113;go_wp2_with (at_builtin;refine zX EO Tryz.underlying146 ZE rfl (by decide) rfl _ _ rfl w.heap.size _ 0 [] rfl (oN _ _ _ _) M _ l rfl HL.o (by have:=HB.o;omega) (by have:=HB.o;unfold maxLen;omega) (nR _) ?_);intro v1 w1 h1 h2;go_wp2_with fail;go_ret;refine⟨_,rfl,(Kp.grownBy (S:=fun k=>(Value.slice none 0 0).ownBlock=some k) h2.o (fun _ h=>h)).below (nR _) (fun k hk=>by simp[Value.ownBlock]at hk),aS h1.o (by simp) (by simp)⟩
theorem zP{l:List dJ}(w:World)(h:Lz EC M w v l)(hb:l.length*40<=140737488351232):Calls Tryz.prog 114 #[v] w (Cp EC 205 w l):=by
 have HL:=hid h;obtain⟨p,c,rfl⟩:=h.form;clear h;have HB:=hid hb;clear hb;generalize l.length=n at HL;go_enter Tryz.func114,Tryz.ntmps114;go_wp2_with (at_builtin;refine zX EC Tryz.underlying147 wX rfl (by decide) rfl _ _ rfl w.heap.size _ 0 [] rfl (oN _ _ _ _) M _ l rfl HL.o (by have:=HB.o;omega) (by have:=HB.o;unfold maxLen;omega) (nR _) ?_);intro v1 w1 h1 h2;go_wp2_with fail;go_ret;refine⟨_,rfl,(Kp.grownBy (S:=fun k=>(Value.slice none 0 0).ownBlock=some k) h2.o (fun _ h=>h)).below (nR _) (fun k hk=>by simp[Value.ownBlock]at hk),aS h1.o (by simp) (by simp)⟩
theorem fH(n m:Int)(w:World):Calls Tryz.prog 182 #[.int .i64 n, .int .i64 m] w fun r w'=>r= .returned (.bool (decide (0<=n/\n<m)))/\w'=w:=by
 by_cases h:0<=n
 ·go_enter Tryz.func182,Tryz.ntmps182;go_wp2_with fail;go_ret;exact⟨by simp[h],rfl⟩
 ·go_enter Tryz.func182,Tryz.ntmps182;go_wp2_with fail;go_ret;exact⟨by simp;intros;omega,rfl⟩
def nat?(xs:List NV)(i:Int):Option NV:=if 0<=i then xs[i.toNat]? else none
def yD(xs:List NV)(i p:Int):Bool:=match nat? xs i with|some x=>decide (0<=p/\p<x.n.ins)|none=>false
def Bu(xs:List NV)(i p:Int):Bool:=match nat? xs i with|some x=>decide (0<=p/\p<x.n.outs)|none=>false
theorem zI{xs:List NV}(i p:Int)(w:World)(h:Lz EV M w v xs):Calls Tryz.prog 178 #[v, .int .i64 i, .int .i64 p] w fun r w'=>r= .returned (.bool (yD xs i p))/\w'=w:=by
 have ha:=fun(n m:Int) W=>fH n m W;obtain⟨q,c,hv⟩:=h.form;obtain⟨n,hn⟩:=aD (xs.length);rw[<-hn]at hv;subst hv;by_cases hi:0<=i/\i<(n:Int)
 ·obtain⟨j,rfl⟩:∃j:Nat,i=(j:Int):=⟨i.toNat,by omega⟩;obtain⟨y,hy⟩:∃y,xs[j]? =some y:=⟨xs[j]'(by omega),by simp⟩;obtain⟨b,o,c2,e,z,x0,x1,x2,-⟩:=jX (h.ls hy) hy;simp only[vS]at e;obtain⟨rfl,-,rfl⟩:=e;have HM:Hid (yD xs (j:Int) p=decide (0<=p/\p<y.n.ins)):=by
   show _=_;unfold yD nat?;rw[if_pos (by omega),tN,hy]
  have h1:=ha (j:Int) (n:Int);have hd:decide (0<=(j:Int)/\(j:Int)<(n:Int))=true:=by simp;omega
  rw[hd]at h1;have h2:=ha p y.n.ins;have hj0:(0:Int)<=(j:Int):=by omega
  have hjn:(j:Int)<(n:Int):=by omega
  clear ha h hy hn hd hi;generalize decide (0<=p/\p<y.n.ins)=bb at HM h2;go_enter Tryz.func178,Tryz.ntmps178;go_wp2_with fail;refine(h1 _).mono ?_;rintro r w1 ⟨rfl,rfl⟩;go_wp2_with fail;refine(h2 _).mono ?_;rintro r w2 ⟨rfl,rfl⟩;go_wp2_with fail;go_ret;exact⟨by rw[HM.o];rfl,rfl⟩
 ·have HM:Hid (yD xs i p=false):=by
    show _=_;unfold yD nat?;by_cases h0:0<=i
    ·rw[if_pos h0,lQ (by omega)]
    ·rw[if_neg h0]
  have h1:=ha i (n:Int);have hd:decide (0<=i/\i<(n:Int))=false:=by simpa using hi
  rw[hd]at h1;clear ha h hn hd hi;go_enter Tryz.func178,Tryz.ntmps178;go_wp2_with fail;refine(h1 _).mono ?_;rintro r w1 ⟨rfl,rfl⟩;go_wp2_with fail;go_ret;exact⟨by rw[HM.o];rfl,rfl⟩
theorem xh{xs:List NV}(i p:Int)(w:World)(h:Lz EV M w v xs):Calls Tryz.prog 177 #[v, .int .i64 i, .int .i64 p] w fun r w'=>r= .returned (.bool (Bu xs i p))/\w'=w:=by
 have ha:=fun(n m:Int) W=>fH n m W;obtain⟨q,c,hv⟩:=h.form;obtain⟨n,hn⟩:=aD (xs.length);rw[<-hn]at hv;subst hv;by_cases hi:0<=i/\i<(n:Int)
 ·obtain⟨j,rfl⟩:∃j:Nat,i=(j:Int):=⟨i.toNat,by omega⟩;obtain⟨y,hy⟩:∃y,xs[j]? =some y:=⟨xs[j]'(by omega),by simp⟩;obtain⟨b,o,c2,e,z,x0,x1,x2,-⟩:=jX (h.ls hy) hy;simp only[vS]at e;obtain⟨rfl,-,rfl⟩:=e;have HM:Hid (Bu xs (j:Int) p=decide (0<=p/\p<y.n.outs)):=by
   show _=_;unfold Bu nat?;rw[if_pos (by omega),tN,hy]
  have h1:=ha (j:Int) (n:Int);have hd:decide (0<=(j:Int)/\(j:Int)<(n:Int))=true:=by simp;omega
  rw[hd]at h1;have h2:=ha p y.n.outs;have hj0:(0:Int)<=(j:Int):=by omega
  have hjn:(j:Int)<(n:Int):=by omega
  clear ha h hy hn hd hi;generalize decide (0<=p/\p<y.n.outs)=bb at HM h2;go_enter Tryz.func177,Tryz.ntmps177;go_wp2_with fail;refine(h1 _).mono ?_;rintro r w1 ⟨rfl,rfl⟩;go_wp2_with fail;refine(h2 _).mono ?_;rintro r w2 ⟨rfl,rfl⟩;go_wp2_with fail;go_ret;exact⟨by rw[HM.o];rfl,rfl⟩
 ·have HM:Hid (Bu xs i p=false):=by
    show _=_;unfold Bu nat?;by_cases h0:0<=i
    ·rw[if_pos h0,lQ (by omega)]
    ·rw[if_neg h0]
  have h1:=ha i (n:Int);have hd:decide (0<=i/\i<(n:Int))=false:=by simpa using hi
  rw[hd]at h1;clear ha h hn hd hi;go_enter Tryz.func177,Tryz.ntmps177;go_wp2_with fail;refine(h1 _).mono ?_;rintro r w1 ⟨rfl,rfl⟩;go_wp2_with fail;go_ret;exact⟨by rw[HM.o];rfl,rfl⟩
theorem Ki(own many:Int)(b:Nat)(w:World)(h:w.heap[b]? =some (.cells #[.int .i64 own] 3 (0,0))):Calls Tryz.prog 264 #[.int .i64 many, .pointer (some ⟨b,0,none⟩)] w fun r w'=>r= .returned (.bool (decide (many=own)))/\w'=w:=by
 have c:=(aa h).1;have l:=ae h;clear h;go_enter Tryz.func264,Tryz.ntmps264;go_wp2_with fail;go_ret;exact⟨rfl,rfl⟩
theorem CB(least many:Int)(b:Nat)(w:World)(h:w.heap[b]? =some (.cells #[.int .i64 least] 3 (0,0))):Calls Tryz.prog 265 #[.int .i64 many, .pointer (some ⟨b,0,none⟩)] w fun r w'=>r= .returned (.bool (decide (least<=many/\many<=4)))/\w'=w:=by
 have c:=(aa h).1;have l:=ae h;clear h;by_cases hm:least<=many
 ·go_enter Tryz.func265,Tryz.ntmps265;go_wp2_with fail;go_ret;exact⟨by simp[hm],rfl⟩
 ·go_enter Tryz.func265,Tryz.ntmps265;go_wp2_with fail;go_ret;exact⟨by simp;intros;omega,rfl⟩
abbrev fj(b:Nat):Value:= .func (.func 264) #[] #[.pointer (some ⟨b,0,none⟩)]
abbrev fu(b:Nat):Value:= .func (.func 265) #[] #[.pointer (some ⟨b,0,none⟩)]
theorem gK(own:Int)(w:World):Calls Tryz.prog 230 #[.int .i64 own] w fun r w'=>r= .returned (fj w.heap.size)/\w'=w.alloc (.cells #[.int .i64 own] 3):=by
 have Ox:∀(fn:Fn) (first cap:Array Value) (w:World),(Instr.makeFunc fn first cap).run Tryz.prog w= .ok (.func fn first cap) w:=fun _ _ _ _=>rfl;go_enter Tryz.func230,Tryz.ntmps230;go_wp2_with fail;go_ret;exact⟨rfl,rfl⟩
theorem eQ(own:Int)(w:World):Calls Tryz.prog 236 #[.int .i64 own] w fun r w'=>r= .returned (fu w.heap.size)/\w'=w.alloc (.cells #[.int .i64 own] 3):=by
 have Ox:∀(fn:Fn) (first cap:Array Value) (w:World),(Instr.makeFunc fn first cap).run Tryz.prog w= .ok (.func fn first cap) w:=fun _ _ _ _=>rfl;go_enter Tryz.func236,Tryz.ntmps236;go_wp2_with fail;go_ret;exact⟨rfl,rfl⟩
theorem A7(w:World)(A B C D:Obj):((((w.alloc A).alloc B).alloc C).alloc D).heap[w.heap.size+1+1+1]? =some D/\((((w.alloc A).alloc B).alloc C).alloc D).heap[w.heap.size+1+1]? =some C/\((((w.alloc A).alloc B).alloc C).alloc D).heap[w.heap.size+1]? =some B/\((((w.alloc A).alloc B).alloc C).alloc D).heap[w.heap.size]? =some A:=by
 obtain⟨h1,h2,h3⟩:=VQ w A B C;have hg:=((Gr.refl (((w.alloc A).alloc B).alloc C)).alloc D).below;have hs:(((w.alloc A).alloc B).alloc C).heap.size=w.heap.size+1+1+1:=by simp
 have h4:=heap_alloc_new (((w.alloc A).alloc B).alloc C) D;rw[hs]at h4;exact⟨h4,(hg.block _ (by rw[hs];omega)).trans h3,(hg.block _ (by rw[hs];omega)).trans h2,(hg.block _ (by rw[hs];omega)).trans h1⟩
theorem Gi(w:World)(A B C D E:Obj):(((((w.alloc A).alloc B).alloc C).alloc D).alloc E).heap[w.heap.size+4]? =some E/\(((((w.alloc A).alloc B).alloc C).alloc D).alloc E).heap[w.heap.size+3]? =some D/\(((((w.alloc A).alloc B).alloc C).alloc D).alloc E).heap[w.heap.size+2]? =some C/\(((((w.alloc A).alloc B).alloc C).alloc D).alloc E).heap[w.heap.size+1]? =some B/\(((((w.alloc A).alloc B).alloc C).alloc D).alloc E).heap[w.heap.size]? =some A:=by
 obtain⟨h1,h2,h3,h4⟩:=A7 w A B C D;have hg:=((Gr.refl ((((w.alloc A).alloc B).alloc C).alloc D)).alloc E).below;have hs:((((w.alloc A).alloc B).alloc C).alloc D).heap.size=w.heap.size+4:=by simp
 have h5:=heap_alloc_new ((((w.alloc A).alloc B).alloc C).alloc D) E;rw[hs]at h5;exact⟨h5,(hg.block _ (by rw[hs];omega)).trans h1,(hg.block _ (by rw[hs];omega)).trans h2,(hg.block _ (by rw[hs];omega)).trans h3,(hg.block _ (by rw[hs];omega)).trans h4⟩
theorem Rv(w:World)(A B C D E F:Obj):((((((w.alloc A).alloc B).alloc C).alloc D).alloc E).alloc F).heap[w.heap.size+5]? =some F/\((((((w.alloc A).alloc B).alloc C).alloc D).alloc E).alloc F).heap[w.heap.size+4]? =some E/\((((((w.alloc A).alloc B).alloc C).alloc D).alloc E).alloc F).heap[w.heap.size+3]? =some D:=by
 obtain⟨h1,h2,-⟩:=Gi w A B C D E;have hg:=((Gr.refl (((((w.alloc A).alloc B).alloc C).alloc D).alloc E)).alloc F).below;have hs:(((((w.alloc A).alloc B).alloc C).alloc D).alloc E).heap.size=w.heap.size+5:=by simp
 have h5:=heap_alloc_new (((((w.alloc A).alloc B).alloc C).alloc D).alloc E) F;rw[hs]at h5;exact⟨h5,(hg.block _ (by rw[hs];omega)).trans h1,(hg.block _ (by rw[hs];omega)).trans h2⟩
def Kd(w:World)(uI:Bool)(i:Int)(uO:Bool)(o:Int)(fw ff fc:Nat)(r:Ending)(w':World):Prop:=∃b1 b2:Nat,r= .returned (.tuple #[.agg #[if uI then fu b1 else fj b1,if uO then fu b2 else fj b2, .func (.func fw) #[] #[], .func (.func ff) #[] #[], .func (.func fc) #[] #[]], .bool true])/\Below w.heap.size w w'/\w'.heap[b1]? =some (.cells #[.int .i64 i] 3 (0,0))/\w'.heap[b2]? =some (.cells #[.int .i64 o] 3 (0,0))
theorem zD(w:World):Calls Tryz.prog 173 #[.int .i64 1] w (Kd w false 0 false 1 231 232 233):=by
 have Ox:∀(fn:Fn) (first cap:Array Value) (w:World),(Instr.makeFunc fn first cap).run Tryz.prog w= .ok (.func fn first cap) w:=fun _ _ _ _=>rfl;go_enter Tryz.func173,Tryz.ntmps173;go_wp2_with (first|(go_at_call 230;refine(gK _ _).mono ?_;rintro r w1 ⟨rfl,rfl⟩)|(go_at_call 236;refine(eQ _ _).mono ?_;rintro r w1 ⟨rfl,rfl⟩));refine bR (v:= .tuple #[.agg #[fj (w.heap.size+4),fj (w.heap.size+2), .func (.func 231) #[] #[], .func (.func 232) #[] #[], .func (.func 233) #[] #[]], .bool true]) (by simp[results,Tryz.results173,go_sem]) rfl ?_;exact⟨w.heap.size+4,w.heap.size+2,rfl,((((((Gr.refl w).alloc _).alloc _).alloc _).alloc _).alloc _).below,(Gi w _ _ _ _ _).1,(Gi w _ _ _ _ _).2.2.1⟩
theorem zC(w:World):Calls Tryz.prog 173 #[.int .i64 2] w (Kd w false 1 false 1 234 235 233):=by
 have Ox:∀(fn:Fn) (first cap:Array Value) (w:World),(Instr.makeFunc fn first cap).run Tryz.prog w= .ok (.func fn first cap) w:=fun _ _ _ _=>rfl;go_enter Tryz.func173,Tryz.ntmps173;go_wp2_with (first|(go_at_call 230;refine(gK _ _).mono ?_;rintro r w1 ⟨rfl,rfl⟩)|(go_at_call 236;refine(eQ _ _).mono ?_;rintro r w1 ⟨rfl,rfl⟩));refine bR (v:= .tuple #[.agg #[fj (w.heap.size+1),fj (w.heap.size+2), .func (.func 234) #[] #[], .func (.func 235) #[] #[], .func (.func 233) #[] #[]], .bool true]) (by simp[results,Tryz.results173,go_sem]) rfl ?_;exact⟨w.heap.size+1,w.heap.size+2,rfl,(((((Gr.refl w).alloc _).alloc _).alloc _).alloc _).below,(A7 w _ _ _ _).2.2.1,(A7 w _ _ _ _).2.1⟩
theorem zB(w:World):Calls Tryz.prog 173 #[.int .i64 3] w (Kd w false 1 false 1 234 235 233):=by
 have Ox:∀(fn:Fn) (first cap:Array Value) (w:World),(Instr.makeFunc fn first cap).run Tryz.prog w= .ok (.func fn first cap) w:=fun _ _ _ _=>rfl;go_enter Tryz.func173,Tryz.ntmps173;go_wp2_with (first|(go_at_call 230;refine(gK _ _).mono ?_;rintro r w1 ⟨rfl,rfl⟩)|(go_at_call 236;refine(eQ _ _).mono ?_;rintro r w1 ⟨rfl,rfl⟩));refine bR (v:= .tuple #[.agg #[fj (w.heap.size+1),fj (w.heap.size+2), .func (.func 234) #[] #[], .func (.func 235) #[] #[], .func (.func 233) #[] #[]], .bool true]) (by simp[results,Tryz.results173,go_sem]) rfl ?_;exact⟨w.heap.size+1,w.heap.size+2,rfl,(((((Gr.refl w).alloc _).alloc _).alloc _).alloc _).below,(A7 w _ _ _ _).2.2.1,(A7 w _ _ _ _).2.1⟩
theorem zy(w:World):Calls Tryz.prog 173 #[.int .i64 4] w (Kd w true 1 false 1 231 232 233):=by
 have Ox:∀(fn:Fn) (first cap:Array Value) (w:World),(Instr.makeFunc fn first cap).run Tryz.prog w= .ok (.func fn first cap) w:=fun _ _ _ _=>rfl;go_enter Tryz.func173,Tryz.ntmps173;go_wp2_with (first|(go_at_call 230;refine(gK _ _).mono ?_;rintro r w1 ⟨rfl,rfl⟩)|(go_at_call 236;refine(eQ _ _).mono ?_;rintro r w1 ⟨rfl,rfl⟩));refine bR (v:= .tuple #[.agg #[fu (w.heap.size+4),fj (w.heap.size+2), .func (.func 231) #[] #[], .func (.func 232) #[] #[], .func (.func 233) #[] #[]], .bool true]) (by simp[results,Tryz.results173,go_sem]) rfl ?_;exact⟨w.heap.size+4,w.heap.size+2,rfl,((((((Gr.refl w).alloc _).alloc _).alloc _).alloc _).alloc _).below,(Gi w _ _ _ _ _).1,(Gi w _ _ _ _ _).2.2.1⟩
theorem zx(w:World):Calls Tryz.prog 173 #[.int .i64 5] w (Kd w false 1 false 1 237 238 239):=by
 have Ox:∀(fn:Fn) (first cap:Array Value) (w:World),(Instr.makeFunc fn first cap).run Tryz.prog w= .ok (.func fn first cap) w:=fun _ _ _ _=>rfl;go_enter Tryz.func173,Tryz.ntmps173;go_wp2_with (first|(go_at_call 230;refine(gK _ _).mono ?_;rintro r w1 ⟨rfl,rfl⟩)|(go_at_call 236;refine(eQ _ _).mono ?_;rintro r w1 ⟨rfl,rfl⟩));refine bR (v:= .tuple #[.agg #[fj (w.heap.size+1),fj (w.heap.size+2), .func (.func 237) #[] #[], .func (.func 238) #[] #[], .func (.func 239) #[] #[]], .bool true]) (by simp[results,Tryz.results173,go_sem]) rfl ?_;exact⟨w.heap.size+1,w.heap.size+2,rfl,(((((Gr.refl w).alloc _).alloc _).alloc _).alloc _).below,(A7 w _ _ _ _).2.2.1,(A7 w _ _ _ _).2.1⟩
theorem zw(w:World):Calls Tryz.prog 173 #[.int .i64 6] w (Kd w false 1 false 1 231 232 233):=by
 have Ox:∀(fn:Fn) (first cap:Array Value) (w:World),(Instr.makeFunc fn first cap).run Tryz.prog w= .ok (.func fn first cap) w:=fun _ _ _ _=>rfl;go_enter Tryz.func173,Tryz.ntmps173;go_wp2_with (first|(go_at_call 230;refine(gK _ _).mono ?_;rintro r w1 ⟨rfl,rfl⟩)|(go_at_call 236;refine(eQ _ _).mono ?_;rintro r w1 ⟨rfl,rfl⟩));refine bR (v:= .tuple #[.agg #[fj (w.heap.size+1),fj (w.heap.size+2), .func (.func 231) #[] #[], .func (.func 232) #[] #[], .func (.func 233) #[] #[]], .bool true]) (by simp[results,Tryz.results173,go_sem]) rfl ?_;exact⟨w.heap.size+1,w.heap.size+2,rfl,(((((Gr.refl w).alloc _).alloc _).alloc _).alloc _).below,(A7 w _ _ _ _).2.2.1,(A7 w _ _ _ _).2.1⟩
theorem zu(w:World):Calls Tryz.prog 173 #[.int .i64 7] w (Kd w false 1 false 0 231 232 233):=by
 have Ox:∀(fn:Fn) (first cap:Array Value) (w:World),(Instr.makeFunc fn first cap).run Tryz.prog w= .ok (.func fn first cap) w:=fun _ _ _ _=>rfl;go_enter Tryz.func173,Tryz.ntmps173;go_wp2_with (first|(go_at_call 230;refine(gK _ _).mono ?_;rintro r w1 ⟨rfl,rfl⟩)|(go_at_call 236;refine(eQ _ _).mono ?_;rintro r w1 ⟨rfl,rfl⟩));refine bR (v:= .tuple #[.agg #[fj (w.heap.size+1),fj (w.heap.size+4), .func (.func 231) #[] #[], .func (.func 232) #[] #[], .func (.func 233) #[] #[]], .bool true]) (by simp[results,Tryz.results173,go_sem]) rfl ?_;exact⟨w.heap.size+1,w.heap.size+4,rfl,((((((Gr.refl w).alloc _).alloc _).alloc _).alloc _).alloc _).below,(Gi w _ _ _ _ _).2.2.2.1,(Gi w _ _ _ _ _).1⟩
theorem zo(w:World):Calls Tryz.prog 173 #[.int .i64 8] w (Kd w true 0 true 0 240 241 242):=by
 have Ox:∀(fn:Fn) (first cap:Array Value) (w:World),(Instr.makeFunc fn first cap).run Tryz.prog w= .ok (.func fn first cap) w:=fun _ _ _ _=>rfl;go_enter Tryz.func173,Tryz.ntmps173;go_wp2_with (first|(go_at_call 230;refine(gK _ _).mono ?_;rintro r w1 ⟨rfl,rfl⟩)|(go_at_call 236;refine(eQ _ _).mono ?_;rintro r w1 ⟨rfl,rfl⟩));refine bR (v:= .tuple #[.agg #[fu (w.heap.size+4),fu (w.heap.size+5), .func (.func 240) #[] #[], .func (.func 241) #[] #[], .func (.func 242) #[] #[]], .bool true]) (by simp[results,Tryz.results173,go_sem]) rfl ?_;exact⟨w.heap.size+4,w.heap.size+5,rfl,(((((((Gr.refl w).alloc _).alloc _).alloc _).alloc _).alloc _).alloc _).below,(Rv w _ _ _ _ _ _).2.1,(Rv w _ _ _ _ _ _).1⟩
theorem Kh(k:Int)(hk:k<1\/8<k)(w:World):Calls Tryz.prog 173 #[.int .i64 k] w fun r w'=>r= .returned (.tuple #[.agg #[.nilFunc, .nilFunc, .nilFunc, .nilFunc, .nilFunc], .bool false])/\Below w.heap.size w w':=by
 have Ox:∀(fn:Fn) (first cap:Array Value) (w:World),(Instr.makeFunc fn first cap).run Tryz.prog w= .ok (.func fn first cap) w:=fun _ _ _ _=>rfl;obtain⟨k1,k2,k3,k4,k5,k6,k7,k8⟩:¬k=1/\¬k=2/\¬k=3/\¬k=4/\¬k=5/\¬k=6/\¬k=7/\¬k=8:=by omega
 clear hk;go_enter Tryz.func173,Tryz.ntmps173;go_wp2_with (first|(go_at_call 230;refine(gK _ _).mono ?_;rintro r w1 ⟨rfl,rfl⟩));refine bR (v:= .tuple #[.agg #[.nilFunc, .nilFunc, .nilFunc, .nilFunc, .nilFunc], .bool false]) (by simp[results,Tryz.results173,go_sem]) rfl ?_;exact⟨rfl,(((((Gr.refl w).alloc _).alloc _).alloc _).alloc _).below⟩
end Df
section
open Go.RowKit Go.Sort
theorem yu{P:Program}(w:World)(sT ty elem:TypeId)(z:Value)(g o n c:Nat)(cur:Array Value)(t:TypeId)
    (hu:P.underlying sT=some (.slice elem)) (hz:(zeroValue elem).run P w= .ok z w) (hn:0<n)
    (hg:w.heap[g]? =some (.cells cur t (0,0))) (hfit:o+(Builtin.zeroCells z.cells n).size<=cur.size) (h1:∀v∈(Builtin.zeroCells z.cells n).toList,v.oneCell'=true) :
    (Builtin.clear_ #[sT] ty #[.slice (some ⟨g,o,none⟩) n c]).run P w =
     .ok (.tuple #[]) (w.setRow g (cur.toList.take o++(Builtin.zeroCells z.cells n).toList++cur.toList.drop (o+(Builtin.zeroCells z.cells n).size)).toArray):=by
 have hst:=run_storeCells_at P g o t (Builtin.zeroCells z.cells n).toList 0 cur w hg (by simpa using hfit) h1;obtain⟨m,rfl⟩:∃m,n=m+1:=⟨n-1,by omega⟩;simp[Builtin.clear_,run_underlying hu,hz,Result.andThen];simp at hst;rw[hst]
theorem pX{P:Program}{E:El α}{w:World}{base:Nat}{g cap i:Nat}{M:List α}(ty:TypeId)(c:Nat)(hu:P.underlying sT=some (.slice e))(hz:∀u:World,(zeroValue e).run P u= .ok z u)(hzs:z.cells.size=E.k)
    (hz1:∀j,j<E.k->(z.cells[j]!).oneCell'=true) (hk:0<E.k) (h:w.ownsRow base e E.k (.slice (some ⟨g,0,none⟩) N cap) N (fl E M)) (hM:M.length=N) (hi:i<N) :
    ∃w',(Builtin.clear_ #[sT] ty #[.slice (some ⟨g,i*E.k,none⟩) (N-i) c]).run P w= .ok (.tuple #[]) w'/\w'.ownsRow base e E.k (.slice (some ⟨g,0,none⟩) i cap) i (fl E (M.take i))/\Kp (fun k=>k=g) w w':=by
 obtain⟨hlen,⟨h0,_⟩|⟨g',cap',cur,hv,hbs,hgg,hn,hm,hcs,htk⟩⟩:=id h
 ·cases h0
 cases hv;have hsz:(Builtin.zeroCells z.cells (N-i)).size=(N-i)*E.k:=by simp[Builtin.zeroCells,hzs]
 have hNk:i*E.k+(N-i)*E.k=N*E.k:=by rw[<-Nat.add_mul];congr 1;omega
 have hNc:N*E.k<=cap*E.k:=nM _ hn;have hfit:i*E.k+(Builtin.zeroCells z.cells (N-i)).size<=cur.size:=by rw[hsz,hNk,hcs];exact hNc
 have h1:∀v∈(Builtin.zeroCells z.cells (N-i)).toList,v.oneCell'=true:=by
  intro v hv;simp[Builtin.zeroCells]at hv;obtain⟨j,_,rfl⟩:=hv;have:=hz1 (j%z.cells.size) (by rw[hzs];exact Nat.mod_lt _ hk);simpa using this
 have hrun:=yu w sT ty e z g (i*E.k) (N-i) c cur e hu (hz w) (by omega) hgg hfit h1;have hle:i*E.k<=cur.size:=by omega
 refine⟨_,hrun,⟨by rw[gD,lK];congr 1;omega,Or.inr ⟨g,cap,_,rfl,hbs,setRow_heap w g _ _ _ _ hgg,by omega,hm, ?_, ?_⟩⟩,⟨rfl,rfl,rfl,by simp[World.setRow],fun j _ hne=>setRow_other w g j _ hne⟩⟩
 ·simp only[List.size_toArray,dK,lK,List.length_drop,Array.length_toList,hsz];omega
 ·rw[List.toList_toArray,aA,List.take_append_of_le_length (by simp[hle]),List.take_take,Nat.min_self,<-Bz,<-htk,List.take_take,Nat.min_eq_left (nM _ (by omega))]
end
namespace Pt
def iR(t:ah):Nat:=(t.1.1*340282366920938463463374607431768211456+t.1.2.1*18446744073709551616+t.1.2.2).toNat
theorem Ac(a b:ah):iR a<iR b↔PX.lN a b:=by
 have h1:=bX a;have h2:=bX b;show _↔(a.1.1<b.1.1\/(a.1.1=b.1.1/\(a.1.2.1<b.1.2.1\/(a.1.2.1=b.1.2.1/\a.1.2.2<b.1.2.2))));unfold iR;omega
theorem CF{a b:ah}(h:iR a=iR b):a=b:=by
 rcases bH.tot a b with k|k|k
 ·have:=(Ac a b).2 k;omega
 ·exact k
 ·have:=(Ac b a).2 k;omega
theorem lex{x y r s:Nat}(hr:r<M)(hs:s<M):x*M+r<y*M+s↔x<y\/(x=y/\r<s):=by
 rcases Nat.lt_trichotomy x y with h|h|h
 ·have h1:(x+1)*M<=y*M:=nM M h;rw[Nat.succ_mul]at h1;exact⟨fun _=> .inl h,fun _=>by omega⟩
 ·subst h;exact⟨fun k=> .inr ⟨rfl,by omega⟩,fun k=>by omega⟩
 ·have h1:(y+1)*M<=x*M:=nM M h;rw[Nat.succ_mul]at h1;exact⟨fun k=>by omega,fun k=>by omega⟩
def mI(N:Nat)(rk:Nat->Nat)(x:Nat×ah):Nat:=(iR x.2*(N+1)+rk x.1)*(N+1)+x.1
theorem wu{t u:ah}(hp:p<=N)(hq:q<=N)(rp:rk p<=N)(rq:rk q<=N):mI N rk (p,t)<mI N rk (q,u)↔PX.lN t u\/(t=u/\(rk p<rk q\/(rk p=rk q/\p<q))):=by
 unfold mI;simp only;rw[lex (by omega) (by omega),lex (by omega) (by omega),Ac];constructor
 ·rintro((h|⟨h1,h2⟩)|⟨h1,h2⟩)
  ·exact .inl h
  ·exact .inr ⟨CF h1, .inl h2⟩
  ·have h3:iR t=iR u/\rk p=rk q:=by
     have k1:=(lex (x:=iR t) (y:=iR u) (r:=rk p) (s:=rk q) (M:=N+1) (by omega) (by omega));have k2:=(lex (x:=iR u) (y:=iR t) (r:=rk q) (s:=rk p) (M:=N+1) (by omega) (by omega));have k3:¬(iR t<iR u\/iR t=iR u/\rk p<rk q):=fun e=>(by have:=k1.2 e;omega);have k4:¬(iR u<iR t\/iR u=iR t/\rk q<rk p):=fun e=>(by have:=k2.2 e;omega);omega
   exact .inr ⟨CF h3.1, .inr ⟨h3.2,h2⟩⟩
 ·rintro(h|⟨rfl,h|⟨h1,h2⟩⟩)
  ·exact .inl (.inl h)
  ·exact .inl (.inr ⟨rfl,h⟩)
  ·exact .inr ⟨by rw[h1],h2⟩
theorem IL{t u:ah}(hp:p<=N)(hq:q<=N)(rp:rk p<=N)(rq:rk q<=N)(h:mI N rk (p,t)=mI N rk (q,u)):p=q/\t=u:=by
 have k1:¬(PX.lN t u\/(t=u/\(rk p<rk q\/(rk p=rk q/\p<q)))):=fun e=>by have:=(wu (t:=t) (u:=u) hp hq rp rq).2 e;omega
 have k2:¬(PX.lN u t\/(u=t/\(rk q<rk p\/(rk q=rk p/\q<p)))):=fun e=>by have:=(wu (t:=u) (u:=t) hq hp rq rp).2 e;omega
 rcases bH.tot t u with k|k|k
 ·exact absurd (.inl k) k1
 ·subst k;refine⟨?_,rfl⟩;have e1:¬(rk p<rk q\/(rk p=rk q/\p<q)):=fun e=>k1 (.inr ⟨rfl,e⟩);have e2:¬(rk q<rk p\/(rk q=rk p/\q<p)):=fun e=>k2 (.inr ⟨rfl,e⟩);omega
 ·exact absurd (.inl k) k2
theorem aa0{L:Nat->List (Nat×ah)}(EX:∀p,p<N->rk p<=N)(hto:∀p q b,p<N->(q,b)∈L p->q<N)(hz:∀p q,p<N->(q,PX.z)∈L p->rk p<rk q):rJ N L (mI N rk) where
 inj p q t u hp hq h:=IL (by omega) (by omega) (EX p hp) (EX q hq) h
 up p t u hp h hne:=(wu (by omega) (by omega) (EX p hp) (EX p hp)).2 (.inl ((bH.told h).resolve_left hne))
 step p q t u b hp hb hv:=by
  have hq:=hto p q b hp hb;refine⟨hq,(wu (by omega) (by omega) (EX p hp) (EX q hq)).2 ?_⟩;obtain⟨e1,e2,e3⟩:=bz hv;have hb':=bX b;by_cases e:b=PX.z
  ·subst e;have z1:PX.z.1.1=0:=rfl;have z2:PX.z.1.2.1=0:=rfl;have z3:PX.z.1.2.2=0:=rfl;exact .inr ⟨bW (by omega) (by omega) (by omega), .inl (hz p q hp hb)⟩
  ·have h1:PX.aW t u:=⟨by omega,by omega,by omega⟩;have hne:t≠u:=fun h=>e (bW (show b.1.1=0 by rw[h]at e1;omega) (show b.1.2.1=0 by rw[h]at e2;omega) (show b.1.2.2=0 by rw[h]at e3;omega));exact .inl ((bH.told h1).resolve_left hne)
theorem XI(E:Nat->Nat->Bool)(hq:q<N)(h1:∀r,E r p=true->E r q=true)(h2:E q p=false)(h3:E q q=true):((List.range N).filter fun r=>E r p).length<((List.range N).filter fun r=>E r q).length:=by
 have h4:(q::(List.range N).filter fun r=>E r p).length<=((List.range N).filter fun r=>E r q).length:=by
  refine iT (List.nodup_cons.2 ⟨fun h=> ?_,List.nodup_range.filter _⟩) fun r hr=> ?_
  ·rw[mF,h2]at h;exact absurd h.2 (by simp)
  ·rcases eO.1 hr with rfl|hr
   ·exact mF.2 ⟨mR.2 hq,h3⟩
   ·rw[mF]at hr⊢;exact⟨hr.1,h1 r hr.2⟩
 rw[lC]at h4;omega
def nQ(D:Nat->List (ah×Int))(ps:List Nat):List (Nat×ah×Int):=ps.flatMap fun p=>(D p).map fun d=>(p,d.1,d.2)
theorem pM(D:Nat->List (ah×Int))(l m:List Nat):nQ D (l++m)=nQ D l++nQ D m:=List.flatMap_append
theorem Qz(D:Nat->List (ah×Int))(p:Nat):nQ D [p]=(D p).map fun d=>(p,d.1,d.2):=by simp[nQ]
theorem I8{D:Nat->List (ah×Int)}{e:Nat×ah×Int}:e∈nQ D ps↔e.1∈ps/\(e.2.1,e.2.2)∈D e.1:=by
 unfold nQ;rw[List.mem_flatMap];constructor
 ·rintro⟨p,hp,h⟩;obtain⟨d,hd,rfl⟩:=mM.1 h;exact⟨hp,hd⟩
 ·rintro⟨hp,hd⟩;exact⟨e.1,hp,mM.2 ⟨(e.2.1,e.2.2),hd,rfl⟩⟩
theorem Qv{D:Nat->List (ah×Int)}(hn:ps.Nodup)(hp:p∈ps)(t:ah):pG (nQ D ps) (p,t)=sm (fun d=>(if d.1=t then 1 else 0)*d.2) (D p):=by
 induction ps with
 | nil => cases hp
 | cons a ps ih=>
  have hn':=List.nodup_cons.1 hn;have e0:nQ D (a::ps)=(D a).map (fun d=>(a,d.1,d.2))++nQ D ps:=by simp[nQ]
  have e1:pG ((D a).map fun d=>(a,d.1,d.2)) (p,t)=if a=p then sm (fun d=>(if d.1=t then 1 else 0)*d.2) (D a)else 0:=by
   unfold pG;rw[FR];by_cases e:a=p
   ·subst e;rw[if_pos rfl];refine eU fun d _=> ?_;by_cases k:d.1=t
    ·rw[if_pos (by rw[k]),if_pos k,Int.one_mul]
    ·rw[if_neg fun h=>k (Prod.mk.inj h).2,if_neg k,Int.zero_mul]
   ·rw[if_neg e];exact iV fun d _=>if_neg fun h=>e (Prod.mk.inj h).1
  rw[e0,pF,e1];rcases eO.1 hp with rfl|hp
  ·rw[if_pos rfl];have:pG (nQ D ps) (p,t)=0:=iV fun e he=>if_neg fun h=>hn'.1 (by
    have:=(I8.1 he).1;rw[(Prod.mk.inj h).1]at this;exact this)
   omega
  ·have hap:a≠p:=fun e=>hn'.1 (by rw[e];exact hp);rw[if_neg hap,ih hn'.2 hp];omega
theorem Au(l:List ah)(hn:l.Nodup)(t:ah):sm (fun u=>if u=t then 1 else 0) l=if t∈l then 1 else 0:=by
 induction l with
 | nil => rfl
 | cons a l ih=>
  have hn':=List.nodup_cons.1 hn;rw[aQ,ih hn'.2];by_cases e:a=t
  ·subst e;rw[if_pos rfl,if_neg hn'.1,if_pos mX];rfl
  ·rw[if_neg e];by_cases k:t∈l
   ·rw[if_pos k,if_pos (mO _ k)];rfl
   ·rw[if_neg k,if_neg fun h=>(eO.1 h).elim (fun h=>e h.symm) k];rfl
theorem yn.len{a b:List ah}{ds:List (ah×Int)}(h:yn a b ds):ds.length<=a.length+b.length:=by
 have:=iT h.nd (m:=a++b) fun t ht=>by
  obtain⟨d,hd,rfl⟩:=mM.1 ht;rcases(h.mem d.1 d.2).1 hd with k|k
  ·exact List.mem_append_left _ k.1
  ·exact List.mem_append_right _ k.1
 rw[fQ,dK]at this;exact this
theorem yn.sign{a b:List ah}{ds:List (ah×Int)}(h:yn a b ds){d:ah×Int}(hd:d∈ds):d.2= -1\/d.2=1:=by
 rcases(h.mem d.1 d.2).1 hd with k|k
 ·exact .inl k.2.2
 ·exact .inr k.2.2
theorem Iw{D:Nat->List (ah×Int)}{Oo On:Nat->List ah}(ps:List Nat)(hD:∀p∈ps,yn (Oo p) (On p) (D p)):(nQ D ps).length<=sN (fun p=>(Oo p).length+(On p).length) ps:=by
 unfold nQ;exact lu _ _ _ fun p hp=>by rw[fQ];exact(hD p hp).len
section
variable {N:Nat} {L:Nat->List (Nat×ah)} {ps:Nat×ah->Nat} {Oo On Fo Fn:Nat->List ah} {Co Cn:Nat->ah->Int} {W:List (Nat×ah×Int)} {D:Nat->List (ah×Int)}
theorem Ew.turn(h:Ew N L Oo Co Fo)(hO:∀p,p<N->(Oo p).Nodup)(hN:∀p,p<N->(On p).Nodup)(hD:∀p,p<N->yn (Oo p) (On p) (D p))(hW:W.Perm (nQ D (List.range N))):P9 N L On Co Fo W:=by
 refine⟨fun p t hp=> ?_,h.fr⟩;have hd:=(hD p hp).sum (hO p hp) (hN p hp) fun u=>if u=t then 1 else 0
 rw[Au _ (hO p hp),Au _ (hN p hp)]at hd;rw[h.eq p t hp,qC hW,Qv List.nodup_range (mR.2 hp),hd];unfold rhs;omega
theorem Ew.xZ(h:Ew N L Oo Co Fo)(hO:∀p,p<N->(Oo p).Nodup)(hN:∀p,p<N->(On p).Nodup)(hD:∀p,p<N->yn (Oo p) (On p) (D p))(hW:W.Perm (nQ D (List.range N))){S:Nat->List ah}{B:Nat}(hB:W.length+pot N L ps S Co Cn 0<=B):KS N L ps On Co Cn S B 0 Co Fo W:=
 ⟨h.turn hO hN hD hW,fun p t _=>by unfold mix;rw[if_neg (nW _)],fun e he=>⟨mR.1 (I8.1 (hW.mem_iff.1 he)).1,zL _⟩,hB⟩
def Ms(N:Nat)(L:Nat->List (Nat×ah))(Oo Fo On Fn:Nat->List ah)(q:Nat):List ah:=sup N L Oo Fo q++sup N L On Fn q
theorem RB(h:Ew N L Oo Co Fo)(k:Ew N L On Cn Fn){u:ah}(hq:q<N)(hu:0<Co q u\/0<Cn q u):u∈Ms N L Oo Fo On Fn q:=by
 rcases hu with e|e
 ·rw[h.eq q u hq]at e;exact List.mem_append_left _ (I9 e)
 ·rw[k.eq q u hq]at e;exact List.mem_append_right _ (I9 e)
end
def mZ(N:Nat)(L:Nat->List (Nat×ah))(q:Nat):Nat:=sN (fun p=>((L p).filter fun s=>decide (s.1=q)).length) (List.range N)
theorem V7(l:List (Nat×ah))(u:ah)(q:Nat):((EW l u).filterMap fun y=>if y.1=q then some y.2 else none).length<=(l.filter fun s=>decide (s.1=q)).length:=by
 induction l with
 | nil => exact nR _
 | cons s l ih=>
  unfold EW at ih⊢;rw[List.filterMap_cons,List.filter_cons];cases hv:bF s.2 u with
  | none=>
   simp only[Option.map_none];split
   ·rw[lC];omega
   ·exact ih
  | some v=>
   simp only[Option.map_some,List.filterMap_cons];by_cases e:s.1=q
   ·rw[if_pos e,if_pos (by simpa using e)];simp only[lC];omega
   ·rw[if_neg e,if_neg (by simpa using e)];exact ih
theorem mG(f:α->Nat)(l:List α)(k:Nat):sN (fun a=>k*f a) l=k*sN f l:=by
 induction l with
 | nil => rfl
 | cons a l ih => rw[bS,bS,ih,Nat.mul_add]
theorem mH(f g:α->Nat)(l:List α):sN (fun a=>f a+g a) l=sN f l+sN g l:=by
 induction l with
 | nil => rfl
 | cons a l ih => rw[bS,bS,bS,ih];omega
theorem Mj{L:Nat->List (Nat×ah)}{O F:Nat->List ah}(hF:∀p,p<N->(F p).length<=M)(q:Nat):(sup N L O F q).length<=(O q).length+M*mZ N L q:=by
 have key:((arr N L F).filterMap fun y=>if y.1=q then some y.2 else none).length<=M*mZ N L q:=by
  unfold arr mZ;rw[<-mG];rw[List.filterMap_flatMap];refine lu _ _ _ fun p hp=> ?_;unfold ar1;rw[List.filterMap_flatMap];refine nT (iD _ _ _ fun u _=>V7 (L p) u q) (nM _ (hF p (mR.1 hp)))
 unfold sup;rw[dK];exact Nat.add_le_add_left key _
section
variable {N:Nat} {L:Nat->List (Nat×ah)} {ps:Nat×ah->Nat} {Oo On Fo Fn:Nat->List ah} {Co Cn:Nat->ah->Int} {M T:Nat}
theorem IG(hFo:∀p,p<N->(Fo p).length<=M)(hFn:∀p,p<N->(Fn p).length<=M)(hO:∀p,p<N->(Oo p).length<=T)(hN:∀p,p<N->(On p).length<=T)(hq:q<N):(Ms N L Oo Fo On Fn q).length<=2*(T+M*mZ N L q):=by
 unfold Ms;rw[dK];have h1:=Mj (L:=L) (O:=Oo) hFo q;have h2:=Mj (L:=L) (O:=On) hFn q;have h3:=hO q hq;have h4:=hN q hq;omega
theorem Re(hFo:∀p,p<N->(Fo p).length<=M)(hFn:∀p,p<N->(Fn p).length<=M)(hO:∀p,p<N->(Oo p).length<=T)(hN:∀p,p<N->(On p).length<=T)(x:Nat):pot N L ps (Ms N L Oo Fo On Fn) Co Cn x<=6*(T*sN (fun q=>(L q).length) (List.range N)+M*sN (fun q=>(L q).length*mZ N L q) (List.range N)):=by
 refine nT VL ?_;rw[<-mG,<-mG,<-mH,<-mG];refine kr fun q hq=> ?_;have h:=IG (L:=L) hFo hFn hO hN (mR.1 hq);have h2:(L q).length*(3*(Ms N L Oo Fo On Fn q).length)<=(L q).length*(3*(2*(T+M*mZ N L q))):=Nat.mul_le_mul_left _ (Nat.mul_le_mul_left _ h);refine nT h2 (Nat.le_of_eq ?_);have e1:3*(2*(T+M*mZ N L q))=6*(T+M*mZ N L q):=by omega
 rw[e1,Nat.mul_left_comm,Nat.mul_add,Nat.mul_comm _ T,Nat.mul_left_comm _ M]
theorem Ci.short{St:Nat->Nat->ah->Prop}{R:Nat->Nat->List ah}{O F:Nat->List ah}(h:Ci N L St R)(hF:Fg PX (jm N R O p) (F p)):(F p).length<=64*sN (fun q=>(O q).length) (List.range N):=by
 have h1:=Fg.len hF;have h2:=h.len (O:=O) p;rw[<-mG];refine nT h1 (nT h2 (Nat.le_of_eq ?_))
 congr 1
 funext q
 exact Nat.mul_comm _ _
end
theorem ko{f:α->Nat}{l:List α}{a:α}(ha:a∈l):f a<=sN f l:=by
 have:=TZ (f:=fun _=>0) (g:=f) (c:=f a) ha (fun _ _=>zL _) (nR _);omega
def Ua(N:Nat)(E:Nat->Nat->Bool)(p:Nat):Nat:=((List.range N).filter fun r=>E r p).length
theorem MW(N:Nat)(E:Nat->Nat->Bool)(p:Nat):Ua N E p<=N:=by
 have:=List.length_filter_le (fun r=>E r p) (List.range N);rw[List.length_range]at this;exact this
theorem Jy{St:Nat->Nat->ah->Prop}:Y0 St p PX.z q PX.z↔Wy PX St p q PX.z:=by
 constructor
 ·rintro⟨a,c,ha,hc,k1,k2,k3⟩;obtain⟨c1,c2,c3⟩:=bz hc;have ba:=bX a;have z1:PX.z.1.1=0:=rfl;have z2:PX.z.1.2.1=0:=rfl;have z3:PX.z.1.2.2=0:=rfl;have ea:a=PX.z:=bW (by omega) (by omega) (by omega);exact ea ▸ ha
 ·exact fun h=>⟨PX.z,PX.z,h,Ag PX.z,bH.refl _⟩
theorem Lu{St:Nat->Nat->ah->Prop}(hs:∀q q',St q q' PX.z->f q+1<=f q'){c:ah}(h:Wy PX St p q c):c=PX.z->p=q\/f p+1<=f q:=by
 induction h with
 | nil => exact fun _=>Or.inl rfl
 | @step q q' a b c h1 h2 h3 ih=>
  intro hc;subst hc;obtain⟨s1,s2,s3⟩:=bz h3;have ba:=bX a;have bb:=bX b;have z1:PX.z.1.1=0:=rfl;have z2:PX.z.1.2.1=0:=rfl;have z3:PX.z.1.2.2=0:=rfl;have ea:a=PX.z:=bW (by omega) (by omega) (by omega);have eb:b=PX.z:=bW (by omega) (by omega) (by omega);rw[eb]at h2;have h4:=hs _ _ h2;rcases ih ea with h5|h5
  ·subst h5;exact Or.inr h4
  ·exact Or.inr (by omega)
theorem VF{L:Nat->List (Nat×ah)}{St:Nat->Nat->ah->Prop}{E:Nat->Nat->Bool}(hst:∀p q b,St p q b↔p<N/\(q,b)∈L p)(hto:∀p q b,St p q b->q<N)
    (hs:∀q q',St q q' PX.z->f q+1<=f q') (hE:∀r p,r<N->p<N->(E r p=true↔Y0 St r PX.z p PX.z)):rJ N L (mI N (Ua N E)):=by
 refine aa0 (fun p _=>MW N E p) (fun p q b hp hb=>hto p q b ((hst p q b).2 ⟨hp,hb⟩)) fun p q hp hb=> ?_;have hpq:St p q PX.z:=(hst p q PX.z).2 ⟨hp,hb⟩;have hq:q<N:=hto p q _ hpq;have e1:∀x,x<N->((List.range N).filter fun r=>E r x)=(List.range N).filter fun r=>(fun r x=>decide (r<N)&&E r x) r x:=fun x _=>List.filter_congr fun r hr=>by
  have h:decide (r<N)=true:=by simpa using mR.1 hr
  show E r x=(decide (r<N)&&E r x);rw[h,Bool.true_and]
 unfold Ua;rw[e1 p hp,e1 q hq];refine XI (fun r x=>decide (r<N)&&E r x) hq (fun r hr=> ?_) ?_ ?_
 ·simp only[bA,dE]at hr⊢;refine⟨hr.1,(hE r q hr.1 hq).2 (Jy.2 (.step (Jy.1 ((hE r p hr.1 hp).1 hr.2)) hpq (Ag PX.z)))⟩
 ·simp only[Bool.and_eq_false_iff];refine Or.inr (Bool.eq_false_iff.2 fun h=> ?_);have hw:=Jy.1 ((hE q p hq hp).1 h);have h1:=hs p q hpq;rcases Lu hs hw rfl with e|e
  ·subst e;omega
  ·omega
 ·simp only[bA,dE];exact⟨hq,(hE q q hq hq).2 (Jy.2 .nil)⟩
section
variable {N:Nat} {R:Nat->Nat->List ah} {O P:Nat->List ah} {c:Nat->ah->Int} {p:Nat}
end
structure Trn(N:Nat)(L:Nat->List (Nat×ah))(ps:Nat×ah->Nat)(R:Nat->Nat->List ah)(Oo On:Nat->List ah)(Co Cn:Nat->ah->Int)(Fo Fn S:Nat->List ah)(T E B:Nat)(W:List (Nat×ah×Int)):Prop where
 yc:Ew N L On Cn Fn
 OY:∀p,p<N->Fg PX (jm N R On p) (Fn p)
 sup:∀q u,q<N->0<Co q u\/0<Cn q u->u∈S q
 xZ:KS N L ps On Co Cn S B 0 Co Fo W
 bd:W.length+pot N L ps S Co Cn 0<=B
 bo:∀p t,p<N->0<=Co p t/\Co p t<=1+E
 bn:∀p t,p<N->0<=Cn p t/\Cn p t<=1+E
 sl:∀p,p<N->(S p).length<=2*(T+64*T*E)
 st:sN (fun p=>(S p).length) (List.range N)<=2*(N*T+64*T*E)
 fo:∀p,p<N->(Fo p).length<=64*T
 fn:∀p,p<N->(Fn p).length<=64*T
theorem iZ(l:List α)(g:α->Nat)(N:Nat):sN (fun q=>(l.filter fun s=>decide (g s=q)).length) (List.range N)<=l.length:=by
 induction l with
 | nil=>
  have:sN (fun q=>(([]:List α).filter fun s=>decide (g s=q)).length) (List.range N)=0:=by
   have h:∀m:List Nat,sN (fun q=>(([]:List α).filter fun s=>decide (g s=q)).length) m=0:=fun m=>by
    induction m with
    | nil => rfl
    | cons a m ih => rw[bS,ih];rfl
   exact h _
  omega
 | cons a l ih=>
  have e:∀q,((a::l).filter fun s=>decide (g s=q)).length=(if g a=q then 1 else 0)+(l.filter fun s=>decide (g s=q)).length:=fun q=>by
   rw[List.filter_cons];by_cases k:g a=q
   ·rw[if_pos (by simpa using k),if_pos k,lC];omega
   ·rw[if_neg (by simpa using k),if_neg k];omega
  have h1:sN (fun q=>if g a=q then 1 else 0) (List.range N)<=1:=by
   have h:∀m:List Nat,m.Nodup->sN (fun q=>if g a=q then 1 else 0) m<=1:=fun m hm=>by
    induction m with
    | nil => exact zL _
    | cons b m ih=>
     have hm':=List.nodup_cons.1 hm;rw[bS];by_cases k:g a=b
     ·rw[if_pos k];have h0:sN (fun q=>if g a=q then 1 else 0) m=0:=by
       have h':∀m:List Nat,b∉m->sN (fun q=>if g a=q then 1 else 0) m=0:=fun m=>by
        induction m with
        | nil => intro _;rfl
        | cons x m ih=>
         intro hx;rw[bS,if_neg fun e=>hx (by rw[<-k,e];exact mX),ih fun h=>hx (mO _ h)]
       exact h' m hm'.1
      omega
     ·rw[if_neg k];have:=ih hm'.2;omega
   exact h _ List.nodup_range
  have e2:sN (fun q=>((a::l).filter fun s=>decide (g s=q)).length) (List.range N)=sN (fun q=>(if g a=q then 1 else 0)+(l.filter fun s=>decide (g s=q)).length) (List.range N):=by
   congr 1
   funext q
   exact e q
  rw[e2,mH,lC];omega
theorem QS{β:Type}(f:α->β->Nat)(l:List α)(m:List β):sN (fun a=>sN (f a) m) l=sN (fun b=>sN (fun a=>f a b) l) m:=by
 induction l with
 | nil=>
  have h:∀m:List β,sN (fun b=>sN (fun a=>f a b) []) m=0:=fun m=>by
   induction m with
   | nil => rfl
   | cons a m ih => rw[bS,ih];rfl
  rw[h];rfl
 | cons a l ih=>
  rw[bS,ih,<-mH]
  congr 1
theorem Oe(N:Nat)(L:Nat->List (Nat×ah)):sN (mZ N L) (List.range N)<=sN (fun q=>(L q).length) (List.range N):=by
 unfold mZ;rw[QS];exact kr fun p _=>iZ (L p) (fun s=>s.1) N
theorem Jl(N:Nat)(L:Nat->List (Nat×ah))(q:Nat):mZ N L q<=sN (fun q=>(L q).length) (List.range N):=by
 unfold mZ;exact kr fun p _=>List.length_filter_le _ _
theorem wo(l:List Nat)(k:Nat):sN (fun _=>k) l=l.length*k:=by
 induction l with
 | nil => simp[sN]
 | cons a l ih => rw[bS,ih,lC,Nat.succ_mul];omega
section
variable {N:Nat} {L:Nat->List (Nat×ah)} {St:Nat->Nat->ah->Prop} {R:Nat->Nat->List ah} {Oo On Fo:Nat->List ah} {Co:Nat->ah->Int} {D:Nat->List (ah×Int)} {W:List (Nat×ah×Int)} {T E K B:Nat}
theorem Ci.turn(h:Ci N L St R)(yc:Ew N L Oo Co Fo)(hFo:∀p,p<N->Fg PX (jm N R Oo p) (Fo p))(hO:∀p,p<N->(Oo p).Nodup)(hN:∀p,p<N->(On p).Nodup)(hD:∀p,p<N->yn (Oo p) (On p) (D p))(hW:W.Perm (nQ D (List.range N)))
    (hTo:sN (fun q=>(Oo q).length) (List.range N)<=T) (hTn:sN (fun q=>(On q).length) (List.range N)<=T) (hE:sN (fun q=>(L q).length) (List.range N)<=E) (hK:sN (fun q=>(L q).length*mZ N L q) (List.range N)<=K) (hB:2*T+6*(T*E+64*T*K)<=B) :
    ∃Cn Fn,∀ps,Trn N L ps R Oo On Co Cn Fo Fn (Ms N L Oo Fo On Fn) T E B W:=by
 obtain⟨Cn,Fn,sn,hFn⟩:=h.ex On;have fo:∀p,p<N->(Fo p).length<=64*T:=fun p hp=>nT (h.short (hFo p hp)) (Nat.mul_le_mul_left _ hTo);have fn:∀p,p<N->(Fn p).length<=64*T:=fun p hp=>nT (h.short (hFn p hp)) (Nat.mul_le_mul_left _ hTn);have oo:∀p,p<N->(Oo p).length<=T:=fun p hp=>nT (ko (f:=fun q=>(Oo q).length) (mR.2 hp)) hTo;have on:∀p,p<N->(On p).length<=T:=fun p hp=>nT (ko (f:=fun q=>(On q).length) (mR.2 hp)) hTn;have hwl:W.length<=2*T:=by
  rw[hW.length_eq];refine nT (Iw (List.range N) fun p hp=>hD p (mR.1 hp)) ?_;rw[mH];omega
 refine⟨Cn,Fn,fun ps=> ?_⟩;have ZR:pot N L ps (Ms N L Oo Fo On Fn) Co Cn 0<=6*(T*E+64*T*K):=by
  refine nT (Re fo fn oo on 0) (Nat.mul_le_mul_left _ (Nat.add_le_add (Nat.mul_le_mul_left _ hE) (Nat.mul_le_mul_left _ hK)))
 have hbd:W.length+pot N L ps (Ms N L Oo Fo On Fn) Co Cn 0<=B:=nT (Nat.add_le_add hwl ZR) hB;have hsl:∀p,p<N->(Ms N L Oo Fo On Fn p).length<=2*(T+64*T*mZ N L p):=fun p hp=>IG fo fn oo on hp;have hbc:∀{O F:Nat->List ah} {C:Nat->ah->Int},Ew N L O C F->∀p t,p<N->0<=C p t/\C p t<=1+E:=fun {O F C} s p t hp=>by
  rw[s.eq p t hp];have h1:=VJ (N:=N) (L:=L) (O:=O) (F:=F) (fun q hq=>(s.fr q hq).nodup) p t;exact⟨wB N L O F p t,by omega⟩
 refine⟨sn,hFn,fun q u hq hu=>RB yc sn hq hu,yc.xZ hO hN hD hW hbd,hbd,hbc yc,hbc sn,fun p hp=> ?_, ?_,fo,fn⟩
 ·refine nT (hsl p hp) (Nat.mul_le_mul_left _ (Nat.add_le_add_left (Nat.mul_le_mul_left _ (nT (Jl N L p) hE)) _))
 ·refine nT (kr (g:=fun p=>2*(T+64*T*mZ N L p)) fun p hp=>hsl p (mR.1 hp)) ?_;rw[mG,mH,wo,mG,List.length_range];exact Nat.mul_le_mul_left _ (Nat.add_le_add_left (Nat.mul_le_mul_left _ (nT (Oe N L) hE)) _)
end
def dn(a b:List ah)(t:ah):Int:=(if t∈b then 1 else 0)-(if t∈a then 1 else 0)
theorem Xu(a b c:List ah)(t:ah):dn a b t+dn b c t=dn a c t:=by unfold dn;omega
theorem SN(a:List ah)(t:ah):dn a a t=0:=by unfold dn;omega
theorem yn.dn{a b:List ah}{ds:List (ah×Int)}(h:yn a b ds)(ha:a.Nodup)(hb:b.Nodup)(t:ah):sm (fun d=>(if d.1=t then 1 else 0)*d.2) ds=Pt.dn a b t:=by
 rw[h.sum ha hb fun u=>if u=t then 1 else 0,Au _ ha,Au _ hb]
 rfl
end Pt
end Go.Proofs.YteekbpokkjjipaaGreat
