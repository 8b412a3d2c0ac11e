import Derived.Test.YtiiefcalkjeieaaGreatJ7
import Derived.Laws.EntriesVeiled
import Derived.Sort.KeysCollected
import Derived.Defers
import Derived.Recover
variable{v:Go.Value}{M tb b g n:Nat}{t:Go.TypeId}{w:Go.World}
set_option maxHeartbeats 4000000
set_option maxRecDepth 100000
namespace Go.Proofs.YtiiefcalkjeieaaGreat
namespace Df
open Go.RowKit Go.Sort
attribute[local go_sem ↓]wp_at_zero wp_at_succ
theorem Au{P:Program}{α:Type}(E:El α){e sT:TypeId}{z:Value}{bt:Nat}(hu:P.underlying sT=some (.slice e))(hI:(P.info? e).map (fun i=>(i.zero,i.size,i.bytes))=some (some z,E.k,bt))(hz:z.cells.size=E.k)(hk:0<E.k)
    {w:World} {ops:Array Oper} {rest:List Oper} {o:Oper} {a:Act} {Q:Exit->Act->World->Prop} (hgd:o.guard=none) (s x:Operand) (ho:o.op= .call { callee:= .builtin .append,args:=#[s,x],argTypes:=#[sT,sT] })
    (base:Nat) (v:Value) (n:Nat) (xs:List Value) (hs:a.eval s=v) (hown:w.ownsRow base e E.k v n xs) (M:Nat)
    (v1:Value) (ts:List α) (hx:a.eval x=v1) (hv:Lz E M w v1 ts) (hbig:(n+ts.length)*bt<=140737488355328) (hmx:n+ts.length<=maxLen) (hbase:base<=w.heap.size)
    (h:∀v' w',Hid (w'.ownsRow base e E.k v' (n+ts.length) (xs++fl E ts))->Hid (w.grownBy w' v.ownBlock)->wpList P ops Q rest (a.put o.dst v') w'):wpList P ops Q (o::rest) a w:=by
 rcases hv with⟨hv,_⟩|⟨rfl,p,c,rfl⟩
 ·exact jV E hu hI hz hk hgd s x ho base v n xs hs hown v1 ts hx hv hbig hmx hbase h
 ·obtain⟨i0,hi,hz0,hz1,hz2⟩:=info_parts hI;cases p with
  | none=>
   refine wpList_plain hgd fun K hK=> ?_;have hrun:=run_append_owned_none (P:=P) (w:=w) base sT o.type e i0 E.k hu hi v n xs hown;rw[<-uQ (P:=P) w sT o.type v c]at hrun;unfold Oper.wp;simp[execOp,ho,resolve,invoke,builtin,hs,hx,hrun,Result.andThen];refine hK _ _ (h _ _ (show _ from by have h5:w.ownsRow base e E.k v (n+([]:List α).length) (xs++fl E []):=(by simpa[fl]using hown);exact h5) ⟨rfl,rfl,rfl,nR _,fun _ _ _=>rfl⟩)
  | some b=>
   refine wpList_append_own _ hgd s x _ ho base e i0 _ E.k bt hu hi hz0 hz1 hz2 hz hk v n xs hs hown b 0 c [] hx (by simp) (fun j u hj=>by simp at hj) (fun u hu=>by cases hu) hmx hbig hbase ?_;intro v' w' h1 h2 _;exact h v' w' h1 h2
def Cp{α:Type}(E:El α)(T:TypeId)(w:World)(l:List α)(e:Ending)(w':World):Prop:=∃d,e= .returned d/\Below w.heap.size w w'/\w'.ownsRow w.heap.size T E.k d l.length (fl E l)
theorem Ai{l:List NV}(w:World)(h:Lz EV M w v l)(hb:l.length*112<=140737488351232):Calls Tryz.prog 111 #[v] w (Cp EV 149 w l):=by
 have HL:=hid h;obtain⟨p,c,rfl⟩:=h.form;clear h;have HB:=hid hb;clear hb;generalize l.length=n at HL;go_enter Tryz.func111,Tryz.ntmps111;go_wp2_with (at_builtin;refine Au EV Tryz.underlying22 Z7 rfl (by decide) rfl _ _ rfl w.heap.size _ 0 [] rfl (oN _ _ _ _) M _ l rfl HL.o (by have:=HB.o;omega) (by have:=HB.o;unfold maxLen;omega) (nR _) ?_);intro v1 w1 h1 h2;go_wp2_with fail;go_ret;refine⟨_,rfl,(Kp.grownBy (S:=fun k=>(Value.slice none 0 0).ownBlock=some k) h2.o (fun _ h=>h)).below (nR _) (fun k hk=>by simp[Value.ownBlock]at hk),aS h1.o (by simp) (by simp)⟩
theorem sZ{l:List dQ}(w:World)(h:Lz ED M w v l)(hb:l.length*40<=140737488351232):Calls Tryz.prog 112 #[v] w (Cp ED 151 w l):=by
 have HL:=hid h;obtain⟨p,c,rfl⟩:=h.form;clear h;have HB:=hid hb;clear hb;generalize l.length=n at HL;go_enter Tryz.func112,Tryz.ntmps112;go_wp2_with (at_builtin;refine Au ED Tryz.underlying23 Z9 rfl (by decide) rfl _ _ rfl w.heap.size _ 0 [] rfl (oN _ _ _ _) M _ l rfl HL.o (by have:=HB.o;omega) (by have:=HB.o;unfold maxLen;omega) (nR _) ?_);intro v1 w1 h1 h2;go_wp2_with fail;go_ret;refine⟨_,rfl,(Kp.grownBy (S:=fun k=>(Value.slice none 0 0).ownBlock=some k) h2.o (fun _ h=>h)).below (nR _) (fun k hk=>by simp[Value.ownBlock]at hk),aS h1.o (by simp) (by simp)⟩
theorem Lg{l:List Zb}(w:World)(h:Lz EO M w v l)(hb:l.length*16<=140737488351232):Calls Tryz.prog 113 #[v] w (Cp EO 202 w l):=by
 have HL:=hid h;obtain⟨p,c,rfl⟩:=h.form;clear h;have HB:=hid hb;clear hb;generalize l.length=n at HL;go_enter Tryz.func113,Tryz.ntmps113;go_wp2_with (at_builtin;refine Au EO Tryz.underlying146 Z8 rfl (by decide) rfl _ _ rfl w.heap.size _ 0 [] rfl (oN _ _ _ _) M _ l rfl HL.o (by have:=HB.o;omega) (by have:=HB.o;unfold maxLen;omega) (nR _) ?_);intro v1 w1 h1 h2;go_wp2_with fail;go_ret;refine⟨_,rfl,(Kp.grownBy (S:=fun k=>(Value.slice none 0 0).ownBlock=some k) h2.o (fun _ h=>h)).below (nR _) (fun k hk=>by simp[Value.ownBlock]at hk),aS h1.o (by simp) (by simp)⟩
theorem Aj{l:List dL}(w:World)(h:Lz EC M w v l)(hb:l.length*40<=140737488351232):Calls Tryz.prog 114 #[v] w (Cp EC 205 w l):=by
 have HL:=hid h;obtain⟨p,c,rfl⟩:=h.form;clear h;have HB:=hid hb;clear hb;generalize l.length=n at HL;go_enter Tryz.func114,Tryz.ntmps114;go_wp2_with (at_builtin;refine Au EC Tryz.underlying147 pR rfl (by decide) rfl _ _ rfl w.heap.size _ 0 [] rfl (oN _ _ _ _) M _ l rfl HL.o (by have:=HB.o;omega) (by have:=HB.o;unfold maxLen;omega) (nR _) ?_);intro v1 w1 h1 h2;go_wp2_with fail;go_ret;refine⟨_,rfl,(Kp.grownBy (S:=fun k=>(Value.slice none 0 0).ownBlock=some k) h2.o (fun _ h=>h)).below (nR _) (fun k hk=>by simp[Value.ownBlock]at hk),aS h1.o (by simp) (by simp)⟩
theorem fO(n m:Int)(w:World):Calls Tryz.prog 182 #[.int .i64 n, .int .i64 m] w fun r w'=>r= .returned (.bool (decide (0<=n/\n<m)))/\w'=w:=by
 by_cases h:0<=n
 ·go_enter Tryz.func182,Tryz.ntmps182;go_wp2_with fail;go_ret;exact⟨by simp[h],rfl⟩
 ·go_enter Tryz.func182,Tryz.ntmps182;go_wp2_with fail;go_ret;exact⟨by simp;intros;omega,rfl⟩
def nat?(xs:List NV)(i:Int):Option NV:=if 0<=i then xs[i.toNat]? else none
def yQ(xs:List NV)(i p:Int):Bool:=match nat? xs i with|some x=>decide (0<=p/\p<x.n.ins)|none=>false
def BU(xs:List NV)(i p:Int):Bool:=match nat? xs i with|some x=>decide (0<=p/\p<x.n.outs)|none=>false
theorem Ab{xs:List NV}(i p:Int)(w:World)(h:Lz EV M w v xs):Calls Tryz.prog 178 #[v, .int .i64 i, .int .i64 p] w fun r w'=>r= .returned (.bool (yQ xs i p))/\w'=w:=by
 have ha:=fun(n m:Int) W=>fO n m W;obtain⟨q,c,hv⟩:=h.form;obtain⟨n,hn⟩:=aC (xs.length);rw[<-hn]at hv;subst hv;by_cases hi:0<=i/\i<(n:Int)
 ·obtain⟨j,rfl⟩:∃j:Nat,i=(j:Int):=⟨i.toNat,by omega⟩;obtain⟨y,hy⟩:∃y,xs[j]? =some y:=⟨xs[j]'(by omega),by simp⟩;obtain⟨b,o,c2,e,z,x0,x1,x2,-⟩:=jY (h.ls hy) hy;simp only[vS]at e;obtain⟨rfl,-,rfl⟩:=e;have HM:Hid (yQ xs (j:Int) p=decide (0<=p/\p<y.n.ins)):=by
   show _=_;unfold yQ nat?;rw[if_pos (by omega),tN,hy]
  have h1:=ha (j:Int) (n:Int);have hd:decide (0<=(j:Int)/\(j:Int)<(n:Int))=true:=by simp;omega
  rw[hd]at h1;have h2:=ha p y.n.ins;have hj0:(0:Int)<=(j:Int):=by omega
  have hjn:(j:Int)<(n:Int):=by omega
  clear ha h hy hn hd hi;generalize decide (0<=p/\p<y.n.ins)=bb at HM h2;go_enter Tryz.func178,Tryz.ntmps178;go_wp2_with fail;refine(h1 _).mono ?_;rintro r w1 ⟨rfl,rfl⟩;go_wp2_with fail;refine(h2 _).mono ?_;rintro r w2 ⟨rfl,rfl⟩;go_wp2_with fail;go_ret;exact⟨by rw[HM.o];rfl,rfl⟩
 ·have HM:Hid (yQ xs i p=false):=by
    show _=_;unfold yQ nat?;by_cases h0:0<=i
    ·rw[if_pos h0,lQ (by omega)]
    ·rw[if_neg h0]
  have h1:=ha i (n:Int);have hd:decide (0<=i/\i<(n:Int))=false:=by simpa using hi
  rw[hd]at h1;clear ha h hn hd hi;go_enter Tryz.func178,Tryz.ntmps178;go_wp2_with fail;refine(h1 _).mono ?_;rintro r w1 ⟨rfl,rfl⟩;go_wp2_with fail;go_ret;exact⟨by rw[HM.o];rfl,rfl⟩
theorem xE{xs:List NV}(i p:Int)(w:World)(h:Lz EV M w v xs):Calls Tryz.prog 177 #[v, .int .i64 i, .int .i64 p] w fun r w'=>r= .returned (.bool (BU xs i p))/\w'=w:=by
 have ha:=fun(n m:Int) W=>fO n m W;obtain⟨q,c,hv⟩:=h.form;obtain⟨n,hn⟩:=aC (xs.length);rw[<-hn]at hv;subst hv;by_cases hi:0<=i/\i<(n:Int)
 ·obtain⟨j,rfl⟩:∃j:Nat,i=(j:Int):=⟨i.toNat,by omega⟩;obtain⟨y,hy⟩:∃y,xs[j]? =some y:=⟨xs[j]'(by omega),by simp⟩;obtain⟨b,o,c2,e,z,x0,x1,x2,-⟩:=jY (h.ls hy) hy;simp only[vS]at e;obtain⟨rfl,-,rfl⟩:=e;have HM:Hid (BU xs (j:Int) p=decide (0<=p/\p<y.n.outs)):=by
   show _=_;unfold BU nat?;rw[if_pos (by omega),tN,hy]
  have h1:=ha (j:Int) (n:Int);have hd:decide (0<=(j:Int)/\(j:Int)<(n:Int))=true:=by simp;omega
  rw[hd]at h1;have h2:=ha p y.n.outs;have hj0:(0:Int)<=(j:Int):=by omega
  have hjn:(j:Int)<(n:Int):=by omega
  clear ha h hy hn hd hi;generalize decide (0<=p/\p<y.n.outs)=bb at HM h2;go_enter Tryz.func177,Tryz.ntmps177;go_wp2_with fail;refine(h1 _).mono ?_;rintro r w1 ⟨rfl,rfl⟩;go_wp2_with fail;refine(h2 _).mono ?_;rintro r w2 ⟨rfl,rfl⟩;go_wp2_with fail;go_ret;exact⟨by rw[HM.o];rfl,rfl⟩
 ·have HM:Hid (BU xs i p=false):=by
    show _=_;unfold BU nat?;by_cases h0:0<=i
    ·rw[if_pos h0,lQ (by omega)]
    ·rw[if_neg h0]
  have h1:=ha i (n:Int);have hd:decide (0<=i/\i<(n:Int))=false:=by simpa using hi
  rw[hd]at h1;clear ha h hn hd hi;go_enter Tryz.func177,Tryz.ntmps177;go_wp2_with fail;refine(h1 _).mono ?_;rintro r w1 ⟨rfl,rfl⟩;go_wp2_with fail;go_ret;exact⟨by rw[HM.o];rfl,rfl⟩
theorem KI(own many:Int)(b:Nat)(w:World)(h:w.heap[b]? =some (.cells #[.int .i64 own] 3 (0,0))):Calls Tryz.prog 264 #[.int .i64 many, .pointer (some ⟨b,0,none⟩)] w fun r w'=>r= .returned (.bool (decide (many=own)))/\w'=w:=by
 have c:=(aa h).1;have l:=ae h;clear h;go_enter Tryz.func264,Tryz.ntmps264;go_wp2_with fail;go_ret;exact⟨rfl,rfl⟩
theorem C9(least many:Int)(b:Nat)(w:World)(h:w.heap[b]? =some (.cells #[.int .i64 least] 3 (0,0))):Calls Tryz.prog 265 #[.int .i64 many, .pointer (some ⟨b,0,none⟩)] w fun r w'=>r= .returned (.bool (decide (least<=many/\many<=4)))/\w'=w:=by
 have c:=(aa h).1;have l:=ae h;clear h;by_cases hm:least<=many
 ·go_enter Tryz.func265,Tryz.ntmps265;go_wp2_with fail;go_ret;exact⟨by simp[hm],rfl⟩
 ·go_enter Tryz.func265,Tryz.ntmps265;go_wp2_with fail;go_ret;exact⟨by simp;intros;omega,rfl⟩
abbrev fj(b:Nat):Value:= .func (.func 264) #[] #[.pointer (some ⟨b,0,none⟩)]
abbrev fu(b:Nat):Value:= .func (.func 265) #[] #[.pointer (some ⟨b,0,none⟩)]
theorem gU(own:Int)(w:World):Calls Tryz.prog 230 #[.int .i64 own] w fun r w'=>r= .returned (fj w.heap.size)/\w'=w.alloc (.cells #[.int .i64 own] 3):=by
 have O8:∀(fn:Fn) (first cap:Array Value) (w:World),(Instr.makeFunc fn first cap).run Tryz.prog w= .ok (.func fn first cap) w:=fun _ _ _ _=>rfl;go_enter Tryz.func230,Tryz.ntmps230;go_wp2_with fail;go_ret;exact⟨rfl,rfl⟩
theorem eU(own:Int)(w:World):Calls Tryz.prog 236 #[.int .i64 own] w fun r w'=>r= .returned (fu w.heap.size)/\w'=w.alloc (.cells #[.int .i64 own] 3):=by
 have O8:∀(fn:Fn) (first cap:Array Value) (w:World),(Instr.makeFunc fn first cap).run Tryz.prog w= .ok (.func fn first cap) w:=fun _ _ _ _=>rfl;go_enter Tryz.func236,Tryz.ntmps236;go_wp2_with fail;go_ret;exact⟨rfl,rfl⟩
theorem Bt(w:World)(A B C D:Obj):((((w.alloc A).alloc B).alloc C).alloc D).heap[w.heap.size+1+1+1]? =some D/\((((w.alloc A).alloc B).alloc C).alloc D).heap[w.heap.size+1+1]? =some C/\((((w.alloc A).alloc B).alloc C).alloc D).heap[w.heap.size+1]? =some B/\((((w.alloc A).alloc B).alloc C).alloc D).heap[w.heap.size]? =some A:=by
 obtain⟨h1,h2,h3⟩:=Wm w A B C;have hg:=((Gr.refl (((w.alloc A).alloc B).alloc C)).alloc D).below;have hs:(((w.alloc A).alloc B).alloc C).heap.size=w.heap.size+1+1+1:=by simp
 have h4:=heap_alloc_new (((w.alloc A).alloc B).alloc C) D;rw[hs]at h4;exact⟨h4,(hg.block _ (by rw[hs];omega)).trans h3,(hg.block _ (by rw[hs];omega)).trans h2,(hg.block _ (by rw[hs];omega)).trans h1⟩
theorem GL(w:World)(A B C D E:Obj):(((((w.alloc A).alloc B).alloc C).alloc D).alloc E).heap[w.heap.size+4]? =some E/\(((((w.alloc A).alloc B).alloc C).alloc D).alloc E).heap[w.heap.size+3]? =some D/\(((((w.alloc A).alloc B).alloc C).alloc D).alloc E).heap[w.heap.size+2]? =some C/\(((((w.alloc A).alloc B).alloc C).alloc D).alloc E).heap[w.heap.size+1]? =some B/\(((((w.alloc A).alloc B).alloc C).alloc D).alloc E).heap[w.heap.size]? =some A:=by
 obtain⟨h1,h2,h3,h4⟩:=Bt w A B C D;have hg:=((Gr.refl ((((w.alloc A).alloc B).alloc C).alloc D)).alloc E).below;have hs:((((w.alloc A).alloc B).alloc C).alloc D).heap.size=w.heap.size+4:=by simp
 have h5:=heap_alloc_new ((((w.alloc A).alloc B).alloc C).alloc D) E;rw[hs]at h5;exact⟨h5,(hg.block _ (by rw[hs];omega)).trans h1,(hg.block _ (by rw[hs];omega)).trans h2,(hg.block _ (by rw[hs];omega)).trans h3,(hg.block _ (by rw[hs];omega)).trans h4⟩
theorem Sn(w:World)(A B C D E F:Obj):((((((w.alloc A).alloc B).alloc C).alloc D).alloc E).alloc F).heap[w.heap.size+5]? =some F/\((((((w.alloc A).alloc B).alloc C).alloc D).alloc E).alloc F).heap[w.heap.size+4]? =some E/\((((((w.alloc A).alloc B).alloc C).alloc D).alloc E).alloc F).heap[w.heap.size+3]? =some D:=by
 obtain⟨h1,h2,-⟩:=GL w A B C D E;have hg:=((Gr.refl (((((w.alloc A).alloc B).alloc C).alloc D).alloc E)).alloc F).below;have hs:(((((w.alloc A).alloc B).alloc C).alloc D).alloc E).heap.size=w.heap.size+5:=by simp
 have h5:=heap_alloc_new (((((w.alloc A).alloc B).alloc C).alloc D).alloc E) F;rw[hs]at h5;exact⟨h5,(hg.block _ (by rw[hs];omega)).trans h1,(hg.block _ (by rw[hs];omega)).trans h2⟩
def Kd(w:World)(uI:Bool)(i:Int)(uO:Bool)(o:Int)(fw ff fc:Nat)(r:Ending)(w':World):Prop:=∃b1 b2:Nat,r= .returned (.tuple #[.agg #[if uI then fu b1 else fj b1,if uO then fu b2 else fj b2, .func (.func fw) #[] #[], .func (.func ff) #[] #[], .func (.func fc) #[] #[]], .bool true])/\Below w.heap.size w w'/\w'.heap[b1]? =some (.cells #[.int .i64 i] 3 (0,0))/\w'.heap[b2]? =some (.cells #[.int .i64 o] 3 (0,0))
theorem zW(w:World):Calls Tryz.prog 173 #[.int .i64 1] w (Kd w false 0 false 1 231 232 233):=by
 have O8:∀(fn:Fn) (first cap:Array Value) (w:World),(Instr.makeFunc fn first cap).run Tryz.prog w= .ok (.func fn first cap) w:=fun _ _ _ _=>rfl;go_enter Tryz.func173,Tryz.ntmps173;go_wp2_with (first|(go_at_call 230;refine(gU _ _).mono ?_;rintro r w1 ⟨rfl,rfl⟩)|(go_at_call 236;refine(eU _ _).mono ?_;rintro r w1 ⟨rfl,rfl⟩));refine bR (v:= .tuple #[.agg #[fj (w.heap.size+4),fj (w.heap.size+2), .func (.func 231) #[] #[], .func (.func 232) #[] #[], .func (.func 233) #[] #[]], .bool true]) (by simp[results,Tryz.results173,go_sem]) rfl ?_;exact⟨w.heap.size+4,w.heap.size+2,rfl,((((((Gr.refl w).alloc _).alloc _).alloc _).alloc _).alloc _).below,(GL w _ _ _ _ _).1,(GL w _ _ _ _ _).2.2.1⟩
theorem zV(w:World):Calls Tryz.prog 173 #[.int .i64 2] w (Kd w false 1 false 1 234 235 233):=by
 have O8:∀(fn:Fn) (first cap:Array Value) (w:World),(Instr.makeFunc fn first cap).run Tryz.prog w= .ok (.func fn first cap) w:=fun _ _ _ _=>rfl;go_enter Tryz.func173,Tryz.ntmps173;go_wp2_with (first|(go_at_call 230;refine(gU _ _).mono ?_;rintro r w1 ⟨rfl,rfl⟩)|(go_at_call 236;refine(eU _ _).mono ?_;rintro r w1 ⟨rfl,rfl⟩));refine bR (v:= .tuple #[.agg #[fj (w.heap.size+1),fj (w.heap.size+2), .func (.func 234) #[] #[], .func (.func 235) #[] #[], .func (.func 233) #[] #[]], .bool true]) (by simp[results,Tryz.results173,go_sem]) rfl ?_;exact⟨w.heap.size+1,w.heap.size+2,rfl,(((((Gr.refl w).alloc _).alloc _).alloc _).alloc _).below,(Bt w _ _ _ _).2.2.1,(Bt w _ _ _ _).2.1⟩
theorem zU(w:World):Calls Tryz.prog 173 #[.int .i64 3] w (Kd w false 1 false 1 234 235 233):=by
 have O8:∀(fn:Fn) (first cap:Array Value) (w:World),(Instr.makeFunc fn first cap).run Tryz.prog w= .ok (.func fn first cap) w:=fun _ _ _ _=>rfl;go_enter Tryz.func173,Tryz.ntmps173;go_wp2_with (first|(go_at_call 230;refine(gU _ _).mono ?_;rintro r w1 ⟨rfl,rfl⟩)|(go_at_call 236;refine(eU _ _).mono ?_;rintro r w1 ⟨rfl,rfl⟩));refine bR (v:= .tuple #[.agg #[fj (w.heap.size+1),fj (w.heap.size+2), .func (.func 234) #[] #[], .func (.func 235) #[] #[], .func (.func 233) #[] #[]], .bool true]) (by simp[results,Tryz.results173,go_sem]) rfl ?_;exact⟨w.heap.size+1,w.heap.size+2,rfl,(((((Gr.refl w).alloc _).alloc _).alloc _).alloc _).below,(Bt w _ _ _ _).2.2.1,(Bt w _ _ _ _).2.1⟩
theorem zT(w:World):Calls Tryz.prog 173 #[.int .i64 4] w (Kd w true 1 false 1 231 232 233):=by
 have O8:∀(fn:Fn) (first cap:Array Value) (w:World),(Instr.makeFunc fn first cap).run Tryz.prog w= .ok (.func fn first cap) w:=fun _ _ _ _=>rfl;go_enter Tryz.func173,Tryz.ntmps173;go_wp2_with (first|(go_at_call 230;refine(gU _ _).mono ?_;rintro r w1 ⟨rfl,rfl⟩)|(go_at_call 236;refine(eU _ _).mono ?_;rintro r w1 ⟨rfl,rfl⟩));refine bR (v:= .tuple #[.agg #[fu (w.heap.size+4),fj (w.heap.size+2), .func (.func 231) #[] #[], .func (.func 232) #[] #[], .func (.func 233) #[] #[]], .bool true]) (by simp[results,Tryz.results173,go_sem]) rfl ?_;exact⟨w.heap.size+4,w.heap.size+2,rfl,((((((Gr.refl w).alloc _).alloc _).alloc _).alloc _).alloc _).below,(GL w _ _ _ _ _).1,(GL w _ _ _ _ _).2.2.1⟩
theorem zS(w:World):Calls Tryz.prog 173 #[.int .i64 5] w (Kd w false 1 false 1 237 238 239):=by
 have O8:∀(fn:Fn) (first cap:Array Value) (w:World),(Instr.makeFunc fn first cap).run Tryz.prog w= .ok (.func fn first cap) w:=fun _ _ _ _=>rfl;go_enter Tryz.func173,Tryz.ntmps173;go_wp2_with (first|(go_at_call 230;refine(gU _ _).mono ?_;rintro r w1 ⟨rfl,rfl⟩)|(go_at_call 236;refine(eU _ _).mono ?_;rintro r w1 ⟨rfl,rfl⟩));refine bR (v:= .tuple #[.agg #[fj (w.heap.size+1),fj (w.heap.size+2), .func (.func 237) #[] #[], .func (.func 238) #[] #[], .func (.func 239) #[] #[]], .bool true]) (by simp[results,Tryz.results173,go_sem]) rfl ?_;exact⟨w.heap.size+1,w.heap.size+2,rfl,(((((Gr.refl w).alloc _).alloc _).alloc _).alloc _).below,(Bt w _ _ _ _).2.2.1,(Bt w _ _ _ _).2.1⟩
theorem zR(w:World):Calls Tryz.prog 173 #[.int .i64 6] w (Kd w false 1 false 1 231 232 233):=by
 have O8:∀(fn:Fn) (first cap:Array Value) (w:World),(Instr.makeFunc fn first cap).run Tryz.prog w= .ok (.func fn first cap) w:=fun _ _ _ _=>rfl;go_enter Tryz.func173,Tryz.ntmps173;go_wp2_with (first|(go_at_call 230;refine(gU _ _).mono ?_;rintro r w1 ⟨rfl,rfl⟩)|(go_at_call 236;refine(eU _ _).mono ?_;rintro r w1 ⟨rfl,rfl⟩));refine bR (v:= .tuple #[.agg #[fj (w.heap.size+1),fj (w.heap.size+2), .func (.func 231) #[] #[], .func (.func 232) #[] #[], .func (.func 233) #[] #[]], .bool true]) (by simp[results,Tryz.results173,go_sem]) rfl ?_;exact⟨w.heap.size+1,w.heap.size+2,rfl,(((((Gr.refl w).alloc _).alloc _).alloc _).alloc _).below,(Bt w _ _ _ _).2.2.1,(Bt w _ _ _ _).2.1⟩
theorem zQ(w:World):Calls Tryz.prog 173 #[.int .i64 7] w (Kd w false 1 false 0 231 232 233):=by
 have O8:∀(fn:Fn) (first cap:Array Value) (w:World),(Instr.makeFunc fn first cap).run Tryz.prog w= .ok (.func fn first cap) w:=fun _ _ _ _=>rfl;go_enter Tryz.func173,Tryz.ntmps173;go_wp2_with (first|(go_at_call 230;refine(gU _ _).mono ?_;rintro r w1 ⟨rfl,rfl⟩)|(go_at_call 236;refine(eU _ _).mono ?_;rintro r w1 ⟨rfl,rfl⟩));refine bR (v:= .tuple #[.agg #[fj (w.heap.size+1),fj (w.heap.size+4), .func (.func 231) #[] #[], .func (.func 232) #[] #[], .func (.func 233) #[] #[]], .bool true]) (by simp[results,Tryz.results173,go_sem]) rfl ?_;exact⟨w.heap.size+1,w.heap.size+4,rfl,((((((Gr.refl w).alloc _).alloc _).alloc _).alloc _).alloc _).below,(GL w _ _ _ _ _).2.2.2.1,(GL w _ _ _ _ _).1⟩
theorem zP(w:World):Calls Tryz.prog 173 #[.int .i64 8] w (Kd w true 0 true 0 240 241 242):=by
 have O8:∀(fn:Fn) (first cap:Array Value) (w:World),(Instr.makeFunc fn first cap).run Tryz.prog w= .ok (.func fn first cap) w:=fun _ _ _ _=>rfl;go_enter Tryz.func173,Tryz.ntmps173;go_wp2_with (first|(go_at_call 230;refine(gU _ _).mono ?_;rintro r w1 ⟨rfl,rfl⟩)|(go_at_call 236;refine(eU _ _).mono ?_;rintro r w1 ⟨rfl,rfl⟩));refine bR (v:= .tuple #[.agg #[fu (w.heap.size+4),fu (w.heap.size+5), .func (.func 240) #[] #[], .func (.func 241) #[] #[], .func (.func 242) #[] #[]], .bool true]) (by simp[results,Tryz.results173,go_sem]) rfl ?_;exact⟨w.heap.size+4,w.heap.size+5,rfl,(((((((Gr.refl w).alloc _).alloc _).alloc _).alloc _).alloc _).alloc _).below,(Sn w _ _ _ _ _ _).2.1,(Sn w _ _ _ _ _ _).1⟩
theorem KH(k:Int)(hk:k<1\/8<k)(w:World):Calls Tryz.prog 173 #[.int .i64 k] w fun r w'=>r= .returned (.tuple #[.agg #[.nilFunc, .nilFunc, .nilFunc, .nilFunc, .nilFunc], .bool false])/\Below w.heap.size w w':=by
 have O8:∀(fn:Fn) (first cap:Array Value) (w:World),(Instr.makeFunc fn first cap).run Tryz.prog w= .ok (.func fn first cap) w:=fun _ _ _ _=>rfl;obtain⟨k1,k2,k3,k4,k5,k6,k7,k8⟩:¬k=1/\¬k=2/\¬k=3/\¬k=4/\¬k=5/\¬k=6/\¬k=7/\¬k=8:=by omega
 clear hk;go_enter Tryz.func173,Tryz.ntmps173;go_wp2_with (first|(go_at_call 230;refine(gU _ _).mono ?_;rintro r w1 ⟨rfl,rfl⟩));refine bR (v:= .tuple #[.agg #[.nilFunc, .nilFunc, .nilFunc, .nilFunc, .nilFunc], .bool false]) (by simp[results,Tryz.results173,go_sem]) rfl ?_;exact⟨rfl,(((((Gr.refl w).alloc _).alloc _).alloc _).alloc _).below⟩
end Df
namespace Rs
open Go.RowKit Go.Sort Go.Maps
attribute[local go_sem ↓]wp_at_zero wp_at_succ
theorem laidOut:laidOutB Tryz.prog=true:=by kernel_rfl
abbrev Sm:={ p:Int×Int×Int×Int // (Lit.int .i64 p.1).wf=true/\(Lit.int .u64 p.2.1).wf=true/\(Lit.int .u64 p.2.2.1).wf=true/\(Lit.int .u64 p.2.2.2).wf=true }
instance:Inhabited Sm:=⟨⟨(0,0,0,0),by decide⟩⟩
abbrev mv(p:Sm):Value:= .agg #[.int .i64 p.1.1, .int .u64 p.1.2.1, .int .u64 p.1.2.2.1, .int .u64 p.1.2.2.2]
theorem M4{s t:Sm}(h0:s.1.1=t.1.1)(h1:s.1.2.1=t.1.2.1)(h2:s.1.2.2.1=t.1.2.2.1)(h3:s.1.2.2.2=t.1.2.2.2):s=t:=Subtype.ext (Prod.ext h0 (Prod.ext h1 (Prod.ext h2 h3)))
theorem VA:(match Tryz.prog.underlying 47 with|some (.array _ _)|some (.struct _)=>true|_=>false)=true:=by kernel_rfl
theorem ZH:(47:TypeId)<Tryz.prog.types.size:=of_decide_eq_true (by kernel_rfl)
theorem Nb:∃d,Tryz.prog.types.size+1=d+3:=by
 have h:decide (2<=Tryz.prog.types.size)=true:=by kernel_rfl
 have h':=of_decide_eq_true h;exact⟨Tryz.prog.types.size-2,by omega⟩
theorem Ot:WideMaps.KeyLaw Tryz.prog 47:=deep_law_laid laidOut (m:=3) (by omega) ZH (by kernel_rfl) VA
theorem Cj:Tryz.prog.cellsOf 47=4:=by kernel_rfl
theorem oU:Tryz.prog.cellsOf 45=3:=by kernel_rfl
theorem yf:Tryz.prog.cellsOf 43=1:=by kernel_rfl
theorem X9:Tryz.prog.cellsOf 3=1:=by kernel_rfl
theorem Oz:Tryz.prog.keyType 47=true:=by kernel_rfl
theorem jR{q:IntKind}(hu:Tryz.prog.underlying t=some (.int q))(d:Nat)(n:Int)(h:(Lit.int q n).wf=true):Tryz.prog.keyLits (d+1) t [.int q n]=some [.int q n]:=by
 unfold Program.keyLits;simp only[hu];simp[h]
theorem iH{q:IntKind}(hu:Tryz.prog.underlying t=some (.int q))(d:Nat){x:Value}{ls:List Lit}(h:Tryz.prog.keyLits (d+1) t [x]=some ls):∃n,x= .int q n/\(Lit.int q n).wf=true/\ls=[.int q n]:=by
 unfold Program.keyLits at h;simp only[hu]at h;split at h<;>simp_all
theorem xx(d:Nat)(x y z:Value):Tryz.prog.keyLits (d+2) 45 [x,y,z]=(do let a <-Tryz.prog.keyLits (d+1) 43 [x];let b <-Tryz.prog.keyLits (d+1) 43 [y];let c <-Tryz.prog.keyLits (d+1) 43 [z];pure (a++(b++c))):=by
 conv=>lhs;unfold Program.keyLits
 simp only[Tryz.underlying45,oU];simp[yf];cases Tryz.prog.keyLits (d+1) 43 [x]<;>cases Tryz.prog.keyLits (d+1) 43 [y]<;>cases Tryz.prog.keyLits (d+1) 43 [z]<;>simp
theorem Om(d:Nat)(x y z u:Value):Tryz.prog.keyLits (d+3) 47 [x,y,z,u]=(do let a <-Tryz.prog.keyLits (d+2) 3 [x];let b <-Tryz.prog.keyLits (d+2) 45 [y,z,u];pure (a++b)):=by
 conv=>lhs;unfold Program.keyLits
 simp only[Tryz.underlying47,Cj];simp[oU,X9];cases Tryz.prog.keyLits (d+2) 3 [x]<;>cases Tryz.prog.keyLits (d+2) 45 [y,z,u]<;>simp
theorem JA(p:Sm):keyOf Tryz.prog 47 (mv p)=some (.string (keyBytes [.int .i64 p.1.1, .int .u64 p.1.2.1, .int .u64 p.1.2.2.1, .int .u64 p.1.2.2.2])):=by
 obtain⟨d,hd⟩:=Nb;have h1:=jR Tryz.underlying3 (d+1) p.1.1 p.2.1;have h2:=jR Tryz.underlying43 d p.1.2.1 p.2.2.1;have h3:=jR Tryz.underlying43 d p.1.2.2.1 p.2.2.2.1;have h4:=jR Tryz.underlying43 d p.1.2.2.2 p.2.2.2.2;have hf:(mv p).formed Tryz.prog 47=true:=by simp[Value.formed,Tryz.underlying47,Cj]
 unfold keyOf;rw[Tryz.underlying47];simp only[Oz,hf,Bool.and_self,if_true,hd];simp only[Value.cells,Om,xx,h1,h2,h3,h4];simp
theorem UQ(v:Value)(l:Lit)(h:keyOf Tryz.prog 47 v=some l):∃p:Sm,v=mv p:=by
 obtain⟨d,hd⟩:=Nb;unfold keyOf at h;rw[Tryz.underlying47]at h;simp only[Oz,Bool.true_and]at h;split at h
 ·next hf=>
  cases v<;>simp[Value.formed,Tryz.underlying47,Cj]at hf
  next cs=>
  obtain⟨cs⟩:=cs
  match cs,hf with
  | [x,y,z,u],_=>
   simp only[Value.cells,hd,Om,xx]at h;cases h1:Tryz.prog.keyLits (d+2) 3 [x]with
   | none => simp[h1]at h
   | some a=>
    cases h2:Tryz.prog.keyLits (d+1) 43 [y]with
    | none => simp[h1,h2]at h
    | some b=>
     cases h3:Tryz.prog.keyLits (d+1) 43 [z]with
     | none => simp[h1,h2,h3]at h
     | some c=>
      cases h4:Tryz.prog.keyLits (d+1) 43 [u]with
      | none => simp[h1,h2,h3,h4]at h
      | some e=>
       obtain⟨n1,rfl,w1,_⟩:=iH Tryz.underlying3 (d+1) h1;obtain⟨n2,rfl,w2,_⟩:=iH Tryz.underlying43 d h2;obtain⟨n3,rfl,w3,_⟩:=iH Tryz.underlying43 d h3;obtain⟨n4,rfl,w4,_⟩:=iH Tryz.underlying43 d h4;exact⟨⟨(n1,n2,n3,n4),w1,w2,w3,w4⟩,rfl⟩
 ·cases h
def ZM:KK Tryz.prog 47 Sm where
 enc:=mv
 lit p:= .string (keyBytes [.int .i64 p.1.1, .int .u64 p.1.2.1, .int .u64 p.1.2.2.1, .int .u64 p.1.2.2.2])
 law:=Keyed.of_law Ot
 key:=JA
 inv v l h:=by
  obtain⟨p,rfl⟩:=UQ v l h;rw[JA p]at h;exact⟨p,rfl,(oJ h).symm⟩
 inj p q h:=by
  have e:=Ot.inj (JA p) ((JA q).trans (congrArg some h.symm));obtain⟨⟨a,b,c,d⟩,_⟩:=p;obtain⟨⟨a',b',c',d'⟩,_⟩:=q;simp at e;obtain⟨rfl,rfl,rfl,rfl⟩:=e;rfl
abbrev fv(f:Nat):Value:= .func (.func f) #[] #[]
def ES:El Sm where
 k:=4
 enc p:=[.int .i64 p.1.1, .int .u64 p.1.2.1, .int .u64 p.1.2.2.1, .int .u64 p.1.2.2.2]
 len _:=rfl
 one x u hu:=by
  simp at hu;rcases hu with rfl|rfl|rfl|rfl<;>rfl
abbrev Cg:=Sm×Int
abbrev gv(c:Cg):Value:= .agg #[.int .i64 c.1.1.1, .int .u64 c.1.1.2.1, .int .u64 c.1.1.2.2.1, .int .u64 c.1.1.2.2.2, .int .i64 c.2]
theorem DX:(Tryz.prog.info? 47).map (fun i=>(i.zero,i.size,i.bytes))=some (some (.agg #[.int .i64 0, .int .u64 0, .int .u64 0, .int .u64 0]),4,32):=by kernel_rfl
theorem pR:(Tryz.prog.info? 49).map (fun i=>(i.zero,i.size,i.bytes))=some (some (.agg #[.int .i64 0, .int .u64 0, .int .u64 0, .int .u64 0, .int .i64 0]),5,40):=by kernel_rfl
theorem Ls.atS{l:List Sm}(h:Ls ES w v l){j:Nat}{p:Sm}(hj:l[j]? =some p):
    ∃b off c,v= .slice (some ⟨b,off,none⟩) l.length c/\b<w.heap.size/\w.cell? ⟨b,off+j*4,none⟩=some (.int .i64 p.1.1)/\w.cell? ⟨b,off+j*4+1,none⟩=some (.int .u64 p.1.2.1)/\w.cell? ⟨b,off+j*4+2,none⟩=some (.int .u64 p.1.2.2.1)/\w.cell? ⟨b,off+j*4+3,none⟩=some (.int .u64 p.1.2.2.2):=by
 obtain⟨b,off,c,hv,hb,hc⟩:=h.get hj;exact⟨b,off,c,hv,hb,hc 0 _ (by decide) rfl,hc 1 _ (by decide) rfl,hc 2 _ (by decide) rfl,hc 3 _ (by decide) rfl⟩
theorem iE(x y:Int):c64 x y<0↔x<y:=by unfold c64;(repeat split)<;>omega
theorem fZ(x y:Int):c64 x y=0↔x=y:=by unfold c64;(repeat split)<;>omega
theorem qJ(a b c x y z:Int):mi a b c x y z<0↔a<x\/(a=x/\(b<y\/(b=y/\c<z))):=by
 have h1:=iE a x;have h2:=fZ a x;have h3:=iE b y;have h4:=fZ b y;have h5:=iE c z;unfold mi Ma;generalize c64 a x=p at *;generalize c64 b y=q at *;generalize c64 c z=r at *
 (repeat split)<;>omega
def Wi(p q:Int):Int:=if p=0 then q else p
def Gj(s t:Sm):Int:=Wi (c64 s.1.1 t.1.1) (mi s.1.2.1 s.1.2.2.1 s.1.2.2.2 t.1.2.1 t.1.2.2.1 t.1.2.2.2)
theorem Du(d:Nat)(a b c x y z:Int)(w:World):Sem.run Tryz.prog (Op.equalIn (d+2) 45 (.agg #[.int .u64 a, .int .u64 b, .int .u64 c]) (.agg #[.int .u64 x, .int .u64 y, .int .u64 z])) w= .ok (qB a b c x y z) w:=by
 have u3:=Tryz.underlying43;have a3:=Tryz.isAgg43;have z3:=Tryz.sizeOf43;have hS:Tryz.prog.underlying 45=some (.struct (Tryz.prog.fieldsOf 45)):=by kernel_rfl
 have hp:Tryz.prog.stoodInHeld 45=false:=by kernel_rfl
 rw[show(d+2:Nat)=(d+1)+1 from rfl,run_equalIn_agg w (d+1) 45 _ _ hS hp];simp only[Program.fieldsOf,Tryz.underlying45];go_simp;by_cases h1:a=x<;>by_cases h2:b=y<;>by_cases h3:c=z<;>simp[qB,h1,h2,h3]
theorem wJ(d:Nat)(p a b c q x y z:Int)(w:World):Sem.run Tryz.prog (Op.equalIn (d+3) 47 (.agg #[.int .i64 p, .int .u64 a, .int .u64 b, .int .u64 c]) (.agg #[.int .i64 q, .int .u64 x, .int .u64 y, .int .u64 z])) w= .ok (p==q&&qB a b c x y z) w:=by
 have u4:=Tryz.underlying3;have a4:=Tryz.isAgg3;have z4:=Tryz.sizeOf3;have a5:=Tryz.isAgg45;have z5:=Tryz.sizeOf45;have hP:=Du d;have hS:Tryz.prog.underlying 47=some (.struct (Tryz.prog.fieldsOf 47)):=by kernel_rfl
 have hp:Tryz.prog.stoodInHeld 47=false:=by kernel_rfl
 rw[show(d+3:Nat)=(d+2)+1 from rfl,run_equalIn_agg w (d+2) 47 _ _ hS hp];simp only[Program.fieldsOf,Tryz.underlying47];go_simp;by_cases h1:p=q<;>cases qB a b c x y z<;>simp[h1]
theorem VP(s t:Sm):(s.1.1==t.1.1&&qB s.1.2.1 s.1.2.2.1 s.1.2.2.2 t.1.2.1 t.1.2.2.1 t.1.2.2.2)=decide (s=t):=by
 rw[Bool.eq_iff_iff];simp only[bA,beq_iff_eq,qH,decide_eq_true_iff];exact⟨fun h=>M4 h.1 h.2.1 h.2.2.1 h.2.2.2,fun h=>by subst h;exact⟨rfl,rfl,rfl,rfl⟩⟩
theorem uZ(h k:Cg)(w:World):Sem.run Tryz.prog (Op.equalIn 10000 49 (gv h) (gv k)) w= .ok (decide (h=k)) w:=by
 obtain⟨s,m⟩:=h;obtain⟨t,n⟩:=k;have hd:decide (((s,m):Cg)=(t,n))=((s.1.1==t.1.1&&qB s.1.2.1 s.1.2.2.1 s.1.2.2.2 t.1.2.1 t.1.2.2.1 t.1.2.2.2)&&m==n):=by
  rw[VP,Bool.eq_iff_iff];simp
 rw[hd];clear hd;obtain⟨⟨p,a,b,c⟩,_⟩:=s;obtain⟨⟨q,x,y,z⟩,_⟩:=t;have u4:=Tryz.underlying2;have a4:=Tryz.isAgg2;have z4:=Tryz.sizeOf2;have a5:=Tryz.isAgg47;have z5:=Tryz.sizeOf47;have hP:=wJ 9996;have hS:Tryz.prog.underlying 49=some (.struct (Tryz.prog.fieldsOf 49)):=by kernel_rfl
 have hp:Tryz.prog.stoodInHeld 49=false:=by kernel_rfl
 rw[show(10000:Nat)=9999+1 from rfl,run_equalIn_agg w 9999 49 _ _ hS hp];simp only[Program.fieldsOf,Tryz.underlying49];go_simp;by_cases h1:p=q<;>by_cases h2:m=n<;>cases qB a b c x y z<;>simp[h1,h2]
end Rs
namespace Rs.Tt
open Go.RowKit Go.Sort Go.Maps
attribute[local go_sem ↓]wp_at_zero wp_at_succ
theorem zeroE(w:World):(zeroValue 2).run Tryz.prog w= .ok (.int .i64 0) w:=by kernel_rfl
def dV(n:Int):Bool:=decide (n < -2147483647)|| decide (2147483647<n)
theorem dH{n:Int}:dV n=false↔-2147483647<=n/\n<=2147483647:=by unfold dV;simp
theorem Vb{n:Int}:dV n=true↔n < -2147483647\/2147483647<n:=by unfold dV;simp
theorem gF(n:Int)(w:World):Calls Tryz.prog 143 #[.int .i64 n] w fun e w'=>e= .returned (.bool (dV n))/\w'=w:=by
 unfold dV;go_enter Tryz.func143,Tryz.ntmps143;go_wp2;all_goals (go_ret;refine⟨?_,rfl⟩;simp_all)
theorem heap_alloc2_new(w:World)(o p:Obj):(((w.alloc o).alloc p)).heap[w.heap.size+1]? =some p:=by
 have:=ah (w.alloc o) p;simpa using this
theorem heap_alloc2_old(w:World)(o p:Obj):(((w.alloc o).alloc p)).heap[w.heap.size]? =some o:=by
 rw[Below.heap_alloc _ _ _ (by simp)];exact ah _ _
structure Tl(w:World)(tb b g n:Nat)(f:Sm->Int):Prop where
 blk:w.heap[tb]? =some (.cells #[fv g, .map (some b)] 238 (0,0))
 ta:Ta ZM 2 w b n f
 bd:∀s,-2147483647<=f s/\f s<=2147483647
section
variable {w w':World} {tb b g n:Nat} {f:Sm->Int}
theorem Tl.lt(h:Tl w tb b g n f):tb<w.heap.size:=(aG.1 h.blk).1
theorem Tl.c0(h:Tl w tb b g n f):w.cell? ⟨tb,0,none⟩=some (fv g):=by simp[World.cell?,h.blk]
theorem Tl.c1(h:Tl w tb b g n f):w.cell? ⟨tb,1,none⟩=some (.map (some b)):=by simp[World.cell?,h.blk]
theorem Tl.ne(h:Tl w tb b g n f):tb≠b:=fun e=>by
 obtain⟨D,⟨es,clock,hb,_⟩,_⟩:=h.ta;rw[<-e,h.blk]at hb;cases hb
theorem Tl.kp{S:Nat->Prop}(h:Tl w tb b g n f)(hk:Kp S w w')(h1:¬S tb)(h2:¬S b):Tl w' tb b g n f:=
 ⟨(hk.block tb h.lt h1).trans h.blk,h.ta.kept (hk.block b h.ta.lt h2),h.bd⟩
theorem Tl.below(h:Tl w tb b g n f)(hb:Below w.heap.size w w'):Tl w' tb b g n f:=h.kp (S:=fun _=>False) (Kp.of_below hb) (fun h=>h) (fun h=>h)
theorem Tl.gr(h:Tl w tb b g n f)(hb:Gr w w'):Tl w' tb b g n f:=h.below hb.below
end
theorem dF(g:Nat)(w:World):Calls Tryz.prog 77 #[fv g] w fun e w'=>e= .returned (.pointer (some ⟨w.heap.size+1,0,none⟩))/\Tl w' (w.heap.size+1) w.heap.size g 0 (fun _=>0)/\Gr w w':=by
 have hmm:=@run_makeMap Tryz.prog;go_enter Tryz.func77,Tryz.ntmps77;go_wp2;go_ret;refine⟨rfl,⟨?_, ?_,fun _=> ?_⟩,((Gr.refl _).alloc _).alloc _⟩
 ·exact heap_alloc2_new _ _ _
 ·exact(Ta.made w).kept ((heap_alloc2_old _ _ _).trans (MapKept.heap_alloc w _).1.symm)
 ·decide
theorem lu(w:World):CallsD Tryz.prog 208 #[] .returning w fun e u' w'=>e= .returned (.tuple #[])/\u'= .returning/\w'=w:=by
 refine callsD_of_wpS Tryz.func208 rfl fun c₀ cs hu=> ?_;apply wpS_region;simp[wpOpsS,go_sem,recoverD,hu,Tryz.ntmps208,bodyPostS,results,Tryz.results208];cases c₀
 simp_all
abbrev bx(x:Sm)(w:World):World:=w.alloc (.cells #[.int .i64 x.1.1, .int .u64 x.1.2.1, .int .u64 x.1.2.2.1, .int .u64 x.1.2.2.2] 47)
theorem dU{f:Sm->Int}(x:Sm)(w:World)(h:Tl w tb b g n f):
    Calls Tryz.prog 144 #[.pointer (some ⟨tb,0,none⟩),mv x] w fun e w'=>e= .returned (.tuple #[.int .i64 (f x), .bool true])/\Gr w w':=by
 have hmx:Tryz.prog.follows .mixedOrders=true:=by kernel_rfl
 have HT:Hid (Tl (bx x w).drew tb b g n f):=(h.gr ((Gr.refl _).alloc _)).gr (Gr.refl _).drew;have hblk:(bx x w).heap[w.heap.size]? =some (.cells #[.int .i64 x.1.1, .int .u64 x.1.2.1, .int .u64 x.1.2.2.1, .int .u64 x.1.2.2.2] 47 (0,0)):=ah _ _;have S0:(bx x w).drew.cell? ⟨tb,1,none⟩=some (.map (some b))/\(bx x w).drew.cell? ⟨w.heap.size,0,none⟩=some (.int .i64 x.1.1)/\(bx x w).drew.cell? ⟨w.heap.size,1,none⟩=some (.int .u64 x.1.2.1)/\(bx x w).drew.cell? ⟨w.heap.size,2,none⟩=some (.int .u64 x.1.2.2.1)/\(bx x w).drew.cell? ⟨w.heap.size,3,none⟩=some (.int .u64 x.1.2.2.2):=by
  refine⟨HT.o.c1, ?_, ?_, ?_, ?_⟩<;>(show(bx x w).cell? _=_;simp only[World.cell?];rw[hblk];rfl)
 obtain⟨D,hown,h1,h2⟩:=HT.o.ta;have hx:=h1 x;obtain⟨c,hrun,hat,_⟩:=hown.lookup_int ZM.law Tryz.underlying235 Tryz.underlying2 (zeroE _) (ZM.key x);have e0:c=f x:=by
  rw[hx]at hat;simpa using hat.symm
 subst e0;have hrun:(Instr.lookup 235 (.map (some b)) (mv x) false).run Tryz.prog (bx x w).drew= .ok (.int .i64 (f x)) (bx x w).drew:=hrun;have hG:Gr w (bx x w).drew:=((Gr.refl _).alloc _).drew;clear hx hat h1 h2 hown h HT hblk;generalize f x=r at hrun⊢;go_enter_defers Tryz.func144,Tryz.ntmps144;go_wp2_with fail;go_region_held3 (fun w'=>w'.cell? ⟨tb,1,none⟩=some (.map (some b))/\w'.cell? ⟨w.heap.size,0,none⟩=some (.int .i64 x.1.1)/\w'.cell? ⟨w.heap.size,1,none⟩=some (.int .u64 x.1.2.1)/\w'.cell? ⟨w.heap.size,2,none⟩=some (.int .u64 x.1.2.2.1)/\w'.cell? ⟨w.heap.size,3,none⟩=some (.int .u64 x.1.2.2.2))
  (first|exact S0) (fail)
 go_wp2;refine leaves_cons (f:=208) (args:=#[]) (by simp) (by simp[go_sem]) ?_;refine(lu _).mono ?_;rintro e u' w'' ⟨rfl,rfl,rfl⟩;simp[Leaves,settle,results,Tryz.results144,go_sem];exact hG
theorem bV(x:Sm)(w:World):(bx x w).cell? ⟨w.heap.size,0,none⟩=some (.int .i64 x.1.1)/\(bx x w).cell? ⟨w.heap.size,1,none⟩=some (.int .u64 x.1.2.1)/\(bx x w).cell? ⟨w.heap.size,2,none⟩=some (.int .u64 x.1.2.2.1)/\(bx x w).cell? ⟨w.heap.size,3,none⟩=some (.int .u64 x.1.2.2.2):=by
 have hblk:(bx x w).heap[w.heap.size]? =some (.cells #[.int .i64 x.1.1, .int .u64 x.1.2.1, .int .u64 x.1.2.2.1, .int .u64 x.1.2.2.2] 47 (0,0)):=ah _ _;refine⟨?_, ?_, ?_, ?_⟩<;>(simp only[World.cell?];rw[hblk];rfl)
theorem Bd{f:Sm->Int}(x:Sm)(v:Int)(w:World)(h:Tl w tb b g n f)(hn:n<maxLen)(hv: -2147483647<=v/\v<=2147483647):
    Calls Tryz.prog 145 #[.pointer (some ⟨tb,0,none⟩),mv x, .int .i64 v] w fun e w'=>e= .returned (.tuple #[])/\Tl w' tb b g (n+1) (upd f x v)/\Kp (fun k=>k=b) w w':=by
 have hmx:Tryz.prog.follows .mixedOrders=true:=by kernel_rfl
 have HT:Hid (Tl (bx x w).drew tb b g n f):=(h.gr ((Gr.refl _).alloc _)).gr (Gr.refl _).drew;have HG:Hid (Gr w (bx x w).drew):=((Gr.refl _).alloc _).drew;have S0:(bx x w).drew.cell? ⟨tb,1,none⟩=some (.map (some b))/\(bx x w).drew.cell? ⟨w.heap.size,0,none⟩=some (.int .i64 x.1.1)/\(bx x w).drew.cell? ⟨w.heap.size,1,none⟩=some (.int .u64 x.1.2.1)/\(bx x w).drew.cell? ⟨w.heap.size,2,none⟩=some (.int .u64 x.1.2.2.1)/\(bx x w).drew.cell? ⟨w.heap.size,3,none⟩=some (.int .u64 x.1.2.2.2):=
  ⟨HT.o.c1,(bV x w).1,(bV x w).2.1,(bV x w).2.2.1,(bV x w).2.2.2⟩
 have Pg:∀s,-2147483647<=upd f x v s/\upd f x v s<=2147483647:=fun s=>by unfold upd;split;exact hv;exact h.bd s
 have vK:Hid (∀s,-2147483647<=upd f x v s/\upd f x v s<=2147483647):=Pg;obtain⟨D,hown,h1,h2⟩:=HT.o.ta;have hne:=HT.o.ne;have hlt:=HT.o.lt;have hbl:b<w.heap.size:=h.ta.lt;have hbx:w.heap.size<(bx x w).drew.heap.size:=by show w.heap.size<(bx x w).heap.size;simp
 clear h Pg;by_cases h0:v=0
 ·subst h0;have ht:=EE h1 h2 x;obtain⟨w1,hrun,hown1,hturn1⟩:=hown.drop ZM.law Tryz.underlying235 (ZM.key x) 0;have hrun:Sem.run Tryz.prog (Builtin.delete_ #[235,47] 0 #[.map (some b),mv x]) (bx x w).drew= .ok (.tuple #[]) w1:=hrun;have qE:Hid ((bx x w).drew.grownBy w1 (some b)):=hturn1.grown;have S1:w1.cell? ⟨tb,1,none⟩=some (.map (some b))/\w1.cell? ⟨w.heap.size,0,none⟩=some (.int .i64 x.1.1)/\w1.cell? ⟨w.heap.size,1,none⟩=some (.int .u64 x.1.2.1)/\w1.cell? ⟨w.heap.size,2,none⟩=some (.int .u64 x.1.2.2.1)/\w1.cell? ⟨w.heap.size,3,none⟩=some (.int .u64 x.1.2.2.2):=by
   have e1:∀q,w1.cell? ⟨tb,q,none⟩=(bx x w).drew.cell? ⟨tb,q,none⟩:=fun q=>yY (a:=⟨tb,q,none⟩) (qE.o.block tb hlt (by simp[hne]));have e2:∀q,w1.cell? ⟨w.heap.size,q,none⟩=(bx x w).drew.cell? ⟨w.heap.size,q,none⟩:=fun q=>yY (a:=⟨w.heap.size,q,none⟩) (qE.o.block w.heap.size hbx (by simp;omega));exact⟨(e1 1).trans S0.1,(e2 0).trans S0.2.1,(e2 1).trans S0.2.2.1,(e2 2).trans S0.2.2.2.1,(e2 3).trans S0.2.2.2.2⟩
  have HE:Hid (Tl w1 tb b g (n+1) (upd f x 0)/\Kp (fun k=>k=b) w w1):=
   ⟨⟨(qE.o.block tb hlt (by simp[hne])).trans HT.o.blk,⟨_,hown1.mono (Nat.le_succ _),ht.1,ht.2⟩,vK.o⟩,(Kp.aX (S:=fun k=>k=b) HG.o).trans (Kp.grownBy (S:=fun k=>k=b) qE.o (fun k hk=>by simpa using hk.symm)) (fun _ _ h=>h)⟩
  clear h1 h2 hown hown1 hturn1 qE vK HT HG hlt hbx;go_enter Tryz.func145,Tryz.ntmps145;go_wp2_with fail;go_region_held3 (fun w'=>w'.cell? ⟨tb,1,none⟩=some (.map (some b))/\w'.cell? ⟨w.heap.size,0,none⟩=some (.int .i64 x.1.1)/\w'.cell? ⟨w.heap.size,1,none⟩=some (.int .u64 x.1.2.1)/\w'.cell? ⟨w.heap.size,2,none⟩=some (.int .u64 x.1.2.2.1)/\w'.cell? ⟨w.heap.size,3,none⟩=some (.int .u64 x.1.2.2.2))
   (first|exact S0|exact S1) (fail)
  go_wp2;refine bR (results_none rfl _ _ _) rfl ?_;exact⟨rfl,HE.o.1,HE.o.2⟩
 ·have ht:=Dw (hown.isMap) h1 h2 x v h0;have hwf:(Lit.int .i64 v).wf=true:=WalkArith.wf_i64 (by omega);obtain⟨w1,hrun,hown1,hturn1⟩:=hown.store ZM.law Tryz.underlying235 hn (ZM.key x) (plainElem_int Tryz.underlying2 hwf);have hrun:(Instr.mapUpdate 235 (.map (some b)) (mv x) (.int .i64 v)).run Tryz.prog (bx x w).drew= .ok () w1:=hrun;have qE:Hid ((bx x w).drew.grownBy w1 (some b)):=hturn1.grown;have S1:w1.cell? ⟨tb,1,none⟩=some (.map (some b))/\w1.cell? ⟨w.heap.size,0,none⟩=some (.int .i64 x.1.1)/\w1.cell? ⟨w.heap.size,1,none⟩=some (.int .u64 x.1.2.1)/\w1.cell? ⟨w.heap.size,2,none⟩=some (.int .u64 x.1.2.2.1)/\w1.cell? ⟨w.heap.size,3,none⟩=some (.int .u64 x.1.2.2.2):=by
   have e1:∀q,w1.cell? ⟨tb,q,none⟩=(bx x w).drew.cell? ⟨tb,q,none⟩:=fun q=>yY (a:=⟨tb,q,none⟩) (qE.o.block tb hlt (by simp[hne]));have e2:∀q,w1.cell? ⟨w.heap.size,q,none⟩=(bx x w).drew.cell? ⟨w.heap.size,q,none⟩:=fun q=>yY (a:=⟨w.heap.size,q,none⟩) (qE.o.block w.heap.size hbx (by simp;omega));exact⟨(e1 1).trans S0.1,(e2 0).trans S0.2.1,(e2 1).trans S0.2.2.1,(e2 2).trans S0.2.2.2.1,(e2 3).trans S0.2.2.2.2⟩
  have HE:Hid (Tl w1 tb b g (n+1) (upd f x v)/\Kp (fun k=>k=b) w w1):=
   ⟨⟨(qE.o.block tb hlt (by simp[hne])).trans HT.o.blk,⟨_,hown1,ht.1,ht.2⟩,vK.o⟩,(Kp.aX (S:=fun k=>k=b) HG.o).trans (Kp.grownBy (S:=fun k=>k=b) qE.o (fun k hk=>by simpa using hk.symm)) (fun _ _ h=>h)⟩
  clear h1 h2 hown hown1 hturn1 qE vK HT HG hlt hbx;go_enter Tryz.func145,Tryz.ntmps145;go_wp2_with fail;go_region_held3 (fun w'=>w'.cell? ⟨tb,1,none⟩=some (.map (some b))/\w'.cell? ⟨w.heap.size,0,none⟩=some (.int .i64 x.1.1)/\w'.cell? ⟨w.heap.size,1,none⟩=some (.int .u64 x.1.2.1)/\w'.cell? ⟨w.heap.size,2,none⟩=some (.int .u64 x.1.2.2.1)/\w'.cell? ⟨w.heap.size,3,none⟩=some (.int .u64 x.1.2.2.2))
   (first|exact S0|exact S1) (fail)
  go_wp2;go_end0;exact⟨rfl,HE.o.1,HE.o.2⟩
theorem Cs{x:Sm}{w2:World}(h:Gr (bx x w) w2):w2.cell? ⟨w.heap.size,0,none⟩=some (.int .i64 x.1.1)/\w2.cell? ⟨w.heap.size,1,none⟩=some (.int .u64 x.1.2.1)/\w2.cell? ⟨w.heap.size,2,none⟩=some (.int .u64 x.1.2.2.1)/\w2.cell? ⟨w.heap.size,3,none⟩=some (.int .u64 x.1.2.2.2):=by
 have hz:w.heap.size<(bx x w).heap.size:=by simp
 exact⟨(h.cell hz).trans (bV x w).1,(h.cell hz).trans (bV x w).2.1,(h.cell hz).trans (bV x w).2.2.1,(h.cell hz).trans (bV x w).2.2.2⟩
def E8(f:Sm->Int)(x:Sm)(v:Int):Int:=if dV v=true\/dV (f x+v)=true then 12 else 0
def yl(f:Sm->Int)(x:Sm)(v:Int):Sm->Int:=if dV v=true\/dV (f x+v)=true then f else upd f x (f x+v)
theorem oV{f:Sm->Int}(x:Sm)(v:Int)(w:World)(h:Tl w tb b g n f)(hn:n<maxLen):
    Calls Tryz.prog 81 #[.pointer (some ⟨tb,0,none⟩),mv x, .int .i64 v] w fun e w'=>e= .returned (.int .i64 (E8 f x v))/\Tl w' tb b g (n+1) (yl f x v)/\Kp (fun k=>k=b) w w':=by
 have hb:=h.bd x;have HG:Hid (Gr w (bx x w)):=(Gr.refl _).alloc _;have HT:Hid (Tl (bx x w) tb b g n f):=h.gr HG.o;have hco:=dU x (bx x w) HT.o;have hset:=fun(W:World) (hW:Gr (bx x w) W) (hv: -2147483647<=f x+v/\f x+v<=2147483647)=>Bd x (f x+v) W (HT.o.gr hW) hn hv;have h1:=fun W=>gF v W;have h2:=fun W=>gF (f x+v) W;have QV:Hid (∀W,Gr (bx x w) W->Kp (fun k=>k=b) w W):=fun W hW=>(Kp.aX (HG.o.trans hW));unfold E8 yl;clear h;cases hv:dV v with
 | true=>
  rw[hv]at h1;clear hv;rw[if_pos (Or.inl rfl),if_pos (Or.inl rfl)];go_enter Tryz.func81,Tryz.ntmps81;go_wp2_with fail;refine(h1 _).mono ?_;rintro e w1 ⟨rfl,rfl⟩;go_wp2;go_ret;exact⟨rfl,⟨HT.o.blk,HT.o.ta.mono (Nat.le_succ _),HT.o.bd⟩,QV.o _ (Gr.refl _)⟩
 | false=>
  have hv':=dH.1 hv;rw[hv]at h1;clear hv;cases hv2:dV (f x+v)with
  | true=>
   rw[hv2]at h2;clear hv2 hset;rw[if_pos (Or.inr rfl),if_pos (Or.inr rfl)];generalize f x=c at *;go_enter Tryz.func81,Tryz.ntmps81;go_wp2_with fail;refine(h1 _).mono ?_;rintro e w1 ⟨rfl,rfl⟩;go_wp2_with fail;refine hco.mono ?_;rintro e w2 ⟨rfl,g2⟩;go_wp2_with fail;refine(h2 _).mono ?_;rintro e w3 ⟨rfl,rfl⟩;go_wp2;go_ret;have ht:=HT.o.gr g2;exact⟨rfl,⟨ht.blk,ht.ta.mono (Nat.le_succ _),ht.bd⟩,QV.o _ g2⟩
  | false=>
   have hv3:=dH.1 hv2;rw[hv2]at h2;clear hv2;rw[if_neg (by simp),if_neg (by simp)];have OY:=fun W hW=>hset W hW hv3;clear hset;generalize f x=c at *;go_enter Tryz.func81,Tryz.ntmps81;go_wp2_with fail;refine(h1 _).mono ?_;rintro e w1 ⟨rfl,rfl⟩;go_wp2_with fail;refine hco.mono ?_;rintro e w2 ⟨rfl,g2⟩;obtain⟨c0,c1,c2,c3⟩:=Cs g2;go_wp2_with fail;refine(h2 _).mono ?_;rintro e w3 ⟨rfl,rfl⟩;go_wp2_with fail;refine(OY _ g2).mono ?_;rintro e w4 ⟨rfl,ht,hk⟩;go_wp2;go_ret;exact⟨rfl,ht,(QV.o _ g2).trans hk (fun _ _ h=>h)⟩
theorem BX{f:Sm->Int}(x:Sm)(w:World)(h:Tl w tb b g n f):
    Calls Tryz.prog 149 #[.pointer (some ⟨tb,0,none⟩),mv x] w fun e w'=>e= .returned (.int .i64 (f x))/\Gr w w':=by
 have HG:Hid (Gr w (bx x w)):=(Gr.refl _).alloc _;have hco:=dU x (bx x w) (h.gr HG.o);generalize f x=c at hco⊢;clear h;go_enter Tryz.func149,Tryz.ntmps149;go_wp2_with fail;refine hco.mono ?_;rintro e w1 ⟨rfl,g1⟩;go_wp2;go_ret;exact⟨rfl,HG.o.trans g1⟩
end Rs.Tt
end Go.Proofs.YtiiefcalkjeieaaGreat
