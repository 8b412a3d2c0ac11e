import Derived.Test.YtiiefcalkjeieaaGreatJ8
import Derived.Laws.EntriesVeiled
variable{M:Nat}{v:Go.Value}{α:Type}
set_option maxHeartbeats 2000000
namespace Go.Proofs.YtiiefcalkjeieaaGreat
namespace Df
open Go.RowKit Go.Sort
attribute[local go_sem ↓]wp_at_zero wp_at_succ
theorem AJ{P:Program}(E:El α){e sT:TypeId}{z:Value}{bt:Nat}(hu:P.underlying sT=some (.slice e))(hI:(P.info? e).map (fun i=>(i.zero,i.size,i.bytes))=some (some z,E.k,bt))(hz:z.cells.size=E.k)(hk:0<E.k)
    {w:World} {ops:Array Oper} {rest:List Oper} {o:Oper} {a:Act} {Q:Exit->Act->World->Prop} (hgd:o.guard=none) (s x:Operand) (ho:o.op= .call { callee:= .builtin .append,args:=#[s,x],argTypes:=#[sT,sT] })
    (base:Nat) (v:Value) (n:Nat) (xs:List Value) (hs:a.eval s=v) (hown:w.ownsRow base e E.k v n xs) (M:Nat)
    (v1:Value) (ts:List α) (hx:a.eval x=v1) (hv:Lz E M w v1 ts) (hbig:(n+ts.length)*bt<=140737488355328) (hmx:n+ts.length<=maxLen) (hbase:base<=w.heap.size)
    (h:∀v' w',Hid (w'.ownsRow base e E.k v' (n+ts.length) (xs++fl E ts))->Hid (w.grownBy w' v.ownBlock)->wpList P ops Q rest (a.put o.dst v') w'):wpList P ops Q (o::rest) a w:=by
 rcases hv with⟨hv,_⟩|⟨rfl,p,c,rfl⟩
 ·exact jZ E hu hI hz hk hgd s x ho base v n xs hs hown v1 ts hx hv hbig hmx hbase h
 ·obtain⟨i0,hi,hz0,hz1,hz2⟩:=info_parts hI;cases p with
  | none=>
   refine wpList_plain hgd fun K hK=> ?_;have hrun:=run_append_owned_none (P:=P) (w:=w) base sT o.type e i0 E.k hu hi v n xs hown;rw[<-uW (P:=P) w sT o.type v c]at hrun;unfold Oper.wp;simp[execOp,ho,resolve,invoke,builtin,hs,hx,hrun,Result.andThen];refine hK _ _ (h _ _ (show _ from by have h5:w.ownsRow base e E.k v (n+([]:List α).length) (xs++fl E []):=(by simpa[fl]using hown);exact h5) ⟨rfl,rfl,rfl,nR _,fun _ _ _=>rfl⟩)
  | some b=>
   refine wpList_append_own _ hgd s x _ ho base e i0 _ E.k bt hu hi hz0 hz1 hz2 hz hk v n xs hs hown b 0 c [] hx (by simp) (fun j u hj=>by simp at hj) (fun u hu=>by cases hu) hmx hbig hbase ?_;intro v' w' h1 h2 _;exact h v' w' h1 h2
def Cp{α:Type}(E:El α)(T:TypeId)(w:World)(l:List α)(e:Ending)(w':World):Prop:=∃d,e= .returned d/\Bw w w'/\w'.ownsRow w.heap.size T E.k d l.length (fl E l)
theorem Ap{l:List NV}(w:World)(h:Lz EV M w v l)(hb:l.length*112<=140737488351232):CL 111 #[v] w (Cp EV 149 w l):=by
 have HL:=hid h;obtain⟨p,c,rfl⟩:=h.form;clear h;have HB:=hid hb;clear hb;generalize l.length=n at HL;go_enter Tryz.func111,Tryz.ntmps111;go_wp2_with (at_builtin;refine AJ EV Tryz.underlying22 aab rfl (by decide) rfl _ _ rfl w.heap.size _ 0 [] rfl (oN _ _ _ _) M _ l rfl HL.o (by have:=HB.o;omega) (by have:=HB.o;unfold maxLen;omega) (nR _) ?_);intro v1 w1 h1 h2;go_wp2_with fail;go_ret;refine⟨_,rfl,(Kp.grownBy (S:=fun k=>(Value.slice none 0 0).ownBlock=some k) h2.o (fun _ h=>h)).below (nR _) (fun k hk=>by simp[Value.ownBlock]at hk),aV h1.o (by simp) (by simp)⟩
theorem tV{l:List dR}(w:World)(h:Lz ED M w v l)(hb:l.length*40<=140737488351232):CL 112 #[v] w (Cp ED 151 w l):=by
 have HL:=hid h;obtain⟨p,c,rfl⟩:=h.form;clear h;have HB:=hid hb;clear hb;generalize l.length=n at HL;go_enter Tryz.func112,Tryz.ntmps112;go_wp2_with (at_builtin;refine AJ ED Tryz.underlying23 aad rfl (by decide) rfl _ _ rfl w.heap.size _ 0 [] rfl (oN _ _ _ _) M _ l rfl HL.o (by have:=HB.o;omega) (by have:=HB.o;unfold maxLen;omega) (nR _) ?_);intro v1 w1 h1 h2;go_wp2_with fail;go_ret;refine⟨_,rfl,(Kp.grownBy (S:=fun k=>(Value.slice none 0 0).ownBlock=some k) h2.o (fun _ h=>h)).below (nR _) (fun k hk=>by simp[Value.ownBlock]at hk),aV h1.o (by simp) (by simp)⟩
theorem Lu{l:List Zj}(w:World)(h:Lz EO M w v l)(hb:l.length*16<=140737488351232):CL 113 #[v] w (Cp EO 202 w l):=by
 have HL:=hid h;obtain⟨p,c,rfl⟩:=h.form;clear h;have HB:=hid hb;clear hb;generalize l.length=n at HL;go_enter Tryz.func113,Tryz.ntmps113;go_wp2_with (at_builtin;refine AJ EO Tryz.underlying146 aac rfl (by decide) rfl _ _ rfl w.heap.size _ 0 [] rfl (oN _ _ _ _) M _ l rfl HL.o (by have:=HB.o;omega) (by have:=HB.o;unfold maxLen;omega) (nR _) ?_);intro v1 w1 h1 h2;go_wp2_with fail;go_ret;refine⟨_,rfl,(Kp.grownBy (S:=fun k=>(Value.slice none 0 0).ownBlock=some k) h2.o (fun _ h=>h)).below (nR _) (fun k hk=>by simp[Value.ownBlock]at hk),aV h1.o (by simp) (by simp)⟩
theorem Aq{l:List dN}(w:World)(h:Lz EC M w v l)(hb:l.length*40<=140737488351232):CL 114 #[v] w (Cp EC 205 w l):=by
 have HL:=hid h;obtain⟨p,c,rfl⟩:=h.form;clear h;have HB:=hid hb;clear hb;generalize l.length=n at HL;go_enter Tryz.func114,Tryz.ntmps114;go_wp2_with (at_builtin;refine AJ EC Tryz.underlying147 pX rfl (by decide) rfl _ _ rfl w.heap.size _ 0 [] rfl (oN _ _ _ _) M _ l rfl HL.o (by have:=HB.o;omega) (by have:=HB.o;unfold maxLen;omega) (nR _) ?_);intro v1 w1 h1 h2;go_wp2_with fail;go_ret;refine⟨_,rfl,(Kp.grownBy (S:=fun k=>(Value.slice none 0 0).ownBlock=some k) h2.o (fun _ h=>h)).below (nR _) (fun k hk=>by simp[Value.ownBlock]at hk),aV h1.o (by simp) (by simp)⟩
theorem fQ(n m:Int)(w:World):CL 182 #[iV n,iV m] w fun r w'=>r= .returned (.bool (decide (0<=n/\n<m)))/\w'=w:=by
 by_cases h:0<=n
 ·go_enter Tryz.func182,Tryz.ntmps182;go_wp2_with fail;go_ret;exact⟨by simp[h],rfl⟩
 ·go_enter Tryz.func182,Tryz.ntmps182;go_wp2_with fail;go_ret;exact⟨by simp;intros;omega,rfl⟩
def nat?(xs:List NV)(i:Int):Option NV:=if 0<=i then xs[i.toNat]? else none
def yX(xs:List NV)(i p:Int):Bool:=match nat? xs i with|some x=>decide (0<=p/\p<x.n.ins)|none=>false
def Ci(xs:List NV)(i p:Int):Bool:=match nat? xs i with|some x=>decide (0<=p/\p<x.n.outs)|none=>false
theorem Ai{xs:List NV}(i p:Int)(w:World)(h:Lz EV M w v xs):CL 178 #[v,iV i,iV p] w fun r w'=>r= .returned (.bool (yX xs i p))/\w'=w:=by
 have ha:=fun(n m:Int) W=>fQ n m W;obtain⟨q,c,hv⟩:=h.form;obtain⟨n,hn⟩:=aF (xs.length);rw[<-hn]at hv;subst hv;by_cases hi:0<=i/\i<(n:Int)
 ·obtain⟨j,rfl⟩:∃j:Nat,i=(j:Int):=⟨i.toNat,by omega⟩;obtain⟨y,hy⟩:∃y,xs[j]? =some y:=⟨xs[j]'(by omega),by simp⟩;obtain⟨b,o,c2,e,z,x0,x1,x2,-⟩:=j5 (h.ls hy) hy;simp only[vS]at e;obtain⟨rfl,-,rfl⟩:=e;have HM:Hid (yX xs (j:Int) p=decide (0<=p/\p<y.n.ins)):=by
   show _=_;unfold yX nat?;rw[if_pos (by omega),tN,hy]
  have h1:=ha (j:Int) (n:Int);have hd:decide (0<=(j:Int)/\(j:Int)<(n:Int))=true:=by simp;omega
  rw[hd]at h1;have h2:=ha p y.n.ins;have hj0:(0:Int)<=(j:Int):=by omega
  have hjn:(j:Int)<(n:Int):=by omega
  clear ha h hy hn hd hi;generalize decide (0<=p/\p<y.n.ins)=bb at HM h2;go_enter Tryz.func178,Tryz.ntmps178;go_wp2_with fail;refine(h1 _).mono ?_;rintro r w1 ⟨rfl,rfl⟩;go_wp2_with fail;refine(h2 _).mono ?_;rintro r w2 ⟨rfl,rfl⟩;go_wp2_with fail;go_ret;exact⟨by rw[HM.o];rfl,rfl⟩
 ·have HM:Hid (yX xs i p=false):=by
    show _=_;unfold yX nat?;by_cases h0:0<=i
    ·rw[if_pos h0,lQ (by omega)]
    ·rw[if_neg h0]
  have h1:=ha i (n:Int);have hd:decide (0<=i/\i<(n:Int))=false:=by simpa using hi
  rw[hd]at h1;clear ha h hn hd hi;go_enter Tryz.func178,Tryz.ntmps178;go_wp2_with fail;refine(h1 _).mono ?_;rintro r w1 ⟨rfl,rfl⟩;go_wp2_with fail;go_ret;exact⟨by rw[HM.o];rfl,rfl⟩
theorem xM{xs:List NV}(i p:Int)(w:World)(h:Lz EV M w v xs):CL 177 #[v,iV i,iV p] w fun r w'=>r= .returned (.bool (Ci xs i p))/\w'=w:=by
 have ha:=fun(n m:Int) W=>fQ n m W;obtain⟨q,c,hv⟩:=h.form;obtain⟨n,hn⟩:=aF (xs.length);rw[<-hn]at hv;subst hv;by_cases hi:0<=i/\i<(n:Int)
 ·obtain⟨j,rfl⟩:∃j:Nat,i=(j:Int):=⟨i.toNat,by omega⟩;obtain⟨y,hy⟩:∃y,xs[j]? =some y:=⟨xs[j]'(by omega),by simp⟩;obtain⟨b,o,c2,e,z,x0,x1,x2,-⟩:=j5 (h.ls hy) hy;simp only[vS]at e;obtain⟨rfl,-,rfl⟩:=e;have HM:Hid (Ci xs (j:Int) p=decide (0<=p/\p<y.n.outs)):=by
   show _=_;unfold Ci nat?;rw[if_pos (by omega),tN,hy]
  have h1:=ha (j:Int) (n:Int);have hd:decide (0<=(j:Int)/\(j:Int)<(n:Int))=true:=by simp;omega
  rw[hd]at h1;have h2:=ha p y.n.outs;have hj0:(0:Int)<=(j:Int):=by omega
  have hjn:(j:Int)<(n:Int):=by omega
  clear ha h hy hn hd hi;generalize decide (0<=p/\p<y.n.outs)=bb at HM h2;go_enter Tryz.func177,Tryz.ntmps177;go_wp2_with fail;refine(h1 _).mono ?_;rintro r w1 ⟨rfl,rfl⟩;go_wp2_with fail;refine(h2 _).mono ?_;rintro r w2 ⟨rfl,rfl⟩;go_wp2_with fail;go_ret;exact⟨by rw[HM.o];rfl,rfl⟩
 ·have HM:Hid (Ci xs i p=false):=by
    show _=_;unfold Ci nat?;by_cases h0:0<=i
    ·rw[if_pos h0,lQ (by omega)]
    ·rw[if_neg h0]
  have h1:=ha i (n:Int);have hd:decide (0<=i/\i<(n:Int))=false:=by simpa using hi
  rw[hd]at h1;clear ha h hn hd hi;go_enter Tryz.func177,Tryz.ntmps177;go_wp2_with fail;refine(h1 _).mono ?_;rintro r w1 ⟨rfl,rfl⟩;go_wp2_with fail;go_ret;exact⟨by rw[HM.o];rfl,rfl⟩
theorem KP(own many:Int)(b:Nat)(w:World)(h:w.heap[b]? =some (.cells #[iV own] 3 (0,0))):CL 264 #[iV many,aB b] w fun r w'=>r= .returned (.bool (decide (many=own)))/\w'=w:=by
 have c:=(aa h).1;have l:=ae h;clear h;go_enter Tryz.func264,Tryz.ntmps264;go_wp2_with fail;go_ret;exact⟨rfl,rfl⟩
theorem Dk(least many:Int)(b:Nat)(w:World)(h:w.heap[b]? =some (.cells #[iV least] 3 (0,0))):CL 265 #[iV many,aB b] w fun r w'=>r= .returned (.bool (decide (least<=many/\many<=4)))/\w'=w:=by
 have c:=(aa h).1;have l:=ae h;clear h;by_cases hm:least<=many
 ·go_enter Tryz.func265,Tryz.ntmps265;go_wp2_with fail;go_ret;exact⟨by simp[hm],rfl⟩
 ·go_enter Tryz.func265,Tryz.ntmps265;go_wp2_with fail;go_ret;exact⟨by simp;intros;omega,rfl⟩
abbrev fj(b:Nat):Value:= .func (.func 264) #[] #[.pointer (some ⟨b,0,none⟩)]
abbrev fu(b:Nat):Value:= .func (.func 265) #[] #[.pointer (some ⟨b,0,none⟩)]
theorem gY(own:Int)(w:World):CL 230 #[iV own] w fun r w'=>r= .returned (fj w.heap.size)/\w'=w.alloc (.cells #[iV own] 3):=by
 have Ph:∀(fn:Fn) (first cap:Array Value) (w:World),(Instr.makeFunc fn first cap).run Tryz.prog w= .ok (.func fn first cap) w:=fun _ _ _ _=>rfl;go_enter Tryz.func230,Tryz.ntmps230;go_wp2_with fail;go_ret;exact⟨rfl,rfl⟩
theorem eY(own:Int)(w:World):CL 236 #[iV own] w fun r w'=>r= .returned (fu w.heap.size)/\w'=w.alloc (.cells #[iV own] 3):=by
 have Ph:∀(fn:Fn) (first cap:Array Value) (w:World),(Instr.makeFunc fn first cap).run Tryz.prog w= .ok (.func fn first cap) w:=fun _ _ _ _=>rfl;go_enter Tryz.func236,Tryz.ntmps236;go_wp2_with fail;go_ret;exact⟨rfl,rfl⟩
theorem BF(w:World)(A B C D:Obj):((((w.alloc A).alloc B).alloc C).alloc D).heap[w.heap.size+1+1+1]? =some D/\((((w.alloc A).alloc B).alloc C).alloc D).heap[w.heap.size+1+1]? =some C/\((((w.alloc A).alloc B).alloc C).alloc D).heap[w.heap.size+1]? =some B/\((((w.alloc A).alloc B).alloc C).alloc D).heap[w.heap.size]? =some A:=by
 obtain⟨h1,h2,h3⟩:=Wx w A B C;have hg:=((Gr.refl (((w.alloc A).alloc B).alloc C)).alloc D).below;have hs:(((w.alloc A).alloc B).alloc C).heap.size=w.heap.size+1+1+1:=by simp
 have h4:=heap_alloc_new (((w.alloc A).alloc B).alloc C) D;rw[hs]at h4;exact⟨h4,(hg.block _ (by rw[hs];omega)).trans h3,(hg.block _ (by rw[hs];omega)).trans h2,(hg.block _ (by rw[hs];omega)).trans h1⟩
theorem GX(w:World)(A B C D E:Obj):(((((w.alloc A).alloc B).alloc C).alloc D).alloc E).heap[w.heap.size+4]? =some E/\(((((w.alloc A).alloc B).alloc C).alloc D).alloc E).heap[w.heap.size+3]? =some D/\(((((w.alloc A).alloc B).alloc C).alloc D).alloc E).heap[w.heap.size+2]? =some C/\(((((w.alloc A).alloc B).alloc C).alloc D).alloc E).heap[w.heap.size+1]? =some B/\(((((w.alloc A).alloc B).alloc C).alloc D).alloc E).heap[w.heap.size]? =some A:=by
 obtain⟨h1,h2,h3,h4⟩:=BF w A B C D;have hg:=((Gr.refl ((((w.alloc A).alloc B).alloc C).alloc D)).alloc E).below;have hs:((((w.alloc A).alloc B).alloc C).alloc D).heap.size=w.heap.size+4:=by simp
 have h5:=heap_alloc_new ((((w.alloc A).alloc B).alloc C).alloc D) E;rw[hs]at h5;exact⟨h5,(hg.block _ (by rw[hs];omega)).trans h1,(hg.block _ (by rw[hs];omega)).trans h2,(hg.block _ (by rw[hs];omega)).trans h3,(hg.block _ (by rw[hs];omega)).trans h4⟩
theorem SC(w:World)(A B C D E F:Obj):((((((w.alloc A).alloc B).alloc C).alloc D).alloc E).alloc F).heap[w.heap.size+5]? =some F/\((((((w.alloc A).alloc B).alloc C).alloc D).alloc E).alloc F).heap[w.heap.size+4]? =some E/\((((((w.alloc A).alloc B).alloc C).alloc D).alloc E).alloc F).heap[w.heap.size+3]? =some D:=by
 obtain⟨h1,h2,-⟩:=GX w A B C D E;have hg:=((Gr.refl (((((w.alloc A).alloc B).alloc C).alloc D).alloc E)).alloc F).below;have hs:(((((w.alloc A).alloc B).alloc C).alloc D).alloc E).heap.size=w.heap.size+5:=by simp
 have h5:=heap_alloc_new (((((w.alloc A).alloc B).alloc C).alloc D).alloc E) F;rw[hs]at h5;exact⟨h5,(hg.block _ (by rw[hs];omega)).trans h1,(hg.block _ (by rw[hs];omega)).trans h2⟩
def Kd(w:World)(uI:Bool)(i:Int)(uO:Bool)(o:Int)(fw ff fc:Nat)(r:Ending)(w':World):Prop:=∃b1 b2:Nat,r= .returned (.tuple #[.agg #[if uI then fu b1 else fj b1,if uO then fu b2 else fj b2, .func (.func fw) #[] #[], .func (.func ff) #[] #[], .func (.func fc) #[] #[]], .bool true])/\Bw w w'/\w'.heap[b1]? =some (.cells #[iV i] 3 (0,0))/\w'.heap[b2]? =some (.cells #[iV o] 3 (0,0))
theorem Ac(w:World):CL 173 #[iV 1] w (Kd w false 0 false 1 231 232 233):=by
 have Ph:∀(fn:Fn) (first cap:Array Value) (w:World),(Instr.makeFunc fn first cap).run Tryz.prog w= .ok (.func fn first cap) w:=fun _ _ _ _=>rfl;go_enter Tryz.func173,Tryz.ntmps173;go_wp2_with (first|(go_at_call 230;refine(gY _ _).mono ?_;rintro r w1 ⟨rfl,rfl⟩)|(go_at_call 236;refine(eY _ _).mono ?_;rintro r w1 ⟨rfl,rfl⟩));refine bR (v:= .tuple #[.agg #[fj (w.heap.size+4),fj (w.heap.size+2), .func (.func 231) #[] #[], .func (.func 232) #[] #[], .func (.func 233) #[] #[]], .bool true]) (by simp[results,Tryz.results173,go_sem]) rfl ?_;exact⟨w.heap.size+4,w.heap.size+2,rfl,((((((Gr.refl w).alloc _).alloc _).alloc _).alloc _).alloc _).below,(GX w _ _ _ _ _).1,(GX w _ _ _ _ _).2.2.1⟩
theorem Ab(w:World):CL 173 #[iV 2] w (Kd w false 1 false 1 234 235 233):=by
 have Ph:∀(fn:Fn) (first cap:Array Value) (w:World),(Instr.makeFunc fn first cap).run Tryz.prog w= .ok (.func fn first cap) w:=fun _ _ _ _=>rfl;go_enter Tryz.func173,Tryz.ntmps173;go_wp2_with (first|(go_at_call 230;refine(gY _ _).mono ?_;rintro r w1 ⟨rfl,rfl⟩)|(go_at_call 236;refine(eY _ _).mono ?_;rintro r w1 ⟨rfl,rfl⟩));refine bR (v:= .tuple #[.agg #[fj (w.heap.size+1),fj (w.heap.size+2), .func (.func 234) #[] #[], .func (.func 235) #[] #[], .func (.func 233) #[] #[]], .bool true]) (by simp[results,Tryz.results173,go_sem]) rfl ?_;exact⟨w.heap.size+1,w.heap.size+2,rfl,(((((Gr.refl w).alloc _).alloc _).alloc _).alloc _).below,(BF w _ _ _ _).2.2.1,(BF w _ _ _ _).2.1⟩
theorem Aa(w:World):CL 173 #[iV 3] w (Kd w false 1 false 1 234 235 233):=by
 have Ph:∀(fn:Fn) (first cap:Array Value) (w:World),(Instr.makeFunc fn first cap).run Tryz.prog w= .ok (.func fn first cap) w:=fun _ _ _ _=>rfl;go_enter Tryz.func173,Tryz.ntmps173;go_wp2_with (first|(go_at_call 230;refine(gY _ _).mono ?_;rintro r w1 ⟨rfl,rfl⟩)|(go_at_call 236;refine(eY _ _).mono ?_;rintro r w1 ⟨rfl,rfl⟩));refine bR (v:= .tuple #[.agg #[fj (w.heap.size+1),fj (w.heap.size+2), .func (.func 234) #[] #[], .func (.func 235) #[] #[], .func (.func 233) #[] #[]], .bool true]) (by simp[results,Tryz.results173,go_sem]) rfl ?_;exact⟨w.heap.size+1,w.heap.size+2,rfl,(((((Gr.refl w).alloc _).alloc _).alloc _).alloc _).below,(BF w _ _ _ _).2.2.1,(BF w _ _ _ _).2.1⟩
theorem zZ(w:World):CL 173 #[iV 4] w (Kd w true 1 false 1 231 232 233):=by
 have Ph:∀(fn:Fn) (first cap:Array Value) (w:World),(Instr.makeFunc fn first cap).run Tryz.prog w= .ok (.func fn first cap) w:=fun _ _ _ _=>rfl;go_enter Tryz.func173,Tryz.ntmps173;go_wp2_with (first|(go_at_call 230;refine(gY _ _).mono ?_;rintro r w1 ⟨rfl,rfl⟩)|(go_at_call 236;refine(eY _ _).mono ?_;rintro r w1 ⟨rfl,rfl⟩));refine bR (v:= .tuple #[.agg #[fu (w.heap.size+4),fj (w.heap.size+2), .func (.func 231) #[] #[], .func (.func 232) #[] #[], .func (.func 233) #[] #[]], .bool true]) (by simp[results,Tryz.results173,go_sem]) rfl ?_;exact⟨w.heap.size+4,w.heap.size+2,rfl,((((((Gr.refl w).alloc _).alloc _).alloc _).alloc _).alloc _).below,(GX w _ _ _ _ _).1,(GX w _ _ _ _ _).2.2.1⟩
theorem zY(w:World):CL 173 #[iV 5] w (Kd w false 1 false 1 237 238 239):=by
 have Ph:∀(fn:Fn) (first cap:Array Value) (w:World),(Instr.makeFunc fn first cap).run Tryz.prog w= .ok (.func fn first cap) w:=fun _ _ _ _=>rfl;go_enter Tryz.func173,Tryz.ntmps173;go_wp2_with (first|(go_at_call 230;refine(gY _ _).mono ?_;rintro r w1 ⟨rfl,rfl⟩)|(go_at_call 236;refine(eY _ _).mono ?_;rintro r w1 ⟨rfl,rfl⟩));refine bR (v:= .tuple #[.agg #[fj (w.heap.size+1),fj (w.heap.size+2), .func (.func 237) #[] #[], .func (.func 238) #[] #[], .func (.func 239) #[] #[]], .bool true]) (by simp[results,Tryz.results173,go_sem]) rfl ?_;exact⟨w.heap.size+1,w.heap.size+2,rfl,(((((Gr.refl w).alloc _).alloc _).alloc _).alloc _).below,(BF w _ _ _ _).2.2.1,(BF w _ _ _ _).2.1⟩
theorem zX(w:World):CL 173 #[iV 6] w (Kd w false 1 false 1 231 232 233):=by
 have Ph:∀(fn:Fn) (first cap:Array Value) (w:World),(Instr.makeFunc fn first cap).run Tryz.prog w= .ok (.func fn first cap) w:=fun _ _ _ _=>rfl;go_enter Tryz.func173,Tryz.ntmps173;go_wp2_with (first|(go_at_call 230;refine(gY _ _).mono ?_;rintro r w1 ⟨rfl,rfl⟩)|(go_at_call 236;refine(eY _ _).mono ?_;rintro r w1 ⟨rfl,rfl⟩));refine bR (v:= .tuple #[.agg #[fj (w.heap.size+1),fj (w.heap.size+2), .func (.func 231) #[] #[], .func (.func 232) #[] #[], .func (.func 233) #[] #[]], .bool true]) (by simp[results,Tryz.results173,go_sem]) rfl ?_;exact⟨w.heap.size+1,w.heap.size+2,rfl,(((((Gr.refl w).alloc _).alloc _).alloc _).alloc _).below,(BF w _ _ _ _).2.2.1,(BF w _ _ _ _).2.1⟩
theorem zW(w:World):CL 173 #[iV 7] w (Kd w false 1 false 0 231 232 233):=by
 have Ph:∀(fn:Fn) (first cap:Array Value) (w:World),(Instr.makeFunc fn first cap).run Tryz.prog w= .ok (.func fn first cap) w:=fun _ _ _ _=>rfl;go_enter Tryz.func173,Tryz.ntmps173;go_wp2_with (first|(go_at_call 230;refine(gY _ _).mono ?_;rintro r w1 ⟨rfl,rfl⟩)|(go_at_call 236;refine(eY _ _).mono ?_;rintro r w1 ⟨rfl,rfl⟩));refine bR (v:= .tuple #[.agg #[fj (w.heap.size+1),fj (w.heap.size+4), .func (.func 231) #[] #[], .func (.func 232) #[] #[], .func (.func 233) #[] #[]], .bool true]) (by simp[results,Tryz.results173,go_sem]) rfl ?_;exact⟨w.heap.size+1,w.heap.size+4,rfl,((((((Gr.refl w).alloc _).alloc _).alloc _).alloc _).alloc _).below,(GX w _ _ _ _ _).2.2.2.1,(GX w _ _ _ _ _).1⟩
theorem zV(w:World):CL 173 #[iV 8] w (Kd w true 0 true 0 240 241 242):=by
 have Ph:∀(fn:Fn) (first cap:Array Value) (w:World),(Instr.makeFunc fn first cap).run Tryz.prog w= .ok (.func fn first cap) w:=fun _ _ _ _=>rfl;go_enter Tryz.func173,Tryz.ntmps173;go_wp2_with (first|(go_at_call 230;refine(gY _ _).mono ?_;rintro r w1 ⟨rfl,rfl⟩)|(go_at_call 236;refine(eY _ _).mono ?_;rintro r w1 ⟨rfl,rfl⟩));refine bR (v:= .tuple #[.agg #[fu (w.heap.size+4),fu (w.heap.size+5), .func (.func 240) #[] #[], .func (.func 241) #[] #[], .func (.func 242) #[] #[]], .bool true]) (by simp[results,Tryz.results173,go_sem]) rfl ?_;exact⟨w.heap.size+4,w.heap.size+5,rfl,(((((((Gr.refl w).alloc _).alloc _).alloc _).alloc _).alloc _).alloc _).below,(SC w _ _ _ _ _ _).2.1,(SC w _ _ _ _ _ _).1⟩
theorem KO(k:Int)(hk:k<1\/8<k)(w:World):CL 173 #[iV k] w fun r w'=>r= .returned (.tuple #[.agg #[.nilFunc, .nilFunc, .nilFunc, .nilFunc, .nilFunc], .bool false])/\Bw w w':=by
 have Ph:∀(fn:Fn) (first cap:Array Value) (w:World),(Instr.makeFunc fn first cap).run Tryz.prog w= .ok (.func fn first cap) w:=fun _ _ _ _=>rfl;obtain⟨k1,k2,k3,k4,k5,k6,k7,k8⟩:¬k=1/\¬k=2/\¬k=3/\¬k=4/\¬k=5/\¬k=6/\¬k=7/\¬k=8:=by omega
 clear hk;go_enter Tryz.func173,Tryz.ntmps173;go_wp2_with (first|(go_at_call 230;refine(gY _ _).mono ?_;rintro r w1 ⟨rfl,rfl⟩));refine bR (v:= .tuple #[.agg #[.nilFunc, .nilFunc, .nilFunc, .nilFunc, .nilFunc], .bool false]) (by simp[results,Tryz.results173,go_sem]) rfl ?_;exact⟨rfl,(((((Gr.refl w).alloc _).alloc _).alloc _).alloc _).below⟩
theorem Us(k i o:Int)(cq:Option Addr)(cm cc:Nat)(via:ou)(bd:Nat)(dq:Option Addr)(dm dc:Nat)(st:Bool)(w:World):CL 231 #[.agg (aQ k i o (.slice cq cm cc) via bd (.slice dq dm dc) st)] w fun r w'=>r= .returned (.agg (aQ k i o (.slice cq cm cc) via bd (.slice dq dm dc) st))/\Bw w w':=by
 go_enter Tryz.func231,Tryz.ntmps231;go_wp2_with fail;refine bR (v:= .agg (aQ k i o (.slice cq cm cc) via bd (.slice dq dm dc) st)) (by simp[results,Tryz.results231,go_sem]) rfl ?_;exact⟨rfl,(((Gr.refl w).alloc _).alloc _).below⟩
theorem zn(k i o:Int)(cq:Option Addr)(cm cc:Nat)(via:ou)(bd:Nat)(dq:Option Addr)(dm dc:Nat)(st:Bool)(w:World):CL 234 #[.agg (aQ k i o (.slice cq cm cc) via bd (.slice dq dm dc) st)] w fun r w'=>r= .returned (.agg (aQ k i o (.slice none 0 0) via bd (.slice dq dm dc) st))/\Bw w w':=by
 go_enter Tryz.func234,Tryz.ntmps234;go_wp2_with fail;refine bR (v:= .agg (aQ k i o (.slice none 0 0) via bd (.slice dq dm dc) st)) (by simp[results,Tryz.results234,go_sem]) rfl ?_;exact⟨rfl,(((Gr.refl w).alloc _).alloc _).below⟩
theorem Rp(k i o:Int)(cq:Option Addr)(cm cc:Nat)(via:ou)(bd:Nat)(dq:Option Addr)(dm dc:Nat)(st:Bool)(w:World):CL 237 #[.agg (aQ k i o (.slice cq cm cc) via bd (.slice dq dm dc) st)] w fun r w'=>r= .returned (.agg (aQ k i o (.slice cq cm cc) (0,0,0) 0 (.slice dq dm dc) st))/\Bw w w':=by
 go_enter Tryz.func237,Tryz.ntmps237;go_wp2_with fail;refine bR (v:= .agg (aQ k i o (.slice cq cm cc) (0,0,0) 0 (.slice dq dm dc) st)) (by simp[results,Tryz.results237,go_sem]) rfl ?_;exact⟨rfl,(((Gr.refl w).alloc _).alloc _).below⟩
theorem F4(k i o:Int)(cq:Option Addr)(cm cc:Nat)(via:ou)(bd:Nat)(dq:Option Addr)(dm dc:Nat)(st:Bool)(w:World):CL 240 #[.agg (aQ k i o (.slice cq cm cc) via bd (.slice dq dm dc) st)] w fun r w'=>r= .returned (.agg (aQ k i o (.slice cq cm cc) via bd (.slice none 0 0) false))/\Bw w w':=by
 go_enter Tryz.func240,Tryz.ntmps240;go_wp2_with fail;refine bR (v:= .agg (aQ k i o (.slice cq cm cc) via bd (.slice none 0 0) false)) (by simp[results,Tryz.results240,go_sem]) rfl ?_;exact⟨rfl,(((Gr.refl w).alloc _).alloc _).below⟩
theorem GM(x:NV)(a:Int)(w:World):CL 232 #[.agg x.cells,iV a] w fun r w'=>r= .returned (iV 0)/\Bw w w':=by
 go_enter Tryz.func232,Tryz.ntmps232;go_wp2_with fail;go_ret;exact⟨rfl,((Gr.refl w).alloc _).below⟩
theorem Cw(k i o:Int)(cq:Option Addr)(cm cc:Nat)(via:ou)(bd:Nat)(dq:Option Addr)(dm dc:Nat)(st:Bool)(a:Int)(w:World):CL 235 #[.agg (aQ k i o (.slice cq cm cc) via bd (.slice dq dm dc) st),iV a] w fun r w'=>r= .returned (iV (if 16<cm then 24 else 0))/\Bw w w':=by
 by_cases h:16<cm
 ·have hz:(16:Int)<(cm:Int):=by omega
  clear h;go_enter Tryz.func235,Tryz.ntmps235;go_wp2_with fail;go_ret;exact⟨rfl,((Gr.refl w).alloc _).below⟩
 ·have hz:¬(16:Int)<(cm:Int):=by omega
  clear h;go_enter Tryz.func235,Tryz.ntmps235;go_wp2_with fail;go_ret;exact⟨rfl,((Gr.refl w).alloc _).below⟩
def qE(a b c x y z:Int):Bool:=(a==x)&&((b==y)&&(c==z))
theorem I9(p q:ou):qE (p.1:Nat) (p.2.1:Nat) (p.2.2:Nat) (q.1:Nat) (q.2.1:Nat) (q.2.2:Nat)=decide (p=q):=by
 rw[Bool.eq_iff_iff];obtain⟨a,b,c⟩:=p;obtain⟨x,y,z⟩:=q;simp only[qE,bA,beq_iff_eq,dE,Prod.mk.injEq];omega
theorem Jh(d:Nat)(a b c x y z:Int)(w:World):Sem.run Tryz.prog (Op.equalIn (d+2) 52 (.agg #[uV a,uV b,uV c]) (.agg #[uV x,uV y,uV z])) w= .ok (qE a b c x y z) w:=by
 have u3:=Tryz.underlying43;have a3:=Tryz.isAgg43;have z3:=Tryz.sizeOf43;have hS:Tryz.prog.underlying 52=some (.struct (Tryz.prog.fieldsOf 52)):=by kernel_rfl
 have hp:Tryz.prog.stoodInHeld 52=false:=by kernel_rfl
 rw[show(d+2:Nat)=(d+1)+1 from rfl,run_equalIn_agg w (d+1) 52 _ _ hS hp];simp only[Program.fieldsOf,Tryz.underlying52];go_simp;by_cases h1:a=x<;>by_cases h2:b=y<;>by_cases h3:c=z<;>simp[qE,h1,h2,h3]
theorem vD(s t:dN)(w:World):Sem.run Tryz.prog (Op.equalIn 10000 205 (.agg #[iV s.dx,iV s.o,uV (s.via.1:Nat),uV (s.via.2.1:Nat),uV (s.via.2.2:Nat)]) (.agg #[iV t.dx,iV t.o,uV (t.via.1:Nat),uV (t.via.2.1:Nat),uV (t.via.2.2:Nat)])) w= .ok (decide (s=t)) w:=by
 have u4:=Tryz.underlying3;have a4:=Tryz.isAgg3;have z4:=Tryz.sizeOf3;have a5:=Tryz.isAgg52;have z5:=Tryz.sizeOf52;have hP:=Jh 9997;have hS:Tryz.prog.underlying 205=some (.struct (Tryz.prog.fieldsOf 205)):=by kernel_rfl
 have hp:Tryz.prog.stoodInHeld 205=false:=by kernel_rfl
 have hd:decide (s=t)=(s.dx==t.dx&&(s.o==t.o&&decide (s.via=t.via))):=by
  obtain⟨a,b,c⟩:=s;obtain⟨x,y,z⟩:=t;rw[Bool.eq_iff_iff];simp only[dN.mk.injEq,dE,bA,beq_iff_eq]
 rw[hd,<-I9];rw[show(10000:Nat)=9999+1 from rfl,run_equalIn_agg w 9999 205 _ _ hS hp];simp only[Program.fieldsOf,Tryz.underlying205];clear hd;go_simp;by_cases h1:s.dx=t.dx<;>by_cases h2:s.o=t.o<;>cases qE (s.via.1:Nat) (s.via.2.1:Nat) (s.via.2.2:Nat) (t.via.1:Nat) (t.via.2.1:Nat) (t.via.2.2:Nat)<;>simp[h1,h2]
theorem R4(s t:dR)(w:World):Sem.run Tryz.prog (Op.equalIn 10000 151 (.agg #[iV s.src,iV s.o,iV s.dst,iV s.dx, .bool s.keyed]) (.agg #[iV t.src,iV t.o,iV t.dst,iV t.dx, .bool t.keyed])) w= .ok (decide (s=t)) w:=by
 have u4:=Tryz.underlying3;have a4:=Tryz.isAgg3;have z4:=Tryz.sizeOf3;have u5:=Tryz.underlying4;have a5:=Tryz.isAgg4;have z5:=Tryz.sizeOf4;have hS:Tryz.prog.underlying 151=some (.struct (Tryz.prog.fieldsOf 151)):=by kernel_rfl
 have hp:Tryz.prog.stoodInHeld 151=false:=by kernel_rfl
 have hd:decide (s=t)=(s.src==t.src&&(s.o==t.o&&(s.dst==t.dst&&(s.dx==t.dx&&(s.keyed==t.keyed))))):=by
  obtain⟨a,b,c,d,e⟩:=s;obtain⟨x,y,z,u,v⟩:=t;rw[Bool.eq_iff_iff];simp only[dR.mk.injEq,dE,bA,beq_iff_eq]
 rw[hd];rw[show(10000:Nat)=9999+1 from rfl,run_equalIn_agg w 9999 151 _ _ hS hp];simp only[Program.fieldsOf,Tryz.underlying151];clear hd;go_simp;by_cases h1:s.src=t.src<;>by_cases h2:s.o=t.o<;>by_cases h3:s.dst=t.dst<;>by_cases h4:s.dx=t.dx<;>cases s.keyed<;>cases t.keyed<;>simp[h1,h2,h3,h4]
def has(cm:Nat)(via:ou)(bd dm:Nat)(st:Bool):Bool:=decide (0<cm)|| !decide (via=(0,0,0))|| decide (bd≠0)|| decide (0<dm)|| st
theorem yV(k i o:Int)(cq:Option Addr)(cm cc:Nat)(via:ou)(bd:Nat)(dq:Option Addr)(dm dc:Nat)(st:Bool)(w:World):CL 174 #[.agg (aQ k i o (.slice cq cm cc) via bd (.slice dq dm dc) st)] w fun r w'=>r= .returned (.bool (has cm via bd dm st))/\Bw w w':=by
 have heq2:∀W:World,Sem.run Tryz.prog (Op.equalIn 10000 52 (.agg #[uV (via.1:Nat),uV (via.2.1:Nat),uV (via.2.2:Nat)]) (.agg #[uV 0,uV 0,uV 0])) W= .ok (decide (via=(0,0,0))) W:=fun W=>by
  rw[Jh 9998 via.1 via.2.1 via.2.2 0 0 0 W];exact congrArg (fun b=>Result.ok b W) (I9 via (0,0,0))
 by_cases h1:0<cm
 ·have hz:(0:Int)<(cm:Int):=by omega
  have HR:Hid (has cm via bd dm st=true):=by show _=_;simp[has,h1]
  clear h1;go_enter Tryz.func174,Tryz.ntmps174;go_wp2_with fail;go_ret;exact⟨by rw[HR.o];rfl,((Gr.refl w).alloc _).below⟩
 ·obtain rfl:cm=0:=by omega
  cases hv:decide (via=(0,0,0))with
  | false=>
   have HR:Hid (has 0 via bd dm st=true):=(by show _=_;simp only[has,hv];simp);rw[hv]at heq2;clear h1 hv;go_enter Tryz.func174,Tryz.ntmps174;go_wp2_with fail;go_ret;exact⟨by rw[HR.o];rfl,((Gr.refl w).alloc _).below⟩
  | true=>
   have HV:=hid hv;rw[hv]at heq2;by_cases h3:bd=0
   ·by_cases h4:0<dm
    ·have hz4:(0:Int)<(dm:Int):=(by omega);have HR:Hid (has 0 via bd dm st=true):=(by show _=_;simp[has,h4]);have hb:((bd:Int)==0)=true:=(by simp[h3]);have hb':((bd:Int) != 0)=false:=(by simp[h3]);clear h1 hv h3;clear h4;go_enter Tryz.func174,Tryz.ntmps174;go_wp2_with fail;go_ret;exact⟨by rw[HR.o];rfl,((Gr.refl w).alloc _).below⟩
    ·obtain rfl:dm=0:=(by omega);have HR:Hid (has 0 via bd 0 st=st):=(by show _=_;simp only[has,hv];simp[h3]);have hb:((bd:Int)==0)=true:=(by simp[h3]);have hb':((bd:Int) != 0)=false:=(by simp[h3]);clear h1 hv h3;clear h4;go_enter Tryz.func174,Tryz.ntmps174;go_wp2_with fail;go_ret;exact⟨by rw[HR.o];rfl,((Gr.refl w).alloc _).below⟩
   ·have HR:Hid (has 0 via bd dm st=true):=(by show _=_;simp[has,h3]);have hb:((bd:Int)==0)=false:=(by simp[h3]);have hb':((bd:Int) != 0)=true:=(by simp[h3]);clear h1 hv h3;go_enter Tryz.func174,Tryz.ntmps174;go_wp2_with fail;go_ret;exact⟨by rw[HR.o];rfl,((Gr.refl w).alloc _).below⟩
theorem zI(p:ou)(a:Int)(w:World):CL 266 #[.agg #[uV (p.1:Nat),uV (p.2.1:Nat),uV (p.2.2:Nat)],iV a] w fun r w'=>r= .returned (iV (bN p.1 p.2.1 p.2.2 a))/\Gr w w':=by
 have hf:=fun W=>FE p.1 p.2.1 p.2.2 a W;generalize bN (p.1:Nat) (p.2.1:Nat) (p.2.2:Nat) a=t at hf⊢;go_enter Tryz.func266,Tryz.ntmps266;go_wp2_with fail;refine(hf _).mono ?_;rintro r w1 ⟨rfl,g1⟩;have G1:=hid (((Gr.refl w).alloc (.cells #[uV (p.1:Nat),uV (p.2.1:Nat),uV (p.2.2:Nat)] 52)).trans g1);clear g1;go_wp2_with fail;go_ret;exact⟨rfl,G1.o⟩
theorem IK(k i o:Int)(cq:Option Addr)(cm cc:Nat)(via:ou)(bd:Nat)(dq:Option Addr)(dm dc:Nat)(st:Bool)(a:Int)(w:World):CL 238 #[.agg (aQ k i o (.slice cq cm cc) via bd (.slice dq dm dc) st),iV a] w fun r w'=>r= .returned (iV (if 64<bd\/bN via.1 via.2.1 via.2.2 a≠0 then 22 else 0))/\Bw w w':=by
 have hf:=fun W=>zI via a W;by_cases h:64<bd
 ·have hz:(64:Int)<(bd:Int):=by omega
  rw[if_pos (Or.inl h)];clear h hf;go_enter Tryz.func238,Tryz.ntmps238;go_wp2_with fail;go_ret;exact⟨rfl,((Gr.refl w).alloc _).below⟩
 ·have hz:¬(64:Int)<(bd:Int):=by omega
  by_cases ht:bN via.1 via.2.1 via.2.2 a=0
  ·rw[if_neg (by simp[h,ht])];rw[ht]at hf;clear h ht;go_enter Tryz.func238,Tryz.ntmps238;go_wp2_with fail;refine(hf _).mono ?_;rintro r w1 ⟨rfl,g1⟩;have G1:=hid (((Gr.refl w).alloc (.cells (aQ k i o (.slice cq cm cc) via bd (.slice dq dm dc) st) 149)).trans g1);clear g1;go_wp2_with fail;go_ret;exact⟨rfl,G1.o.below⟩
  ·rw[if_pos (Or.inr ht)];generalize bN (via.1:Nat) (via.2.1:Nat) (via.2.2:Nat) a=t at hf ht;have hb:(t==0)=false:=(by simp[ht]);have hb':(t != 0)=true:=(by simp[ht]);clear h;go_enter Tryz.func238,Tryz.ntmps238;go_wp2_with fail;refine(hf _).mono ?_;rintro r w1 ⟨rfl,g1⟩;have G1:=hid (((Gr.refl w).alloc (.cells (aQ k i o (.slice cq cm cc) via bd (.slice dq dm dc) st) 149)).trans g1);clear g1;go_wp2_with fail;go_ret;exact⟨rfl,G1.o.below⟩
def way(c d:dR):Bool:=decide ((⟨c.src,c.o,c.dst,c.dx,d.keyed⟩:dR)=d)
abbrev aZ(x:dR):Array Value:=#[.int .i64 x.src, .int .i64 x.o, .int .i64 x.dst, .int .i64 x.dx, .bool x.keyed]
theorem Di(c d:dR)(w:World):CL 176 #[.agg (aZ c), .agg (aZ d)] w fun r w'=>r= .returned (.bool (way c d))/\Bw w w':=by
 have heq:=fun W=>R4 ⟨c.src,c.o,c.dst,c.dx,d.keyed⟩ d W;simp only at heq;change ∀W,_=Result.ok (way c d) W at heq;generalize way c d=b at heq⊢;go_enter Tryz.func176,Tryz.ntmps176;go_wp2_with fail;go_ret;exact⟨rfl,(((Gr.refl w).alloc _).alloc _).below⟩
theorem y8(c d:dR)(b:Nat)(w:World)(h:w.heap[b]? =some (.cells (aZ d) 151 (0,0))):CL 175 #[.agg (aZ c),aB b] w fun r w'=>r= .returned (.bool (way c d))/\Bw w w':=by
 have hw:=fun W=>Di c d W;generalize way c d=e at hw⊢;have h1:=(((Gr.refl w).alloc (.cells (aZ c) 151)).below.block _ (ae h)).trans h;have cc:=(aa h1).1;have cl:=ae h1;have c0:=(aa h).1;have l0:=ae h;clear h h1;go_enter Tryz.func175,Tryz.ntmps175;go_wp2_with fail;refine(hw _).mono ?_;rintro r w1 ⟨rfl,b1⟩;have B1:Hid (Bw w w1):=((Gr.refl w).alloc (.cells (aZ c) 151)).below.trans (b1.mono ((Gr.refl w).alloc (.cells (aZ c) 151)).size);clear b1;go_wp2_with fail;go_ret;exact⟨rfl,B1.o⟩
abbrev fe(b:Nat):Value:= .func (.func 175) #[] #[.pointer (some ⟨b,0,none⟩)]
def yw(l:List dR)(d:dR):Bool:=l.any (fun c=>way c d)
theorem Dt{p:α->Prop}{l:List α}{i:Nat}{o:α}(h:l[i]? =some o)(h1:∀y∈l.take i,p y)(h2:p o):∀y∈l.take (i+1),p y:=fun y hy=>by
 rw[tO,h]at hy;rcases kr.1 hy with hy|hy
 ·exact h1 y hy
 ·simp at hy;subst hy;exact h2
theorem BS{l:List dR}(d:dR)(b:Nat)(w:World)(hL:Lz ED M w v l)(hb:w.heap[b]? =some (.cells (aZ d) 151 (0,0)))(hl:l.length<=140737488351232):
    CL 243 #[v,fe b] w fun r w'=>∃z:Int,r= .returned (iV z)/\(0<=z↔yw l d=true)/\Bw w w':=by
 have hmx:Tryz.prog.follows .mixedOrders=true:=by kernel_rfl
 have HL:=hid hL;have HB:=hid hb;obtain⟨p,c,hv⟩:=hL.form;obtain⟨n,hn⟩:=aF (l.length);rw[<-hn]at hv;subst hv;have Xc:n<=140737488351232:=by omega
 have HN:=hid hn;clear hL hb hn hl;go_enter Tryz.func243,Tryz.ntmps243;go_wp2_with fail;go_loopw [8] (fun s8 wr=>∃i:Nat,i<=n/\s8=iV (i:Nat)/\Hid (Bw w wr/\∀y∈l.take i,way y d=false)) (fun s8 _=>n-(intOf s8).toNat);case atStart=>exact⟨0,zL _,rfl,Below.refl _ _,fun y hy=>(by simp at hy)⟩
 case round=>
  obtain⟨i,hi,rfl,HI⟩:=hrel;by_cases hlt:i<n
  ·have hltz:(i:Int)<(n:Int):=(by omega);obtain⟨y,hy⟩:∃y,l[i]? =some y:=⟨l[i]'(by have:=HN.o;omega),by simp⟩;obtain⟨b1,o1,q1,gU,rY,x0,x1,x2,x3,x4⟩:=sQ ((HL.o.below HI.o.1).ls hy) hy;simp only[vS]at gU;obtain⟨rfl,-,rfl⟩:=gU;have hb2:=(HI.o.1.block _ (ae HB.o)).trans HB.o;have hc:=y8 y d b wr hb2;have HY:=hid hy;clear hy hb2;cases hw:way y d with
   | true=>
    rw[hw]at hc;have HR:Hid (yw l d=true):=List.any_eq_true.2 ⟨y,lM HY.o,hw⟩;clear hw;go_wp2_with fail;refine hc.mono ?_;rintro r w1 ⟨rfl,g1⟩;have B1:=hid (HI.o.1.trans (g1.mono HI.o.1.size));clear g1;go_wp2_with fail;go_ret;exact⟨(i:Int),rfl,by rw[HR.o];simp,B1.o⟩
   | false=>
    rw[hw]at hc;have HW:=hid hw;clear hw;go_wp2_with fail;refine hc.mono ?_;rintro r w1 ⟨rfl,g1⟩;have B1:=hid (HI.o.1.trans (g1.mono HI.o.1.size));clear g1 x0 x1 x2 x3 x4 rY hc;go_wp2_with fail;go_roundw;case rel=>exact⟨i+1,by omega,by go_num,B1.o,Dt HY.o HI.o.2 HW.o⟩
    case measure=>simp[intOf];omega
  ·have hltz:¬(i:Int)<(n:Int):=(by omega);have HR:Hid (yw l d=false):=by
    have h2:=HI.o.2;rw[tL (by have:=HN.o;omega)]at h2;show yw l d=false;unfold yw;rw[List.any_eq_false];intro y hy;rw[h2 y hy];decide
   go_wp2_with fail;go_ret;exact⟨-1,rfl,by rw[HR.o];simp,HI.o.1⟩
theorem uS{l:List dR}(d:dR)(b:Nat)(w:World)(hL:Lz ED M w v l)(hb:w.heap[b]? =some (.cells (aZ d) 151 (0,0)))(hl:l.length<=140737488351232):
    CL 179 #[v,fe b] w fun r w'=>r= .returned (.bool (yw l d))/\Bw w w':=by
 have hi:=BS d b w hL hb hl;obtain⟨p,c,rfl⟩:=hL.form;generalize yw l d=e at hi⊢;generalize l.length=n at hi;clear hL hb hl;go_enter Tryz.func179,Tryz.ntmps179;go_wp2_with fail;refine hi.mono ?_;rintro r w1 ⟨z,rfl,hz,b1⟩;have B1:=hid b1;have HZ:Hid (decide (0<=z)=e):=by
  show _=_;rw[Bool.eq_iff_iff,<-hz];simp
 clear b1 hz;go_wp2_with fail;go_ret;exact⟨by rw[<-HZ.o];rfl,B1.o⟩
def rO(xs:List NV)(l:List dR)(d:dR):Int:=if Ci xs d.src d.o=false\/yX xs d.dst d.dx=false\/yw l d=true then 25 else match nat? xs d.dst with|some y=>if y.n.kind=6/\d.keyed=false then 26 else 0|none=>0
theorem Ct{nv:Value}{l:List dR}{xs:List NV}(d:dR)(w:World)(hl:Lz ED M w v l)(hn:Lz EV M w nv xs)(hb:l.length<=140737488351232):CL 110 #[.agg (aZ d),v,nv] w fun r w'=>r= .returned (iV (rO xs l d))/\Bw w w':=by
 have Ph:∀(fn:Fn) (first cap:Array Value) (w:World),(Instr.makeFunc fn first cap).run Tryz.prog w= .ok (.func fn first cap) w:=fun _ _ _ _=>rfl;have g0:=(Gr.refl w).alloc (.cells (aZ d) 151);have h1:=xM d.src d.o (w.alloc (.cells (aZ d) 151)) (hn.below g0.below);have h2:=Ai d.dst d.dx (w.alloc (.cells (aZ d) 151)) (hn.below g0.below);have h3:=uS d w.heap.size (w.alloc (.cells (aZ d) 151)) (hl.below g0.below) (ah w (.cells (aZ d) 151)) hb;have HN:=hid (hn.below g0.below);have B0:=hid g0.below;obtain⟨p,c,rfl⟩:=hl.form;obtain⟨q,e,rfl⟩:=hn.form;generalize hln:l.length=n at h3;generalize hxn:xs.length=m at h1 h2 HN;have HXN:=hid hxn;clear hl hn hb g0 hln hxn;cases e1:Ci xs d.src d.o with
 | false=>
  have HR:Hid (rO xs l d=25):=if_pos (Or.inl e1);rw[e1]at h1;clear e1 h2 h3;go_enter Tryz.func110,Tryz.ntmps110;go_wp2_with fail;refine h1.mono ?_;rintro r w1 ⟨rfl,rfl⟩;go_wp2_with fail;go_ret;exact⟨by rw[HR.o];rfl,B0.o⟩
 | true=>
  rw[e1]at h1;cases e2:yX xs d.dst d.dx with
  | false=>
   have HR:Hid (rO xs l d=25):=if_pos (Or.inr (Or.inl e2));rw[e2]at h2;clear e1 e2 h3;go_enter Tryz.func110,Tryz.ntmps110;go_wp2_with fail;refine h1.mono ?_;rintro r w1 ⟨rfl,rfl⟩;go_wp2_with fail;refine h2.mono ?_;rintro r w1 ⟨rfl,rfl⟩;go_wp2_with fail;go_ret;exact⟨by rw[HR.o];rfl,B0.o⟩
  | true=>
   rw[e2]at h2;cases e3:yw l d with
   | true=>
    have HR:Hid (rO xs l d=25):=if_pos (Or.inr (Or.inr e3));rw[e3]at h3;clear e1 e2 e3;go_enter Tryz.func110,Tryz.ntmps110;go_wp2_with fail;refine h1.mono ?_;rintro r w1 ⟨rfl,rfl⟩;go_wp2_with fail;refine h2.mono ?_;rintro r w1 ⟨rfl,rfl⟩;go_wp2_with fail;refine h3.mono ?_;rintro r w1 ⟨rfl,b1⟩;have B1:=hid (B0.o.trans (b1.mono B0.o.size));clear b1;go_wp2_with fail;go_ret;exact⟨by rw[HR.o];rfl,B1.o⟩
   | false=>
    rw[e3]at h3;obtain⟨j,y,hj,hy⟩:∃(j:Nat) (y:NV),d.dst=(j:Int)/\xs[j]? =some y:=by
     unfold yX nat? at e2;by_cases h0:0<=d.dst
     ·rw[if_pos h0]at e2;cases e4:xs[d.dst.toNat]? with
      | none => rw[e4]at e2;cases e2
      | some y => exact⟨d.dst.toNat,y,by omega,e4⟩
     ·rw[if_neg h0]at e2;cases e2
    have HR:Hid (rO xs l d=if y.n.kind=6/\d.keyed=false then 26 else 0):=by
     show rO _ _ _=_;unfold rO;rw[if_neg (by rw[e1,e2,e3];simp),hj];unfold nat?;rw[if_pos (by omega),tN,hy]
    have hjm:j<m:=by
     have:=(lG.1 hy).1;have:=HXN.o;omega
    have HJ:=hid (And.intro hj (And.intro hy hjm));clear e1 e2 e3 hj hy hjm;go_enter Tryz.func110,Tryz.ntmps110;go_wp2_with fail;refine h1.mono ?_;rintro r w1 ⟨rfl,rfl⟩;go_wp2_with fail;refine h2.mono ?_;rintro r w1 ⟨rfl,rfl⟩;go_wp2_with fail;refine h3.mono ?_;rintro r w1 ⟨rfl,b1⟩;obtain⟨hj,hy,hjm⟩:=HJ.o;have hbx:=(b1.block _ (ae (ah w (.cells (aZ d) 151)))).trans (ah w (.cells (aZ d) 151));have cx:=(aa hbx).1;have lx:=ae hbx;obtain⟨b4,o4,c4,e4,z4,x0,-⟩:=j5 ((HN.o.below b1).ls hy) hy;simp only[vS]at e4;obtain⟨rfl,-,rfl⟩:=e4;have B1:=hid (B0.o.trans (b1.mono B0.o.size));have hj0:(0:Int)<=(j:Int):=(by omega);have hjz:(j:Int)<(m:Int):=(by omega);obtain⟨ds,dt,dd,di,dk⟩:=d;simp only at hj;subst hj;clear b1 hbx hy h1 h2 h3;by_cases k6:y.n.kind=6
    ·cases dk with
     | true=>
      go_wp2_with fail;go_ret;exact⟨by rw[HR.o];simp,B1.o⟩
     | false=>
      go_wp2_with fail;go_ret;exact⟨by rw[HR.o];simp[k6],B1.o⟩
    ·go_wp2_with fail;go_ret;exact⟨by rw[HR.o];simp[k6],B1.o⟩
abbrev dh(x:dN):Array Value:=#[.int .i64 x.dx, .int .i64 x.o, .int .u64 (x.via.1:Nat), .int .u64 (x.via.2.1:Nat), .int .u64 (x.via.2.2:Nat)]
def yT(l:List dN)(d:dN):Bool:=l.any (fun c=>decide (d=c))
theorem BU{l:List dN}(d:dN)(w:World)(hL:Lz EC M w v l)(hl:l.length<=140737488351232):
    CL 297 #[v, .agg (dh d)] w fun r w'=>∃z:Int,r= .returned (iV z)/\(0<=z↔yT l d=true)/\Bw w w':=by
 have hmx:Tryz.prog.follows .mixedOrders=true:=by kernel_rfl
 have g0:=(Gr.refl w).alloc (.cells (dh d) 205);have HL:=hid (hL.below g0.below);have HB:=hid (ah w (.cells (dh d) 205));have B0:=hid g0.below;obtain⟨p,c,hv⟩:=hL.form;obtain⟨n,hn⟩:=aF (l.length);rw[<-hn]at hv;subst hv;have Xc:n<=140737488351232:=by omega
 have HN:=hid hn;obtain⟨W0,hW0⟩:=aF (w.alloc (.cells (dh d) 205));have HW:Hid (w.alloc (.cells #[iV d.dx,iV d.o,uV (d.via.1:Nat),uV (d.via.2.1:Nat),uV (d.via.2.2:Nat)] 205)=W0):=hW0.symm;rw[<-hW0]at HL HB B0;clear hL hn hl g0 hW0;go_enter Tryz.func297,Tryz.ntmps297;go_upto_region 1 with fail;rw[HW.o];clear HW;go_wp2_with fail;go_loopw [8] (fun s8 wr=>∃i:Nat,i<=n/\s8=iV (i:Nat)/\Hid (Bw W0 wr/\∀y∈l.take i,¬d=y)) (fun s8 _=>n-(intOf s8).toNat);case atStart=>exact⟨0,zL _,rfl,Below.refl _ _,fun y hy=>(by simp at hy)⟩
 case round=>
  obtain⟨i,hi,rfl,HI⟩:=hrel;by_cases hlt:i<n
  ·have hltz:(i:Int)<(n:Int):=(by omega);have hi0:(0:Int)<=(i:Int):=(by omega);obtain⟨y,hy⟩:∃y,l[i]? =some y:=⟨l[i]'(by have:=HN.o;omega),by simp⟩;obtain⟨b1,o1,q1,gU,rY,x0,x1,x2,x3,x4⟩:=sS ((HL.o.below HI.o.1).ls hy) hy;simp only[vS]at gU;obtain⟨rfl,-,rfl⟩:=gU;have hb2:=(HI.o.1.block _ (ae HB.o)).trans HB.o;have cb:=(aa hb2).1;have lb:=ae hb2;have HY:=hid hy;have heq:=fun W=>vD d y W;have B1:Hid (Bw W0 wr.drew):=HI.o.1.trans ((Gr.refl wr).drew.below.mono HI.o.1.size);clear hy hb2;go_upto_region 4 with fail;have hS0:wr.drew=wr.drew:=rfl;refine ay (S:=fun W=>W=wr.drew) (D:=[]) hmx ?_;refine' bD 0 hS0 ?h ?_;case h=>(intro W hSw;subst hSw;go_simp;try(with_reducible rfl))
   refine' bD 1 hS0 ?h ?_;case h=>(intro W hSw;subst hSw;go_simp;try(with_reducible rfl))
   refine' bD 2 hS0 ?h ?_;case h=>(intro W hSw;subst hSw;go_simp;try(with_reducible rfl))
   refine' bD 3 hS0 ?h ?_;case h=>(intro W hSw;subst hSw;go_simp;try(with_reducible rfl))
   refine' bD 4 hS0 ?h ?_;case h=>(intro W hSw;subst hSw;go_simp;try(with_reducible rfl))
   refine' bD 5 hS0 ?h ?_;case h=>(intro W hSw;subst hSw;go_simp;try(with_reducible rfl))
   refine av (by kernel_rfl) ?_ _;clear hS0 heq x0 x1 x2 x3 x4 rY cb lb;by_cases hd:d=y
   ·have HR:Hid (yT l d=true):=List.any_eq_true.2 ⟨y,lM HY.o,by simp[hd]⟩;have hd2:decide (d=y)=true:=(by simp[hd]);rw[hd2];clear hd hd2;go_wp2_with fail;go_ret;exact⟨(i:Int),rfl,by rw[HR.o];simp,B0.o.trans (B1.o.mono B0.o.size)⟩
   ·have hd2:decide (d=y)=false:=(by simp[hd]);rw[hd2];have HD:=hid hd;clear hd hd2;go_wp2_with fail;go_roundw;case rel=>exact⟨i+1,by omega,by go_num,B1.o,Dt HY.o HI.o.2 HD.o⟩
    case measure=>simp[intOf];omega
  ·have hltz:¬(i:Int)<(n:Int):=(by omega);have HR:Hid (yT l d=false):=by
    have h2:=HI.o.2;rw[tL (by have:=HN.o;omega)]at h2;show yT l d=false;unfold yT;rw[List.any_eq_false];intro y hy;simp[h2 y hy]
   go_wp2_with fail;go_ret;exact⟨-1,rfl,by rw[HR.o];simp,B0.o.trans (HI.o.1.mono B0.o.size)⟩
theorem uT{l:List dN}(d:dN)(w:World)(hL:Lz EC M w v l)(hl:l.length<=140737488351232):
    CL 267 #[v, .agg (dh d)] w fun r w'=>r= .returned (.bool (yT l d))/\Bw w w':=by
 have g0:=(Gr.refl w).alloc (.cells (dh d) 205);have hi:=BU d (w.alloc (.cells (dh d) 205)) (hL.below g0.below) hl;have B0:=hid g0.below;obtain⟨p,c,rfl⟩:=hL.form;generalize yT l d=e at hi⊢;generalize l.length=n at hi;clear hL hl g0;go_enter Tryz.func267,Tryz.ntmps267;go_wp2_with fail;refine hi.mono ?_;rintro r w1 ⟨z,rfl,hz,b1⟩;have B1:=hid (B0.o.trans (b1.mono B0.o.size));have HZ:Hid (decide (0<=z)=e):=by
  show _=_;rw[Bool.eq_iff_iff,<-hz];simp
 clear b1 hz;go_wp2_with fail;go_ret;exact⟨by rw[<-HZ.o];rfl,B1.o⟩
end Df
end Go.Proofs.YtiiefcalkjeieaaGreat
