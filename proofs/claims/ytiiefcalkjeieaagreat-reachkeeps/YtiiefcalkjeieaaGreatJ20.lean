import Derived.Test.YtiiefcalkjeieaaGreatStZ
import Derived.Test.YtiiefcalkjeieaaGreatHPopC
import Derived.Test.YtiiefcalkjeieaaGreatJ18
import Derived.Deep.CutBlock
import Derived.Test.YtiiefcalkjeieaaGreatKArgs
variable{v ff u:Go.Value}{w w':Go.World}{n B M gb hb np b cb fb B' k a:Nat}{T:Go.TypeId}{cs:Array Go.Value}{α:Type}
set_option maxHeartbeats 8000000
set_option maxRecDepth 100000
namespace Go.Proofs.YtiiefcalkjeieaaGreat
namespace Lf.Rz
open Go.RowKit Go.Sort Pt
open Df (bG aW ic Gm)
def Vn(w:World)(g:bG)(r:Ending)(w':World):Prop:=Sz.Vn 167 165 w g r w'
theorem dD{g:bG}(w:World)(h:Gm B w gb g)(ku:ic g)(hP:uM g):CL 104 #[aB gb] w (Vn w g):=Sz.dD (.inr ⟨rfl,rfl,rfl,rfl⟩) w h ku hP
end Lf.Rz
namespace Hc
open Go.RowKit Go.Sort Hp
abbrev key(f:Th->Int):Th->Th->Bool:=fun a b=>decide (f a<f b)
theorem eG{f:Th->Int}{a b:It}:aX (key f) a b=false↔(f b.1<f a.1\/(f a.1=f b.1/\b.2<=a.2)):=by
 unfold aX key;split<;>simp<;>omega
theorem jL(f:Th->Int):Av (aX (key f)):=by
 refine⟨fun a b c h1 h2=> ?_,fun a b h=> ?_⟩
 ·rw[eG]at *;omega
 ·rw[eG];have:¬(aX (key f) a b=false):=by rw[h];simp
  rw[eG]at this;omega
structure Hq(w:World)(hb:Nat)(ff:Value)(v:Value)(f:Th->Int)(L:List It)(np:Nat):Prop where
 h:Hb w hb ff v L np
 hp:bZ (aX (key f)) L
 nd:(L.map Prod.snd).Nodup
 lt:∀x∈L,x.2<np
theorem Hq.kp{f:Th->Int}{L:List It}{S:Nat->Prop}(h:Hq w hb ff v f L np)(hk:Kp S w w')(h1:¬S hb)(h2:∀k,v.ownBlock=some k->¬S k):Hq w' hb ff v f L np:=⟨h.h.kp hk h1 h2,h.hp,h.nd,h.lt⟩
theorem Hq.below{f:Th->Int}{L:List It}(h:Hq w hb ff v f L np)(hb':Bw w w'):Hq w' hb ff v f L np:=⟨h.h.below hb',h.hp,h.nd,h.lt⟩
theorem xx(ff:Value)(f:Th->Int)(w:World):CL 85 #[fv ff] w fun e w'=>∃hb,e= .returned (aB hb)/\w.heap.size<=hb/\Hq w' hb ff (.slice none 0 0) f [] 0/\Gr w w':=by
 refine(dI ff w).mono ?_;rintro e w' ⟨hb,rfl,h1,h2,h3⟩;exact⟨hb,rfl,h1,⟨h2,fun i x y _ hx=>by simp at hx,by simp,by simp⟩,h3⟩
theorem sM{f:Th->Int}{L:List It}(x:Th)(w:World)(hH:Hq w hb ff v f L np)(hl:(L.length+1)*48<=140737488355328)(Ty:np+1<18446744073709551616){K:World->Prop}{V:Th->Prop}(hF:dZ K V ff (key f))(hk:K w)(hV:∀y∈L,V y.1)(hx:V x):
    CL 82 #[aB hb,tv x] w fun e w'=>∃v' L',e= .returned (.tuple #[])/\Hq w' hb ff v' f L' (np+1)/\L'.Perm (L++[(x,np)])/\dX hb v v' w w':=by
 refine(wX x w hH.h hl Ty hF hk hV hx).mono ?_;rintro e w' ⟨v',L',rfl,h1,h2,h3,h4⟩;refine⟨v',L',rfl,⟨h1,h3 (jL f) hH.hp, ?_,fun y hy=> ?_⟩,h2,h4⟩
 ·rw[(h2.map Prod.snd).nodup_iff,De,List.nodup_append];refine⟨hH.nd,by simp,fun a ha b hb e=> ?_⟩;obtain⟨y,hy,rfl⟩:=mM.1 ha;have:=hH.lt y hy;simp at hb;omega
 ·rcases kr.1 (h2.mem_iff.1 hy)with h|h
  ·have:=hH.lt y h;omega
  ·simp at h;subst h;simp
theorem qY{f:Th->Int}{L:List It}{t:It}(w:World)(hH:Hq w hb ff v f L np)(ht:L[0]? =some t)(hl:L.length<=140737488355328){K:World->Prop}{V:Th->Prop}(hF:dZ K V ff (key f))(hk:K w)(hV:∀y∈L,V y.1):
    CL 137 #[aB hb] w fun e w'=>∃v' L',e= .returned (ans t.1 true)/\Hq w' hb ff v' f L' np/\(t::L').Perm L/\(∀x∈L',f t.1<f x.1\/(f t.1=f x.1/\t.2<x.2))/\dX hb v v' w w':=by
 refine(Br w hH.h ht hl hF hk hV).mono ?_;rintro e w' ⟨rfl,v',L',h1,h2,h3,h4⟩;have hnd:((t::L').map Prod.snd).Nodup:=(h2.map Prod.snd).nodup_iff.2 hH.nd;rw[List.map_cons,List.nodup_cons]at hnd;refine⟨v',L',rfl,⟨h1,h3 (jL f) hH.hp,hnd.2,fun y hy=>hH.lt y (h2.mem_iff.1 (mO _ hy))⟩,h2,fun x hx=> ?_,h4⟩;obtain⟨i,hi⟩:=List.getElem?_of_mem (h2.mem_iff.1 (mO t hx));have:=eG.1 (bZ.top (jL f) hH.hp ht i x hi);have hne:t.2≠x.2:=fun e=>hnd.1 (mM.2 ⟨x,hx,e.symm⟩);omega
theorem Hq.first{f:Th->Int}{L:List It}{t:It}(hH:Hq w hb ff v f L np)(ht:L[0]? =some t):t∈L/\∀x∈L,f t.1<f x.1\/(f t.1=f x.1/\t.2<=x.2):=by
 refine⟨lM ht,fun x hx=> ?_⟩;obtain⟨i,hi⟩:=List.getElem?_of_mem hx;have:=eG.1 (bZ.top (jL f) hH.hp ht i x hi);omega
end Hc
namespace Pt
end Pt
namespace Lf
open Go.RowKit Go.Sort Pt
open Df (bG aW ic Gm)
def Vn(w:World)(g:bG)(r:Ending)(w':World):Prop:=Sz.Vn 215 213 w g r w'
theorem dD{g:bG}(w:World)(h:Gm B w gb g)(ku:ic g)(hP:uM g):CL 73 #[aB gb] w (Vn w g):=Sz.dD (.inl ⟨rfl,rfl,rfl,rfl⟩) w h ku hP
end Lf
namespace Lf
open Go.RowKit Go.Sort Pt
attribute[local go_sem ↓]wp_at_zero wp_at_succ
open Df (hid dN ou ib LV EC sS aD bz aH aJ aa ae)
end Lf
namespace Lf
open Go.RowKit Go.Sort Pt
open Df (hid dN bG ou ib aW rZ iq ic LV EL aD bz aH aJ aa ae eX)
def CQ(B:Nat)(w:World)(v:Value)(n:Nat)(rows:Nat->List ai):Prop:=∃vs:List LV,w.ownsRow B 50 1 v n (fl EL vs)/\vs.length=n/\∀(q:Nat) (x:LV),vs[q]? =some x->w.ownsRow B 52 3 x.v (rows q).length (fl ET (rows q))
theorem CQ.below{rows:Nat->List ai}(h:CQ B w v n rows)(hb:Bw w w'):CQ B w' v n rows:=by
 obtain⟨vs,h1,h2,h3⟩:=h;exact⟨vs,ag h1 hb,h2,fun q x hx=>ag (h3 q x hx) hb⟩
theorem CQ.base{rows:Nat->List ai}(h:CQ B w v n rows)(hb:B'<=B):CQ B' w v n rows:=by
 obtain⟨vs,h1,h2,h3⟩:=h;exact⟨vs,aN h1 hb,h2,fun q x hx=>aN (h3 q x hx) hb⟩
theorem CQ.other{m:Nat}{rows:Nat->List ai}{z:Nat}{xs:List Value}(h:CQ B w v n rows)(ho:w.ownsRow B' T z u m xs)(h1:T≠50)(h2:T≠52)(hk:Kp (fun k=>u.ownBlock=some k) w w'):CQ B w' v n rows:=by
 obtain⟨vs,a1,a2,a3⟩:=h;exact⟨vs,ax hk a1 (fun k e e2=>aH ho a1 h1 k e2 e),a2,fun q x hx=>ax hk (a3 q x hx) (fun k e e2=>aH ho (a3 q x hx) h2 k e2 e)⟩
theorem CQ.block{rows:Nat->List ai}{z:Nat×Nat}(h:CQ B w v n rows)(hb:w.heap[b]? =some (.cells cs T z))(h1:50≠T)(h2:52≠T)(hk:Kp (fun k=>k=b) w w'):CQ B w' v n rows:=by
 obtain⟨vs,a1,a2,a3⟩:=h;exact⟨vs,ax hk a1 (fun k e e2=>aJ a1 hb h1 k e e2),a2,fun q x hx=>ax hk (a3 q x hx) (fun k e e2=>aJ (a3 q x hx) hb h2 k e e2)⟩
def ofV:Value->LV
 | .slice q m c => ⟨q,m,c⟩
 | _ => ⟨none,0,0⟩
theorem Tb.rw2{vs:List Vw}{rows:Nat->List ai}(h:Tb B w v vs ((List.range n).map rows)):CQ B w v n rows:=by
 have hl:((List.range n).map rows).length=n:=by simp
 have hv:vs.length=n:=by rw[h.len,hl]
 have hg:∀(i:Nat) (u:Vw),vs[i]? =some u->w.ownsRow B 52 3 u.1 (rows i).length (fl ET (rows i)):=fun i u hu=>by
  have hi:i<n:=by rw[<-hv];exact(lG.1 hu).1
  exact(h.each i u (rows i) hu (by rw[gM,List.getElem?_range hi];rfl)).1
 have hf:∀u∈vs,(ofV u.1).v=u.1:=fun u hu=>by
  obtain⟨i,hi⟩:=iG.1 hu;obtain⟨q,m,c,e⟩:=aD (hg i u hi);rw[e];rfl
 refine⟨vs.map (fun u=>ofV u.1), ?_,by rw[gQ,hv],fun q x hx=> ?_⟩
 ·have e:fl EL (vs.map (fun u=>ofV u.1))=fl EV vs:=by
    rw[Ve,List.map_map];have:fl EV vs=vs.map (fun u=>u.1):=by
     clear hf hg hv h
     induction vs with
     | nil => rfl
     | cons x l ih => rw[aR,ih];rfl
    rw[this];exact List.map_congr_left (fun u hu=>hf u hu)
  rw[e];have h1:=h.row;rw[hl]at h1;exact h1
 ·rw[gM]at hx;cases e:vs[q]? with
  | none => rw[e]at hx;cases hx
  | some u=>
   rw[e]at hx;cases hx;rw[hf u (lM e)];exact hg q u e
structure T3(B:Nat)(w:World)(v:Value)(us:List LV)(n:Nat)(R:Nat->Nat->List ai):Prop where
 row:w.ownsRow B 143 1 v us.length (fl EL us)
 each:∀(p:Nat) (u:LV),us[p]? =some u->CQ B w u.v n (R p)
theorem T3.nil(B:Nat)(w:World)(n:Nat)(R:Nat->Nat->List ai):T3 B w (.slice none 0 0) [] n R:=⟨oN _ _ _ _,fun p u h=>by simp at h⟩
theorem T3.below{us:List LV}{R:Nat->Nat->List ai}(h:T3 B w v us n R)(hb:Bw w w'):T3 B w' v us n R:=⟨ag h.row hb,fun p u hu=>(h.each p u hu).below hb⟩
theorem T3.block{us:List LV}{R:Nat->Nat->List ai}{z:Nat×Nat}(h:T3 B w v us n R)(hb:w.heap[b]? =some (.cells cs T z))(h0:143≠T)(h1:50≠T)(h2:52≠T)(hk:Kp (fun k=>k=b) w w'):T3 B w' v us n R:=
 ⟨ax hk h.row (fun k e e2=>aJ h.row hb h0 k e e2),fun p u hu=>(h.each p u hu).block hb h1 h2 hk⟩
theorem T3.app{g cap:Nat}{w1:World}{us:List LV}{R:Nat->Nat->List ai}{u:LV}{rows:Nat->List ai}(h:T3 B w v us n R)(hr:CQ B w u.v n rows)
    (h1:w1.ownsRow B 143 1 (sO g (us.length+1) cap) (us.length+1) (fl EL us++EL.enc u)) (h2:w.grownBy w1 v.ownBlock):T3 B w1 (sO g (us.length+1) cap) (us++[u]) n (fun p=>if p=us.length then rows else R p):=by
 have hK:Kp (fun k=>v.ownBlock=some k) w w1:=Kp.grownBy h2 (fun _ h=>h);refine⟨?_,fun p x hx=> ?_⟩
 ·rw[dQ,vR];exact aV h1 rfl (by rw[aT,dM])
 ·rw[List.getElem?_append]at hx;split at hx
  ·rename_i hp;simp only[if_neg (show ¬p=us.length by omega)];exact(h.each p x hx).other h.row (by decide) (by decide) hK
  ·have e:p=us.length:=by
     have:=(lG.1 hx).1;simp at this;omega
   subst e;rw[Nat.sub_self]at hx;cases hx;simp only[if_true];exact hr.other h.row (by decide) (by decide) hK
def Lq{α:Type}(E:El α)(M:Nat)(w:World)(v:Value)(l:List α):Prop:=Ls E w v l/\∀k,v.ownBlock=some k->k<M
theorem Lq.keep{E:El α}{l:List α}(h:Lq E M w v l)(hb:Below M w w'):Lq E M w' v l:=⟨h.1.kept hb.size (fun g hg=>hb.block g (h.2 g hg)),h.2⟩
theorem GZ{E:El α}{l:List α}(h:w.ownsRow B T E.k v l.length (fl E l)):Lq E w.heap.size w v l:=⟨aK h,fun k hk=>(h.lt k hk).2⟩
def Tq(M:Nat)(w:World)(v:Value)(n:Nat)(R:Nat->Nat->List ai):Prop:=∃us:List LV,Lq EL M w v us/\us.length=n/\∀(p:Nat) (u:LV),us[p]? =some u->∃vs:List LV,Lq EL M w u.v vs/\vs.length=n/\∀(q:Nat) (x:LV),vs[q]? =some x->Lq ET M w x.v (R p q)
theorem Tq.keep{R:Nat->Nat->List ai}(h:Tq M w v n R)(hb:Below M w w'):Tq M w' v n R:=by
 obtain⟨us,h1,h2,h3⟩:=h;refine⟨us,h1.keep hb,h2,fun p u hu=> ?_⟩;obtain⟨vs,a1,a2,a3⟩:=h3 p u hu;exact⟨vs,a1.keep hb,a2,fun q x hx=>(a3 q x hx).keep hb⟩
theorem T3.tq{us:List LV}{R:Nat->Nat->List ai}(h:T3 B w v us n R)(hn:us.length=n):Tq w.heap.size w v n R:=by
 refine⟨us,GZ (E:=EL) h.row,hn,fun p u hu=> ?_⟩;obtain⟨vs,a1,a2,a3⟩:=h.each p u hu;exact⟨vs,GZ (E:=EL) (by rw[a2];exact a1),a2,fun q x hx=>GZ (E:=ET) (a3 q x hx)⟩
def TP(M:Nat)(w:World)(tb n:Nat)(R:Nat->Nat->List ai):Prop:=∃v,w.heap[tb]? =some (.cells #[v] 105 (0,0))/\tb<M/\Tq M w v n R
theorem TP.keep{tb:Nat}{R:Nat->Nat->List ai}(h:TP M w tb n R)(hb:Below M w w'):TP M w' tb n R:=by
 obtain⟨v,h1,h2,h3⟩:=h;exact⟨v,(hb.block _ h2).trans h1,h2,h3.keep hb⟩
abbrev uX(g:bG):Nat->Nat->ai->Prop:=J5 (Gl (aW g.nodes) (rZ g))
inductive FN (g:bG):Option (Option (Nat->Nat->List ai))->Prop
 | cyc (h:eX (iq g).length (iq g) (iq g).length=none):FN g none
 | wide (h:eX (iq g).length (iq g) (iq g).length≠none) (p:Nat) (hp:p<aW g.nodes) (hr:r9 PX (uX g) p none):FN g (some none)
 | tab (R:Nat->Nat->List ai) (h:eX (iq g).length (iq g) (iq g).length≠none) (hr:∀p,p<aW g.nodes->r9 PX (uX g) p (some (R p))):FN g (some (some R))
theorem FN.same{g:bG}{a b:Option (Option (Nat->Nat->List ai))}(h:FN g a)(k:FN g b):(a=none/\b=none)\/(a=some none/\b=some none)\/∃R R',a=some (some R)/\b=some (some R')/\∀p,p<aW g.nodes->R p=R' p:=by
 have key:∀(R:Nat->Nat->List ai) (p:Nat),p<aW g.nodes->r9 PX (uX g) p none->(∀p,p<aW g.nodes->r9 PX (uX g) p (some (R p)))->False:=fun R p hp h1 h2=>by
  have:=r9.same bL h1 (h2 p hp);cases this
 cases h with
 | cyc h=>
  cases k with
  | cyc k => exact Or.inl ⟨rfl,rfl⟩
  | wide k => exact absurd h k
  | tab R k => exact absurd h k
 | wide h p hp hr=>
  cases k with
  | cyc k => exact absurd k h
  | wide k => exact Or.inr (Or.inl ⟨rfl,rfl⟩)
  | tab R k hr' => exact(key R p hp hr hr').elim
 | tab R h hr=>
  cases k with
  | cyc k => exact absurd k h
  | wide k p hp hr' => exact(key R p hp hr' hr).elim
  | tab R' k hr'=>
   refine Or.inr (Or.inr ⟨R,R',rfl,rfl,fun p hp=> ?_⟩);have:=r9.same bL (hr p hp) (hr' p hp);exact oJ this
theorem JH:(Tryz.prog.info? 143).map (fun i=>(i.zero,i.size,i.bytes))=some (some (.slice none 0 0),1,24):=by kernel_rfl
end Lf
namespace Df
open Go.RowKit Go.Sort
attribute[local go_sem ↓]wp_at_zero wp_at_succ
theorem jv{g:bG}(w:World)(h:Gm B w gb g)(ku:ic g):CL 72 #[aB gb] w (Od w (iq g).length (iq g)):=by
 have hs:=dD w h ku;have iP:=hid ku;clear h ku;go_enter Tryz.func72,Tryz.ntmps72;go_wp2_with fail;refine hs.mono ?_;clear hs;rintro r w1 ⟨v,rfl,H1⟩;have ho:=DU w1 H1.o.2 (Dx iP.o).1 (Dx iP.o).2;go_wp2_with fail;refine ho.mono ?_;clear ho;rintro r w2 ⟨hb,hr⟩;have hbb:=H1.o.1.trans (hb.mono H1.o.1.size);rcases hr with⟨e,rfl⟩|⟨o,f,d,e,rfl,hrow⟩
 ·have FIN:Hid (Od w (iq g).length (iq g) (.returned (.tuple #[.slice none 0 0,iV 27])) w2):=⟨hbb,Or.inl ⟨e,rfl⟩⟩;clear e hb hbb;go_wp2_with fail;refine bR (v:= .tuple #[.slice none 0 0,iV 27]) (by simp[results,Tryz.results72,go_sem]) rfl ?_;exact FIN.o
 ·obtain⟨q,m,c,rfl⟩:=aD hrow;have FIN:Hid (Od w (iq g).length (iq g) (.returned (.tuple #[.slice q m c,iV 0])) w2):=⟨hbb,Or.inr ⟨o,f,_,e,rfl,aN hrow H1.o.1.size⟩⟩;clear e hb hbb hrow;go_wp2_with fail;refine bR (v:= .tuple #[.slice q m c,iV 0]) (by simp[results,Tryz.results72,go_sem]) rfl ?_;exact FIN.o
end Df
namespace Lf
open Go.RowKit Go.Sort Pt
open Df (hid dN bG ou ib aW rZ iq ic LV EL aD bz aH aJ aa ae aP eX Gm jv)
attribute[local go_sem ↓]wp_at_zero wp_at_succ
def Uw(w:World)(g:bG)(e:Ending)(w':World):Prop:=Bw w w'/\∃a,FN g a/\((a=none/\e= .returned (.tuple #[.pointer none,iV 27]))\/(a=some none/\e= .returned (.tuple #[.pointer none,iV 28]))\/∃R tb,a=some (some R)/\e= .returned (.tuple #[aB tb,iV 0])/\TP w'.heap.size w' tb (aW g.nodes) R)
theorem dI{g:bG}(w:World)(h:Gm B w gb g)(ku:ic g)(hP:uM g):CL 33 #[aB gb] w (Uw w g):=by
 have xK:=jv w h ku;have HM:Hid (∀W,Bw w W->Gm B W gb g):=fun W hb=>h.below hb;have iP:=hid ku;have YE:=hid hP;have hpl:=Df.nu ku;clear h ku hP;go_enter Tryz.func33,Tryz.ntmps33;go_wp2_with fail;refine xK.mono ?_;clear xK;rintro r w1 ⟨hb1,hr⟩;rcases hr with⟨hno,rfl⟩|⟨o,f,d,hso,rfl,_⟩
 ·have FIN:Hid (Uw w g (.returned (.tuple #[.pointer none,iV 27])) w1):=⟨hb1,none, .cyc hno,Or.inl ⟨rfl,rfl⟩⟩;go_wp2;refine bR (v:= .tuple #[.pointer none,iV 27]) (by simp[results,Tryz.results33,go_sem]) rfl ?_;exact FIN.o
 ·have UB:Hid (eX (iq g).length (iq g) (iq g).length≠none):=fun e=>by rw[hso]at e;cases e
  clear hso;have hst:=dD w1 (HM.o w1 hb1) iP.o YE.o;have HB1:=hid hb1;clear hb1;go_wp2_with fail;refine hst.mono ?_;clear hst;rintro r w2 ⟨gs,vs,rfl,hb2,hvl,hfw⟩;obtain⟨n,hn⟩:=aF (aW g.nodes);rw[<-hn]at hfw hvl hpl⊢;have HN:=hid hn;have J8:Hid (Sp w2 (sO gs n n) (Gl n (vz g))):=by
   have h1:=hfw.sp;rw[hvl]at h1;exact h1
  have HB2:=hid (HB1.o.trans (hb2.mono HB1.o.size));clear hb2 hfw hvl hn HB1;obtain⟨tb,htb⟩:=aF (w2.heap.size);obtain⟨W3,hW3⟩:=aF (w2.alloc (.cells #[.slice none 0 0] 105));have P3:Hid (Bw w2 W3/\W3.heap[tb]? =some (.cells #[.slice none 0 0] 105 (0,0))/\w2.heap.size<=tb):=by
   rw[hW3,htb];exact⟨((Gr.refl w2).alloc _).below,ah _ _,nR _⟩
  have HW3:Hid (w2.alloc (.cells #[.slice none 0 0] 105)=W3/\w2.heap.size=tb):=⟨hW3.symm,htb.symm⟩;clear hW3 htb;go_upto_region 6 with fail;rw[HW3.o.1,HW3.o.2];clear HW3;go_wp2_with fail;go_loopw [8,9,10,25] (fun _ _ _ V8 wr=>∃(i:Nat) (v:Value) (us:List LV) (R:Nat->Nat->List ai),i<=n/\V8=iV i/\Hid (us.length=i/\Bw w2 wr/\wr.heap[tb]? =some (.cells #[v] 105 (0,0))/\T3 w2.heap.size wr v us n R/\∀p,p<i->r9 PX (uX g) p (some (R p)))) (fun _ _ _ V8 _=>n-(intOf V8).toNat);case atStart=>exact⟨0,_,[],fun _ _=>[],zL _,rfl,rfl,P3.o.1,P3.o.2.1,T3.nil _ _ _ _,fun p hp=>absurd hp (nW _)⟩
  case round=>
   obtain⟨i,v,us,R,hi,rfl,HI⟩:=hrel;by_cases hlt:i<n
   ·have hltz:(i:Int)<(n:Int):=(by omega);have hi0:(0:Int)<=(i:Int):=(by omega);have hlf:=pW i n 432 (sO gs n n) (Gl n (vz g)) wr (J8.o.below HI.o.2.1) (jO _ _) hlt (by
     have h:=M5 iP.o (l:=vz g) (fun c hc=>kZ.1 hc);rw[<-HN.o]at h;rw[jO]at h;exact h) (M6 (Bd iP.o)) (by
     have:64*n*(432+1)<=64*192*(432+1):=Nat.mul_le_mul (Nat.mul_le_mul (nR _) hpl) (nR _);omega)
    go_wp2_with fail;refine hlf.mono ?_;clear hlf;rintro r w5 ⟨hb5,a,hres,hcase⟩;have IY:Hid (r9 PX (uX g) i a):=by
     rw[HN.o,Dw]at hres;exact hres
    clear hres;rcases hcase with⟨rfl,rfl⟩|⟨rows,v5,vs5,rfl,rfl,Ht⟩
    ·have FIN:Hid (Uw w g (.returned (.tuple #[.pointer none,iV 28])) w5):=⟨HB2.o.trans ((HI.o.2.1.trans (hb5.mono HI.o.2.1.size)).mono HB2.o.size),some none, .wide UB.o i (by rw[<-HN.o];exact hlt) IY.o,Or.inr (Or.inl ⟨rfl,rfl⟩)⟩;clear hb5;go_wp2;refine bR (v:= .tuple #[.pointer none,iV 28]) (by simp[results,Tryz.results33,go_sem]) rfl ?_;exact FIN.o
    ·have hrw:CQ wr.heap.size w5 v5 n rows:=by
       rw[jO]at Ht;exact Ht.rw2
     obtain⟨u,hu⟩:∃u:LV,u.v=v5:=by
      obtain⟨vs,h1,_⟩:=hrw;obtain⟨q,m,c,e⟩:=aD h1;exact⟨⟨q,m,c⟩,e.symm⟩
     subst hu;clear Ht;have hbx:=(hb5.block _ (ae HI.o.2.2.1)).trans HI.o.2.2.1;have cx:=(aa hbx).1;have lx:=ae hbx;have HT5:=hid (HI.o.2.2.2.1.below hb5);have tZ:Hid (CQ w2.heap.size w5 u.v n rows/\w5.heap[tb]? =some (.cells #[v] 105 (0,0))/\Bw w2 w5):=⟨hrw.base HI.o.2.1.size,hbx,HI.o.2.1.trans (hb5.mono HI.o.2.1.size)⟩;have HOW:Hid (w5.ownsRow w2.heap.size 143 1 v i (fl EL us)):=aV HT5.o.row HI.o.1 rfl;have U2:w2.heap.size<=w5.heap.size:=tZ.o.2.2.size;obtain⟨uq,um,uc⟩:=u;clear hrw hbx hb5;go_wp2_with (at_builtin;refine gB EL Tryz.underlying103 JH rfl (by decide) rfl _ _ rfl w2.heap.size _ i _ rfl HOW.o ⟨uq,um,uc⟩ rfl (by omega) (by unfold maxLen;omega) U2 _ rfl _ ?_);intro g6 c6 w6 qG nQ En;have XG:Kp (fun k=>v.ownBlock=some k) w5 w6:=Kp.grownBy nQ (fun _ h=>h);have sW:w6.heap[tb]? =some (.cells #[v] 105 (0,0)):=(XG.block _ (ae tZ.o.2.1) (fun e=>aJ HOW.o tZ.o.2.1 (by decide) tb e rfl)).trans tZ.o.2.1;have Q4:Hid (T3 w2.heap.size w6 (sO g6 (i+1) c6) (us++[⟨uq,um,uc⟩]) n (fun p=>if p=i then rows else R p)):=by
      have e:=HI.o.1;have h1:=HT5.o.app (g:=g6) (cap:=c6) (w1:=w6) tZ.o.1 (by rw[e];exact qG) nQ;rw[e]at h1;exact h1
     have FC:Hid (Bw w2 w6):=tZ.o.2.2.trans (XG.below tZ.o.2.2.size (fun k hk=>(HOW.o.lt k hk).1));have cx6:=(aa sW).1;have fx6:=(aa sW).2;have lx6:=ae sW;obtain⟨b7,k7⟩:=aP sW 0 (sO g6 (i+1) c6);have P7:Hid ((w6.setCell ⟨tb,0,none⟩ (sO g6 (i+1) c6)).heap[tb]? =some (.cells #[sO g6 (i+1) c6] 105 (0,0))/\Bw w2 (w6.setCell ⟨tb,0,none⟩ (sO g6 (i+1) c6))/\T3 w2.heap.size (w6.setCell ⟨tb,0,none⟩ (sO g6 (i+1) c6)) (sO g6 (i+1) c6) (us++[⟨uq,um,uc⟩]) n (fun p=>if p=i then rows else R p)):=⟨b7,FC.o.trans (k7.below FC.o.size (fun k hk=>by rw[hk];exact P3.o.2.2)),Q4.o.block sW (by decide) (by decide) (by decide) k7⟩;clear b7 k7 sW qG nQ En XG cx lx;go_wp2_with fail;go_roundw;case rel=>
      refine⟨i+1,_,us++[⟨uq,um,uc⟩],fun p=>if p=i then rows else R p,by omega,by first|rfl|go_num,by rw[dQ,HI.o.1];rfl,P7.o.2.1,P7.o.1,P7.o.2.2,fun p hp=> ?_⟩
      by_cases e:p=i
      ·subst e;simp only[if_true];exact IY.o
      ·simp only[if_neg e];exact HI.o.2.2.2.2 p (by omega)
     case measure=>simp[intOf];omega
   ·have hltz:¬(i:Int)<(n:Int):=(by omega);have hie:i=n:=(by omega);subst hie;have FIN:Hid (Uw w g (.returned (.tuple #[aB tb,iV 0])) wr):=⟨HB2.o.trans (HI.o.2.1.mono HB2.o.size),some (some R), .tab R UB.o (by rw[<-HN.o];exact HI.o.2.2.2.2),Or.inr (Or.inr ⟨R,tb,rfl,rfl,by
     rw[<-HN.o];exact⟨v,HI.o.2.2.1,ae HI.o.2.2.1,HI.o.2.2.2.1.tq HI.o.1⟩⟩)⟩
    go_wp2;refine bR (v:= .tuple #[aB tb,iV 0]) (by simp[results,Tryz.results33,go_sem]) rfl ?_;exact FIN.o
end Lf
namespace Df
open Go.RowKit Go.Sort
attribute[local go_sem ↓]wp_at_zero wp_at_succ
end Df
namespace Df
open Go.RowKit Go.Sort
theorem Rk.rank{ls:List (List Int)}{us:List Nat}{f:Nat->Int}(h:Or ls us)(hr:Rk ls us us.length f)(q:Nat):(∀p,Sp ls p q->f p+1<=f q)/\(f q=0\/∃p,Sp ls p q/\f p+1=f q):=by
 refine⟨fun p hp=>hr.up p q (by rw[tK];exact all_in h.nd h.bd h.len p hp.lt) hp, ?_⟩;by_cases e:0<f q
 ·obtain⟨p,_,h1,h2⟩:=hr.held q e;exact Or.inr ⟨p,h1,h2⟩
 ·exact Or.inl (by have:=(hr.pos q).1;omega)
section
variable {ls:List (List Int)} {q:Nat}
end
attribute[local go_sem ↓]wp_at_zero wp_at_succ
end Df
namespace Lf
open Go.RowKit Go.Sort Pt
open Df (hid dN bG ou ib aW rZ iq ic LV EL EC aD bz aH aJ aa ae aP eX GR NV dR jW jg)
attribute[local go_sem ↓]wp_at_zero wp_at_succ
end Lf
namespace Lf
open Go.RowKit Go.Sort Pt
open Df (hid dN bG ou ib aW rZ iq ic LV EL aa ae GR NV dR jW jg yC Fl)
attribute[local go_sem ↓]wp_at_zero wp_at_succ
end Lf
namespace Lf
open Go.RowKit Go.Sort Pt
open Df (hid dN bG ou ib aW rZ iq ic LV EL aa ae GR NV dR jW jg yC Fl eX)
attribute[local go_sem ↓]wp_at_zero wp_at_succ
end Lf
namespace Lf
open Go.RowKit Go.Sort Pt
attribute[local go_sem ↓]wp_at_zero wp_at_succ
open Df (hid LV EL aa ae qp)
def Tv(M:Nat)(w:World)(tv:Value)(n:Nat)(R:Nat->Nat->List ai):Prop:=(tv= .pointer none/\n=0)\/∃tb,tv=aB tb/\TP M w tb n R
theorem Tv.keep{tv:Value}{R:Nat->Nat->List ai}(h:Tv M w tv n R)(hb:Below M w w'):Tv M w' tv n R:=by
 rcases h with h|⟨tb,h1,h2⟩
 ·exact Or.inl h
 ·exact Or.inr ⟨tb,h1,h2.keep hb⟩
def bt(n:Nat)(R:Nat->Nat->List ai)(p q:Int):List ai:=if (0<=p/\p<n)/\0<=q/\q<n then R p.toNat q.toNat else[]
theorem Vl{p q:Nat}{R:Nat->Nat->List ai}(hp:p<n)(hq:q<n):bt n R p q=R p q:=by
 unfold bt;rw[if_pos ⟨⟨by omega,by omega⟩,by omega,by omega⟩];simp
theorem Tq.at{R:Nat->Nat->List ai}(h:Tq M w v n R):∃ps cs,v= .slice ps n cs/\∀p q,p<n->q<n->∃b off b2 o2 c2 pq cq,ps=some ⟨b,off,none⟩/\b<w.heap.size/\aj w b (off+p) (.slice (some ⟨b2,o2,none⟩) n c2)/\b2<w.heap.size/\aj w b2 (o2+q) (.slice pq (R p q).length cq)/\Lq ET M w (.slice pq (R p q).length cq) (R p q):=by
 obtain⟨us,h1,h2,h3⟩:=h;obtain⟨ps,cs,e⟩:=h1.1.form;rw[h2]at e;refine⟨ps,cs,e,fun p q hp hq=> ?_⟩;obtain⟨u,hu⟩:∃u,us[p]? =some u:=⟨us[p]'(by omega),by simp⟩;obtain⟨vs,a1,a2,a3⟩:=h3 p u hu;obtain⟨x,hx⟩:∃x,vs[q]? =some x:=⟨vs[q]'(by omega),by simp⟩;obtain⟨b,off,c,e1,hb,hc⟩:=qp h1.1 hu;rw[e]at e1;simp only[vS]at e1;obtain⟨b2,o2,c2,e2,hb2,hc2⟩:=qp a1.1 hx;rw[a2]at e2;have hx3:=a3 q x hx;obtain⟨pq,cq,e3⟩:=hx3.1.form;rw[e3]at hc2 hx3;rw[e2]at hc;exact⟨b,off,b2,o2,c2,pq,cq,e1.1,hb,hc,hb2,hc2,hx3⟩
theorem fB{tv:Value}{R:Nat->Nat->List ai}(w:World)(h:Tv M w tv n R):CL 11 #[tv] w fun e w'=>e= .returned (iV (n:Nat))/\w'=w:=by
 rcases h with⟨rfl,rfl⟩|⟨tb,rfl,v,h1,_,h3⟩
 ·go_enter Tryz.func11,Tryz.ntmps11;go_wp2;go_ret;exact⟨rfl,rfl⟩
 ·obtain⟨ps,cs,rfl,_⟩:=h3.at;have c1:=(aa h1).1;have l1:=ae h1;clear h1 h3;go_enter Tryz.func11,Tryz.ntmps11;go_wp2;go_ret;exact⟨rfl,rfl⟩
theorem fQ(x:Int)(n:Nat)(b:Bool)(hb:b=decide (0<=x/\x<n))(w:World):CL 90 #[iV x,iV (n:Nat)] w fun e w'=>e= .returned (.bool b)/\w'=w:=by
 by_cases h0:0<=x
 ·by_cases h1:x<n
  ·have e:b=true:=(by rw[hb];simp;omega);subst e;clear hb;go_enter Tryz.func90,Tryz.ntmps90;go_wp2;go_ret;exact⟨rfl,rfl⟩
  ·have e:b=false:=(by rw[hb];simp;omega);subst e;clear hb;go_enter Tryz.func90,Tryz.ntmps90;go_wp2;go_ret;exact⟨rfl,rfl⟩
 ·have e:b=false:=by rw[hb];simp;omega
  subst e;clear hb;go_enter Tryz.func90,Tryz.ntmps90;go_wp2;go_ret;exact⟨rfl,rfl⟩
theorem oh{tv:Value}{R:Nat->Nat->List ai}(p q:Int)(w:World)(h:Tv M w tv n R):CL 46 #[tv,iV p,iV q] w fun e w'=>∃pp c,e= .returned (.slice pp (bt n R p q).length c)/\w'=w/\Lq ET M w (.slice pp (bt n R p q).length c) (bt n R p q):=by
 obtain⟨bp,hbp⟩:=aF (decide (0<=p/\p<(n:Int)));obtain⟨bq,hbq⟩:=aF (decide (0<=q/\q<(n:Int)));have hpl:=fB w h;have hap:=fQ p n bp hbp w;have haq:=fQ q n bq hbq w;have HT:=hid h;have HBP:=hid hbp;have HBQ:=hid hbq;clear h hbp hbq;cases bp with
 | false=>
  have HE:Hid (bt n R p q=[]):=by
   unfold bt;rw[if_neg (fun h=> ?_)]
   ·exact rfl
   ·have:=HBP.o;rw[decide_eq_true h.1]at this;cases this
  rw[HE.o];go_enter Tryz.func46,Tryz.ntmps46;go_wp2_with fail;refine hpl.mono ?_;rintro e w1 ⟨rfl,hw1⟩;rw[hw1];clear hw1;go_wp2_with fail;refine hap.mono ?_;rintro e w2 ⟨rfl,hw2⟩;rw[hw2];clear hw2;go_wp2;go_ret;exact⟨none,0,rfl,rfl,Ls.nil w,fun k hk=>by simp[Value.ownBlock]at hk⟩
 | true=>
  cases bq with
  | false=>
   have HE:Hid (bt n R p q=[]):=by
    unfold bt;rw[if_neg (fun h=> ?_)]
    ·exact rfl
    ·have:=HBQ.o;rw[decide_eq_true h.2]at this;cases this
   rw[HE.o];go_enter Tryz.func46,Tryz.ntmps46;go_wp2_with fail;refine hpl.mono ?_;rintro e w1 ⟨rfl,hw1⟩;rw[hw1];clear hw1;go_wp2_with fail;refine hap.mono ?_;rintro e w2 ⟨rfl,hw2⟩;rw[hw2];clear hw2;go_wp2_with fail;refine hpl.mono ?_;rintro e w3 ⟨rfl,hw3⟩;rw[hw3];clear hw3;go_wp2_with fail;refine haq.mono ?_;rintro e w4 ⟨rfl,hw4⟩;rw[hw4];clear hw4;go_wp2;go_ret;exact⟨none,0,rfl,rfl,Ls.nil w,fun k hk=>by simp[Value.ownBlock]at hk⟩
  | true=>
   obtain⟨h1,h2⟩:=of_decide_eq_true HBP.o.symm;obtain⟨h3,h4⟩:=of_decide_eq_true HBQ.o.symm;obtain⟨pn,rfl⟩:=Int.eq_ofNat_of_zero_le h1;obtain⟨qn,rfl⟩:=Int.eq_ofNat_of_zero_le h3;have hpn:pn<n:=(by omega);have WY:qn<n:=(by omega);rw[Vl hpn WY];rcases HT.o with⟨_,h0⟩|⟨tb,rfl,v,b1,_,b3⟩
   ·omega
   ·obtain⟨ps,cs,rfl,hat⟩:=b3.at;obtain⟨b,off,b2,o2,c2,pq,cq,rfl,z1,z2,z3,z4,z5⟩:=hat pn qn hpn WY;have c1:=(aa b1).1;have l1:=ae b1;have HZ:=hid z5;clear b1 b3 hat z5 HT;generalize hrl:(R pn qn).length=rl at *;go_enter Tryz.func46,Tryz.ntmps46;go_wp2_with fail;refine hpl.mono ?_;rintro e w1 ⟨rfl,hw1⟩;rw[hw1];clear hw1;go_wp2_with fail;refine hap.mono ?_;rintro e w2 ⟨rfl,hw2⟩;rw[hw2];clear hw2;go_wp2_with fail;refine hpl.mono ?_;rintro e w3 ⟨rfl,hw3⟩;rw[hw3];clear hw3;go_wp2_with fail;refine haq.mono ?_;rintro e w4 ⟨rfl,hw4⟩;rw[hw4];clear hw4;go_wp2;go_ret;exact⟨pq,cq,rfl,rfl,HZ.o⟩
end Lf
namespace Cn
open Cz
open Go.RowKit Go.Sort
attribute[local go_sem ↓]wp_at_zero wp_at_succ
theorem tX(v:Value)(l:List Tm)(w:World)(hv:oz w v l)(hl:l.length*24<=140737488355328):
    CL 150 #[v] w fun e w'=>∃v',e= .returned v'/\w'.ownsRow w.heap.size 45 3 v' l.length (eQ l)/\Bw w w':=by
 have HV:Hid (oz w v l):=hv;have hen:=fun(W:World) (a:Option Addr) (n c:Nat)=>Lib.run_eql_slice_nil (P:=Tryz.prog) W 39 45 a n c 0 0 Tryz.underlying39;rcases hv with⟨rfl,rfl⟩|⟨b,off,c,rfl,hb,ht⟩
 ·go_enter Tryz.func150,Tryz.ntmps150;go_wp2;go_ret;exact⟨_,rfl,oN _ _ _ _,Below.refl _ _⟩
 ·clear ht;go_enter Tryz.func150,Tryz.ntmps150;go_wp2_with (at_builtin;refine Cz.jZ true rfl _ _ rfl w.heap.size (sO w.heap.size 0 0) 0 [] rfl (World.ownsRow_made w #[] 0 (nR _) (by unfold maxLen;omega) rfl) _ l rfl (HV.o.below ((Gr.refl w).alloc _).below) (by omega) (by simp) ?_);intro v' w' h1 h2;go_wp2;go_ret;refine⟨_,rfl,by simpa using h1, ?_⟩;exact((Gr.refl w).alloc _).below.trans ((Kp.grownBy (S:=fun k=>w.heap.size<=k) h2 (fun k hk=>by simp[Value.ownBlock]at hk;omega)).below (by simp) (fun _ h=>h))
theorem kM{ff:Nat}{l:List Tm}(w:World)(hc:Ch true w cb fb ff v l)(hl:l.length*24<=140737488355328):
    CL 87 #[aB cb] w fun e w'=>∃v',e= .returned v'/\w'.ownsRow w.heap.size 45 3 v' l.length (eQ l)/\Bw w w':=by
 have h:=tX v l w hc.qF hl;have k2:=hc.c2;have kl:=hc.lt;clear hc;go_enter Tryz.func87,Tryz.ntmps87;go_wp2_with fail;refine h.mono ?_;rintro e w1 ⟨v',rfl,h1,h2⟩;go_wp2;go_ret;exact⟨_,rfl,h1,h2⟩
theorem Fa{aC fst:Tm->Tm->Bool}(l vs us:List Tm):kR aC fst l (vs++us)=kR aC fst l vs+kR aC fst (bC aC fst l vs) us:=by
 induction vs generalizing l with
 | nil => simp[kR,bC]
 | cons v vs ih => rw[List.cons_append,kR,ih,kR,yn,Nat.add_assoc]
theorem yh{aC fst:Tm->Tm->Bool}{l vs:List Tm}{x:Tm}(h:vs[k]? =some x):kR aC fst l (vs.take (k+1))=kR aC fst l (vs.take k)+(if bH aC (bC aC fst l (vs.take k)) x then 0 else 1):=by
 rw[tO,h,Fa];simp[kR]
theorem Uf{aC fst:Tm->Tm->Bool}(l vs:List Tm):kR aC fst l vs<=vs.length:=by
 induction vs generalizing l with
 | nil => simp[kR]
 | cons v vs ih => rw[kR,lC];have:=ih (gG aC fst l v);split <;> omega
theorem OL{ff:Nat}{l vs:List Tm}{aC fst:Tm->Tm->Bool}(w:World)(hc:Ch true w cb fb ff v l)(hu:oz w u vs)(hap:∀k,u.ownBlock=some k->k≠cb/\v.ownBlock≠some k)(hl:(l.length+vs.length)*24<=140737488355328)(hB:dZ fb aC)(hF:dZ ff fst):
    CL 203 #[aB cb,u] w fun e w'=>e= .returned (iV (kR aC fst l vs:Nat))/\∃v',Ch true w' cb fb ff v' (bC aC fst l vs)/\dX cb v v' w w':=by
 obtain⟨pu,cu,rfl⟩:=hu.form;have HU:Hid (oz w (.slice pu vs.length cu) vs):=hu;have HA:Hid (∀k,(Value.slice pu vs.length cu).ownBlock=some k->k≠cb/\v.ownBlock≠some k):=hap;have HC:Hid (Ch true w cb fb ff v l):=hc;clear hu hap hc;go_enter Tryz.func203,Tryz.ntmps203;go_wp2_with fail;go_loopw [5,7,10] (fun s5 _ s10 wr=>∃(k:Nat) (vr:Value),k<=vs.length/\s10=iV k/\s5=iV (kR aC fst l (vs.take k):Nat)/\Hid (Ch true wr cb fb ff vr (bC aC fst l (vs.take k))/\dX cb v vr w wr)) (fun _ _ s10 _=>vs.length-(intOf s10).toNat);case atStart=>exact⟨0,v,zL _,rfl,rfl,HC.o,dX.refl _ _ _⟩
 case round=>
  obtain⟨k,vr,hk,rfl,rfl,HI⟩:=hrel;obtain⟨hch,htu⟩:=HI.o;by_cases hlt:k<vs.length
  ·have hltz:(k:Int)<(vs.length:Int):=(by omega);obtain⟨x,hx⟩:∃x,vs[k]? =some x:=⟨vs[k],by simp⟩;have HLw:oz wr (.slice pu vs.length cu) vs:=htu.1.ls HU.o (fun j hj hs=>by
    obtain⟨h1,h2⟩:=HA.o j hj;rcases hs with hs|hs
    ·exact h1 hs
    ·exact h2 hs)
   obtain⟨b1,o1,c1,e1,z1,x1,x2,x3⟩:=HLw.at3 hx;simp only[vS]at e1;obtain⟨rfl,-,rfl⟩:=e1;clear HLw;have hjl:=gZ (aC:=aC) (fst:=fst) l (vs.take k);have htl:(vs.take k).length=k:=(by simp;omega);have HJ:Hid (bC aC fst l (vs.take (k+1))=gG aC fst (bC aC fst l (vs.take k)) x):=uU hx;have HN:Hid (kR aC fst l (vs.take (k+1))=kR aC fst l (vs.take k)+(if bH aC (bC aC fst l (vs.take k)) x then 0 else 1)):=yh hx
   have hnl:=Uf (aC:=aC) (fst:=fst) l (vs.take k);rw[htl]at hjl hnl;clear hx;generalize bC aC fst l (vs.take k)=f at *;generalize kR aC fst l (vs.take k)=q at *;have hi:=jC x (wr.alloc (.cells #[uV x.1.1,uV x.1.2.1,uV x.1.2.2] 45)) (hch.below ((Gr.refl _).alloc _).below) (by omega) hB hF;have HT:Hid (dX cb v vr w (wr.alloc (.cells #[uV x.1.1,uV x.1.2.1,uV x.1.2.2] 45))):=htu.trans (dX.of_below ((Gr.refl _).alloc _).below);clear hch htu HI;cases hq:bH aC f x with
   | true=>
    rw[hq]at hi;have HN':Hid (kR aC fst l (vs.take (k+1))=q):=(by rw[HN.o,hq];simp[Hid]);go_wp2_with fail;refine hi.mono ?_;rintro e w2 ⟨v2,rfl,Xr,WU⟩;go_wp2;refine⟨⟨k+1,v2,by omega,by go_num,by rw[HN'.o],by rw[HJ.o];exact Xr,HT.o.trans WU⟩,by simp[intOf];omega⟩
   | false=>
    rw[hq]at hi;have HN':Hid (kR aC fst l (vs.take (k+1))=q+1):=(by rw[HN.o,hq];simp[Hid]);go_wp2_with fail;refine hi.mono ?_;rintro e w2 ⟨v2,rfl,Xr,WU⟩;go_wp2;refine⟨⟨k+1,v2,by omega,by go_num,by rw[HN'.o];go_num,by rw[HJ.o];exact Xr,HT.o.trans WU⟩,by simp[intOf];omega⟩
  ·have hltz:¬(k:Int)<(vs.length:Int):=(by omega);rw[tL (by omega)]at hch;have HE:Hid (vs.take k=vs):=tL (by omega);go_wp2;go_ret;exact⟨by rw[HE.o];rfl,vr,hch,htu⟩
theorem JX{ff:Nat}{l:List Tm}{aC:Tm->Tm->Bool}(x:Tm)(w:World)(hc:Ch true w cb fb ff v l)(hl:l.length*24<=140737488355328)(hB:dZ fb aC):
    CL 200 #[aB cb,tv x] w fun e w'=>∃v',e= .returned (iV ((l.length-(dJ aC l x).length:Nat):Int))/\Ch true w' cb fb ff v' (dJ aC l x)/\Kp (fun k=>k=cb) w w'/\∀g,v'.ownBlock=some g->v.ownBlock=some g\/w.heap.size<=g:=by
 obtain⟨W1,hW1⟩:=aF (w.alloc (.cells #[uV x.1.1,uV x.1.2.1,uV x.1.2.2] 45));have G1:Gr w W1:=by rw[hW1];exact(Gr.refl _).alloc _
 have HZ:Hid (w.heap.size<W1.heap.size):=by rw[hW1];simp[Hid]
 have hc1:=hc.below G1.below;have h1:=uk (aC:=aC) x W1 hc1 hl hB;have rC:=gN (aC:=aC) l x;generalize hm:dJ aC l x=m at *;have HC:Hid (Ch true w cb fb ff v l):=hc;obtain⟨pl,cl,rfl⟩:=hc.qF.form;clear hm hc hc1;subst hW1;go_enter Tryz.func200,Tryz.ntmps200;go_wp2_with fail;refine h1.mono ?_;rintro e w3 ⟨v3,rfl,ho3,hb3,hor⟩;have A3:Hid (Bw w w3):=G1.below.trans (hb3.mono (nE HZ.o));obtain⟨d1,d2,d3⟩:=UL.cells (HC.o.below A3.o).blk;obtain⟨p3,c3,rfl⟩:=(dG ho3).form;have zz:IntKind.i64.wrap ((l.length:Int)-(m.length:Int))=((l.length-m.length:Nat):Int):=by rw[IntKind.wrap_i64];omega
 clear h1;go_wp2;go_ret;have hlt:=HC.o.lt;have JL:(Value.slice p3 m.length c3).ownBlock≠some cb:=by
  intro h;rcases hor with h'|h'
  ·exact HC.o.off (h' ▸ h)
  ·have:=h' cb h;have:=HZ.o;omega
 obtain⟨hch,hks⟩:=UL.set (HC.o.below A3.o).blk (v2:= .slice p3 m.length c3) (l2:=m) ho3 JL;refine⟨_,by first|rfl|simp,hch,(Kp.of_below A3.o).tr hks,fun g hg=> ?_⟩;rcases hor with h'|h'
 ·left;rw[<-h'];exact hg
 ·right;have:=h' g hg;have:=HZ.o;omega
theorem gW{ff:Nat}{l:List Tm}(w:World)(hc:Ch true w cb fb ff v l):
    CL 201 #[aB cb] w fun e w'=>e= .returned (iV (l.length:Nat))/\w'=w:=by
 obtain⟨pl,cl,rfl⟩:=hc.qF.form;have k2:=hc.c2;have kl:=hc.lt;go_enter Tryz.func201,Tryz.ntmps201;go_wp2;go_ret;exact⟨rfl,rfl⟩
end Cn
namespace Df
open Go.RowKit Go.Sort
attribute[local go_sem ↓]wp_at_zero wp_at_succ
theorem xR{g:bG}(w:World)(h:Gm B w gb g):CL 103 #[aB gb] w fun r w'=>r= .returned (iV g.arity)/\w'=w:=by
 obtain⟨nv,ev,fv,pv,ys,ss,h⟩:=h;have cg:=(aa h.rows.blk).1;have lg:=ae h.rows.blk;clear h;go_enter Tryz.func103,Tryz.ntmps103;go_wp2_with fail;go_ret;exact⟨rfl,rfl⟩
end Df
namespace Df
open Go.RowKit Go.Sort
attribute[local go_sem ↓]wp_at_zero wp_at_succ
theorem abn(x:Int):ik [x]=[x]:=by simp[ik]
theorem abo:ik []=[]:=by simp[ik]
theorem Jf{c:Nat}{E:El α}{l:List α}(hcs:cs.toList=fl E l)(hb:w.heap[b]? =some (.cells cs T (0,0))):Ls E w (sO b l.length c) l:=by
 refine Or.inr ⟨b,0,c,rfl,ae hb,fun j u hj=> ?_⟩;rw[nZ,(aa hb).1,<-Array.getElem?_toList,hcs];exact hj
end Df
namespace Lf
open Go.RowKit Go.Sort Pt
open Df (aW rZ dN ib iq eX)
def eB(k:Nat):ai:=Kh (k,0,0)
theorem eO(h:k<=18446744073709551615):(eB k).1.1=(k:Int)/\(eB k).1.2.1=0/\(eB k).1.2.2=0:=by
 have h2:ib (k,0,0):=⟨h,by unfold Df.Fs;simp,by unfold Df.Fs;simp⟩;exact ve h2
theorem vk(h:a+b<=18446744073709551615):bJ (eB a) (eB b)=some (eB (a+b)):=by
 obtain⟨a1,a2,a3⟩:=eO (k:=a) (by omega);obtain⟨b1,b2,b3⟩:=eO (k:=b) (by omega);obtain⟨c1,c2,c3⟩:=eO (k:=a+b) h;obtain⟨c,hc⟩:=jN (a:=eB a) (b:=eB b) ⟨by omega,by omega,by omega⟩;obtain⟨d1,d2,d3⟩:=bE hc;rw[hc];exact congrArg some (dw (by omega) (by omega) (by omega))
theorem RD(ha:a<=18446744073709551615)(hb:b<=18446744073709551615)(h:a<=b):PX.aX (eB a) (eB b):=by
 obtain⟨a1,a2,a3⟩:=eO ha;obtain⟨b1,b2,b3⟩:=eO hb;exact⟨by omega,by omega,by omega⟩
end Lf
section
open Go.ChangeShapes Go.WideShapes Go.ChangeAt Go.RowKit
theorem sK:joinedFacts Tryz.checked.prog 5 Tryz.f5 (OpenSpec.ofChange Rows.reachKeepsSpec).bare Rows.reachKeepsRow=true:=by kernel_rfl
end
end Go.Proofs.YtiiefcalkjeieaaGreat
