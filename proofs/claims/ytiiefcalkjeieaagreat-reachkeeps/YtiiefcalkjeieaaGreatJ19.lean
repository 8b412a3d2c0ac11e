import Derived.Test.YtiiefcalkjeieaaGreatHPopF
import Derived.Test.YtiiefcalkjeieaaGreatJ18
variable{np ff hb j k q cb fb:Nat}{v:Go.Value}{w:Go.World}{tag:Nat->Nat}
set_option maxHeartbeats 1000000
namespace Go.Proofs.YtiiefcalkjeieaaGreat
namespace Hf
open Go.RowKit Go.Sort Hp
abbrev key(f:Th->Int):Th->Th->Bool:=fun a b=>decide (f a<f b)
theorem eD{f:Th->Int}{a b:It}:aU (key f) a b=false↔(f b.1<f a.1\/(f a.1=f b.1/\b.2<=a.2)):=by
 unfold aU key;split<;>simp<;>omega
theorem jH(f:Th->Int):Am (aU (key f)):=by
 refine⟨fun a b c h1 h2=> ?_,fun a b h=> ?_⟩
 ·rw[eD]at *;omega
 ·rw[eD];have:¬(aU (key f) a b=false):=by rw[h];simp
  rw[eD]at this;omega
structure Hq(w:World)(hb ff:Nat)(v:Value)(f:Th->Int)(L:List It)(np:Nat):Prop where
 h:Hb w hb ff v L np
 hp:bX (aU (key f)) L
 nd:(L.map Prod.snd).Nodup
 lt:∀x∈L,x.2<np
theorem Hq.kp{w':World}{f:Th->Int}{L:List It}{S:Nat->Prop}(h:Hq w hb ff v f L np)(hk:Kp S w w')(h1:¬S hb)(h2:∀k,v.ownBlock=some k->¬S k):Hq w' hb ff v f L np:=⟨h.h.kp hk h1 h2,h.hp,h.nd,h.lt⟩
theorem xe(ff:Nat)(f:Th->Int)(w:World):Calls Tryz.prog 123 #[fv ff] w fun e w'=>∃hb,e= .returned (.pointer (some ⟨hb,0,none⟩))/\w.heap.size<=hb/\Hq w' hb ff (.slice none 0 0) f [] 0/\Gr w w':=by
 refine(dF ff w).mono ?_;rintro e w' ⟨hb,rfl,h1,h2,h3⟩;exact⟨hb,rfl,h1,⟨h2,fun i x y _ hx=>by simp at hx,by simp,by simp⟩,h3⟩
theorem sH{f:Th->Int}{L:List It}(x:Th)(w:World)(hH:Hq w hb ff v f L np)(hl:(L.length+1)*40<=140737488355328)(Te:np+1<18446744073709551616)(hF:dY ff (key f)):
    Calls Tryz.prog 126 #[.pointer (some ⟨hb,0,none⟩),tv x] w fun e w'=>∃v' L',e= .returned (.tuple #[])/\Hq w' hb ff v' f L' (np+1)/\L'.Perm (L++[(x,np)])/\dW hb v v' w w':=by
 refine(wQ x w hH.h hl Te hF).mono ?_;rintro e w' ⟨v',L',rfl,h1,h2,h3,h4⟩;refine⟨v',L',rfl,⟨h1,h3 (jH f) hH.hp, ?_,fun y hy=> ?_⟩,h2,h4⟩
 ·rw[(h2.map Prod.snd).nodup_iff,CW,List.nodup_append];refine⟨hH.nd,by simp,fun a ha b hb e=> ?_⟩;obtain⟨y,hy,rfl⟩:=mM.1 ha;have:=hH.lt y hy;simp at hb;omega
 ·rcases j4.1 (h2.mem_iff.1 hy)with h|h
  ·have:=hH.lt y h;omega
  ·simp at h;subst h;simp
theorem qU{f:Th->Int}{L:List It}{t:It}(w:World)(hH:Hq w hb ff v f L np)(ht:L[0]? =some t)(hl:L.length<=140737488355328)(hF:dY ff (key f)):
    Calls Tryz.prog 127 #[.pointer (some ⟨hb,0,none⟩)] w fun e w'=>∃v' L',e= .returned (ans t.1 true)/\Hq w' hb ff v' f L' np/\(t::L').Perm L/\(∀x∈L',f t.1<f x.1\/(f t.1=f x.1/\t.2<x.2))/\dW hb v v' w w':=by
 refine(Bi w hH.h ht hl hF).mono ?_;rintro e w' ⟨rfl,v',L',h1,h2,h3,h4⟩;have hnd:((t::L').map Prod.snd).Nodup:=(h2.map Prod.snd).nodup_iff.2 hH.nd;rw[List.map_cons,List.nodup_cons]at hnd;refine⟨v',L',rfl,⟨h1,h3 (jH f) hH.hp,hnd.2,fun y hy=>hH.lt y (h2.mem_iff.1 (mO _ hy))⟩,h2,fun x hx=> ?_,h4⟩;obtain⟨i,hi⟩:=List.getElem?_of_mem (h2.mem_iff.1 (mO t hx));have:=eD.1 (bX.top (jH f) hH.hp ht i x hi);have hne:t.2≠x.2:=fun e=>hnd.1 (mM.2 ⟨x,hx,e.symm⟩);omega
end Hf
namespace Pc.Cn
open Cz
open Go.RowKit Go.Sort
attribute[local go_sem ↓]wp_at_zero wp_at_succ
theorem tH(v:Value)(l:List Tm)(w:World)(hv:og w v l)(hl:l.length*24<=140737488355328):
    Calls Tryz.prog 45 #[v] w fun e w'=>∃v',e= .returned v'/\w'.ownsRow w.heap.size 52 3 v' l.length (eO l)/\Below w.heap.size w w':=by
 have HV:Hid (og w v l):=hv;have hen:=fun(W:World) (a:Option Addr) (n c:Nat)=>Lib.run_eql_slice_nil (P:=Tryz.prog) W 50 52 a n c 0 0 Tryz.underlying50;rcases hv with⟨rfl,rfl⟩|⟨b,off,c,rfl,hb,ht⟩
 ·go_enter Tryz.func45,Tryz.ntmps45;go_wp2;go_ret;exact⟨_,rfl,oN _ _ _ _,Below.refl _ _⟩
 ·clear ht;go_enter Tryz.func45,Tryz.ntmps45;go_wp2_with (at_builtin;refine Cz.jV false rfl _ _ rfl w.heap.size (.slice (some ⟨w.heap.size,0,none⟩) 0 0) 0 [] rfl (World.ownsRow_made w #[] 0 (nR _) (by unfold maxLen;omega) rfl) _ l rfl (HV.o.below ((Gr.refl w).alloc _).below) (by omega) (by simp) ?_);intro v' w' h1 h2;go_wp2;go_ret;refine⟨_,rfl,by simpa using h1, ?_⟩;exact((Gr.refl w).alloc _).below.trans ((Kp.grownBy (S:=fun k=>w.heap.size<=k) h2 (fun k hk=>by simp[Value.ownBlock]at hk;omega)).below (by simp) (fun _ h=>h))
theorem kJ{l:List Tm}(w:World)(hc:Ch false w cb fb ff v l)(hl:l.length*24<=140737488355328):
    Calls Tryz.prog 194 #[.pointer (some ⟨cb,0,none⟩)] w fun e w'=>∃v',e= .returned v'/\w'.ownsRow w.heap.size 52 3 v' l.length (eO l)/\Below w.heap.size w w':=by
 have h:=tH v l w hc.qC hl;have k2:=hc.c2;have kl:=hc.lt;clear hc;go_enter Tryz.func194,Tryz.ntmps194;go_wp2_with fail;refine h.mono ?_;rintro e w1 ⟨v',rfl,h1,h2⟩;go_wp2;go_ret;exact⟨_,rfl,h1,h2⟩
theorem gQ{l:List Tm}(w:World)(hc:Ch false w cb fb ff v l):
    Calls Tryz.prog 129 #[.pointer (some ⟨cb,0,none⟩)] w fun e w'=>e= .returned (.int .i64 (l.length:Nat))/\w'=w:=by
 obtain⟨pl,cl,rfl⟩:=hc.qC.form;have k2:=hc.c2;have kl:=hc.lt;go_enter Tryz.func129,Tryz.ntmps129;go_wp2;go_ret;exact⟨rfl,rfl⟩
theorem xY(fb ff:Nat)(w:World):Calls Tryz.prog 183 #[fv fb,fv ff] w fun e w'=>e= .returned (.pointer (some ⟨w.heap.size,0,none⟩))/\Ch false w' w.heap.size fb ff (.slice none 0 0) []/\Gr w w':=by
 go_enter Tryz.func183,Tryz.ntmps183;go_wp2;go_ret;exact⟨rfl,⟨ah _ _,oN _ _ _ _,by simp[Value.ownBlock]⟩,(Gr.refl _).alloc _⟩
theorem DF(w:World):Calls Tryz.prog 122 #[] w fun e w'=>e= .returned (.pointer (some ⟨w.heap.size,0,none⟩))/\Ch false w' w.heap.size 184 125 (.slice none 0 0) []/\Gr w w':=by
 have h:=xY 184 125 w;go_enter Tryz.func122,Tryz.ntmps122;go_wp2_with fail;refine h.mono ?_;rintro e w1 ⟨rfl,h1,h2⟩;go_wp2;go_ret;exact⟨rfl,h1,h2⟩
end Pc.Cn
namespace Hf
open Go.RowKit Go.Sort Hp
attribute[local go_sem ↓]wp_at_zero wp_at_succ
def kf(a:Th):Int:=a.2.1.1*340282366920938463463374607431768211456+a.2.1.2.1*18446744073709551616+a.2.1.2.2
theorem Ox(a b:Th):kf a<kf b↔dI a.2 b.2=true:=by
 rw[kU];have h1:=Pt.bW a.2;have h2:=Pt.bW b.2;unfold kf;omega
theorem Wz(a b:Th):key kf a b=dI a.2 b.2:=by
 unfold key;cases h:dI a.2 b.2
 ·exact decide_eq_false (fun e=>by rw[(Ox a b).1 e]at h;cases h)
 ·exact decide_eq_true ((Ox a b).2 h)
theorem IX:dY 124 (key kf):=by
 refine⟨enters_of Tryz.func124 (by kernel_rfl) rfl,fun a b W=> ?_⟩;have h:=fun W=>Pc.jI.calls a.2 b.2 W;rw[Wz];generalize dI a.2 b.2=r at h⊢;have et:=Pc.jI.enter;go_enter Tryz.func124,Tryz.ntmps124;go_wp2_with fail;refine(h _).mono ?_;rintro e w' ⟨rfl,hg⟩;go_wp2;go_ret;exact⟨rfl,(((Gr.refl _).alloc _).alloc _).trans hg⟩
end Hf
namespace Lf
open Go.RowKit Go.Sort
abbrev fA:Nat:=184
abbrev fT:Nat:=125
abbrev fW:Nat:=124
def tg(tag:Nat->Nat)(w:World)(j:Nat):Nat->Nat:=fun k=>if k<w.heap.size then tag k else j
theorem ak(h:k<w.heap.size):tg tag w j k=tag k:=by unfold tg;rw[if_pos h]
theorem aR(h:w.heap.size<=k):tg tag w j k=j:=by unfold tg;rw[if_neg (by omega)]
structure Nx(j:Nat)(tag tag':Nat->Nat)(w w':World):Prop where
 kp:Kp (fun k=>tag k=j) w w'
 old:∀k,k<w.heap.size->tag' k=tag k
def EP:El (Option Nat) where
 k:=1
 enc c:=[.pointer (c.map (fun b=>⟨b,0,none⟩))]
 len _:=rfl
 one x u hu:=by
  simp at hu;subst hu;rfl
def Cm(w:World)(tag:Nat->Nat)(j cb:Nat)(l:List Tm):Prop:=∃v,Cz.Ch false w cb fA fT v l/\tag cb=j/\∀k,v.ownBlock=some k->tag k=j
def Hm(w:World)(tag:Nat->Nat)(j hb:Nat)(L:List Hf.It)(np:Nat):Prop:=∃v,Hf.Hq w hb fW v Hf.kf L np/\tag hb=j/\∀k,v.ownBlock=some k->tag k=j
section
variable {w w':World} {tag tag':Nat->Nat} {i j cb hb np:Nat} {l:List Tm} {L:List Hf.It}
theorem Nx.below(j:Nat)(tag:Nat->Nat)(hB:Below w.heap.size w w'):Nx j tag tag w w':=⟨Kp.of_below hB,fun _ _=>rfl⟩
theorem Nx.one(hK:Kp (fun k=>tag k=j) w w'):Nx j tag (tg tag w j) w w':=⟨hK,fun _ hk=>ak hk⟩
theorem Cm.nx(h:Cm w tag i cb l)(hn:Nx j tag tag' w w')(hij:i≠j):Cm w' tag' i cb l:=by
 obtain⟨v,h1,h2,h3⟩:=h;exact⟨v,h1.kp hn.kp (fun e=>hij (h2.symm.trans e)) (fun k hk e=>hij ((h3 k hk).symm.trans e)),(hn.old cb h1.lt).trans h2,fun k hk=>(hn.old k (h1.row k hk)).trans (h3 k hk)⟩
theorem Cm.below(h:Cm w tag i cb l)(hB:Below w.heap.size w w'):Cm w' tag i cb l:=h.nx (Nx.below (i+1) tag hB) (by omega)
theorem Hm.nx(h:Hm w tag i hb L np)(hn:Nx j tag tag' w w')(hij:i≠j):Hm w' tag' i hb L np:=by
 obtain⟨v,h1,h2,h3⟩:=h;exact⟨v,h1.kp hn.kp (fun e=>hij (h2.symm.trans e)) (fun k hk e=>hij ((h3 k hk).symm.trans e)),(hn.old hb h1.h.lt).trans h2,fun k hk=>(hn.old k (h1.h.row k hk)).trans (h3 k hk)⟩
theorem Hm.below(h:Hm w tag i hb L np)(hB:Below w.heap.size w w'):Hm w' tag i hb L np:=h.nx (Nx.below (i+1) tag hB) (by omega)
theorem Cm.insert(x:Tm)(h:Cm w tag j cb l)(hl:(l.length+1)*24<=140737488355328):
    Calls Tryz.prog 128 #[.pointer (some ⟨cb,0,none⟩),tv x] w fun e w'=>e= .returned (.bool (!bE ay l x))/\Cm w' (tg tag w j) j cb (gB ay dI l x)/\Nx j tag (tg tag w j) w w':=by
 obtain⟨v,h1,h2,h3⟩:=h;refine(Cz.jw x w h1 hl Pc.fG Pc.jI).mono ?_;rintro e w' ⟨v',rfl,q1,q2⟩;refine⟨rfl,⟨v',q1,(ak h1.lt).trans h2,fun k hk=> ?_⟩,Nx.one (q2.1.mono (fun k hk=> ?_))⟩
 ·rcases q2.2 k hk with a|a
  ·exact(ak (h1.row k a)).trans (h3 k a)
  ·exact aR a
 ·rcases hk with rfl|a
  ·exact h2
  ·exact h3 k a
theorem Cm.covers(x:Tm)(h:Cm w tag j cb l)(hl:l.length*24<=140737488355328):
    Calls Tryz.prog 131 #[.pointer (some ⟨cb,0,none⟩),tv x] w fun e w'=>e= .returned (.bool (bE ay l x))/\Gr w w':=by
 obtain⟨v,h1,_⟩:=h;exact Cz.qy x w h1 hl Pc.fG
theorem Cm.len(h:Cm w tag j cb l):
    Calls Tryz.prog 129 #[.pointer (some ⟨cb,0,none⟩)] w fun e w'=>e= .returned (.int .i64 (l.length:Nat))/\w'=w:=by
 obtain⟨v,h1,_⟩:=h;exact Pc.Cn.gQ w h1
theorem Hm.push(x:Hf.Th)(h:Hm w tag j hb L np)(hl:(L.length+1)*40<=140737488355328)(Te:np+1<18446744073709551616):
    Calls Tryz.prog 126 #[.pointer (some ⟨hb,0,none⟩),Hf.tv x] w fun e w'=>∃L',e= .returned (.tuple #[])/\Hm w' (tg tag w j) j hb L' (np+1)/\L'.Perm (L++[(x,np)])/\Nx j tag (tg tag w j) w w':=by
 obtain⟨v,h1,h2,h3⟩:=h;refine(Hf.sH x w h1 hl Te Hf.IX).mono ?_;rintro e w' ⟨v',L',rfl,q1,q2,q3⟩;refine⟨L',rfl,⟨v',q1,(ak h1.h.lt).trans h2,fun k hk=> ?_⟩,q2,Nx.one (q3.1.mono (fun k hk=> ?_))⟩
 ·rcases q3.2 k hk with a|a
  ·exact(ak (h1.h.row k a)).trans (h3 k a)
  ·exact aR a
 ·rcases hk with rfl|a
  ·exact h2
  ·exact h3 k a
theorem Hm.pop{t:Hf.It}(h:Hm w tag j hb L np)(ht:L[0]? =some t)(hl:L.length<=140737488355328):
    Calls Tryz.prog 127 #[.pointer (some ⟨hb,0,none⟩)] w fun e w'=>∃L',e= .returned (Hf.ans t.1 true)/\Hm w' (tg tag w j) j hb L' np/\(t::L').Perm L/\(∀x∈L',Hf.kf t.1<Hf.kf x.1\/(Hf.kf t.1=Hf.kf x.1/\t.2<x.2))/\Nx j tag (tg tag w j) w w':=by
 obtain⟨v,h1,h2,h3⟩:=h;refine(Hf.qU w h1 ht hl Hf.IX).mono ?_;rintro e w' ⟨v',L',rfl,q1,q2,q4,q3⟩;refine⟨L',rfl,⟨v',q1,(ak h1.h.lt).trans h2,fun k hk=> ?_⟩,q2,q4,Nx.one (q3.1.mono (fun k hk=> ?_))⟩
 ·rcases q3.2 k hk with a|a
  ·exact(ak (h1.h.row k a)).trans (h3 k a)
  ·exact aR a
 ·rcases hk with rfl|a
  ·exact h2
  ·exact h3 k a
theorem Hm.abo(h:Hm w tag j hb [] np):Calls Tryz.prog 127 #[.pointer (some ⟨hb,0,none⟩)] w fun e w'=>e= .returned (Hf.ans Hf.zt false)/\Below w.heap.size w w':=by
 obtain⟨v,h1,_⟩:=h;exact Hf.wR w h1.h
theorem hnew(w:World)(tag:Nat->Nat)(j:Nat):Calls Tryz.prog 123 #[Hf.fv fW] w fun e w'=>∃hb,e= .returned (.pointer (some ⟨hb,0,none⟩))/\w.heap.size<=hb/\Hm w' (tg tag w j) j hb [] 0/\Gr w w':=by
 refine(Hf.xe fW Hf.kf w).mono ?_;rintro e w' ⟨hb,rfl,h1,h2,h3⟩;exact⟨hb,rfl,h1,⟨_,h2,aR h1,fun k hk=>by simp[Value.ownBlock]at hk⟩,h3⟩
end
structure Lf(w0:World)(tag:Nat->Nat)(hb g n:Nat)(cs:List Nat)(rows:Nat->List Tm)(L:List Hf.It)(np:Nat)(w:World):Prop where
 bl:Below w0.heap.size w0 w
 nw:∀k,k<w0.heap.size->tag k=0
 len:cs.length=n
 lr:Ls EP w (.slice (some ⟨g,0,none⟩) n n) (cs.map some)
 lt:tag g=2
 hm:Hm w tag 1 hb L np
 ch:∀i c,cs[i]? =some c->Cm w tag (i+3) c (rows i)
section
variable {w0 w w':World} {tag tag':Nat->Nat} {hb g n np Fu:Nat} {cs:List Nat} {rows:Nat->List Tm} {L L':List Hf.It}
theorem Lf.up(h:Lf w0 tag hb g n cs rows L np w)(hn:Nx j tag tag' w w')(h0:j≠0):Below w0.heap.size w0 w'/\∀k,k<w0.heap.size->tag' k=0:=by
 refine⟨h.bl.trans (hn.kp.below h.bl.size (fun k hk=> ?_)),fun k hk=>(hn.old k (nL hk h.bl.size)).trans (h.nw k hk)⟩;refine Nat.le_of_not_lt (fun e=>h0 ?_);rw[<-hk];exact h.nw k e
theorem Lf.row(h:Lf w0 tag hb g n cs rows L np w)(hn:Nx j tag tag' w w')(h2:j≠2):Ls EP w' (.slice (some ⟨g,0,none⟩) n n) (cs.map some)/\tag' g=2:=by
 refine⟨hn.kp.ls h.lr (fun k hk e=>h2 ?_),(hn.old g (h.lr.blk g rfl)).trans h.lt⟩;have hk:g=k:=by simpa[Value.ownBlock]using hk
 rw[<-e,<-hk];exact h.lt
theorem Lf.below(h:Lf w0 tag hb g n cs rows L np w)(hB:Below w.heap.size w w'):Lf w0 tag hb g n cs rows L np w':=
 ⟨h.bl.trans (hB.mono h.bl.size),h.nw,h.len,h.lr.below hB,h.lt,h.hm.below hB,fun i c hc=>(h.ch i c hc).below hB⟩
theorem Lf.heap(h:Lf w0 tag hb g n cs rows L np w)(hm:Hm w' tag' 1 hb L' Fu)(hn:Nx 1 tag tag' w w'):Lf w0 tag' hb g n cs rows L' Fu w':=by
 obtain⟨u1,u2⟩:=h.up hn (by decide);obtain⟨r1,r2⟩:=h.row hn (by decide);exact⟨u1,u2,h.len,r1,r2,hm,fun i c hc=>(h.ch i c hc).nx hn (by omega)⟩
theorem Lf.chain{c:Nat}{l:List Tm}(h:Lf w0 tag hb g n cs rows L np w)(hc:cs[q]? =some c)(hm:Cm w' tag' (q+3) c l)(hn:Nx (q+3) tag tag' w w'):Lf w0 tag' hb g n cs (fun i=>if i=q then l else rows i) L np w':=by
 obtain⟨u1,u2⟩:=h.up hn (by omega);obtain⟨r1,r2⟩:=h.row hn (by omega);refine⟨u1,u2,h.len,r1,r2,h.hm.nx hn (by omega),fun i d hd=> ?_⟩;by_cases e:i=q
 ·subst e;rw[hc]at hd;cases hd;rw[if_pos rfl];exact hm
 ·rw[if_neg e];exact(h.ch i d hd).nx hn (by omega)
end
end Lf
namespace Lf
open Go.RowKit Go.Sort Pt
def opn(L:List Hf.It):List (Nat×ai):=L.map (fun x=>(x.1.1.toNat,x.1.2))
def JX(ss:List (List Hf.Th))(q q':Nat)(b:ai):Prop:=∃s,ss[q]? =some s/\((q':Int),b)∈s
theorem kH{L M:List Hf.It}(h:L.Perm M):∀x,x∈opn L↔x∈opn M:=fun _=>(h.map _).mem_iff
theorem Gx(L M:List Hf.It):opn (L++M)=opn L++opn M:=by simp[opn]
theorem nu(t:Hf.It)(L:List Hf.It):opn (t::L)=(t.1.1.toNat,t.1.2)::opn L:=rfl
def Rg(n:Nat)(L:List Hf.It):Prop:=∀x∈L,∃q:Nat,q<n/\x.1.1=(q:Int)
section
variable {ss:List (List Hf.Th)} {s:List Hf.Th} {p n q0:Nat} {w:ai} {rows:Nat->List ai} {R L L':List Hf.It}
theorem MM(h:Iv PX (JX ss) p rows (opn L))(hp:((((q0:Int),w),np)::R).Perm L)(hf:∀q b,(q,b)∈opn L->¬PX.lY b w)(hc:¬pV PX (rows q0) w):∃o,Iv PX (JX ss) p (dM rows q0 w) o:=by
 have h0:∀x,x∈opn L↔x=(q0,w)\/x∈opn R:=fun x=>by
  rw[<-kH hp x,nu];simp
 cases hs:ss[q0]? with
 | none=>
  refine⟨opn R,h.take bJ ((h0 _).2 (Or.inl rfl)) hf (fun x hx=>(h0 x).1 hx) (fun x hx=>(h0 x).2 (Or.inr hx)) hc (fun _ hx=>hx) (fun q c hx=>Or.inl hx) (fun q b c hst _=> ?_)⟩;obtain⟨s',e,_⟩:=hst;rw[hs]at e;cases e
 | some s=>
  refine⟨opn R++s.filterMap (fun x=>(PX.thn w x.2).bind (fun c=>if 0<=x.1 then some (x.1.toNat,c)else none)),h.take bJ ((h0 _).2 (Or.inl rfl)) hf (fun x hx=>(h0 x).1 hx) (fun x hx=>(h0 x).2 (Or.inr hx)) hc (fun _ hx=>j4.2 (Or.inl hx)) (fun q c hx=> ?_) (fun q b c hst hb=>Or.inr ?_)⟩
  ·rcases j4.1 hx with k|k
   ·exact Or.inl k
   ·obtain⟨⟨a,b⟩,h1,h2⟩:=List.mem_filterMap.1 k;obtain⟨c',h3,h4⟩:=Option.bind_eq_some_iff.1 h2;split at h4
    ·rename_i ha;cases h4;have ha:0<=a:=ha;exact Or.inr ⟨b,⟨s,hs,by simpa[Int.toNat_of_nonneg ha]using h1⟩,h3⟩
    ·cases h4
  ·obtain⟨s',e,hm⟩:=hst;rw[hs]at e;cases e;refine j4.2 (Or.inr (List.mem_filterMap.2 ⟨_,hm, ?_⟩));rw[hb];simp
structure pK(s:List Hf.Th)(n:Nat)(w:ai)(rows':Nat->List ai)(R L:List Hf.It)(k:Nat):Prop where
 sub:∀x∈opn R,x∈opn L
 new:∀q c,(q,c)∈opn L->(q,c)∈opn R\/∃b,((q:Int),b)∈s/\PX.thn w b=some c
 don:∀(j q:Nat) (b c:ai),j<k->s[j]? =some ((q:Int),b)->PX.thn w b=some c->pV PX (rows' q) c\/(q,c)∈opn L
 rg:Rg n L
 cnt:L.length<=R.length+k
theorem pK.init{rows':Nat->List ai}(hr:Rg n R):pK s n w rows' R R 0:=⟨fun _ h=>h,fun _ _ h=>Or.inl h,fun _ _ _ _ h=>absurd h (nW _),hr,nR _⟩
theorem pK.skip{rows':Nat->List ai}{b:ai}(h:pK s n w rows' R L k)(hs:s[k]? =some ((q:Int),b))(hc:∀c,PX.thn w b=some c->pV PX (rows' q) c):pK s n w rows' R L (k+1):=by
 refine⟨h.sub,h.new,fun j q' b' c hj hs' hb=> ?_,h.rg,Nat.le_succ_of_le h.cnt⟩;by_cases e:j=k
 ·subst e;rw[hs]at hs';simp only[oI,Prod.mk.injEq,Int.natCast_inj]at hs';obtain⟨rfl,rfl⟩:=hs';exact Or.inl (hc c hb)
 ·exact h.don j q' b' c (by omega) hs' hb
theorem pK.push{rows':Nat->List ai}{b c:ai}(h:pK s n w rows' R L k)(hs:s[k]? =some ((q:Int),b))(hq:q<n)(hb:PX.thn w b=some c)(hp:L'.Perm (L++[(((q:Int),c),np)])):pK s n w rows' R L' (k+1):=by
 have hm:∀x,x∈opn L'↔x∈opn L\/x=(q,c):=fun x=>by
  rw[kH hp x,Gx];simp[opn]
 refine⟨fun x hx=>(hm x).2 (Or.inl (h.sub x hx)),fun q' c' hx=> ?_,fun j q' b' c' hj hs' hb'=> ?_,fun x hx=> ?_, ?_⟩
 ·rcases(hm _).1 hx with a|a
  ·exact h.new q' c' a
  ·simp only[Prod.mk.injEq]at a;obtain⟨rfl,rfl⟩:=a;exact Or.inr ⟨b,lM hs,hb⟩
 ·by_cases e:j=k
  ·subst e;rw[hs]at hs';simp only[oI,Prod.mk.injEq,Int.natCast_inj]at hs';obtain⟨rfl,rfl⟩:=hs';rw[hb]at hb';cases hb';exact Or.inr ((hm _).2 (Or.inr rfl))
  ·exact(h.don j q' b' c' (by omega) hs' hb').imp (fun a=>a) (fun a=>(hm _).2 (Or.inl a))
 ·rcases j4.1 (hp.mem_iff.1 hx)with a|a
  ·exact h.rg x a
  ·simp only[yF]at a;subst a;exact⟨q,hq,rfl⟩
 ·rw[hp.length_eq,dO,vL];have:=h.cnt;omega
theorem pK.fin(h:Iv PX (JX ss) p rows (opn L))(hp:((((q0:Int),w),np)::R).Perm L)(hf:∀q b,(q,b)∈opn L->¬PX.lY b w)(hc:¬pV PX (rows q0) w)(hs:ss[q0]? =some s)(hi:pK s n w (dM rows q0 w) R L' s.length):Iv PX (JX ss) p (dM rows q0 w) (opn L'):=by
 have h0:∀x,x∈opn L↔x=(q0,w)\/x∈opn R:=fun x=>by
  rw[<-kH hp x,nu];simp
 refine h.take bJ ((h0 _).2 (Or.inl rfl)) hf (fun x hx=>(h0 x).1 hx) (fun x hx=>(h0 x).2 (Or.inr hx)) hc hi.sub (fun q c hx=> ?_) (fun q b c hst hb=> ?_)
 ·exact(hi.new q c hx).imp (fun a=>a) (fun⟨b,h1,h2⟩=>⟨b,⟨s,hs,h1⟩,h2⟩)
 ·obtain⟨s',e,hm⟩:=hst;rw[hs]at e;cases e;obtain⟨j,hj⟩:=iG.1 hm;exact hi.don j q b c (lG.1 hj).1 hj hb
theorem Af{t:Hf.It}(hp:(t::R).Perm L)(hk:∀x∈R,Hf.kf t.1<Hf.kf x.1\/(Hf.kf t.1=Hf.kf x.1/\t.2<x.2)):∀q b,(q,b)∈opn L->¬PX.lY b t.1.2:=by
 intro q b hm ht;rw[<-kH hp,nu]at hm;have key:∀x:Hf.It,PX.lY x.1.2 t.1.2->Hf.kf x.1<Hf.kf t.1:=fun x hx=>(Hf.Ox x.1 t.1).2 ((Pc.MI _ _).2 hx);rcases fU.1 hm with a|a
 ·simp only[Prod.mk.injEq]at a;exact bJ.qj _ (a.2 ▸ ht)
 ·obtain⟨x,h1,h2⟩:=mM.1 a;simp only[Prod.mk.injEq]at h2;have h3:=key x (by rw[h2.2];exact ht);rcases hk x h1 with h4|h4<;>omega
end
def tY(a b:ai):ai:=(bH a b).getD PX.z
theorem vX{a b c:ai}(h:bH a b=some c):tY a b=c:=by unfold tY;rw[h];rfl
theorem Rp{a b:ai}(h:¬(a.1.1+b.1.1<18446744073709551616/\a.1.2.1+b.1.2.1<18446744073709551616/\a.1.2.2+b.1.2.2<18446744073709551616)):bH a b=none:=by
 unfold bH;rw[dif_neg h]
theorem NA(k:Nat):Gt true k=k:=rfl
theorem AO(a b:ai):∃x1 x2 x3 y1 y2 y3:Nat,(a.1.1=x1/\a.1.2.1=x2/\a.1.2.2=x3)/\(b.1.1=y1/\b.1.2.1=y2/\b.1.2.2=y3)/\(x1<18446744073709551616/\x2<18446744073709551616/\x3<18446744073709551616)/\(y1<18446744073709551616/\y2<18446744073709551616/\y3<18446744073709551616)/\
    kF x1 x2 x3 y1 y2 y3=(bH a b).isSome/\((Gt (kF x1 x2 x3 y1 y2 y3) (x1+y1):Nat):Int)=(tY a b).1.1/\((Gt (kF x1 x2 x3 y1 y2 y3) (x2+y2):Nat):Int)=(tY a b).1.2.1/\((Gt (kF x1 x2 x3 y1 y2 y3) (x3+y3):Nat):Int)=(tY a b).1.2.2:=by
 obtain⟨⟨a1,a2⟩,⟨a3,a4⟩,⟨a5,a6⟩⟩:=bW a;obtain⟨⟨b1,b2⟩,⟨b3,b4⟩,⟨b5,b6⟩⟩:=bW b;obtain⟨x1,e1⟩:=Int.eq_ofNat_of_zero_le a1;obtain⟨x2,e2⟩:=Int.eq_ofNat_of_zero_le a3;obtain⟨x3,e3⟩:=Int.eq_ofNat_of_zero_le a5;obtain⟨y1,f1⟩:=Int.eq_ofNat_of_zero_le b1;obtain⟨y2,f2⟩:=Int.eq_ofNat_of_zero_le b3;obtain⟨y3,f3⟩:=Int.eq_ofNat_of_zero_le b5;refine⟨x1,x2,x3,y1,y2,y3,⟨e1,e2,e3⟩,⟨f1,f2,f3⟩,⟨by omega,by omega,by omega⟩,⟨by omega,by omega,by omega⟩, ?_⟩;by_cases h:a.1.1+b.1.1<18446744073709551616/\a.1.2.1+b.1.2.1<18446744073709551616/\a.1.2.2+b.1.2.2<18446744073709551616
 ·obtain⟨c,hc⟩:=jJ h;have hs:=bz hc;have hp:kF x1 x2 x3 y1 y2 y3=true:=by
   unfold kF;rw[decide_eq_true (by omega),decide_eq_true (by omega),decide_eq_true (by omega)];rfl
  rw[vX hc,hc,hp,NA,NA,NA,hs.1,hs.2.1,hs.2.2,e1,e2,e3,f1,f2,f3];exact⟨rfl,by simp,by simp,by simp⟩
 ·have hc:=Rp h;have hp:kF x1 x2 x3 y1 y2 y3=false:=by
   cases k:kF x1 x2 x3 y1 y2 y3 with
   | false => rfl
   | true=>
    unfold kF at k;rw[bA,bA,dE,dE,dE]at k;exact absurd ⟨by omega,by omega,by omega⟩ h
  unfold tY;rw[hc,hp];exact⟨rfl,rfl,rfl,rfl⟩
theorem MJ(a b:ai)(w:World):Calls Tryz.prog 130 #[tv a,tv b] w fun e w'=>e= .returned (.tuple #[tv (tY a b), .bool (bH a b).isSome])/\Below w.heap.size w w':=by
 obtain⟨x1,x2,x3,y1,y2,y3,⟨e1,e2,e3⟩,⟨f1,f2,f3⟩,⟨g1,g2,g3⟩,⟨h1,h2,h3⟩,k0,k1,k2,k3⟩:=AO a b;have h:=Qn x1 x2 x3 y1 y2 y3 w g1 g2 g3 h1 h2 h3;rw[k1,k2,k3,k0]at h;unfold tv;rw[e1,e2,e3,f1,f2,f3];exact h
theorem Er(l:List (Option Nat)):fl EP l=l.map (fun c=>Value.pointer (c.map (fun b=>⟨b,0,none⟩))):=by
 induction l with
 | nil => rfl
 | cons a l ih => rw[aO,ih];rfl
theorem KR(l:List (Option Nat))(i:Nat)(c:Nat):(fl EP l).set i (.pointer (some ⟨c,0,none⟩))=fl EP (l.set i (some c)):=by
 rw[Er,Er,List.map_set];rfl
theorem PK(cs:List Nat)(n c:Nat)(h:cs.length<n):(cs.map some++List.replicate (n-cs.length) none).set cs.length (some c)=(cs++[c]).map some++List.replicate (n-(cs++[c]).length) none:=by
 obtain⟨m,rfl⟩:∃m,n=cs.length+(m+1):=⟨n-cs.length-1,by omega⟩;rw[List.set_append_right _ _ (by simp),gK,Nat.sub_self,show cs.length+(m+1)-cs.length=m+1 by omega,List.replicate_succ,List.set_cons_zero,dO,vL,show cs.length+(m+1)-(cs.length+1)=m by omega];simp
structure QE(w0:World)(tag:Nat->Nat)(g n:Nat)(cs:List Nat)(w:World):Prop where
 bl:Below w0.heap.size w0 w
 nw:∀k,k<w0.heap.size->tag k=0
 le:cs.length<=n
 ro:w.ownsRow 0 218 1 (.slice (some ⟨g,0,none⟩) n n) n (fl EP (cs.map some++List.replicate (n-cs.length) none))
 lt:tag g=2
 ch:∀i c,cs[i]? =some c->Cm w tag (i+3) c []
section
variable {w0 w w':World} {tag:Nat->Nat} {g n:Nat} {cs:List Nat}
theorem QE.gl(h:QE w0 tag g n cs w):g<w.heap.size:=(h.ro.lt g rfl).2
theorem QE.cell(h:QE w0 tag g n cs w)(hlt:cs.length<n)(hg:Gr w w'):w'.cell? ⟨g,cs.length,none⟩=some (.pointer none):=by
 have hl:(cs.map some++List.replicate (n-cs.length) none).length=n:=by simp;omega
 have hls:Ls EP w' (.slice (some ⟨g,0,none⟩) n n) (cs.map some++List.replicate (n-cs.length) none):=aH (E:=EP) (by rw[hl];exact ag h.ro hg.below);obtain⟨b,off,c,e,hb,hc⟩:=hls.get (j:=cs.length) (t:=none) (by rw[Vv (by simp),List.getElem?_replicate,if_pos (by simp;omega)]);simp only[vS,oI,aI,and_true]at e;obtain⟨⟨rfl,rfl⟩,-,-⟩:=e;simpa[EP]using hc 0 _ (by decide) rfl
theorem QE.step(h:QE w0 tag g n cs w)(hlt:cs.length<n)(hC:Cz.Ch false w' w.heap.size fA fT (.slice none 0 0) [])(hg:Gr w w') :
    QE w0 (tg tag w (cs.length+3)) g n (cs++[w.heap.size]) (w'.setCell ⟨g,cs.length,none⟩ (.pointer (some ⟨w.heap.size,0,none⟩))):=by
 obtain⟨o1,k1⟩:=Hf.bZ (q:=cs.length) (.pointer (some ⟨w.heap.size,0,none⟩)) (ag h.ro hg.below);rw[KR,PK cs n _ hlt]at o1;have hgt:tg tag w (cs.length+3) g=2:=(ak h.gl).trans h.lt;have n1:Nx 1 tag (tg tag w (cs.length+3)) w w':=⟨Kp.aX hg,fun _ hk=>ak hk⟩;have n2:Nx 2 (tg tag w (cs.length+3)) (tg tag w (cs.length+3)) w' (w'.setCell ⟨g,cs.length,none⟩ (.pointer (some ⟨w.heap.size,0,none⟩))):=⟨k1.mono (fun k hk=>by rw[hk];exact hgt),fun _ _=>rfl⟩;have hg0:w0.heap.size<=g:=Nat.le_of_not_lt (fun e=>by have:=h.nw g e;rw[h.lt]at this;cases this);refine⟨(h.bl.trans (hg.below.mono h.bl.size)).trans (k1.below (nT h.bl.size hg.size) (fun k hk=>by rw[hk];exact hg0)),fun k hk=>(ak (nL hk h.bl.size)).trans (h.nw k hk), ?_,o1,hgt,fun i c hc=> ?_⟩
 ·rw[dO,vL];omega
 ·rw[List.getElem?_append]at hc;split at hc
  ·exact((h.ch i c hc).nx n1 (by omega)).nx n2 (by omega)
  ·rename_i hi;have e:i=cs.length:=by
    rw[lG]at hc;obtain⟨h1,_⟩:=hc;simp at h1;omega
   subst e;rw[Nat.sub_self]at hc;cases hc;exact Cm.nx ⟨_,hC,aR (nR _),fun k hk=>by simp[Value.ownBlock]at hk⟩ n2 (by omega)
theorem QE.done{tag':Nat->Nat}{L:List Hf.It}(h:QE w0 tag g n cs w)(hn:cs.length=n)(hx:Nx 1 tag tag' w w')(hm:Hm w' tag' 1 hb L np):Lf w0 tag' hb g n cs (fun _=>[]) L np w':=by
 have hro:=h.ro;rw[hn,Nat.sub_self,List.replicate_zero,FP]at hro;have hls:Ls EP w (.slice (some ⟨g,0,none⟩) n n) (cs.map some):=aH (E:=EP) (by rw[gK,hn];exact hro);refine⟨h.bl.trans (hx.kp.below h.bl.size (fun k hk=>Nat.le_of_not_lt (fun e=>by have:=h.nw k e;rw[hk]at this;cases this))),fun k hk=>(hx.old k (nL hk h.bl.size)).trans (h.nw k hk),hn,hx.kp.ls hls (fun k hk e=> ?_),(hx.old g h.gl).trans h.lt,hm,fun i c hc=>(h.ch i c hc).nx hx (by omega)⟩;have hk:g=k:=by simpa[Value.ownBlock]using hk
 rw[<-hk,h.lt]at e;cases e
end
end Lf
namespace Df
open Go.RowKit Go.Sort
attribute[local go_sem ↓]wp_at_zero wp_at_succ
theorem jm{B gb:Nat}{g:bD}(w:World)(h:Gm B w gb g)(j5:gY g):Calls Tryz.prog 72 #[.pointer (some ⟨gb,0,none⟩)] w (Od w (ig g).length (ig g)):=by
 have hs:=dA w h j5;have iM:=hid j5;clear h j5;go_enter Tryz.func72,Tryz.ntmps72;go_wp2_with fail;refine hs.mono ?_;clear hs;rintro r w1 ⟨v,rfl,H1⟩;have ho:=DD w1 H1.o.2 (Dk iM.o).1 (Dk iM.o).2;go_wp2_with fail;refine ho.mono ?_;clear ho;rintro r w2 ⟨hb,hr⟩;have hbb:=H1.o.1.trans (hb.mono H1.o.1.size);rcases hr with⟨e,rfl⟩|⟨o,f,d,e,rfl,hrow⟩
 ·have FIN:Hid (Od w (ig g).length (ig g) (.returned (.tuple #[.slice none 0 0, .int .i64 27])) w2):=⟨hbb,Or.inl ⟨e,rfl⟩⟩;clear e hb hbb;go_wp2_with fail;refine bR (v:= .tuple #[.slice none 0 0, .int .i64 27]) (by simp[results,Tryz.results72,go_sem]) rfl ?_;exact FIN.o
 ·obtain⟨q,m,c,rfl⟩:=aB hrow;have FIN:Hid (Od w (ig g).length (ig g) (.returned (.tuple #[.slice q m c, .int .i64 0])) w2):=⟨hbb,Or.inr ⟨o,f,_,e,rfl,aL hrow H1.o.1.size⟩⟩;clear e hb hbb hrow;go_wp2_with fail;refine bR (v:= .tuple #[.slice q m c, .int .i64 0]) (by simp[results,Tryz.results72,go_sem]) rfl ?_;exact FIN.o
end Df
end Go.Proofs.YtiiefcalkjeieaaGreat
