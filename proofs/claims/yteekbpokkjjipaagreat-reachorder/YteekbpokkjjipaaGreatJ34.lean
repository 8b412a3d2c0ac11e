import Derived.Test.YteekbpokkjjipaaGreatJ33
variable{w wr w':Go.World}{i cb S n q m j rb:Nat}{v va vb:Go.Value}{p:Option Go.Addr}{tag:Nat->Nat}
set_option maxHeartbeats 8000000
set_option maxRecDepth 100000
namespace Go.Proofs.YteekbpokkjjipaaGreat
namespace Rc
open Go.RowKit Go.Sort Go.Maps Pt Hc
open Df (aO)
attribute[local go_sem ↓]wp_at_zero wp_at_succ
theorem Fj{ops:Array Oper}{rest:List Oper}{o:Oper}{a:Act}{Q:Exit->Act->World->Prop}(hgd:o.guard=none)(s x:Operand)
    (ho:o.op= .call { callee:= .builtin .append,args:=#[s,x],argTypes:=#[26,26] })
    (base:Nat) (v:Value) (n:Nat) (xs:List Value) (hs:a.eval s=v) (hown:w.ownsRow base 49 5 v n xs) (hbase:base<=w.heap.size)
    (y:Th) (cs:Array Value) (hcs:cs.toList=EC.enc y) (hx:a.eval x= .slice (some ⟨w.heap.size,0,none⟩) 1 1) (hbig:(n+1)*40<=140737488355328)
    (h:∀g cap w',Hid (w'.ownsRow base 49 5 (.slice (some ⟨g,0,none⟩) (n+1) cap) (n+1) (xs++EC.enc y))->Hid (Kp (fun q=>v.ownBlock=some q) w w')->Hid (v.ownBlock=some g\/w.heap.size<=g)->wpList Tryz.prog ops Q rest (a.put o.dst (.slice (some ⟨g,0,none⟩) (n+1) cap)) w') :
    wpList Tryz.prog ops Q (o::rest) a (w.alloc (.cells cs 49)):=by
 obtain⟨i0,hi,hz0,hz1,hz2⟩:=info_parts Rs.wX;refine wpList_append_lies _ hgd s x _ ho base 49 i0 _ 5 40 Tryz.underlying26 hi hz0 hz1 hz2 rfl (by decide) v n xs hs (hown.alloc _) ⟨w.heap.size,0,none⟩ 1 1 (EC.enc y) hx rfl (by have:=World.news_of_block (ai w (.cells cs 49));rw[hcs]at this;exact this) (EC.one y) (by decide) (by unfold maxLen;omega) hbig (by simp;omega) _ rfl ?_;intro g cap w' h1 h2 h3 _;refine h g cap w' h1 ⟨h2.os,h2.tape,h2.output,nT (by simp) h2.size,fun k hk hne=>(h2.block k (by simp;omega) (fun e=>hne e.symm)).trans ((World.grownBy_alloc w _ none).block k hk (by simp))⟩ ?_;rcases h3 with h3|h3
 ·exact Or.inl h3
 ·right;rw[h3];simp
def only(i:Nat)(tag:Nat->Nat)(k:Nat):Nat:=if tag k=0\/(i*8589934592<tag k/\tag k<i*8589934592+8589934592)then tag k else 5
theorem NB(hi:1<=i)(tag:Nat->Nat)(k:Nat):loc i (only i tag) k=loc i tag k:=by
 by_cases h:tag k=0\/(i*8589934592<tag k/\tag k<i*8589934592+8589934592)
 ·have e:only i tag k=tag k:=if_pos h;unfold loc;rw[e]
 ·have e:only i tag k=5:=if_neg h;rw[Bc (by rw[e];decide) (fun z=>by have:=z.1;rw[e]at this;omega),Bc (fun z=>h (.inl z)) (fun z=>h (.inr z))]
theorem Nc(hj:1<=j)(hij:i≠j)(tag:Nat->Nat)(k:Nat):¬gW j (only i tag) k:=by
 intro z;obtain⟨z1,z2⟩:=z;unfold only at z1 z2;split at z1
 ·rename_i h;rw[if_pos h]at z2;rcases h with h|h<;>omega
 ·omega
section
variable {i:Nat} {w:World} {tag:Nat->Nat} {rb:Nat} {g:Df.bD} {R:Nat->Nat->List ah} {c:Nat->ah->Int} {K O:Nat->List ah} {C:Nat->ah->Int} {F:Nat->List ah} {U:List Th}
theorem RG.only(h:RG i w tag rb g R c K O C F U)(hi:1<=i):RG i w (only i tag) rb g R c K O C F U:=
 ⟨h.q.retag fun k e=>by rw[NB hi],h.ev,h.kt,h.ul⟩
end
def qh(g:Df.bD)(x:Th):Prop:=gB (aO g.nodes) g.arity [x]=0/\-999<=x.2.2/\x.2.2<=999
def Cj(w wr:World)(cb:Nat)(g:Df.bD)(R:Nat->Nat->List ah)(S:Nat)(p:Option Addr)(n q:Nat)(out:List Th)(m:Nat):Prop:=
 Below w.heap.size w wr/\out.length=n/\n<=m/\m<=40/\(∀x∈out,qh g x)/\wr.ownsRow w.heap.size 49 5 (.slice p n q) n (fl EC out)/\
  ∃tag c K O C F U,RG 9 wr tag cb g R c K O C F U/\sN (fun p=>(K p).length) (List.range (aO g.nodes))<=S+m/\(∀k,k<wr.heap.size->gW 9 tag k->w.heap.size<=k)/\(∀k,(Value.slice p n q).ownBlock=some k->tag k=5)
theorem Cj.below{g:Df.bD}{R:Nat->Nat->List ah}{out:List Th}(h:Cj w wr cb g R S p n q out m)(hk:Gk g R)(hb:Below wr.heap.size wr w'):Cj w w' cb g R S p n q out m:=by
 obtain⟨h1,h2,h3,h4,h5,h6,tag,c,K,O,C,F,U,h7,h8,h9,h10⟩:=h;refine⟨h1.trans (hb.mono h1.size),h2,h3,h4,h5,ag h6 hb,tg tag wr 5,c,K,O,C,F,U,h7.below hk hb (fun k hk=>aj hk),h8,fun k hk e=> ?_,fun k e=> ?_⟩
 ·by_cases z:k<wr.heap.size
  ·unfold gW at e;rw[aj z]at e;exact h9 k z e
  ·have:=h1.size;omega
 ·rw[aj (h6.lt k e).2];exact h10 k e
theorem QE(z:Int): -999<=Int.tmod z 1000/\Int.tmod z 1000<=999:=by
 have h1:=Int.tmod_lt_of_pos z (show(0:Int)<1000 by decide);have h2:=Int.lt_tmod_of_pos z (show(0:Int)<1000 by decide);omega
theorem KM{N:Nat}{ar:Int}{c:Nat->ah->Int}{l:List Th}(h:jb N ar c l=0):gB N ar l=0:=by
 unfold jb at h;by_cases e:gB N ar l=0
 ·exact e
 ·rw[if_pos e]at h;exact h
theorem Cj.ask{g:Df.bD}{R:Nat->Nat->List ah}{out:List Th}(h:Cj w wr cb g R S p n q out m)(hk:Gk g R)(hS:S<=6960)(hm:m<40)(y:Th)(hy: -999<=y.2.2/\y.2.2<=999)(W7:World)(hb:Below wr.heap.size wr W7)(b8:Nat)(dM:wr.heap.size<=b8)(hc:W7.heap[b8]? =some (.cells (cc y) 49 (0,0)))(v:Value)(hv:Ls EC W7 v [y]):
    Calls Tryz.prog 10 #[.pointer (some ⟨cb,0,none⟩),v] W7 fun e w'=>∃z,e= .returned (.int .i64 z)/\Hid (Cj w w' cb g R S p n q out (m+1)/\(z=0->qh g y)/\w'.heap[b8]? =some (.cells (cc y) 49 (0,0))):=by
 obtain⟨h1,h2,h3,h4,h5,h6,tag,c,K,O,C,F,U,h7,h8,h9,h10⟩:=h;have hbs:=hb.size;have hws:=h1.size;have hl8:b8<W7.heap.size:=ae hc;obtain⟨t7,Qe⟩:=aD (tg tag wr 6);have o7:∀k,k<wr.heap.size->t7 k=tag k:=fun k hk=>by rw[Qe];exact aj hk
 have n7:∀k,wr.heap.size<=k->t7 k=6:=fun k hk=>by rw[Qe];exact aR hk
 have e7:∀k,gW 9 t7 k->w.heap.size<=k:=fun k e=>by
  by_cases z:k<wr.heap.size
  ·have e2:gW 9 tag k:=(by unfold gW at e⊢;rw[o7 k z]at e;exact e);exact h9 k z e2
  ·omega
 have s7:∀k,(Value.slice p n q).ownBlock=some k->t7 k=5:=fun k e=>by rw[o7 k (h6.lt k e).2];exact h10 k e
 have hR:=h7.below hk hb o7;refine(hR.change hk [y] v hv (by simp only[lS];omega)).mono ?_;rintro e w' ⟨rfl,hc0⟩;obtain⟨t',f1,f2,f3⟩:=hc0.o;refine⟨_,rfl,⟨(h1.trans (hb.mono h1.size)).trans (f2.below (nT hws hbs) e7),h2,by omega,by omega,h5,ax f2 (ag h6 hb) fun k e z=> ?_, ?_⟩,fun z=>⟨KM z,hy⟩,(f2.block b8 hl8 fun z=> ?_).trans hc⟩
 ·have:=z.1;rw[s7 k e]at this;omega
 ·have g1:∀k,k<w'.heap.size->gW 9 t' k->w.heap.size<=k:=fun k _ e=>by
    by_cases z:k<W7.heap.size
    ·have e2:gW 9 t7 k:=(by unfold gW at e⊢;rw[f1 k z]at e;exact e);exact e7 k e2
    ·omega
  have g2:∀k,(Value.slice p n q).ownBlock=some k->t' k=5:=fun k e=>by
   rw[f1 k (by have:=(h6.lt k e).2;omega)];exact s7 k e
  rcases f3 with⟨_,_,f4⟩|⟨_,On,Cn,Fn,f4⟩
  ·exact⟨t',c,K,O,C,F,U,f4,by omega,g1,g2⟩
  ·refine⟨t',_,_,On,Cn,Fn,_,f4, ?_,g1,g2⟩;have:=Be (N:=aO g.nodes) (K:=K) (l:=[y]);simp only[lS]at this;omega
 ·have:=z.1;rw[n7 b8 dM]at this;omega
theorem Cj.push{w9:World}{g:Df.bD}{R:Nat->Nat->List ah}{out:List Th}(h:Cj w wr cb g R S p n q out (m+1))(hn:n<=m)(hk:Gk g R){y:Th}(hy:qh g y){g8 cap:Nat}(h8:w9.ownsRow w.heap.size 49 5 (.slice (some ⟨g8,0,none⟩) (n+1) cap) (n+1) (fl EC out++EC.enc y))(k8:Kp (fun k=>(Value.slice p n q).ownBlock=some k) wr w9)(n8:(Value.slice p n q).ownBlock=some g8\/wr.heap.size<=g8):Cj w w9 cb g R S (some ⟨g8,0,none⟩) (n+1) cap (out++[y]) (m+1):=by
 obtain⟨h1,h2,h3,h4,h5,h6,tag,c,K,O,C,F,U,h7,h8',h9,h10⟩:=h;have hws:=h1.size;refine⟨h1.trans (k8.below h1.size fun k e=>(h6.lt k e).1),by rw[dK,h2];rfl,by omega,h4,fun x hx=> ?_,aS h8 rfl (by rw[aT,dx]),tg tag wr 5,c,K,O,C,F,U,h7.keep hk k8 (fun k _ e=> ?_) (fun k hk=>aj hk),h8',fun k _ e=> ?_,fun k e=> ?_⟩
 ·rcases j3.1 hx with hx|hx
  ·exact h5 x hx
  ·rw[vF]at hx;rw[hx];exact hy
 ·have e2:=h10 k e;refine⟨by omega,fun z=> ?_⟩;have:=z.1;omega
 ·by_cases z:k<wr.heap.size
  ·have e2:gW 9 tag k:=(by unfold gW at e⊢;rw[aj z]at e;exact e);exact h9 k z e2
  ·omega
 ·have e2:k=g8:=by simpa[Value.ownBlock]using e.symm
  subst e2;rcases n8 with n8|n8
  ·rw[aj (h6.lt k n8).2];exact h10 k n8
  ·exact aR n8
theorem Cj.start{w1:World}{g:Df.bD}{R:Nat->Nat->List ah}{c:Nat->ah->Int}{K O:Nat->List ah}{C:Nat->ah->Int}{F:Nat->List ah}{U:List Th}(hi9:i≠9)(hc:CpG i 9 w (only i tag) rb cb g R c K O C F U w1):Cj w w1 cb g R (sN (fun p=>(K p).length) (List.range (aO g.nodes))) none 0 0 [] 0:=by
 obtain⟨t',h1,h2,_,_,h5⟩:=hc;refine⟨h2,rfl,nR _,by omega,(fun x hx=>by cases hx),oN _ _ _ _,t',c,K,O,C,F,U,h5,nR _,fun k _ e=> ?_,(fun k e=>by cases e)⟩;by_cases z:k<w.heap.size
 ·have e2:gW 9 (only i tag) k:=by unfold gW at e⊢;rw[h1 k z]at e;exact e
  exact absurd e2 (Nc (by decide) hi9 tag k)
 ·omega
def Lw(w:World)(v:Value)(l:List Th):Prop:=Ls EC w v l\/(l=[]/\∃p c,v= .slice p 0 c)
theorem Lw.form{l:List Th}(h:Lw w v l):∃p c,v= .slice p l.length c:=by
 rcases h with h|⟨rfl,p,c,rfl⟩
 ·exact h.form
 ·exact⟨p,c,rfl⟩
theorem Lw.below{l:List Th}(h:Lw w v l)(hb:Below w.heap.size w w'):Lw w' v l:=h.imp (fun h=>h.below hb) fun h=>h
theorem Lw.ls{l:List Th}(h:Lw w v l){x:Th}(hj:l[j]? =some x):Ls EC w v l:=by
 rcases h with h|⟨rfl,_⟩
 ·exact h
 ·cases hj
def TaR(w:World)(g:Df.bD)(p:Option Addr)(n q:Nat)(w':World):Prop:=Below w.heap.size w w'/\∃out,out.length=n/\n<=40/\(∀x∈out,qh g x)/\w'.ownsRow w.heap.size 49 5 (.slice p n q) n (fl EC out)
theorem Me(w:World){g:Df.bD}{R:Nat->Nat->List ah}{c:Nat->ah->Int}{K O:Nat->List ah}{C:Nat->ah->Int}{F:Nat->List ah}{U:List Th}(h:RG i w tag rb g R c K O C F U)(hi:1<=i)(hi9:i≠9)(hk:Gk g R)(hS:sN (fun p=>(K p).length) (List.range (aO g.nodes))<=6960){l:List Th}(hv:Lw w v l)(hl:l.length*40<=140737488355328):
    Calls Tryz.prog 9 #[.pointer (some ⟨rb,0,none⟩),v] w fun e w'=>∃p n q,e= .returned (.slice p n q)/\Hid (TaR w g p n q w'):=by
 have HCP:=hid ((h.only hi).copy hk 9);have HK:=hid hk;have vD:=hid hl;obtain⟨pl,cl,rfl⟩:=hv.form;have HL:Hid (∀W,Below w.heap.size w W->Lw W (.slice pl l.length cl) l):=fun W hb=>hv.below hb;obtain⟨S,hSe⟩:=aD (sN (fun p=>(K p).length) (List.range (aO g.nodes)));rw[<-hSe]at hS;have HS:=hid hS;have HST:Hid (∀w1 cb,CpG i 9 w (Rc.only i tag) rb cb g R c K O C F U w1->Cj w w1 cb g R S none 0 0 [] 0):=fun w1 cb hc=>by
  rw[hSe];exact Cj.start hi9 hc
 clear h hi hi9 hk hS hv hl hSe;go_enter Tryz.func9,Tryz.ntmps9;go_wp2_with fail;refine HCP.o.mono ?_;clear HCP;rintro e w1 ⟨cb,rfl,hc⟩;have H1:=hid (HST.o w1 cb hc.o);clear hc HST;obtain⟨nl,hnl⟩:=aD (l.length);rw[<-hnl]at HL vD;have HN:=hid hnl;clear hnl;rw[<-HN.o];go_wp2_with fail;go_loopw [5,13] (fun s5 s13 wr=>∃(k:Nat) (p:Option Addr) (n q:Nat) (out:List Th),k<=nl/\s5= .slice p n q/\s13= .int .i64 (k:Nat)/\Hid (Cj w wr cb g R S p n q out (min k 40))) (fun _ s13 _=>nl-(intOf s13).toNat);case atStart=>exact⟨0,none,0,0,[],zL _,rfl,rfl,H1.o⟩
 case round=>
  obtain⟨k,p,n,q,out,hk,rfl,rfl,HI⟩:=hrel;have hk0:(0:Int)<=(k:Int):=by omega
  have hnb:nl<=3518437208884:=by have:=vD.o;omega
  by_cases hlt:k<nl
  ·have hltz:(k:Int)<(nl:Int):=(by omega);obtain⟨x,hx⟩:∃x,l[k]? =some x:=⟨l[k]'(by have:=HN.o;omega),by simp⟩;obtain⟨b1,o1,q1,fO,z1,x0,x1,x2,x3,x4⟩:=sw (show Ls EC wr (.slice pl nl cl) l from(HL.o wr HI.o.1).ls hx) hx;simp only[vS]at fO;obtain⟨rfl,-,-⟩:=fO;clear hx;obtain⟨y,hy⟩:∃y:Th,y=(x.1,x.2.1,Int.tmod x.2.2 1000):=⟨_,rfl⟩;obtain⟨b8,dM⟩:=aD (wr.heap.size);obtain⟨W5,bV⟩:=aD (wr.alloc (.cells (cc x) 49));have P5:Hid (Below wr.heap.size wr W5/\W5.heap[b8]? =some (.cells (cc x) 49 (0,0))/\wr.heap.size<=b8):=by
    rw[bV,dM];exact⟨((Gr.refl wr).alloc _).below,ai _ _,nR _⟩
   have gU:Hid (wr.alloc (.cells #[.int .i64 x.1, .int .u64 x.2.1.1.1, .int .u64 x.2.1.1.2.1, .int .u64 x.2.1.1.2.2, .int .i64 x.2.2] 49)=W5/\wr.heap.size=b8):=⟨bV.symm,dM.symm⟩;clear bV dM;go_upto_region 6 with fail;rw[gU.o.1,gU.o.2];clear gU x0 x1 x2 x3 x4 z1;have c5:=(aa P5.o.2.1).1;have f5:=(aa P5.o.2.1).2;have l5:=ae P5.o.2.1;obtain⟨W6,OL⟩:=aD (W5.setCell ⟨b8,4,none⟩ (.int .i64 (Int.tmod x.2.2 1000)));have P6:Hid (Below wr.heap.size wr W6/\W6.heap[b8]? =some (.cells (cc y) 49 (0,0))/\wr.heap.size<=b8):=by
    obtain⟨q1,k1⟩:=Df.bE P5.o.2.1 4 (.int .i64 (Int.tmod x.2.2 1000));rw[<-OL]at q1 k1;refine⟨P5.o.1.trans (k1.below P5.o.1.size fun k hk=>by rw[hk];exact P5.o.2.2), ?_,P5.o.2.2⟩;rw[q1,hy];rfl
   have HY:Hid (-999<=y.2.2/\y.2.2<=999):=by
    rw[hy];exact QE x.2.2
   clear hy;go_upto_region 7 with fail;rw[<-OL];clear OL P5 c5 f5 l5;have c6:=(aa P6.o.2.1).1;have l6:=ae P6.o.2.1;by_cases h40:k<40
   ·have abC:(k:Int)<40:=(by omega);have hmn:min k 40=k:=(by omega);rw[hmn]at HI;obtain⟨W7,WW⟩:=aD (W6.alloc (.cells (cc y) 49));obtain⟨b7,Qg⟩:=aD (W6.heap.size);have HAK:Hid (Calls Tryz.prog 10 #[.pointer (some ⟨cb,0,none⟩), .slice (some ⟨b7,0,none⟩) 1 1] W7 fun e w'=>∃z,e= .returned (.int .i64 z)/\Hid (Cj w w' cb g R S p n q out (k+1)/\(z=0->qh g y)/\w'.heap[b8]? =some (.cells (cc y) 49 (0,0)))):=by
     have g7:=((Gr.refl W6).alloc (.cells (cc y) 49)).below;have hl:=uZ W6 y;rw[<-WW]at g7 hl;rw[<-Qg]at hl;exact HI.o.ask HK.o HS.o h40 y HY.o W7 (P6.o.1.trans (g7.mono P6.o.1.size)) b8 P6.o.2.2 ((g7.block b8 l6).trans P6.o.2.1) _ hl
    have X8:Hid (W6.alloc (.cells #[.int .i64 y.1, .int .u64 y.2.1.1.1, .int .u64 y.2.1.1.2.1, .int .u64 y.2.1.1.2.2, .int .i64 y.2.2] 49)=W7/\W6.heap.size=b7):=⟨WW.symm,Qg.symm⟩;have HNK:Hid (n<=k):=HI.o.2.2.1;clear WW Qg HI;go_wp2_with fail;rw[X8.o.1,X8.o.2];refine HAK.o.mono ?_;clear HAK X8 c6 l6 P6;rintro e w8 ⟨z,rfl,h8⟩;have H8:=hid h8.o;clear h8;have c8:=(aa H8.o.2.2).1;have l8:=ae H8.o.2.2;by_cases hz:z=0
    ·subst hz;have HT:=hid (H8.o.2.1 rfl);go_wp2_with (at_builtin;refine Fj rfl _ _ rfl w.heap.size (.slice p n q) n (fl EC out) rfl H8.o.1.2.2.2.2.2.1 H8.o.1.1.size y (cc y) rfl rfl (by have:=HNK.o;omega) ?_);intro g9 Hz w9 h9 k9 n9;have FIN:Hid (Cj w w9 cb g R S (some ⟨g9,0,none⟩) (n+1) Hz (out++[y]) (min (k+1) 40)):=by
      rw[show min (k+1) 40=k+1 by omega];exact H8.o.1.push HNK.o HK.o HT.o h9.o k9.o n9.o
     clear h9 k9 n9 H8 HT c8 l8;generalize hnn:n+1=nn at FIN⊢;go_wp2_with fail;go_roundw;case rel=>exact⟨k+1,some ⟨g9,0,none⟩,nn,Hz,_,by omega,rfl,by go_num,FIN.o⟩
     case measure=>simp[intOf];omega
    ·have FIN:Hid (Cj w w8 cb g R S p n q out (min (k+1) 40)):=by
       rw[show min (k+1) 40=k+1 by omega];exact H8.o.1
     go_wp2_with fail;go_roundw;case rel=>exact⟨k+1,p,n,q,out,by omega,rfl,by go_num,FIN.o⟩
     case measure=>simp[intOf];omega
   ·have abC:¬(k:Int)<40:=(by omega);have FIN:Hid (Cj w W6 cb g R S p n q out (min (k+1) 40)):=by
     have h:=HI.o.below HK.o P6.o.1;rw[show min (k+1) 40=min k 40 by omega];exact h
    go_wp2_with fail;go_roundw;case rel=>exact⟨k+1,p,n,q,out,by omega,rfl,by go_num,FIN.o⟩
    case measure=>simp[intOf];omega
  ·have hltz:¬(k:Int)<(nl:Int):=(by omega);have FIN:Hid (TaR w g p n q wr):=by
    obtain⟨a1,a2,a3,a4,a5,a6,_⟩:=HI.o;exact⟨a1,out,a2,by omega,a5,a6⟩
   clear HI;go_wp2_with fail;go_ret;exact⟨p,n,q,rfl,FIN⟩
end Rc
namespace Rc
open Go.RowKit Go.Sort Go.Maps Pt Hc
attribute[local go_sem ↓]wp_at_zero wp_at_succ
theorem Pg(x:Th)(W:World):Sem.run Tryz.prog (Op.equalIn 10000 49 (.agg #[.int .i64 x.1, .int .u64 x.2.1.1.1, .int .u64 x.2.1.1.2.1, .int .u64 x.2.1.1.2.2, .int .i64 x.2.2]) (.agg #[.int .i64 x.1, .int .u64 x.2.1.1.1, .int .u64 x.2.1.1.2.1, .int .u64 x.2.1.1.2.2, .int .i64 x.2.2])) W= .ok true W:=by
 have u4:=Tryz.underlying2;have a4:=Tryz.isAgg2;have z4:=Tryz.sizeOf2;have a5:=Tryz.isAgg47;have z5:=Tryz.sizeOf47;have hP:=Rs.qM 9996;have hS:Tryz.prog.underlying 49=some (.struct (Tryz.prog.fieldsOf 49)):=by kernel_rfl
 have hp:Tryz.prog.stoodInHeld 49=false:=by kernel_rfl
 have ht:pR x.2.1.1.1 x.2.1.1.2.1 x.2.1.1.2.2 x.2.1.1.1 x.2.1.1.2.1 x.2.1.1.2.2=true:=(nX _ _ _ _ _ _).2 ⟨rfl,rfl,rfl⟩;rw[show(10000:Nat)=9999+1 from rfl,run_equalIn_agg W 9999 49 _ _ hS hp];simp only[Program.fieldsOf,Tryz.underlying49];go_simp
theorem Az(w:World){l:List ah}(hA:Ls ET w va l)(hB:Ls ET w vb l)(hl:l.length<=1000000000):Calls Tryz.prog 24 #[va,vb] w fun e w'=>e= .returned (.bool true)/\Below w.heap.size w w':=by
 have hmx:Tryz.prog.follows .mixedOrders=true:=by kernel_rfl
 obtain⟨pa,ca,rfl⟩:=hA.form;obtain⟨pb,cb,rfl⟩:=hB.form;have HA:=hid hA;have HB:=hid hB;obtain⟨n,hn⟩:=aD (l.length);have HN:=hid hn;rw[<-hn]at hl HA HB⊢;clear hA hB hn;go_enter Tryz.func24,Tryz.ntmps24;go_wp2_with fail;go_loopw [13] (fun s13 wv=>∃i:Nat,i<=n/\s13= .int .i64 (i:Nat)/\Hid (Below w.heap.size w wv)) (fun s13 _=>n-(intOf s13).toNat);case atStart=>exact⟨0,zL _,rfl,Below.refl _ _⟩
 case round=>
  obtain⟨i,hi,rfl,HI⟩:=hrel;rename World=>wv;have hi0:(0:Int)<=(i:Int):=by omega
  by_cases hil:i<n
  ·have hiz:(i:Int)<(n:Int):=(by omega);obtain⟨x,hx⟩:∃x,l[i]? =some x:=⟨l[i]'(by have:=HN.o;omega),by simp⟩;have HX:=hid hx;obtain⟨b1,o1,q1,fO,-⟩:=Ls.at3 (HA.o.below HI.o) hx;simp only[vS]at fO;obtain⟨rfl,-,-⟩:=fO;obtain⟨b2,o2,q2,ui,-⟩:=Ls.at3 (HB.o.below HI.o) hx;simp only[vS]at ui;obtain⟨rfl,-,-⟩:=ui;clear hx;have HS:Hid (∀W,Below wv.heap.size wv W->(b1<W.heap.size/\W.cell? ⟨b1,o1+i*3,none⟩=some (.int .u64 x.1.1)/\W.cell? ⟨b1,o1+i*3+1,none⟩=some (.int .u64 x.1.2.1)/\W.cell? ⟨b1,o1+i*3+2,none⟩=some (.int .u64 x.1.2.2))/\(b2<W.heap.size/\W.cell? ⟨b2,o2+i*3,none⟩=some (.int .u64 x.1.1)/\W.cell? ⟨b2,o2+i*3+1,none⟩=some (.int .u64 x.1.2.1)/\W.cell? ⟨b2,o2+i*3+2,none⟩=some (.int .u64 x.1.2.2))):=fun W hW=>by
    have hb:=HI.o.trans (hW.mono HI.o.size);obtain⟨b1',o1',q1',fO,y⟩:=Ls.at3 (HA.o.below hb) HX.o;simp only[vS,oI,aI,and_true]at fO;obtain⟨⟨rfl,rfl⟩,-,-⟩:=fO;obtain⟨b2',o2',q2',ui,z⟩:=Ls.at3 (HB.o.below hb) HX.o;simp only[vS,oI,aI,and_true]at ui;obtain⟨⟨rfl,rfl⟩,-,-⟩:=ui;exact⟨y,z⟩
   have heq:∀W,Sem.run Tryz.prog (Op.equalIn 10000 45 (.agg #[.int .u64 x.1.1, .int .u64 x.1.2.1, .int .u64 x.1.2.2]) (.agg #[.int .u64 x.1.1, .int .u64 x.1.2.1, .int .u64 x.1.2.2])) W= .ok true W:=fun W=>by
    have h:=Rs.CZ 9998 x.1.1 x.1.2.1 x.1.2.2 x.1.1 x.1.2.1 x.1.2.2 W;rw[(nX _ _ _ _ _ _).2 ⟨rfl,rfl,rfl⟩]at h;exact h
   go_upto_region 6 with fail;have hS0:Below wv.heap.size wv wv.drew:=(Gr.refl wv).drew.below;refine ay (S:=fun W:World=>Below wv.heap.size wv W) (D:=[]) hmx ?_;refine' aC (i:=0) (oi:={dst:=some 16,op:= .move (.tmp 0),type:=39,pos:= "law.go:39",after:=#[],guard:=none}) (v:=_) rfl (by kernel_rfl) (by kernel_rfl) (by kernel_rfl) (fun _ _ _ h=>h) (by kernel_rfl) (Or.inl ⟨by rfl, ?hy1⟩) hS0 ?rest1;case hy1=>(intro W hSw;go_simp;try(with_reducible rfl))
   try simp only[Act.put,qi,qz,jD]
   refine' aC (i:=1) (oi:={dst:=some 17,op:= .move (.tmp 5),type:=3,pos:= "law.go:39",after:=#[],guard:=none}) (v:=_) rfl (by kernel_rfl) (by kernel_rfl) (by kernel_rfl) (fun _ _ _ h=>h) (by kernel_rfl) (Or.inl ⟨by rfl, ?hy2⟩) hS0 ?rest2;case hy2=>(intro W hSw;go_simp;try(with_reducible rfl))
   try simp only[Act.put,qi,qz,jD]
   refine' aC (i:=2) (oi:={dst:=some 18,op:= .indexAddr 39 (.tmp 16) (.tmp 17),type:=0,pos:= "law.go:39",after:=#[{on:=0,ground:= .data},{on:=1,ground:= .data}],guard:=none}) (v:=_) rfl (by kernel_rfl) (by kernel_rfl) (by kernel_rfl) (fun _ _ _ h=>h) (by kernel_rfl) (Or.inl ⟨by rfl, ?hy3⟩) hS0 ?rest3;case hy3=>(intro W hSw;obtain⟨⟨d0,d1,d2,d3⟩,⟨f0,f1,f2,f3⟩⟩:=HS.o W hSw;go_simp;try(with_reducible rfl))
   try simp only[Act.put,qi,qz,jD]
   refine' aC (i:=3) (oi:={dst:=some 19,op:= .load 45 (.tmp 18),type:=45,pos:= "law.go:39",after:=#[{on:=2,ground:= .data}],guard:=none}) (v:=_) rfl (by kernel_rfl) (by kernel_rfl) (by kernel_rfl) (fun _ _ _ h=>h) (by kernel_rfl) (Or.inl ⟨by rfl, ?hy4⟩) hS0 ?rest4;case hy4=>(intro W hSw;obtain⟨⟨d0,d1,d2,d3⟩,⟨f0,f1,f2,f3⟩⟩:=HS.o W hSw;go_simp;try(with_reducible rfl))
   try simp only[Act.put,qi,qz,jD]
   refine' aC (i:=4) (oi:={dst:=some 20,op:= .move (.tmp 1),type:=39,pos:= "law.go:39",after:=#[],guard:=none}) (v:=_) rfl (by kernel_rfl) (by kernel_rfl) (by kernel_rfl) (fun _ _ _ h=>h) (by kernel_rfl) (Or.inl ⟨by rfl, ?hy5⟩) hS0 ?rest5;case hy5=>(intro W hSw;go_simp;try(with_reducible rfl))
   try simp only[Act.put,qi,qz,jD]
   refine' aC (i:=5) (oi:={dst:=some 21,op:= .move (.tmp 5),type:=3,pos:= "law.go:39",after:=#[],guard:=none}) (v:=_) rfl (by kernel_rfl) (by kernel_rfl) (by kernel_rfl) (fun _ _ _ h=>h) (by kernel_rfl) (Or.inl ⟨by rfl, ?hy6⟩) hS0 ?rest6;case hy6=>(intro W hSw;go_simp;try(with_reducible rfl))
   try simp only[Act.put,qi,qz,jD]
   refine' aC (i:=6) (oi:={dst:=some 22,op:= .indexAddr 39 (.tmp 20) (.tmp 21),type:=0,pos:= "law.go:39",after:=#[{on:=4,ground:= .data},{on:=5,ground:= .data}],guard:=none}) (v:=_) rfl (by kernel_rfl) (by kernel_rfl) (by kernel_rfl) (fun _ _ _ h=>h) (by kernel_rfl) (Or.inl ⟨by rfl, ?hy7⟩) hS0 ?rest7;case hy7=>(intro W hSw;obtain⟨⟨d0,d1,d2,d3⟩,⟨f0,f1,f2,f3⟩⟩:=HS.o W hSw;go_simp;try(with_reducible rfl))
   try simp only[Act.put,qi,qz,jD]
   refine' aC (i:=7) (oi:={dst:=some 23,op:= .load 45 (.tmp 22),type:=45,pos:= "law.go:39",after:=#[{on:=6,ground:= .data}],guard:=none}) (v:=_) rfl (by kernel_rfl) (by kernel_rfl) (by kernel_rfl) (fun _ _ _ h=>h) (by kernel_rfl) (Or.inl ⟨by rfl, ?hy8⟩) hS0 ?rest8;case hy8=>(intro W hSw;obtain⟨⟨d0,d1,d2,d3⟩,⟨f0,f1,f2,f3⟩⟩:=HS.o W hSw;go_simp;try(with_reducible rfl))
   try simp only[Act.put,qi,qz,jD]
   refine' aC (i:=8) (oi:={dst:=some 24,op:= .binOp .neq 45 (.tmp 19) (.tmp 23) 45,type:=4,pos:= "law.go:39",after:=#[{on:=3,ground:= .data},{on:=7,ground:= .data}],guard:=none}) (v:=_) rfl (by kernel_rfl) (by kernel_rfl) (by kernel_rfl) (fun _ _ _ h=>h) (by kernel_rfl) (Or.inl ⟨by rfl, ?hy9⟩) hS0 ?rest9;case hy9=>(intro W hSw;have hq:=heq W;go_simp;try(with_reducible rfl))
   try simp only[Act.put,qi,qz,jD]
   refine ak (by kernel_rfl) ?_ _;have FIN:=hid (HI.o.trans (hS0.mono HI.o.size));clear HS heq hS0 HI;go_wp2_with fail;go_roundw;case rel=>exact⟨i+1,by omega,by go_num,FIN.o⟩
   case measure=>simp[intOf];omega
  ·have hiz:¬(i:Int)<(n:Int):=(by omega);go_wp2_with fail;go_ret;exact⟨rfl,HI.o⟩
theorem wm(w:World){l:List Th}(hA:Ls EC w va l)(hB:Ls EC w vb l)(hl:l.length<=1000000000):Calls Tryz.prog 23 #[va,vb] w fun e w'=>e= .returned (.bool true)/\Below w.heap.size w w':=by
 have hmx:Tryz.prog.follows .mixedOrders=true:=by kernel_rfl
 obtain⟨pa,ca,rfl⟩:=hA.form;obtain⟨pb,cb,rfl⟩:=hB.form;have HA:=hid hA;have HB:=hid hB;obtain⟨n,hn⟩:=aD (l.length);have HN:=hid hn;rw[<-hn]at hl HA HB⊢;clear hA hB hn;go_enter Tryz.func23,Tryz.ntmps23;go_wp2_with fail;go_loopw [13] (fun s13 wv=>∃i:Nat,i<=n/\s13= .int .i64 (i:Nat)/\Hid (Below w.heap.size w wv)) (fun s13 _=>n-(intOf s13).toNat);case atStart=>exact⟨0,zL _,rfl,Below.refl _ _⟩
 case round=>
  obtain⟨i,hi,rfl,HI⟩:=hrel;rename World=>wv;have hi0:(0:Int)<=(i:Int):=by omega
  by_cases hil:i<n
  ·have hiz:(i:Int)<(n:Int):=(by omega);obtain⟨x,hx⟩:∃x,l[i]? =some x:=⟨l[i]'(by have:=HN.o;omega),by simp⟩;have HX:=hid hx;obtain⟨b1,o1,q1,fO,-⟩:=sw (HA.o.below HI.o) hx;simp only[vS]at fO;obtain⟨rfl,-,-⟩:=fO;obtain⟨b2,o2,q2,ui,-⟩:=sw (HB.o.below HI.o) hx;simp only[vS]at ui;obtain⟨rfl,-,-⟩:=ui;clear hx;have HS:Hid (∀W,Below wv.heap.size wv W->(b1<W.heap.size/\W.cell? ⟨b1,o1+i*5,none⟩=some (.int .i64 x.1)/\W.cell? ⟨b1,o1+i*5+1,none⟩=some (.int .u64 x.2.1.1.1)/\W.cell? ⟨b1,o1+i*5+2,none⟩=some (.int .u64 x.2.1.1.2.1)/\W.cell? ⟨b1,o1+i*5+3,none⟩=some (.int .u64 x.2.1.1.2.2)/\W.cell? ⟨b1,o1+i*5+4,none⟩=some (.int .i64 x.2.2))/\(b2<W.heap.size/\W.cell? ⟨b2,o2+i*5,none⟩=some (.int .i64 x.1)/\W.cell? ⟨b2,o2+i*5+1,none⟩=some (.int .u64 x.2.1.1.1)/\W.cell? ⟨b2,o2+i*5+2,none⟩=some (.int .u64 x.2.1.1.2.1)/\W.cell? ⟨b2,o2+i*5+3,none⟩=some (.int .u64 x.2.1.1.2.2)/\W.cell? ⟨b2,o2+i*5+4,none⟩=some (.int .i64 x.2.2))):=fun W hW=>by
    have hb:=HI.o.trans (hW.mono HI.o.size);obtain⟨b1',o1',q1',fO,y⟩:=sw (HA.o.below hb) HX.o;simp only[vS,oI,aI,and_true]at fO;obtain⟨⟨rfl,rfl⟩,-,-⟩:=fO;obtain⟨b2',o2',q2',ui,z⟩:=sw (HB.o.below hb) HX.o;simp only[vS,oI,aI,and_true]at ui;obtain⟨⟨rfl,rfl⟩,-,-⟩:=ui;exact⟨y,z⟩
   have heq:∀W,Sem.run Tryz.prog (Op.equalIn 10000 49 (.agg #[.int .i64 x.1, .int .u64 x.2.1.1.1, .int .u64 x.2.1.1.2.1, .int .u64 x.2.1.1.2.2, .int .i64 x.2.2]) (.agg #[.int .i64 x.1, .int .u64 x.2.1.1.1, .int .u64 x.2.1.1.2.1, .int .u64 x.2.1.1.2.2, .int .i64 x.2.2])) W= .ok true W:=fun W=>by
    exact Pg x W
   go_upto_region 6 with fail;have hS0:Below wv.heap.size wv wv.drew:=(Gr.refl wv).drew.below;refine ay (S:=fun W:World=>Below wv.heap.size wv W) (D:=[]) hmx ?_;refine' aC (i:=0) (oi:={dst:=some 16,op:= .move (.tmp 0),type:=26,pos:= "law.go:51",after:=#[],guard:=none}) (v:=_) rfl (by kernel_rfl) (by kernel_rfl) (by kernel_rfl) (fun _ _ _ h=>h) (by kernel_rfl) (Or.inl ⟨by rfl, ?Wo⟩) hS0 ?rest10;case Wo=>(intro W hSw;go_simp;try(with_reducible rfl))
   try simp only[Act.put,qi,qz,jD]
   refine' aC (i:=1) (oi:={dst:=some 17,op:= .move (.tmp 5),type:=3,pos:= "law.go:51",after:=#[],guard:=none}) (v:=_) rfl (by kernel_rfl) (by kernel_rfl) (by kernel_rfl) (fun _ _ _ h=>h) (by kernel_rfl) (Or.inl ⟨by rfl, ?Wn⟩) hS0 ?rest11;case Wn=>(intro W hSw;go_simp;try(with_reducible rfl))
   try simp only[Act.put,qi,qz,jD]
   refine' aC (i:=2) (oi:={dst:=some 18,op:= .indexAddr 26 (.tmp 16) (.tmp 17),type:=0,pos:= "law.go:51",after:=#[{on:=0,ground:= .data},{on:=1,ground:= .data}],guard:=none}) (v:=_) rfl (by kernel_rfl) (by kernel_rfl) (by kernel_rfl) (fun _ _ _ h=>h) (by kernel_rfl) (Or.inl ⟨by rfl, ?Wm⟩) hS0 ?rest12;case Wm=>(intro W hSw;obtain⟨⟨d0,d1,d2,d3,d4,d5⟩,⟨f0,f1,f2,f3,f4,f5⟩⟩:=HS.o W hSw;go_simp;try(with_reducible rfl))
   try simp only[Act.put,qi,qz,jD]
   refine' aC (i:=3) (oi:={dst:=some 19,op:= .load 49 (.tmp 18),type:=49,pos:= "law.go:51",after:=#[{on:=2,ground:= .data}],guard:=none}) (v:=_) rfl (by kernel_rfl) (by kernel_rfl) (by kernel_rfl) (fun _ _ _ h=>h) (by kernel_rfl) (Or.inl ⟨by rfl, ?Wl⟩) hS0 ?rest13;case Wl=>(intro W hSw;obtain⟨⟨d0,d1,d2,d3,d4,d5⟩,⟨f0,f1,f2,f3,f4,f5⟩⟩:=HS.o W hSw;go_simp;try(with_reducible rfl))
   try simp only[Act.put,qi,qz,jD]
   refine' aC (i:=4) (oi:={dst:=some 20,op:= .move (.tmp 1),type:=26,pos:= "law.go:51",after:=#[],guard:=none}) (v:=_) rfl (by kernel_rfl) (by kernel_rfl) (by kernel_rfl) (fun _ _ _ h=>h) (by kernel_rfl) (Or.inl ⟨by rfl, ?Wj⟩) hS0 ?rest14;case Wj=>(intro W hSw;go_simp;try(with_reducible rfl))
   try simp only[Act.put,qi,qz,jD]
   refine' aC (i:=5) (oi:={dst:=some 21,op:= .move (.tmp 5),type:=3,pos:= "law.go:51",after:=#[],guard:=none}) (v:=_) rfl (by kernel_rfl) (by kernel_rfl) (by kernel_rfl) (fun _ _ _ h=>h) (by kernel_rfl) (Or.inl ⟨by rfl, ?Wi⟩) hS0 ?rest15;case Wi=>(intro W hSw;go_simp;try(with_reducible rfl))
   try simp only[Act.put,qi,qz,jD]
   refine' aC (i:=6) (oi:={dst:=some 22,op:= .indexAddr 26 (.tmp 20) (.tmp 21),type:=0,pos:= "law.go:51",after:=#[{on:=4,ground:= .data},{on:=5,ground:= .data}],guard:=none}) (v:=_) rfl (by kernel_rfl) (by kernel_rfl) (by kernel_rfl) (fun _ _ _ h=>h) (by kernel_rfl) (Or.inl ⟨by rfl, ?Wh⟩) hS0 ?rest16;case Wh=>(intro W hSw;obtain⟨⟨d0,d1,d2,d3,d4,d5⟩,⟨f0,f1,f2,f3,f4,f5⟩⟩:=HS.o W hSw;go_simp;try(with_reducible rfl))
   try simp only[Act.put,qi,qz,jD]
   refine' aC (i:=7) (oi:={dst:=some 23,op:= .load 49 (.tmp 22),type:=49,pos:= "law.go:51",after:=#[{on:=6,ground:= .data}],guard:=none}) (v:=_) rfl (by kernel_rfl) (by kernel_rfl) (by kernel_rfl) (fun _ _ _ h=>h) (by kernel_rfl) (Or.inl ⟨by rfl, ?We⟩) hS0 ?rest17;case We=>(intro W hSw;obtain⟨⟨d0,d1,d2,d3,d4,d5⟩,⟨f0,f1,f2,f3,f4,f5⟩⟩:=HS.o W hSw;go_simp;try(with_reducible rfl))
   try simp only[Act.put,qi,qz,jD]
   refine' aC (i:=8) (oi:={dst:=some 24,op:= .binOp .neq 49 (.tmp 19) (.tmp 23) 49,type:=4,pos:= "law.go:51",after:=#[{on:=3,ground:= .data},{on:=7,ground:= .data}],guard:=none}) (v:=_) rfl (by kernel_rfl) (by kernel_rfl) (by kernel_rfl) (fun _ _ _ h=>h) (by kernel_rfl) (Or.inl ⟨by rfl, ?V9⟩) hS0 ?rest18;case V9=>(intro W hSw;have hq:=heq W;go_simp;try(with_reducible rfl))
   try simp only[Act.put,qi,qz,jD]
   refine ak (by kernel_rfl) ?_ _;have FIN:=hid (HI.o.trans (hS0.mono HI.o.size));clear HS heq hS0 HI;go_wp2_with fail;go_roundw;case rel=>exact⟨i+1,by omega,by go_num,FIN.o⟩
   case measure=>simp[intOf];omega
  ·have hiz:¬(i:Int)<(n:Int):=(by omega);go_wp2_with fail;go_ret;exact⟨rfl,HI.o⟩
end Rc
end Go.Proofs.YteekbpokkjjipaaGreat
