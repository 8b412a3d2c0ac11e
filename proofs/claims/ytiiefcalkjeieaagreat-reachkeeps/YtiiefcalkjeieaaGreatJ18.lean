import Derived.Test.YtiiefcalkjeieaaGreatJ17
variable{g n:Nat}{v:Go.Value}{w:Go.World}{cs:List Nat}
set_option maxHeartbeats 4000000
set_option maxRecDepth 100000
namespace Go.Proofs.YtiiefcalkjeieaaGreat
namespace Lf
open Go.RowKit Go.Sort Pt
attribute[local go_sem ↓]wp_at_zero wp_at_succ
structure Tb(base:Nat)(w:World)(v:Value)(vs:List Vw)(ts:List (List Tm)):Prop where
 row:w.ownsRow base 50 1 v ts.length (fl EV vs)
 len:vs.length=ts.length
 each:∀(i:Nat) (u:Vw) (t:List Tm),vs[i]? =some u->ts[i]? =some t->w.ownsRow base 52 3 u.1 t.length (eQ t)/\∀k,u.1.ownBlock=some k->v.ownBlock≠some k
theorem Tb.nil(base:Nat)(w:World):Tb base w (.slice none 0 0) [] []:=⟨oN _ _ _ _,rfl,fun i u t h=>by simp at h⟩
theorem Tb.app{base cap:Nat}{wr w5 w6:World}{vs:List Vw}{ts:List (List Tm)}{t:List Tm}(u:Vw)(h:Tb base wr v vs ts)(hb:base<=wr.heap.size)(hB:Bw wr w5)(ho:w5.ownsRow wr.heap.size 52 3 u.1 t.length (eQ t))
    (hn:w6.ownsRow base 50 1 (sO g (ts.length+1) cap) (ts.length+1) (fl EV vs++EV.enc u)) (hg:w5.grownBy w6 v.ownBlock) (hgg:v.ownBlock=some g\/w5.heap.size<=g):Tb base w6 (sO g (ts.length+1) cap) (vs++[u]) (ts++[t]):=by
 have hK:Kp (fun k=>v.ownBlock=some k) w5 w6:=Kp.grownBy hg (fun _ h=>h);have hne:∀k,(v.ownBlock≠some k)->k<w5.heap.size->(sO g (ts.length+1) cap).ownBlock≠some k:=fun k h1 h2 e=>by
  have e:g=k:=by simpa[Value.ownBlock]using e
  subst e;rcases hgg with h3|h3
  ·exact h1 h3
  ·omega
 refine⟨?_,by rw[dQ,dQ,h.len];rfl,fun i u' t' hu ht=> ?_⟩
 ·rw[dQ,vR,aT,dM];exact hn
 ·by_cases hi:i<ts.length
  ·rw[gL (by rw[h.len];exact hi)]at hu;rw[gL hi]at ht;obtain⟨h1,h2⟩:=h.each i u' t' hu ht;have h3:=ag h1 hB;exact⟨ax hK h3 (fun k hk e=>h2 k hk e),fun k hk=>hne k (h2 k hk) (h3.lt k hk).2⟩
  ·have e:i=ts.length:=by
     have:=(lG.1 ht).1;rw[dQ,vR]at this;omega
   subst e;rw[VE (nR _),Nat.sub_self]at ht;rw[<-h.len,VE (nR _),Nat.sub_self]at hu;cases ht;cases hu;have h2:∀k,u.1.ownBlock=some k->v.ownBlock≠some k:=fun k hk e=>by
    have:=(ho.lt k hk).1;have:=(h.row.lt k e).2;omega
   exact⟨ax hK (aN ho hb) (fun k hk e=>h2 k hk e),fun k hk=>hne k (h2 k hk) (ho.lt k hk).2⟩
theorem WM:(Tryz.prog.info? 50).map (fun i=>(i.zero,i.size,i.bytes))=some (some (.slice none 0 0),1,24):=by kernel_rfl
theorem FH(h:Ls EP w (sO g n n) (cs.map some)){i c:Nat}(hc:cs[i]? =some c):aj w g i (aB c)/\g<w.heap.size:=by
 obtain⟨b,off,c',e,hb,hx⟩:=h.get (j:=i) (t:=some c) (by rw[gM,hc];rfl);simp only[vS,oI,aI,and_true]at e;obtain⟨⟨rfl,rfl⟩,-,-⟩:=e;exact⟨by simpa[EP]using hx 0 _ (by decide) rfl,hb⟩
theorem D7{tag:Nat->Nat}{rows:Nat->List Tm}(w:World)(hl:Ls EP w (sO g n n) (cs.map some))(hn:cs.length=n)(hch:∀i c,cs[i]? =some c->Cm w tag (i+3) c (rows i))(hsm:∀q,(rows q).length<=64)(hnb:n*2560<=140737488355328):
    CL 132 #[sO g n n] w fun e w'=>∃v vs,e= .returned v/\Tb w.heap.size w' v vs ((List.range n).map rows)/\Bw w w':=by
 have HL:Hid (Ls EP w (sO g n n) (cs.map some)):=hl;have HC:Hid (∀i c,cs[i]? =some c->Cm w tag (i+3) c (rows i)):=hch;clear hl hch;go_enter Tryz.func132,Tryz.ntmps132;go_wp2_with fail;go_loopw [3,5,8] (fun s3 _ s8 wr=>∃(i:Nat) (vs:List Vw),i<=n/\s8=iV i/\Hid (Tb w.heap.size wr s3 vs ((List.range i).map rows)/\Bw w wr)) (fun _ _ s8 _=>n-(intOf s8).toNat);case atStart=>exact⟨0,[],zL _,rfl,Tb.nil _ _,Below.refl _ _⟩
 case round=>
  obtain⟨i,vs,hi,rfl,HT⟩:=hrel;by_cases hlt:i<n
  ·have hltz:(i:Int)<(n:Int):=(by omega);have hi0:(0:Int)<=(i:Int):=(by omega);obtain⟨c,hc⟩:∃c,cs[i]? =some c:=⟨cs[i]'(by omega),by simp⟩;obtain⟨x0,x1⟩:=FH (HL.o.below HT.o.2) hc;have hm:=(HC.o i c hc).below HT.o.2;have hlist:CL 194 #[aB c] wr fun e w'=>∃pp cc,e= .returned (.slice pp (rows i).length cc)/\w'.ownsRow wr.heap.size 52 3 (.slice pp (rows i).length cc) (rows i).length (eQ (rows i))/\Bw wr w':=by
    obtain⟨v,h1,_⟩:=hm;refine(Pc.Cn.kM wr h1 (by have:=hsm i;omega)).mono ?_;rintro e w' ⟨v',rfl,q1,q2⟩;obtain⟨pp,cc,rfl⟩:=(dG q1).form;exact⟨pp,cc,rfl,q1,q2⟩
   clear hm hc;go_wp2_with fail;refine hlist.mono ?_;rintro e w5 ⟨pu,cu,rfl,hu5,hb5⟩;obtain⟨u,hu⟩:∃u:Vw,u.1= .slice pu (rows i).length cu:=⟨⟨_,rfl⟩,rfl⟩;rw[<-hu]at hu5;have hen:EV.enc u=[.slice pu (rows i).length cu]:=(by rw[<-hu];rfl);have HU5:Hid (w5.ownsRow wr.heap.size 52 3 u.1 (rows i).length (eQ (rows i))/\Bw wr w5):=⟨hu5,hb5⟩;have U2:w.heap.size<=w5.heap.size:=nT HT.o.2.size hb5.size;have hrow:=ag HT.o.1.row hb5;have hlen:((List.range i).map rows).length=i:=(by simp);rw[hlen]at hrow;clear hu5 hb5 hlist x0 hu;go_wp2_with (at_builtin;refine gB EV Tryz.underlying143 WM rfl (by decide) rfl _ _ rfl w.heap.size _ i _ rfl hrow u rfl (by omega) (by unfold maxLen;omega) U2 _ hen.symm _ ?_);intro g6 c6 w6 qG nQ En;have Q4:Hid (Tb w.heap.size w6 (sO g6 (i+1) c6) (vs++[u]) ((List.range (i+1)).map rows)/\Bw w w6):=by
    have h1:=HT.o.1.app (g:=g6) (cap:=c6) (w6:=w6) u HT.o.2.size HU5.o.2 HU5.o.1 (by rw[hlen,hen];exact qG) nQ En;rw[hlen]at h1;rw[YW,De];refine⟨h1,(HT.o.2.trans (HU5.o.2.mono HT.o.2.size)).trans ((Kp.grownBy (S:=fun k=>w.heap.size<=k) nQ (fun k hk=>(hrow.lt k hk).1)).below U2 (fun _ h=>h))⟩
   clear qG nQ En hrow;go_wp2_with fail;go_roundw;case rel=>exact⟨i+1,_,by omega,by first|rfl|go_num,Q4.o⟩
   case measure=>simp[intOf];omega
  ·have hltz:¬(i:Int)<(n:Int):=(by omega);have hin:i=n:=(by omega);subst hin;go_wp2;go_ret;exact⟨_,rfl,⟨vs,HT.o.1⟩,HT.o.2⟩
end Lf
namespace Lf
open Go.RowKit Go.Sort Pt
section
variable {w0 w w':World} {tag tag':Nat->Nat} {hb g n np B:Nat} {cs:List Nat} {rows:Nat->List Tm} {L R:List Hf.It}
theorem Lf.next(h:Lf w0 tag hb g n cs rows L np w)(hl:L.length<=140737488355328):
    CL 127 #[aB hb] w fun e w'=>∃(b:Bool) (t:Hf.Th) (k:Nat) (R:List Hf.It) (tag':Nat->Nat),e= .returned (Hf.ans t b)/\Lf w0 tag' hb g n cs rows R np w'/\Nx 1 tag tag' w w'/\
     (b=true->((t,k)::R).Perm L/\∀x∈R,Hf.kf t<Hf.kf x.1\/(Hf.kf t=Hf.kf x.1/\k<x.2))/\(b=false->L=[]/\R=[]):=by
 cases L with
 | nil=>
  refine h.hm.abt.mono ?_;rintro e w' ⟨rfl,hB⟩;exact⟨false,Hf.zt,0,[],tag,rfl,h.below hB,Nx.below 1 tag hB,(fun e=>by cases e),fun _=>⟨rfl,rfl⟩⟩
 | cons t L1=>
  refine(h.hm.pop (t:=t) rfl hl).mono ?_;rintro e w' ⟨R,rfl,q1,q2,q3,q4⟩;exact⟨true,t.1,t.2,R,_,rfl,h.heap q1 q4,q4,(fun _=>⟨q2,q3⟩),(fun e=>by cases e)⟩
structure Bx(w0:World)(tag:Nat->Nat)(B:Nat)(t:Hf.Th)(w:World):Prop where
 blk:w.heap[B]? =some (.cells #[iV t.1,uV t.2.1.1,uV t.2.1.2.1,uV t.2.1.2.2] 215 (0,0))
 tg:tag B=0
 nw:w0.heap.size<=B
theorem Bx.lt{t:Hf.Th}(h:Bx w0 tag B t w):B<w.heap.size:=(aG.1 h.blk).1
theorem Bx.nx{j:Nat}{t:Hf.Th}(h:Bx w0 tag B t w)(hn:Nx j tag tag' w w')(hj:j≠0):Bx w0 tag' B t w':=
 ⟨(hn.kp.block B h.lt (fun e=>hj (e.symm.trans h.tg))).trans h.blk,(hn.old B h.lt).trans h.tg,h.nw⟩
theorem Bx.below{t:Hf.Th}(h:Bx w0 tag B t w)(hB:Bw w w'):Bx w0 tag B t w':=h.nx (Nx.below 1 tag hB) (by decide)
theorem Bx.cells{t:Hf.Th}(h:Bx w0 tag B t w):w.cell? ⟨B,0,none⟩=some (iV t.1)/\w.cell? ⟨B,1,none⟩=some (uV t.2.1.1)/\w.cell? ⟨B,2,none⟩=some (uV t.2.1.2.1)/\w.cell? ⟨B,3,none⟩=some (uV t.2.1.2.2):=by
 simp[World.cell?,h.blk]
theorem Bx.fz{t:Hf.Th}(h:Bx w0 tag B t w):w.frozen? ⟨B,0,none⟩=false/\w.frozen? ⟨B,1,none⟩=false/\w.frozen? ⟨B,2,none⟩=false/\w.frozen? ⟨B,3,none⟩=false:=by
 simp[World.frozen?,h.blk]
theorem Lf.box(h:Lf w0 tag hb g n cs rows R np w)(t:Hf.Th):Lf w0 (tg tag w 0) hb g n cs rows R np (w.alloc (.cells #[iV t.1,uV t.2.1.1,uV t.2.1.2.1,uV t.2.1.2.2] 215))/\Bx w0 (tg tag w 0) w.heap.size t (w.alloc (.cells #[iV t.1,uV t.2.1.1,uV t.2.1.2.1,uV t.2.1.2.2] 215)):=by
 have hB:Bw w (w.alloc (.cells #[iV t.1,uV t.2.1.1,uV t.2.1.2.1,uV t.2.1.2.2] 215)):=((Gr.refl w).alloc _).below;have hn:Nx 1 tag (tg tag w 0) w (w.alloc (.cells #[iV t.1,uV t.2.1.1,uV t.2.1.2.1,uV t.2.1.2.2] 215)):=⟨Kp.of_below hB,fun _ hk=>au hk⟩;have Xc:Nx 0 tag (tg tag w 0) w (w.alloc (.cells #[iV t.1,uV t.2.1.1,uV t.2.1.2.1,uV t.2.1.2.2] 215)):=⟨Kp.of_below hB,fun _ hk=>au hk⟩;exact⟨h.heap (h.hm.nx Xc (by decide)) hn,⟨ah _ _,aU (nR _),h.bl.size⟩⟩
theorem Lf.set{t:Hf.Th}(h:Lf w0 tag hb g n cs rows R np w)(hx:Bx w0 tag B t w)(u:Hf.Th):Lf w0 tag hb g n cs rows R np ((((w.setCell ⟨B,0,none⟩ (iV u.1)).setCell ⟨B,1,none⟩ (uV u.2.1.1)).setCell ⟨B,2,none⟩ (uV u.2.1.2.1)).setCell ⟨B,3,none⟩ (uV u.2.1.2.2))/\
    Bx w0 tag B u ((((w.setCell ⟨B,0,none⟩ (iV u.1)).setCell ⟨B,1,none⟩ (uV u.2.1.1)).setCell ⟨B,2,none⟩ (uV u.2.1.2.1)).setCell ⟨B,3,none⟩ (uV u.2.1.2.2)):=by
 obtain⟨h1,h2⟩:=Hf.oG (c0:=iV u.1) (c1:=uV u.2.1.1) (c2:=uV u.2.1.2.1) (c3:=uV u.2.1.2.2) hx.blk;generalize (((w.setCell ⟨B,0,none⟩ (iV u.1)).setCell ⟨B,1,none⟩ (uV u.2.1.1)).setCell ⟨B,2,none⟩ (uV u.2.1.2.1)).setCell ⟨B,3,none⟩ (uV u.2.1.2.2)=w' at h1 h2⊢;have hn:Nx 0 tag tag w w':=⟨h2.mono (fun k hk=>by rw[hk];exact hx.tg),fun _ _=>rfl⟩;obtain⟨r1,r2⟩:=h.row hn (by decide);exact⟨⟨h.bl.trans (h2.below h.bl.size (fun k hk=>by rw[hk];exact hx.nw)),h.nw,h.len,r1,r2,h.hm.nx hn (by decide),fun i c hc=>(h.ch i c hc).nx hn (by omega)⟩,⟨h1,hx.tg,hx.nw⟩⟩
end
attribute[local go_sem ↓]wp_at_zero wp_at_succ
def LfA(w:World)(ss:List (List Hf.Th))(p:Nat)(e:Ending)(w':World):Prop:=Bw w w'/\∃r,r9 PX (J5 ss) p r/\((r=none/\e= .returned (.tuple #[.slice none 0 0,iV 28]))\/∃rows v vs,r=some rows/\e= .returned (.tuple #[v,iV 0])/\Tb w.heap.size w' v vs ((List.range ss.length).map rows))
theorem Tb.base{b b':Nat}{vs:List Vw}{ts:List (List Tm)}(h:Tb b w v vs ts)(hb:b'<=b):Tb b' w v vs ts:=⟨aN h.row hb,h.len,fun i u t hu ht=>⟨aN (h.each i u t hu ht).1 hb,(h.each i u t hu ht).2⟩⟩
theorem Pu.bd2{ss:List (List Hf.Th)}{p d q0 np:Nat}{t2:ai}{rows:Nat->List ai}{L:List Hf.It}(h:Pu ss p d rows L np)(hq:q0<ss.length)(h64:(rows q0).length+1<=64):np+d<=64*ss.length*(d+1)+1:=by
 have h1:=AR (n:=ss.length) (m:=64) (rows:=dO rows q0 t2) (fun q _=>by
  unfold dO;split
  ·rename_i e;subst e;simpa using h64
  ·exact h.sm q)
 rw[wu,if_pos hq]at h1;have h2:(tot ss.length rows+1)*d<=64*ss.length*(d+1):=Nat.mul_le_mul h1 (Nat.le_succ d);rw[Nat.add_mul,Nat.one_mul]at h2;have h3:=h.nb;omega
theorem pW(p n d:Nat)(su:Value)(ss:List (List Hf.Th))(w:World)(hS:Sp w su ss)(hn:ss.length=n)(hp:p<n)(hr:∀s∈ss,∀x∈s,∃q:Nat,q<n/\x.1=(q:Int))(hd:∀s∈ss,s.length<=d)(hM:(64*n*(d+1)+2)*40<=140737488355328):
    CL 74 #[iV p,su] w (LfA w ss p):=by
 have hmx:Tryz.prog.follows .mixedOrders=true:=by kernel_rfl
 obtain⟨ps,cs0,rfl⟩:=hS.form;subst hn;have hnb:ss.length*2560<=140737488355328:=by
  have h1:64*ss.length*1<=64*ss.length*(d+1):=Nat.mul_le_mul (nR _) (by omega);omega
 obtain⟨iB,hiB,hb0,hb1,hb2⟩:=info_parts WQ;obtain⟨w1,hmk,ho1,hg1⟩:=run_make_full (P:=Tryz.prog) w 0 217 218 iB _ 1 Tryz.underlying217 hiB hb0 hb1 .i64 .i64 ss.length (by rw[hb2];omega) (by unfold maxLen;omega) (zL _);rw[ZY]at ho1;obtain⟨g,hg⟩:=aF (w.heap.size);rw[<-hg]at hmk ho1;have HF1:Hid (QL w (fun k=>if k=g then 2 else 0) g ss.length [] w1):=by
  refine⟨(Kp.grownBy (S:=fun _=>False) hg1 (fun _ h=>by cases h)).below (nR _) (fun _ h=>h.elim),fun k hk=>if_neg (by omega),zL _,ho1,if_pos rfl,fun i c hc=>by simp at hc⟩
 have HS:Hid (Sp w (.slice ps ss.length cs0) ss):=hS;have HR:Hid (∀s∈ss,∀x∈s,∃q:Nat,q<ss.length/\x.1=(q:Int)):=hr;have HD:Hid (∀s∈ss,s.length<=d):=hd;have HM:Hid ((64*ss.length*(d+1)+2)*40<=140737488355328):=hM;have HPl:Hid (p<ss.length):=hp;clear hS hr hd hM hp hiB hb0 hb1 hb2 ho1 hg1 hg;go_enter Tryz.func74,Tryz.ntmps74;go_wp2_with fail;clear hmk;go_loopw [7,20] (fun _ s20 wr=>∃(i:Nat) (tag:Nat->Nat) (cs:List Nat),i<=ss.length/\s20=iV i/\Hid (cs.length=i/\QL w tag g ss.length cs wr)) (fun _ s20 _=>ss.length-(intOf s20).toNat);case atStart=>exact⟨0,_,[],zL _,rfl,rfl,HF1.o⟩
 case round=>
  clear HF1;obtain⟨i,tag,cs,hi,rfl,HI⟩:=hrel;by_cases hlt:i<ss.length
  ·have hltz:(i:Int)<(ss.length:Int):=(by omega);have hi0:(0:Int)<=(i:Int):=(by omega);have hgl:=HI.o.2.gl;have hny:=Pc.Cn.DV wr;have hfz:∀W,Gr wr W->W.frozen? ⟨g,i,none⟩=false:=fun W h=>Hf.oP (ag HI.o.2.ro h.below) i;go_wp2_with fail;refine hny.mono ?_;rintro e w5 ⟨rfl,hC5,hg5⟩;have hgl5:=nL hgl hg5.size;have hfz5:=hfz _ hg5;have hce5:aj w5 g i (.pointer none):=by
    have:=HI.o.2.cell (by rw[HI.o.1];exact hlt) hg5;rw[HI.o.1]at this;exact this
   have UF:=Hf.hid (HI.o.2.step (by rw[HI.o.1];exact hlt) hC5 hg5);rw[HI.o.1]at UF;clear hC5 hg5 hfz hny;go_wp2_with fail;go_roundw;case rel=>exact⟨i+1,_,_,by omega,by first|rfl|go_num,by rw[dQ,HI.o.1];rfl,UF.o⟩
   case measure=>simp[intOf];omega
  ·have hltz:¬(i:Int)<(ss.length:Int):=(by omega);have hce:cs.length=ss.length:=(by rw[HI.o.1];omega);go_wp2_with fail;refine(hnew wr tag 1).mono ?_;rintro e w8 ⟨hb,rfl,hbw,hm8,U8⟩;have HL8:=Hf.hid (HI.o.2.done hce ⟨Kp.bg U8,fun _ hk=>au hk⟩ hm8);clear hm8 U8 hbw HI;go_wp2_with fail;refine((HL8.o.hm).push ((p:Int),PX.z) (by simp) (by simp)).mono ?_;rintro e w9 ⟨L9,rfl,Xf,hp9,Xc⟩;have e9:L9=[(((p:Int),PX.z),0)]:=(by simpa using hp9);subst e9;have HL9:=Hf.hid (HL8.o.heap Xf Xc);clear Xf hp9 Xc HL8;go_wp2_with fail;refine(HL9.o.hm.pop rfl (by simp)).mono ?_;rintro e eF ⟨L10,rfl,aat,aam,hk10,aar⟩;have e10:L10=[]:=by
    have:=aam.length_eq;simpa using this
   subst e10;have HLA:=Hf.hid (HL9.o.heap aat aar);clear aat aam hk10 aar HL9;generalize tg (tg (tg tag wr 1) w8 1) w9 1=tagA at HLA;go_wp2_with fail;obtain⟨hl0,hx0⟩:=HLA.o.box ((p:Int),PX.z);have QB:Hid (Lf w (tg tagA eF 0) hb g ss.length cs (fun _=>[]) [] 1 (eF.alloc (.cells #[iV (p:Int),uV PX.z.1.1,uV PX.z.1.2.1,uV PX.z.1.2.2] 215))/\Bx w (tg tagA eF 0) eF.heap.size ((p:Int),PX.z) (eF.alloc (.cells #[iV (p:Int),uV PX.z.1.1,uV PX.z.1.2.1,uV PX.z.1.2.2] 215))):=⟨hl0,hx0⟩;clear hl0 hx0 HLA;go_loopg [9,10,12,13,14] (64*ss.length*(d+1)+1) (fun gk s9 s10 _ _ _ wx=>∃(tag:Nat->Nat) (rows:Nat->List ai) (R L0:List Hf.It) (np B:Nat) (b:Bool) (t:Hf.Th) (k:Nat),s9=aB B/\s10= .bool b/\
    Hid (Lf w tag hb g ss.length cs rows R np wx/\Bx w tag B t wx/\Pu ss p d rows L0 np/\Ju ss.length d rows L0.length<=gk)/\Hid ((b=true->((t,k)::R).Perm L0/\∀x∈R,Hf.kf t<Hf.kf x.1\/(Hf.kf t=Hf.kf x.1/\k<x.2))/\(b=false->L0=[]/\R=[])))
   case atStart=>exact⟨_,fun _=>[],[],[(((p:Int),PX.z),0)],1,_,true,((p:Int),PX.z),0,rfl,rfl,⟨QB.o.1,QB.o.2,Pu.init HPl.o,Nat.le_of_eq Oh⟩,⟨fun _=>⟨List.Perm.refl _,fun x hx=>by simp at hx⟩,fun e=>by cases e⟩⟩
   case round=>
    clear QB;obtain⟨tag,rows,R,L0,np,B,b,t,k,rfl,rfl,sw,HO0⟩:=hrel;cases b with
    | false=>
     have HE:=HO0.o.2 rfl;have hls:=D7 wr sw.o.1.lr sw.o.1.len sw.o.1.ch sw.o.2.2.1.sm hnb;go_wp2_with fail;refine hls.mono ?_;rintro e ZI ⟨v20,abl,rfl,aba,Ce⟩;obtain⟨rfl,rfl⟩:=HE;have YL:Hid (LfA w ss p (.returned (.tuple #[v20,iV 0])) ZI):=⟨sw.o.1.bl.trans (Ce.mono sw.o.1.bl.size),some rows,sw.o.2.2.1.fin,Or.inr ⟨rows,v20,abl,rfl,rfl,aba.base sw.o.1.bl.size⟩⟩;clear aba Ce;go_wp2;refine bR (v:= .tuple #[v20,iV 0]) (by simp[results,Tryz.results74,go_sem]) rfl ?_;exact YL.o
    | true=>
     obtain⟨hpm,hod⟩:=HO0.o.1 rfl;obtain⟨gk,rfl⟩:∃g',gk=g'+1:=⟨gk-1,by
      have h1:=sw.o.2.2.2;have h2:R.length+1=L0.length:=(by simpa using hpm.length_eq);have h3:=WC (n:=ss.length) (d:=d) (k:=L0.length) (rows:=rows);omega⟩
     obtain⟨q0,hq0,ht0⟩:=sw.o.2.2.1.rg (t,k) (hpm.mem_iff.1 (mX ..));obtain⟨t1,t2⟩:=t;simp only at ht0;subst ht0;obtain⟨c0,hc0⟩:∃c,cs[q0]? =some c:=⟨cs[q0]'(by rw[sw.o.1.len];exact hq0),by simp⟩;have hqz:(q0:Int)<(ss.length:Int):=(by omega);have hqz0:(0:Int)<=(q0:Int):=(by omega);have hins:∀W:World,Gr wr W->CL 128 #[aB c0, .agg #[uV t2.1.1,uV t2.1.2.1,uV t2.1.2.2]] W fun e w'=>e= .returned (.bool (!bH aC (rows q0) t2))/\Hid (∃tag':Nat->Nat,Lf w tag' hb g ss.length cs (fun i=>if i=q0 then gG aC dL (rows q0) t2 else rows i) R np w'/\Bx w tag' B ((q0:Int),t2) w')/\(aj w' g q0 (aB c0)/\aj w' B 0 (iV (q0:Int))/\aj w' B 1 (uV t2.1.1)/\aj w' B 2 (uV t2.1.2.1)/\aj w' B 3 (uV t2.1.2.2)/\g<w'.heap.size/\B<w'.heap.size):=by
      intro W hW;have hL:=sw.o.1.below hW.below;have hX:=sw.o.2.1.below hW.below;refine((hL.ch q0 c0 hc0).insert t2 (by have:=sw.o.2.2.1.sm q0;omega)).mono ?_;rintro e w' ⟨rfl,h1,h2⟩;have h3:=hL.chain hc0 h1 h2;have h4:=hX.nx h2 (by omega);obtain⟨z0,z1⟩:=FH h3.lr hc0;obtain⟨z2,z3,z4,z5⟩:=h4.cells;exact⟨rfl,⟨_,h3,h4⟩,z0,z2,z3,z4,z5,z1,h4.lt⟩
     have hcc:∃bb,bH aC (rows q0) t2=bb:=⟨_,rfl⟩;obtain⟨bb,hbb⟩:=hcc;rw[hbb]at hins;obtain⟨x0,x1⟩:=FH sw.o.1.lr hc0;obtain⟨y0,y1,y2,y3⟩:=sw.o.2.1.cells;have hBl:=sw.o.2.1.lt;have S0:(wr.drew.cell? ⟨g,q0,none⟩=some (aB c0)/\wr.drew.cell? ⟨B,0,none⟩=some (iV (q0:Int))/\wr.drew.cell? ⟨B,1,none⟩=some (uV t2.1.1)/\wr.drew.cell? ⟨B,2,none⟩=some (uV t2.1.2.1)/\wr.drew.cell? ⟨B,3,none⟩=some (uV t2.1.2.2)/\g<wr.drew.heap.size/\B<wr.drew.heap.size):=⟨x0,y0,y1,y2,y3,x1,hBl⟩;have hgd:Gr wr wr.drew:=(Gr.refl _).drew;have HBB:Hid (bH aC (rows q0) t2=bb):=hbb;have Zt:Hid ((((q0:Int),t2),k)::R|>.Perm L0):=hpm;have Zv:Hid (∀x∈R,Hf.kf ((q0:Int),t2)<Hf.kf x.1\/(Hf.kf ((q0:Int),t2)=Hf.kf x.1/\k<x.2)):=hod;clear x0 y0 y1 y2 y3 hbb hod hpm;go_upto_region 12 with fail;go_cut [52] (fun ZP wc=>ZP= .bool bb/\Hid (∃tag':Nat->Nat,Lf w tag' hb g ss.length cs (fun i=>if i=q0 then gG aC dL (rows q0) t2 else rows i) R np wc/\Bx w tag' B ((q0:Int),t2) wc))
     case first=>
      go_region_held3 (fun W=>aj W g q0 (aB c0)/\aj W B 0 (iV (q0:Int))/\aj W B 1 (uV t2.1.1)/\aj W B 2 (uV t2.1.2.1)/\aj W B 3 (uV t2.1.2.2)/\g<W.heap.size/\B<W.heap.size)
       (first|exact S0|assumption)
       (first|(go_at_call 128;refine(hins _ (by assumption)).mono ?_;rintro e AP ⟨rfl,acb,Pz⟩))
      go_wp2_with fail;go_meet;exact⟨by simp,acb⟩
     case rest=>
      obtain⟨rfl,HC⟩:=hcut;obtain⟨ZL,LC,XC⟩:=HC.o;clear S0 hins HC;rw[sw.o.2.2.1.ins Zt.o]at LC;cases bb with
      | true=>
       have hrows:(fun i=>if i=q0 then(if bH aC (rows q0) t2 then rows q0 else rows q0++[t2])else rows i)=rows:=by
        rw[if_pos HBB.o]
        funext i
        split
        ·rename_i e;rw[e]
        ·rfl
       rw[hrows]at LC;obtain⟨y0,y1,y2,y3⟩:=XC.cells;have hBc:=XC.lt;obtain⟨LD,XD⟩:=LC.box ((q0:Int),t2);obtain⟨WZ,hms⟩:=sw.o.2.2.1.skip Zt.o ((rU Pc.CK _ _).1 HBB.o);have Qw:Hid (Pu ss p d rows R np/\Ju ss.length d rows R.length<=gk):=⟨WZ,by have:=sw.o.2.2.2;omega⟩;have hnx:=LD.next (by have:=(WZ.bd HM.o).2.2.1;omega);have HXD:=Hf.hid XD;clear LC XC LD XD WZ hms hrows;go_wp2_with fail;refine hnx.mono ?_;rintro e w30 ⟨b3,t3,k3,R3,uN,rfl,L30,N30,p31,p32⟩;have Qt:=HXD.o.nx N30 (by decide);obtain⟨z0,z1,z2,z3⟩:=Qt.cells;obtain⟨f0,f1,f2,f3⟩:=Qt.fz;have aby:=Qt.lt;have Mg:=Hf.hid (L30.set Qt t3);have HP3:Hid ((b3=true->((t3,k3)::R3).Perm R/\∀x∈R3,Hf.kf t3<Hf.kf x.1\/(Hf.kf t3=Hf.kf x.1/\k3<x.2))/\(b3=false->R=[]/\R3=[])):=⟨p31,p32⟩;clear L30 N30 p31 p32 Qt hnx;go_wp2_with fail;go_roundg gk;case measure=>omega
       case rel=>exact⟨uN,rows,R3,R,np,_,b3,t3,k3,rfl,rfl,⟨Mg.o.1,Mg.o.2,Qw.o.1,Qw.o.2⟩,HP3.o⟩
      | false=>
       have hrows:(fun i=>if i=q0 then(if bH aC (rows q0) t2 then rows q0 else rows q0++[t2])else rows i)=dO rows q0 t2:=by
        rw[HBB.o]
        funext i
        unfold dO;split
        ·rename_i e;rw[e];rfl
        ·rfl
       rw[hrows]at LC;obtain⟨y0,y1,y2,y3⟩:=XC.cells;have hBc:=XC.lt;obtain⟨x0,x1⟩:=FH LC.lr hc0;have hln:=(LC.ch q0 c0 hc0).len;rw[show(dO rows q0 t2 q0).length=(rows q0).length+1 by unfold dO;rw[if_pos rfl];simp]at hln;obtain⟨ln,Xj⟩:=aF ((rows q0).length+1);rw[<-Xj]at hln;have uH:=Hf.hid Xj;have HLC:=Hf.hid LC;have HXC:=Hf.hid XC;clear LC XC hrows Xj;have hnc:¬pY PX (rows q0) t2:=fun h=>by
        have:=(rU Pc.CK _ _).2 h;rw[HBB.o]at this;cases this
       have Vz:=Hf.hid hnc;clear hnc;by_cases h64:64<ln
       ·have abX:(64:Int)<(ln:Int):=(by omega);have YL:Hid (LfA w ss p (.returned (.tuple #[.slice none 0 0,iV 28])) wc):=⟨HLC.o.bl,none,sw.o.2.2.1.wide Zt.o Zv.o Vz.o (by rw[<-uH.o];exact h64),Or.inl ⟨rfl,rfl⟩⟩;go_wp2_with fail;refine hln.mono ?_;rintro e CX ⟨rfl,O1⟩;rw[O1];clear O1;go_wp2;refine bR (v:= .tuple #[.slice none 0 0,iV 28]) (by simp[results,Tryz.results74,go_sem]) rfl ?_;exact YL.o
       ·have abX:¬(64:Int)<(ln:Int):=(by omega);go_wp2_with fail;refine hln.mono ?_;rintro e CX ⟨rfl,O1⟩;rw[O1];clear O1 hln;obtain⟨s,hs⟩:∃s,ss[q0]? =some s:=⟨ss[q0]'hq0,by simp⟩;have sj:=Hf.hid hs;obtain⟨bs,os,qs,ms,hps,Xu,sc0,sl⟩:=HS.o.at hs;subst hps;have sc:=(HLC.o.bl.cell (p:=⟨bs,os+q0,none⟩) Xu).trans sc0;have hbs:=nL Xu HLC.o.bl.size;clear sc0 Xu;have hsl:s.length<=140737488355328:=by
         have h1:=HD.o s (lM hs);have h2:=HM.o;have h3:64*ss.length*1<=64*ss.length*(d+1):=Nat.mul_le_mul (nR _) (by omega);have h4:d+1<=64*ss.length*(d+1):=Nat.le_mul_of_pos_left _ (by omega);omega
        have HI0:Hid (Lf w ZL hb g ss.length cs (dO rows q0 t2) R np wc/\Bx w ZL B ((q0:Int),t2) wc/\pR s ss.length t2 (dO rows q0 t2) R R 0/\np<=np+0/\R.length<=np):=⟨HLC.o,HXC.o,pR.init (fun x hx=>sw.o.2.2.1.rg x (Zt.o.mem_iff.1 (mO _ hx))),nR _,by
         have h1:=sw.o.2.2.1.ln;have h2:R.length+1=L0.length:=(by simpa using Zt.o.length_eq);omega⟩
        have Mv:Hid (Ls EF w (.slice qs s.length ms) s):=sl;clear sl hs HLC HXC;go_wp2_with fail;go_loopw [12,13,14,66] (fun _ _ _ s66 wx=>∃(j:Nat) (A9:Nat->Nat) (LI:List Hf.It) (ni:Nat),j<=s.length/\s66=iV j/\Hid (Lf w A9 hb g ss.length cs (dO rows q0 t2) LI ni wx/\Bx w A9 B ((q0:Int),t2) wx/\pR s ss.length t2 (dO rows q0 t2) R LI j/\ni<=np+j/\LI.length<=ni)) (fun _ _ _ s66 _=>s.length-(intOf s66).toNat);case atStart=>exact⟨0,_,_,_,zL _,rfl,HI0.o⟩
        case round=>
         clear HI0 y0 y1 y2 y3 hBc x0 x1 sc hbs;obtain⟨j,A9,LI,ni,hj,rfl,HI⟩:=hrel;by_cases hjl:j<s.length
         ·have hjz:(j:Int)<(s.length:Int):=(by omega);have hj0:(0:Int)<=(j:Int):=(by omega);obtain⟨⟨x1,x2⟩,hx⟩:∃x,s[j]? =some x:=⟨s[j],by simp⟩;obtain⟨qx,hqx,e1⟩:=HR.o s (lM sj.o) _ (lM hx);simp only at e1;subst e1;have HX:Hid (s[j]? =some ((qx:Int),x2)):=hx;obtain⟨cx,hcx⟩:∃c,cs[qx]? =some c:=⟨cs[qx]'(by rw[HI.o.1.len];exact hqx),by simp⟩;have hqxz:(qx:Int)<(ss.length:Int):=(by omega);have hqx0:(0:Int)<=(qx:Int):=(by omega);obtain⟨b1,o1,c1,hv1,hb1,u0,u1,u2,u3⟩:=abj (Mv.o.below HI.o.1.bl) hx;simp only[vS]at hv1;obtain⟨rfl,-,rfl⟩:=hv1;clear hx;have aaF:=sw.o.2.2.1.bd2 (t2:=t2) hq0 (by rw[<-uH.o];omega);have vQ:Hid ((LI.length+1)*40<=140737488355328/\ni+1<18446744073709551616):=by
           have h1:=HD.o s (lM sj.o);have h2:=HI.o.2.2.2;have h3:=HM.o;generalize 64*ss.length*(d+1)=X at h3 aaF;exact⟨by omega,by omega⟩
          clear aaF;obtain⟨bx,hbx⟩:=aF (wr.heap.size);obtain⟨W17,Xz⟩:=aF (wr.alloc (.cells #[iV (qx:Int),uV x2.1.1,uV x2.1.2.1,uV x2.1.2.2] 215));have Q3:Hid (Lf w A9 hb g ss.length cs (dO rows q0 t2) LI ni W17/\Bx w A9 B ((q0:Int),t2) W17/\W17.heap[bx]? =some (.cells #[iV (qx:Int),uV x2.1.1,uV x2.1.2.1,uV x2.1.2.2] 215 (0,0))/\pR s ss.length t2 (dO rows q0 t2) R LI j/\ni<=np+j/\LI.length<=ni):=by
           have g5:=((Gr.refl wr).alloc (.cells #[iV (qx:Int),uV x2.1.1,uV x2.1.2.1,uV x2.1.2.2] 215)).below;rw[Xz,hbx];exact⟨HI.o.1.below g5,HI.o.2.1.below g5,ah _ _,HI.o.2.2⟩
          have YB:Hid (wr.alloc (.cells #[iV (qx:Int),uV x2.1.1,uV x2.1.2.1,uV x2.1.2.2] 215)=W17/\wr.heap.size=bx):=⟨Xz.symm,hbx.symm⟩;clear Xz hbx HI;go_upto_region 18 with fail;rw[YB.o.1,YB.o.2];clear YB u0 u1 u2 u3 hb1;obtain⟨y0,y1,y2,y3⟩:=Q3.o.2.1.cells;have hBc:=Q3.o.2.1.lt;have ab2:=(Df.aa Q3.o.2.2.1).1;have abv:=Df.ae Q3.o.2.2.1;obtain⟨cv,hcv⟩:=aF (ui t2 x2);obtain⟨ok,hok⟩:=aF ((bJ t2 x2).isSome);have hth:=MQ t2 x2 W17;rw[<-hcv,<-hok]at hth;have HCV:Hid (cv=ui t2 x2/\ok=(bJ t2 x2).isSome):=⟨hcv,hok⟩;clear hcv hok;unfold tv at hth;go_wp2_with fail;refine hth.mono ?_;rintro e UN ⟨rfl,Xv⟩;clear hth y0 y1 y2 y3 hBc ab2 abv;obtain⟨pb,hpb⟩:=aF (UN.heap.size);obtain⟨Mr,Xy⟩:=aF (UN.alloc (.cells #[uV cv.1.1,uV cv.1.2.1,uV cv.1.2.2] 52));have Uv:Hid (Lf w A9 hb g ss.length cs (dO rows q0 t2) LI ni Mr/\Bx w A9 B ((q0:Int),t2) Mr/\Mr.heap[bx]? =some (.cells #[iV (qx:Int),uV x2.1.1,uV x2.1.2.1,uV x2.1.2.2] 215 (0,0))/\Mr.heap[pb]? =some (.cells #[uV cv.1.1,uV cv.1.2.1,uV cv.1.2.2] 52 (0,0))):=by
           have g5:=((Gr.refl UN).alloc (.cells #[uV cv.1.1,uV cv.1.2.1,uV cv.1.2.2] 52)).below;have g6:=Xv.trans (g5.mono Xv.size);rw[Xy,hpb];exact⟨Q3.o.1.below g6,Q3.o.2.1.below g6,(g6.block _ (Df.ae Q3.o.2.2.1)).trans Q3.o.2.2.1,ah _ _⟩
          have YA:Hid (UN.alloc (.cells #[uV cv.1.1,uV cv.1.2.1,uV cv.1.2.2] 52)=Mr/\UN.heap.size=pb):=⟨Xy.symm,hpb.symm⟩;have uJ:=Hf.hid Q3.o.2.2.2;clear Xy hpb Q3 Xv;go_upto_region 19 with fail;rw[YA.o.1,YA.o.2];clear YA;obtain⟨cq,hcq⟩:=aF (bH aC (dO rows q0 t2 qx) cv);have Cc:∀W:World,Bw Mr W->CL 131 #[aB cx, .agg #[uV cv.1.1,uV cv.1.2.1,uV cv.1.2.2]] W fun e w'=>e= .returned (.bool cq)/\Bw W w':=fun W hW=>by
           refine(((Uv.o.1.below hW).ch qx cx hcx).covers cv (by
            have h5:(dO rows q0 t2 qx).length<=65:=by
             unfold dO;have:=sw.o.2.2.1.sm qx;split
             ·simp;omega
             ·omega
            omega)).mono ?_
           rintro e w' ⟨rfl,hg⟩;exact⟨by rw[hcq],hg.below⟩
          have HCQ:=Hf.hid hcq;clear hcq;have gK:Hid (∀W,Bw Mr W->aj W g qx (aB cx)/\aj W bx 0 (iV (qx:Int))/\aj W pb 0 (uV cv.1.1)/\aj W pb 1 (uV cv.1.2.1)/\aj W pb 2 (uV cv.1.2.2)/\g<W.heap.size/\bx<W.heap.size/\pb<W.heap.size):=fun W hb=>by
           obtain⟨a0,a1⟩:=FH (Uv.o.1.below hb).lr hcx;have h1:=(hb.block _ (Df.ae Uv.o.2.2.1)).trans Uv.o.2.2.1;have h2:=(hb.block _ (Df.ae Uv.o.2.2.2)).trans Uv.o.2.2.2;have h3:=(Df.aa h1).1;have h4:=(Df.aa h2).1;exact⟨a0,h3 0,h4 0,h4 1,h4 2,a1,Df.ae h1,Df.ae h2⟩
          have hB0:Bw Mr Mr.drew:=(Gr.refl Mr).drew.below;have S0:=gK.o _ hB0;have HB0:=Hf.hid hB0;clear hB0;go_cut [88] (fun s88 wq=>s88= .bool (ok && !cq)/\Hid (Bw Mr wq));case first=>
           cases ok with
           | true=>
            have hcv2:=fun W hW=>Cc W (HB0.o.trans hW);go_region_held3 (fun W=>aj W g qx (aB cx)/\aj W bx 0 (iV (qx:Int))/\aj W pb 0 (uV cv.1.1)/\aj W pb 1 (uV cv.1.2.1)/\aj W pb 2 (uV cv.1.2.2)/\g<W.heap.size/\bx<W.heap.size/\pb<W.heap.size)
             (first|exact S0|assumption)
             (first|(go_at_call 131;refine(Cc _ HB0.o).mono ?_;rintro e ZI ⟨rfl,Ce⟩;have hS20:=gK.o _ (HB0.o.trans (Ce.mono HB0.o.size))))
            go_wp2_with fail;go_meet;exact⟨by simp,HB0.o.trans (Ce.mono HB0.o.size)⟩
           | false=>
            go_quiet (fail);go_wp2_with fail;go_meet;exact⟨by simp,((Gr.refl Mr).drewN _).below⟩
          case rest=>
           obtain⟨rfl,HC⟩:=hcut;obtain⟨a0,a1,a2,a3,a4,a5,a6,a7⟩:=gK.o _ HC.o;have HLQ:=Hf.hid (Uv.o.1.below HC.o);have HXQ:=Hf.hid (Uv.o.2.1.below HC.o);have HTH:Hid (∀c,bJ t2 x2=some c->c=cv/\ok=true):=fun c hc=>⟨by rw[HCV.o.1,wy hc],by rw[HCV.o.2,hc];rfl⟩;clear S0 Cc gK Uv HB0;obtain⟨bq,hbq⟩:=aF ((ok && !cq));rw[<-hbq];have HBQ:=Hf.hid hbq;clear hbq;cases bq with
           | true=>
            have hpush:=(HLQ.o.hm).push ((qx:Int),cv) vQ.o.1 vQ.o.2;go_wp2_with fail;refine hpush.mono ?_;rintro e ZI ⟨L20,rfl,aas,Xa,Xd⟩;have FIN:Hid (Lf w (tg A9 wc 1) hb g ss.length cs (dO rows q0 t2) L20 (ni+1) ZI/\Bx w (tg A9 wc 1) B ((q0:Int),t2) ZI/\pR s ss.length t2 (dO rows q0 t2) R L20 (j+1)/\ni+1<=np+(j+1)/\L20.length<=ni+1):=by
             have hb:(ok && !cq)=true:=HBQ.o.symm;rw[bA]at hb;obtain⟨c,hc⟩:∃c,bJ t2 x2=some c:=by
              have:=HCV.o.2;rw[hb.1]at this;exact Option.isSome_iff_exists.1 this.symm
             have hc2:=(HTH.o c hc).1;subst hc2;refine⟨HLQ.o.heap aas Xd,HXQ.o.nx Xd (by decide),uJ.o.1.push HX.o hqx hc Xa,by have:=uJ.o.2.1;omega, ?_⟩;rw[Xa.length_eq,dQ,vR];have:=uJ.o.2.2;omega
            clear aas Xa Xd hpush;go_wp2_with fail;go_roundw;case rel=>exact⟨j+1,_,L20,ni+1,by omega,by first|rfl|go_num,FIN.o⟩
            case measure=>simp[intOf];omega
           | false=>
            have FIN:Hid (pR s ss.length t2 (dO rows q0 t2) R LI (j+1)/\ni<=np+(j+1)/\LI.length<=ni):=by
             refine⟨uJ.o.1.skip HX.o (fun c hc=> ?_),by have:=uJ.o.2.1;omega,uJ.o.2.2⟩;obtain⟨h1,h2⟩:=HTH.o c hc;have hb:=HBQ.o;rw[h2,Bool.true_and]at hb;have hb2:cq=true:=(by simpa using hb.symm);rw[h1];rw[HCQ.o]at hb2;exact(rU Pc.CK _ _).1 hb2
            go_wp2_with fail;go_roundw;case rel=>exact⟨j+1,_,LI,ni,by omega,by first|rfl|go_num,HLQ.o,HXQ.o,FIN.o⟩
            case measure=>simp[intOf];omega
         ·have hjz:¬(j:Int)<(s.length:Int):=(by omega);have hje:j=s.length:=(by omega);subst hje;obtain⟨WZ,hms⟩:=sw.o.2.2.1.take Zt.o Zv.o Vz.o sj.o (HD.o s (lM sj.o)) (by rw[<-uH.o];omega) HI.o.2.2.1 HI.o.2.2.2.1 HI.o.2.2.2.2;obtain⟨y0,y1,y2,y3⟩:=HI.o.2.1.cells;have hBc:=HI.o.2.1.lt;obtain⟨LD,XD⟩:=HI.o.1.box ((q0:Int),t2);have Qw:Hid (Pu ss p d (dO rows q0 t2) LI ni/\Ju ss.length d (dO rows q0 t2) LI.length<=gk):=⟨WZ,by have:=sw.o.2.2.2;omega⟩;have hnx:=LD.next (by have:=(WZ.bd HM.o).2.2.1;omega);have HXD:=Hf.hid XD;clear LD XD WZ hms;go_wp2_with fail;refine hnx.mono ?_;rintro e w30 ⟨b3,t3,k3,R3,uN,rfl,L30,N30,p31,p32⟩;have Qt:=HXD.o.nx N30 (by decide);obtain⟨z0,z1,z2,z3⟩:=Qt.cells;obtain⟨f0,f1,f2,f3⟩:=Qt.fz;have aby:=Qt.lt;have Mg:=Hf.hid (L30.set Qt t3);have HP3:Hid ((b3=true->((t3,k3)::R3).Perm LI/\∀x∈R3,Hf.kf t3<Hf.kf x.1\/(Hf.kf t3=Hf.kf x.1/\k3<x.2))/\(b3=false->LI=[]/\R3=[])):=⟨p31,p32⟩;clear L30 N30 p31 p32 Qt hnx;go_wp2_with fail;go_roundg gk;case measure=>omega
          case rel=>exact⟨uN,_,R3,LI,ni,_,b3,t3,k3,rfl,rfl,⟨Mg.o.1,Mg.o.2,Qw.o.1,Qw.o.2⟩,HP3.o⟩
end Lf
end Go.Proofs.YtiiefcalkjeieaaGreat
