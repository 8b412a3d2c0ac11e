import Derived.Test.YteekbpokkjjipaaGreatGCopd
import Derived.Test.YteekbpokkjjipaaGreatJ7
variable{hb np i g cap ff m B1 at_ k j p b o s n n':Nat}{v:Go.Value}{w w' wr:Go.World}{e:Go.TypeId}{xs:List Go.Value}
set_option maxHeartbeats 16000000
set_option maxRecDepth 100000
namespace Go.Proofs.YteekbpokkjjipaaGreat
namespace Df
open Go.RowKit Go.Sort
abbrev SX:=Nat×Nat×Bool
def kK(i:Nat)(n:df):List SX:=(List.range n.ins.toNat).map (fun p=>(i,p,true))++(List.range n.outs.toNat).map (fun p=>(i,p,false))
def aV(ns:List df):Nat->List SX
 | 0 => []
 | i + 1 => aV ns i++match ns[i]? with | some n=>kK i n | none=>[]
def bK(ns:List df)(i:Nat):Nat:=(aV ns i).length
def bM(ns:List df)(i:Nat):List Int:=(List.range i).map fun k=>(bK ns k:Int)
theorem jw{ns:List df}{n:df}(hi:ns[i]? =some n):aV ns (i+1)=aV ns i++kK i n:=by simp[aV,hi]
theorem uG(i:Nat)(n:df):(kK i n).length=n.ins.toNat+n.outs.toNat:=by simp[kK]
theorem rV{ns:List df}{n:df}(hi:ns[i]? =some n):bK ns (i+1)=bK ns i+(n.ins.toNat+n.outs.toNat):=by simp[bK,jw hi,uG]
theorem CS(ns:List df)(i:Nat):bM ns (i+1)=bM ns i++[(bK ns i:Int)]:=by simp[bM,List.range_succ]
theorem ic(ns:List df)(i:Nat):(bM ns i).length=i:=by simp[bM]
theorem vW(ns:List df)(h:i<m):(bM ns m)[i]? =some (bK ns i:Int):=by simp[bM,h]
theorem Ep(ns:List df)(h:i<=m):∃l,aV ns m=aV ns i++l:=by
 induction m with
 | zero => obtain rfl:i=0:=by omega
           exact⟨[],by simp⟩
 | succ m ih=>
  by_cases e:i=m+1
  ·subst e;exact⟨[],by simp⟩
  ·obtain⟨l,hl⟩:=ih (by omega);exact⟨l++_,by rw[aV,hl,aA]⟩
def Tc(ns:List df):Prop:=∀n∈ns,0<=n.ins/\n.ins<=4/\0<=n.outs/\n.outs<=4
theorem nH{ns:List df}(h:Tc ns)(i:Nat):bK ns i<=8*i:=by
 induction i with
 | zero => simp[bK,aV]
 | succ i ih=>
  cases hi:ns[i]? with
  | none => simp only[bK,aV,hi,DF]at ih⊢;omega
  | some n=>
   rw[rV hi];have:=h n (lM hi);omega
theorem xO{ns:List df}{t:SX}(h:i<=m)(hk:(aV ns i)[k]? =some t):(aV ns m)[k]? =some t:=by
 obtain⟨l,hl⟩:=Ep ns h;rw[hl,gL (lG.1 hk).1];exact hk
theorem Bw{ns:List df}{n:df}(hi:ns[i]? =some n)(hm:i<m)(hp:p<n.ins.toNat):(aV ns m)[bK ns i+p]? =some (i,p,true):=by
 refine xO (i:=i+1) hm ?_;rw[jw hi,List.getElem?_append_right (by simp[bK]),bK,Nat.add_sub_cancel_left,kK,gL (by simpa using hp)];simp[hp]
theorem xP{ns:List df}{n:df}(hi:ns[i]? =some n)(hm:i<m)(hp:p<n.outs.toNat):(aV ns m)[bK ns i+n.ins.toNat+p]? =some (i,p,false):=by
 refine xO (i:=i+1) hm ?_;rw[jw hi,List.getElem?_append_right (by simp[bK];omega),bK,show(aV ns i).length+n.ins.toNat+p-(aV ns i).length=n.ins.toNat+p by omega,kK,List.getElem?_append_right (by simp)];simp[hp]
def dW(ns:List df)(d:dI):Nat:=bK ns d.src.toNat+(match ns[d.src.toNat]? with|some n=>n.ins.toNat|none=>0)+d.o.toNat
def iF(ns:List df)(d:dI):Nat:=bK ns d.dst.toNat+d.cO.toNat
def gY(ns:List df)(es:List dI)(k:Nat):Nat->List Int
 | 0 => []
 | j + 1 => gY ns es k j++match es[j]? with | some d=>if dW ns d=k\/iF ns d=k then[(j:Int)]else[] | none=>[]
theorem xC(ns:List df)(es:List dI)(k j:Nat):(gY ns es k j).length<=j:=by
 induction j with
 | zero => simp[gY]
 | succ j ih=>
  rw[gY,dH];have:(match es[j]? with|some d=>if dW ns d=k\/iF ns d=k then[(j:Int)]else[]|none=>[]).length<=1:=by
   split
   ·split<;>simp
   ·simp
  omega
theorem qh{ns:List df}{i p:Int}(h:eO ns i p=true):∃n,ns[i.toNat]? =some n/\0<=i/\i.toNat<ns.length/\0<=p/\p<n.outs:=by
 unfold eO iZ at h;by_cases h0:0<=i
 ·rw[if_pos h0]at h;cases e:ns[i.toNat]? with
  | none => rw[e]at h;cases h
  | some n=>
   rw[e]at h;simp at h;exact⟨n,rfl,h0,(lG.1 e).1,h.1,h.2⟩
 ·rw[if_neg h0]at h;cases h
theorem vO{ns:List df}{i p:Int}(h:eP ns i p=true):∃n,ns[i.toNat]? =some n/\0<=i/\i.toNat<ns.length/\0<=p/\p<n.ins:=by
 unfold eP iZ at h;by_cases h0:0<=i
 ·rw[if_pos h0]at h;cases e:ns[i.toNat]? with
  | none => rw[e]at h;cases h
  | some n=>
   rw[e]at h;simp at h;exact⟨n,rfl,h0,(lG.1 e).1,h.1,h.2⟩
 ·rw[if_neg h0]at h;cases h
theorem JL{ns:List df}{l:List dI}{d:dI}(h:jd ns l d=0):eO ns d.src d.o=true/\eP ns d.dst d.cO=true/\wK l d=false:=by
 unfold jd at h;split at h
 ·cases h
 ·rename_i hn;simp only[not_or,Bool.not_eq_false,Bool.not_eq_true]at hn;exact hn
theorem uW{ns:List df}{d:dI}(h:eO ns d.src d.o=true):(aV ns ns.length)[dW ns d]? =some (d.src.toNat,d.o.toNat,false):=by
 obtain⟨n,hn,_,hl,h1,h2⟩:=qh h;unfold dW;rw[hn];exact xP hn hl (by omega)
theorem Aa{ns:List df}{d:dI}(h:eP ns d.dst d.cO=true):(aV ns ns.length)[iF ns d]? =some (d.dst.toNat,d.cO.toNat,true):=by
 obtain⟨n,hn,_,hl,h1,h2⟩:=vO h;exact Bw hn hl (by omega)
theorem QV{ns:List df}{d:dI}(h:eO ns d.src d.o=true)(h':eP ns d.dst d.cO=true):dW ns d≠iF ns d:=fun e=>by
 have h1:=uW h;have h2:=Aa h';rw[e,h2]at h1;simp at h1
def OI(ns:List df)(i p:Int):Int:=if eP ns i p=true then bK ns i.toNat+p else -1
def xk(ns:List df)(i p:Int):Int:=if eO ns i p=true then bK ns i.toNat+(match ns[i.toNat]? with|some n=>n.ins|none=>0)+p else -1
theorem jD{a:Int}{n:df}(h:ek a n=0):0<=n.ins/\n.ins<=4/\0<=n.outs/\n.outs<=4:=by
 unfold ek at h;split at h
 ·cases h
 ·split at h
  ·cases h
  ·rename_i h1 h2;have h2:=Classical.not_not.1 h2;obtain⟨h3,h4⟩:=h2;unfold Hl at h3;unfold p8 at h4;constructor
   ·split at h3
    ·simp at h3;omega
    ·split at h3
     ·simp at h3;omega
     ·split at h3<;>simp at h3<;>omega
   ·constructor
    ·split at h3
     ·simp at h3;omega
     ·split at h3
      ·simp at h3;omega
      ·split at h3<;>simp at h3<;>omega
    ·split at h4
     ·simp at h4;omega
     ·split at h4<;>simp at h4<;>omega
theorem gI.jW{g:bI}(h:gI g):Tc g.nodes:=fun n hn=>by
 obtain⟨i,hi,rfl⟩:=List.mem_iff_getElem.1 hn;exact jD (h.ng i _ hi (by simp))
theorem gI.ends{g:bI}(h:gI g){d:dI}(hj:g.aL[j]? =some d):eO g.nodes d.src d.o=true/\eP g.nodes d.dst d.cO=true:=by
 have:=JL (h.eg j d (lG.1 hj).1 hj);exact⟨this.1,this.2.1⟩
end Df
namespace Hf
open Go.RowKit Go.Sort Hp
attribute [local go_sem ↓] Go.wp_at_zero Go.wp_at_succ
theorem hid{p:Prop}(h:p):Hid p:=h
theorem lD:(Tryz.prog.info? 290).map (fun i=>(i.zero,i.size,i.bytes))=some (some (.agg #[.int .i64 0, .int .u64 0, .int .u64 0, .int .u64 0, .int .u64 0]),5,40):=by kernel_rfl
theorem iH(h:w'.heap[b]? =w.heap[b]?):w'.frozen? ⟨b,o,none⟩=w.frozen? ⟨b,o,none⟩:=by simp[World.frozen?,h]
theorem nD(h:w.ownsRow 0 e s (.slice (some ⟨g,0,none⟩) n' cap) n xs)(q:Nat):w.frozen? ⟨g,q,none⟩=false:=by
 obtain⟨_,⟨h0,_⟩|⟨g',cap',cur,hv,_,hgg,_⟩⟩:=h
 ·cases h0
 ·cases hv;simp[World.frozen?,hgg]
structure Pu(w:World)(hb ff np B1 g cap:Nat)(v:Value)(L:List It)(x:It)(r:Th->Th->Bool)(at_:Nat)(M:List It)(i:Nat)(wr:World):Prop where
 inv:dR (aT r) L x at_ M i
 hp:Hb wr hb ff (.slice (some ⟨g,0,none⟩) (L.length+1) cap) M (np+1)
 box:wr.heap[B1]? =some (.cells #[.int .i64 x.1.1, .int .u64 x.1.2.1.1, .int .u64 x.1.2.1.2.1, .int .u64 x.1.2.1.2.2, .int .u64 (x.2:Nat)] 290 (0,0))
 turn:dO hb v (.slice (some ⟨g,0,none⟩) (L.length+1) cap) w wr
 bne:B1≠g/\B1≠hb
theorem Pu.row{L M:List It}{x:It}{r:Th->Th->Bool}(h:Pu w hb ff np B1 g cap v L x r at_ M i wr):wr.ownsRow 0 290 5 (.slice (some ⟨g,0,none⟩) (L.length+1) cap) (L.length+1) (fl EI M):=by
 have:=h.hp.own;rw[h.inv.len]at this;exact this
theorem Pu.set{L M:List It}{x:It}{r:Th->Th->Bool}(h:Pu w hb ff np B1 g cap v L x r at_ M i wr){y:It}(hi:dR (aT r) L x at_ (M.set k y) j)
    (ho:w'.ownsRow 0 290 5 (.slice (some ⟨g,0,none⟩) (L.length+1) cap) (L.length+1) (fl EI (M.set k y))) (hk:Kp (fun q=>q=g) wr w') (hg:v.ownBlock=some g\/w.heap.size<=g):Pu w hb ff np B1 g cap v L x r at_ (M.set k y) j w':=by
 have hgb:hb≠g:=fun e=>h.hp.off (by rw[e];rfl);refine⟨hi,⟨(hk.block hb h.hp.lt hgb).trans h.hp.blk,by rw[hi.len];exact ho,h.hp.off⟩,(hk.block B1 (aG.1 h.box).1 h.bne.1).trans h.box,⟨h.turn.1.trans hk (fun q _ hq=> ?_),h.turn.2⟩,h.bne⟩;subst hq;rcases hg with hg|hg
 ·exact Or.inr hg
 ·omega
theorem uS{L:List It}{r:Th->Th->Bool}(x:Th)(w:World)(hH:Hb w hb ff v L np)(hl:(L.length+1)*40<=140737488355328)(Qx:np+1<18446744073709551616)(hF:dS ff r):
    Calls Tryz.prog 126 #[.pointer (some ⟨hb,0,none⟩),tv x] w fun e w'=>∃v' L',e= .returned (.tuple #[])/\Hb w' hb ff v' L' (np+1)/\L'.Perm (L++[(x,np)])/\(yP (aT r)->bW (aT r) L->bW (aT r) L')/\dO hb v v' w w':=by
 have hmx:Tryz.prog.follows .mixedOrders=true:=by kernel_rfl
 have k0:=hH.c0;have k1:=hH.c1;have k2:=hH.c2;have kl:=hH.lt;have UF:=hH.fz 2;obtain⟨pl,cl,rfl⟩:=hH.oW.form;obtain⟨B1,hB1⟩:=aB (w.heap.size+1);obtain⟨W2,hW2⟩:=aB (((w.alloc (.cells #[.int .i64 x.1, .int .u64 x.2.1.1, .int .u64 x.2.1.2.1, .int .u64 x.2.1.2.2] 215)).alloc (.cells #[.int .i64 (x,np).1.1, .int .u64 (x,np).1.2.1.1, .int .u64 (x,np).1.2.1.2.1, .int .u64 (x,np).1.2.1.2.2, .int .u64 ((x,np).2:Nat)] 290)).drew);have G2:Gr w W2:=by rw[hW2];exact(((Gr.refl _).alloc _).alloc _).drew
 have CF:W2.heap[B1]? =some (.cells #[.int .i64 (x,np).1.1, .int .u64 (x,np).1.2.1.1, .int .u64 (x,np).1.2.1.2.1, .int .u64 (x,np).1.2.1.2.2, .int .u64 ((x,np).2:Nat)] 290 (0,0)):=by
  have h:=ai (w.alloc (.cells #[.int .i64 x.1, .int .u64 x.2.1.1, .int .u64 x.2.1.2.1, .int .u64 x.2.1.2.2] 215)) (.cells #[.int .i64 (x,np).1.1, .int .u64 (x,np).1.2.1.1, .int .u64 (x,np).1.2.1.2.1, .int .u64 (x,np).1.2.1.2.2, .int .u64 ((x,np).2:Nat)] 290);rw[show(w.alloc (.cells #[.int .i64 x.1, .int .u64 x.2.1.1, .int .u64 x.2.1.2.1, .int .u64 x.2.1.2.2] 215)).heap.size=w.heap.size+1 by simp]at h;rw[hW2,hB1];exact h
 have sj:Hid (Hb W2 hb ff (.slice pl L.length cl) L np):=hH.gr G2;have hup:=uo (r:=r) (x,np) W2 sj.o (by omega) hF;have HG2:Hid (Gr w W2):=G2;have jl:Hid (w.heap.size<=B1/\B1<W2.heap.size):=⟨by omega,(aG.1 CF).1⟩;have hBl:B1<W2.heap.size:=(aG.1 CF).1;obtain⟨q0,q1,q2,q3,q4⟩:W2.cell? ⟨B1,0,none⟩=some (.int .i64 (x,np).1.1)/\W2.cell? ⟨B1,1,none⟩=some (.int .u64 (x,np).1.2.1.1)/\W2.cell? ⟨B1,2,none⟩=some (.int .u64 (x,np).1.2.1.2.1)/\W2.cell? ⟨B1,3,none⟩=some (.int .u64 (x,np).1.2.1.2.2)/\W2.cell? ⟨B1,4,none⟩=some (.int .u64 ((x,np).2:Nat)):=by simp[World.cell?,CF]
 have wW:Hid (W2.heap[B1]? =some (.cells #[.int .i64 (x,np).1.1, .int .u64 (x,np).1.2.1.1, .int .u64 (x,np).1.2.1.2.1, .int .u64 (x,np).1.2.1.2.2, .int .u64 ((x,np).2:Nat)] 290 (0,0))):=CF;have HH0:Hid (Hb w hb ff (.slice pl L.length cl) L np):=hH;clear hH G2 CF;go_enter Tryz.func126,Tryz.ntmps126;go_wp2_with fail;go_region;rw[<-hW2,<-hB1];clear hW2 hB1 k0 k1 k2 kl UF;go_wp2_with fail;refine hup.mono ?_;rintro e w3 ⟨at_,rfl,Fh,hend,hg3⟩;clear hup;have DY:Hid (Hb w3 hb ff (.slice pl L.length cl) L np):=sj.o.gr hg3;have k2:=DY.o.c2;have kl:=DY.o.lt;have UF:=DY.o.fz 2;have HWY:Hid (Wy (QU (aT r) L (x,np)) L.length at_):=Fh;have sw:Hid (at_=0\/∃y,L[par at_]? =some y/\aT r (x,np) y=false):=hend;have OD:Hid (at_<=L.length):=Fh.le;have Kn:Hid (Gr w w3):=HG2.o.trans hg3;have Gx:Hid (w3.heap[B1]? =some (.cells #[.int .i64 (x,np).1.1, .int .u64 (x,np).1.2.1.1, .int .u64 (x,np).1.2.1.2.1, .int .u64 (x,np).1.2.1.2.2, .int .u64 ((x,np).2:Nat)] 290 (0,0))):=(hg3.below.block B1 hBl).trans wW.o;clear Fh hend hg3 q0 q1 q2 q3 q4 wW sj;go_upto_region 5 with fail;have yR:Hid (Hb (w3.setCell ⟨hb,2,none⟩ (.int .u64 ((np:Int)+1))) hb ff (.slice pl L.length cl) L (np+1)):=(DY.o.BB (np+1)).1;have Oy:Hid (Kp (fun k=>k=hb) w3 (w3.setCell ⟨hb,2,none⟩ (.int .u64 ((np:Int)+1)))):=(DY.o.BB (np+1)).2;generalize w3.setCell ⟨hb,2,none⟩ (.int .u64 ((np:Int)+1))=w4 at yR Oy⊢;have FM:B1≠hb:=fun e=>by have:=HH0.o.lt;have:=jl.o.1;omega
 have Dy:Hid (w4.heap[B1]? =some (.cells #[.int .i64 (x,np).1.1, .int .u64 (x,np).1.2.1.1, .int .u64 (x,np).1.2.1.2.1, .int .u64 (x,np).1.2.1.2.2, .int .u64 ((x,np).2:Nat)] 290 (0,0))):=(Oy.o.block B1 (aG.1 Gx.o).1 FM).trans Gx.o;have Ai:B1<w4.heap.size:=(aG.1 Dy.o).1;obtain⟨q0,q1,q2,q3,q4⟩:w4.cell? ⟨B1,0,none⟩=some (.int .i64 (x,np).1.1)/\w4.cell? ⟨B1,1,none⟩=some (.int .u64 (x,np).1.2.1.1)/\w4.cell? ⟨B1,2,none⟩=some (.int .u64 (x,np).1.2.1.2.1)/\w4.cell? ⟨B1,3,none⟩=some (.int .u64 (x,np).1.2.1.2.2)/\w4.cell? ⟨B1,4,none⟩=some (.int .u64 ((x,np).2:Nat)):=by simp[World.cell?,Dy.o]
 obtain⟨iK,hiK,hk0,hk1,hk2⟩:=info_parts lD;have r0:=yR.o.c1;have X7:=yR.o.fz 1;have hlr:=yR.o.lt;have hne1:some hb≠(Value.slice pl L.length cl).ownBlock:=fun e=>yR.o.off e.symm;have hnm:w4.ownsRow 0 290 5 (.slice pl L.length cl) L.length (fl EI L):=yR.o.own;clear k2 kl UF hBl;go_cut [32]from 25 to 34 (fun _ w'=>∃g cap,Hid (Pu w hb ff np B1 g cap (.slice pl L.length cl) L (x,np) r at_ (L++[(x,np)]) L.length w'/\((Value.slice pl L.length cl).ownBlock=some g\/w.heap.size<=g)));case first=>
  go_region_law (refine step_append_lies _ rfl _ _ 285 rfl 0 290 iK (.agg #[.int .i64 0, .int .u64 0, .int .u64 0, .int .u64 0, .int .u64 0]) 5 40 Tryz.underlying285 hiK hk0 hk1 hk2 rfl (by decide) (Value.slice pl L.length cl) L.length (fl EI L) rfl (World.ownsRow.alloc (w:=w4.drew) hnm _) ⟨w4.heap.size,0,none⟩ 1 1 [.int .i64 (x,np).1.1, .int .u64 (x,np).1.2.1.1, .int .u64 (x,np).1.2.1.2.1, .int .u64 (x,np).1.2.1.2.2, .int .u64 ((x,np).2:Nat)] rfl rfl (World.news_of_block (ai _ _)) (by simp[Value.oneCell']) (by decide) (by unfold maxLen;omega) (by omega) (Nat.zero_le _) _ rfl ?_
                 intro g cap fH Fq hgrow Nf YA;have Gz:=hgrow.block hb (by simp;omega) hne1;have k10:fH.cell? ⟨hb,1,none⟩=some (Value.slice pl L.length cl):=(World.cell?_of_block (a:=⟨hb,1,none⟩) Gz).trans ((((Gr.refl w4).drew.alloc _).cell hlr).trans r0);have aap:fH.frozen? ⟨hb,1,none⟩=false:=(iH Gz).trans ((((Gr.refl w4).drew.alloc _).frozen hlr).trans X7))
  all_goals (
   go_wp2_with fail;go_meet;have OC:fH.heap[hb]? =some (.cells #[fv ff, .slice pl L.length cl, .int .u64 ((np+1:Nat):Int)] 287 (0,0)):=Gz.trans ((((Gr.refl w4).drew.alloc _).below.block hb hlr).trans yR.o.blk);obtain⟨hs1,hs2⟩:=(kZ OC).1 (.slice (some ⟨g,0,none⟩) (L.length+1) cap);have hz4:w.heap.size<=w4.heap.size:=nT Kn.o.size Oy.o.size;have q8:Kp (fun q=>(Value.slice pl L.length cl).ownBlock=some q) w4 fH:=(Kp.aU ((Gr.refl w4).drew.alloc _)).trans (Kp.grownBy (S:=fun q=>(Value.slice pl L.length cl).ownBlock=some q) hgrow (fun _ h=>h)) (fun _ _ h=>h);have hg4:(Value.slice pl L.length cl).ownBlock=some g\/w4.heap.size<=g:=Nf.imp id (fun h=>by rw[h];simp);have hg:(Value.slice pl L.length cl).ownBlock=some g\/w.heap.size<=g:=hg4.imp id (fun h=>by omega);have hlw:=HH0.o.lt;have hrw:=HH0.o.row;have hgb:g≠hb:=fun e=>by
    rcases hg with h|h
    ·exact HH0.o.off (by rw[h,e])
    ·omega
   have hBg:B1≠g:=fun e=>by
    have hB:=jl.o.1;have hB4:B1<w4.heap.size:=Ai;rcases hg4 with h|h
    ·have:=hrw g h;omega
    ·omega
   refine⟨g,cap,⟨dR.init HWY.o,⟨hs1, ?_, ?_⟩, ?_,⟨?_,fun q hq=> ?_⟩,hBg,FM⟩,hg⟩
   ·rw[dH,aS];refine ay hs2 (by rw[dK];exact Fq) (fun k hk e=> ?_);have:k=g:=(by simpa[Value.ownBlock]using hk.symm);exact hgb (by rw[<-this,e])
   ·simpa[Value.ownBlock]using hgb
   ·refine(hs2.block B1 (nL Ai q8.size) FM).trans ((q8.block B1 Ai (fun h=> ?_)).trans Dy.o);have:=hrw B1 h;have:=jl.o.1;omega
   ·refine(((Kp.aU Kn.o).trans (Oy.o.mono (fun _ h=>Or.inl h)) (fun _ _ h=>h)).trans (q8.mono (fun _ h=>Or.inr h)) (fun _ _ h=>h)).trans (hs2.mono (fun _ h=>Or.inl h)) (fun _ _ h=>h)
   ·have:q=g:=(by simpa[Value.ownBlock]using hq.symm);rw[this];exact hg)
 case rest=>
  obtain⟨g,cap,Ov⟩:=hcut;have r1:=Ov.o.1.hp.c1;have U5:=Ov.o.1.hp.lt;have Z8:Hid ((Value.slice pl L.length cl).ownBlock=some g\/w.heap.size<=g):=Ov.o.2;have ZV:Hid (Pu w hb ff np B1 g cap (.slice pl L.length cl) L (x,np) r at_ (L++[(x,np)]) L.length wc):=Ov.o.1;clear Ov Dy Ai q0 q1 q2 q3 q4 r0 X7 hlr hne1 hnm yR Oy DY Kn Gx hiK hk0 hk1 hk2;go_wp2_with fail;clear r1 U5;go_loopw [6] (fun s6 wr=>∃(i:Nat) (M:List It),i<=L.length/\s6= .int .i64 i/\Hid (Pu w hb ff np B1 g cap (.slice pl L.length cl) L (x,np) r at_ M i wr)) (fun s6 _=>(RowKit.intOf s6).toNat);case atStart=>exact⟨L.length,_,nR _,by first|rfl|simp,ZV.o⟩
  case round=>
   clear ZV;obtain⟨i,M,hil,rfl,HP⟩:=hrel;have AU:Hid (wr.ownsRow 0 290 5 (.slice (some ⟨g,0,none⟩) (L.length+1) cap) (L.length+1) (fl EI M)):=HP.o.row;have hfz:=nD AU.o;have r1:=HP.o.hp.c1;have hlr:=HP.o.hp.lt;have hgl:g<wr.heap.size:=(AU.o.lt g rfl).2;have U9:(i:Int)<(L.length:Int)+1:=(by omega);have hi0:(0:Int)<=(i:Int):=(by omega);obtain⟨z,hz⟩:∃z,M[i]? =some z:=⟨M[i]'(by rw[HP.o.inv.len];omega),by rw[nY]⟩;obtain⟨b1,o1,c1,e1,z1,y0,y1,y2,y3,y4⟩:=gz HP.o.hp.oW hz;simp only[vS,oI,aI,and_true]at e1;obtain⟨⟨rfl,rfl⟩,-,rfl⟩:=e1;rw[nZ]at y0 y1 y2 y3 y4;have f0:=hfz (i*5+0);have f1:=hfz (i*5+1);have f2:=hfz (i*5+2);have f3:=hfz (i*5+3);have f4:=hfz (i*5+4);rw[nO]at f0;clear hz z1 hfz;by_cases hlt:at_<i
   ·have hltz:(at_:Int)<(i:Int):=(by omega);obtain⟨y,hy,hpi⟩:=HP.o.inv.step hlt;have Cw:0<i:=(by omega);have Ct:=eH Cw;have HPI:Hid (dR (aT r) L (x,np) at_ (M.set i y) (par i)):=hpi;have hpz:(par i:Int)<(L.length:Int)+1:=(by omega);have hp0:(0:Int)<=(par i:Int):=(by omega);obtain⟨b1,o1,c1,e1,z1,x0,x1,x2,x3,x4⟩:=gz HP.o.hp.oW hy;clear z1;simp only[vS,oI,aI,and_true]at e1;obtain⟨⟨rfl,rfl⟩,-,rfl⟩:=e1;rw[nZ]at x0 x1 x2 x3 x4;have nU:∀W,Calls Tryz.prog 147 #[.int .i64 i] W fun e w'=>e= .returned (.int .i64 (par i:Nat))/\w'=W:=fun W=>fO i Cw (by omega) W;have Dv:Hid (par i<i):=Ct;clear hy hpi Ct;go_wp2_with fail;go_region_with (go_at_call 147;refine(nU _).mono ?_;rintro e w4 ⟨rfl,rfl⟩);all_goals (
     obtain⟨ho,hk⟩:=eY (i:=i) y AU.o;have Ow:=hid (HP.o.set HPI.o (ag ho (Gr.refl _).drew.below) (hk.trans (Kp.aU (Gr.refl _).drew) (fun _ _ h=>h)) Z8.o);clear ho hk r1 x0 x1 x2 x3 x4 y0 y1 y2 y3 y4 f0 f1 f2 f3 f4;go_wp2_with (go_at_call 147;refine(nU _).mono ?_;rintro e w4 ⟨rfl,rfl⟩);go_roundw;case rel=>exact⟨par i,_,by have:=Dv.o;omega,rfl,Ow.o⟩
     case measure=>simp[RowKit.intOf];exact Dv.o)
   ·have hltz:¬(at_:Int)<(i:Int):=(by omega);have hie:i=at_:=(by have:=HP.o.inv.way.le;omega);subst hie;obtain⟨q0,q1,q2,q3,q4⟩:wr.cell? ⟨B1,0,none⟩=some (.int .i64 (x,np).1.1)/\wr.cell? ⟨B1,1,none⟩=some (.int .u64 (x,np).1.2.1.1)/\wr.cell? ⟨B1,2,none⟩=some (.int .u64 (x,np).1.2.1.2.1)/\wr.cell? ⟨B1,3,none⟩=some (.int .u64 (x,np).1.2.1.2.2)/\wr.cell? ⟨B1,4,none⟩=some (.int .u64 ((x,np).2:Nat)):=(by simp[World.cell?,HP.o.box]);have hBl:B1<wr.heap.size:=(aG.1 HP.o.box).1;go_wp2_with fail;go_region;all_goals (
     go_end0;obtain⟨ho,hk⟩:=eY (i:=i) (x,np) AU.o;obtain⟨d1,d2⟩:=HP.o.inv.done sw.o;have hgb:hb≠g:=fun e=>HP.o.hp.off (by rw[e];rfl);have hk2:=hk.trans (Kp.aU (S:=fun q=>q=g) (Gr.refl _).drew) (fun _ _ h=>h);refine⟨_,_,rfl,⟨(hk2.block hb HP.o.hp.lt hgb).trans HP.o.hp.blk, ?_,HP.o.hp.off⟩,d1,d2,HP.o.turn.1.trans hk2 (fun q _ hq=> ?_),HP.o.turn.2⟩
     ·rw[lZ,HP.o.inv.len];exact ag ho (Gr.refl _).drew.below
     ·subst hq;rcases Z8.o with hg|hg
      ·exact Or.inr hg
      ·omega)
theorem dB(ff:Nat)(w:World):Calls Tryz.prog 123 #[fv ff] w fun e w'=>∃hb,e= .returned (.pointer (some ⟨hb,0,none⟩))/\w.heap.size<=hb/\Hb w' hb ff (.slice none 0 0) [] 0/\Gr w w':=by
 go_enter Tryz.func123,Tryz.ntmps123;go_wp2;go_ret;exact⟨_,rfl,nR _,⟨ai _ _,World.ownsRow_nil _ _ _ _,by simp[Value.ownBlock]⟩,(Gr.refl _).alloc _⟩
theorem gB{L:List It}(w:World)(hH:Hb w hb ff v L np):Calls Tryz.prog 247 #[.pointer (some ⟨hb,0,none⟩)] w fun e w'=>e= .returned (.int .i64 (L.length:Nat))/\w'=w:=by
 have k1:=hH.c1;obtain⟨pl,cl,rfl⟩:=hH.oW.form;have kl:=hH.lt;clear hH;go_enter Tryz.func247,Tryz.ntmps247;go_wp2;go_ret;exact⟨rfl,rfl⟩
abbrev ans(x:Th)(b:Bool):Value:= .tuple #[tv x, .bool b]
abbrev zt:Th:=(0,⟨(0,0,0),by decide⟩)
theorem pY{L:List It}{t:It}(w:World)(hH:Hb w hb ff v L np)(ht:L[0]? =some t):Calls Tryz.prog 187 #[.pointer (some ⟨hb,0,none⟩)] w fun e w'=>e= .returned (ans t.1 true)/\Gr w w':=by
 have hlen:∀W:World,Gr w W->Calls Tryz.prog 247 #[.pointer (some ⟨hb,0,none⟩)] W fun e w'=>e= .returned (.int .i64 (L.length:Nat))/\w'=W:=fun W h=>gB W (hH.gr h);have hpos:0<L.length:=(lG.1 ht).1;have hpz:¬(L.length:Int)=0:=by omega
 have aat:(0:Int)<(L.length:Int):=by omega
 obtain⟨b1,o1,c1,e1,z1,x0,x1,x2,x3,x4⟩:=gz hH.oW ht;subst e1;have k1:=hH.c1;have kl:=hH.lt;clear hH ht;simp only[Nat.zero_mul,nO]at x0 x1 x2 x3 x4;go_enter Tryz.func187,Tryz.ntmps187;go_wp2_with fail;refine(hlen _ (by first|exact(Gr.refl _).alloc _|exact Gr.refl _)).mono ?_;rintro e w1 ⟨rfl,rfl⟩;go_wp2;refine bodyPost_ret (v:=ans t.1 true) (by simp[results,Tryz.results187,go_sem]) rfl ?_;exact⟨rfl,by first|exact(Gr.refl _).alloc _|exact Gr.refl _⟩
theorem jX(w:World)(hH:Hb w hb ff v [] np):Calls Tryz.prog 187 #[.pointer (some ⟨hb,0,none⟩)] w fun e w'=>e= .returned (ans zt false)/\Gr w w':=by
 have hlen:∀W:World,Gr w W->Calls Tryz.prog 247 #[.pointer (some ⟨hb,0,none⟩)] W fun e w'=>e= .returned (.int .i64 0)/\w'=W:=fun W h=>gB W (hH.gr h);clear hH;go_enter Tryz.func187,Tryz.ntmps187;go_wp2_with fail;refine(hlen _ (by first|exact(Gr.refl _).alloc _|exact Gr.refl _)).mono ?_;rintro e w1 ⟨rfl,rfl⟩;go_wp2;refine bodyPost_ret (v:=ans zt false) (by simp[results,Tryz.results187,go_sem]) rfl ?_;exact⟨rfl,by first|exact((Gr.refl _).alloc _).alloc _|exact(Gr.refl _).alloc _|exact Gr.refl _⟩
end Hf
namespace Hc
open Go.RowKit Go.Sort Hp
attribute [local go_sem ↓] Go.wp_at_zero Go.wp_at_succ
theorem hid{p:Prop}(h:p):Hid p:=h
theorem lD:(Tryz.prog.info? 251).map (fun i=>(i.zero,i.size,i.bytes))=some (some (.agg #[.int .i64 0, .int .u64 0, .int .u64 0, .int .u64 0, .int .i64 0, .int .u64 0]),6,48):=by kernel_rfl
theorem iH(h:w'.heap[b]? =w.heap[b]?):w'.frozen? ⟨b,o,none⟩=w.frozen? ⟨b,o,none⟩:=by simp[World.frozen?,h]
theorem nD(h:w.ownsRow 0 e s (.slice (some ⟨g,0,none⟩) n' cap) n xs)(q:Nat):w.frozen? ⟨g,q,none⟩=false:=by
 obtain⟨_,⟨h0,_⟩|⟨g',cap',cur,hv,_,hgg,_⟩⟩:=h
 ·cases h0
 ·cases hv;simp[World.frozen?,hgg]
structure Pu(w:World)(hb:Nat)(ff:Value)(np B1 g cap:Nat)(v:Value)(L:List It)(x:It)(r:Th->Th->Bool)(at_:Nat)(M:List It)(i:Nat)(wr:World):Prop where
 inv:dR (aT r) L x at_ M i
 hp:Hb wr hb ff (.slice (some ⟨g,0,none⟩) (L.length+1) cap) M (np+1)
 box:wr.heap[B1]? =some (.cells #[.int .i64 x.1.1, .int .u64 x.1.2.1.1.1, .int .u64 x.1.2.1.1.2.1, .int .u64 x.1.2.1.1.2.2, .int .i64 x.1.2.2, .int .u64 (x.2:Nat)] 251 (0,0))
 turn:dO hb v (.slice (some ⟨g,0,none⟩) (L.length+1) cap) w wr
 bne:B1≠g/\B1≠hb
theorem Pu.row{ff:Value}{L M:List It}{x:It}{r:Th->Th->Bool}(h:Pu w hb ff np B1 g cap v L x r at_ M i wr):wr.ownsRow 0 251 6 (.slice (some ⟨g,0,none⟩) (L.length+1) cap) (L.length+1) (fl EI M):=by
 have:=h.hp.own;rw[h.inv.len]at this;exact this
theorem Pu.set{ff:Value}{L M:List It}{x:It}{r:Th->Th->Bool}(h:Pu w hb ff np B1 g cap v L x r at_ M i wr){y:It}(hi:dR (aT r) L x at_ (M.set k y) j)
    (ho:w'.ownsRow 0 251 6 (.slice (some ⟨g,0,none⟩) (L.length+1) cap) (L.length+1) (fl EI (M.set k y))) (hk:Kp (fun q=>q=g) wr w') (hg:v.ownBlock=some g\/w.heap.size<=g):Pu w hb ff np B1 g cap v L x r at_ (M.set k y) j w':=by
 have hgb:hb≠g:=fun e=>h.hp.off (by rw[e];rfl);refine⟨hi,⟨(hk.block hb h.hp.lt hgb).trans h.hp.blk,by rw[hi.len];exact ho,h.hp.off⟩,(hk.block B1 (aG.1 h.box).1 h.bne.1).trans h.box,⟨h.turn.1.trans hk (fun q _ hq=> ?_),h.turn.2⟩,h.bne⟩;subst hq;rcases hg with hg|hg
 ·exact Or.inr hg
 ·omega
theorem uS{ff:Value}{L:List It}{r:Th->Th->Bool}(x:Th)(w:World)(hH:Hb w hb ff v L np)(hl:(L.length+1)*48<=140737488355328)(Qx:np+1<18446744073709551616){K:World->Prop}{V:Th->Prop}(hF:dS K V ff r)(hk:K w)(hV:∀y∈L,V y.1)(hx:V x):
    Calls Tryz.prog 82 #[.pointer (some ⟨hb,0,none⟩),tv x] w fun e w'=>∃v' L',e= .returned (.tuple #[])/\Hb w' hb ff v' L' (np+1)/\L'.Perm (L++[(x,np)])/\(yP (aT r)->bW (aT r) L->bW (aT r) L')/\dO hb v v' w w':=by
 have hmx:Tryz.prog.follows .mixedOrders=true:=by kernel_rfl
 have k0:=hH.c0;have k1:=hH.c1;have k2:=hH.c2;have kl:=hH.lt;have UF:=hH.fz 2;obtain⟨pl,cl,rfl⟩:=hH.oW.form;obtain⟨B1,hB1⟩:=aB (w.heap.size+1);obtain⟨W2,hW2⟩:=aB (((w.alloc (.cells #[.int .i64 x.1, .int .u64 x.2.1.1.1, .int .u64 x.2.1.1.2.1, .int .u64 x.2.1.1.2.2, .int .i64 x.2.2] 49)).alloc (.cells #[.int .i64 (x,np).1.1, .int .u64 (x,np).1.2.1.1.1, .int .u64 (x,np).1.2.1.1.2.1, .int .u64 (x,np).1.2.1.1.2.2, .int .i64 (x,np).1.2.2, .int .u64 ((x,np).2:Nat)] 251)).drew);have G2:Gr w W2:=by rw[hW2];exact(((Gr.refl _).alloc _).alloc _).drew
 have CF:W2.heap[B1]? =some (.cells #[.int .i64 (x,np).1.1, .int .u64 (x,np).1.2.1.1.1, .int .u64 (x,np).1.2.1.1.2.1, .int .u64 (x,np).1.2.1.1.2.2, .int .i64 (x,np).1.2.2, .int .u64 ((x,np).2:Nat)] 251 (0,0)):=by
  have h:=ai (w.alloc (.cells #[.int .i64 x.1, .int .u64 x.2.1.1.1, .int .u64 x.2.1.1.2.1, .int .u64 x.2.1.1.2.2, .int .i64 x.2.2] 49)) (.cells #[.int .i64 (x,np).1.1, .int .u64 (x,np).1.2.1.1.1, .int .u64 (x,np).1.2.1.1.2.1, .int .u64 (x,np).1.2.1.1.2.2, .int .i64 (x,np).1.2.2, .int .u64 ((x,np).2:Nat)] 251);rw[show(w.alloc (.cells #[.int .i64 x.1, .int .u64 x.2.1.1.1, .int .u64 x.2.1.1.2.1, .int .u64 x.2.1.1.2.2, .int .i64 x.2.2] 49)).heap.size=w.heap.size+1 by simp]at h;rw[hW2,hB1];exact h
 have sj:Hid (Hb W2 hb ff (.slice pl L.length cl) L np):=hH.gr G2;have hup:=uo (r:=r) (x,np) W2 sj.o (by omega) hF (hF.gr _ _ hk G2) hV hx;have HG2:Hid (Gr w W2):=G2;have jl:Hid (w.heap.size<=B1/\B1<W2.heap.size):=⟨by omega,(aG.1 CF).1⟩;have hBl:B1<W2.heap.size:=(aG.1 CF).1;obtain⟨q0,q1,q2,q3,q4,q5⟩:W2.cell? ⟨B1,0,none⟩=some (.int .i64 (x,np).1.1)/\W2.cell? ⟨B1,1,none⟩=some (.int .u64 (x,np).1.2.1.1.1)/\W2.cell? ⟨B1,2,none⟩=some (.int .u64 (x,np).1.2.1.1.2.1)/\W2.cell? ⟨B1,3,none⟩=some (.int .u64 (x,np).1.2.1.1.2.2)/\W2.cell? ⟨B1,4,none⟩=some (.int .i64 (x,np).1.2.2)/\W2.cell? ⟨B1,5,none⟩=some (.int .u64 ((x,np).2:Nat)):=by simp[World.cell?,CF]
 have wW:Hid (W2.heap[B1]? =some (.cells #[.int .i64 (x,np).1.1, .int .u64 (x,np).1.2.1.1.1, .int .u64 (x,np).1.2.1.1.2.1, .int .u64 (x,np).1.2.1.1.2.2, .int .i64 (x,np).1.2.2, .int .u64 ((x,np).2:Nat)] 251 (0,0))):=CF;have HH0:Hid (Hb w hb ff (.slice pl L.length cl) L np):=hH;clear hH G2 CF;go_enter Tryz.func82,Tryz.ntmps82;go_wp2_with fail;go_region;rw[<-hW2,<-hB1];clear hW2 hB1 k0 k1 k2 kl UF;go_wp2_with fail;refine hup.mono ?_;rintro e w3 ⟨at_,rfl,Fh,hend,hg3⟩;clear hup;have DY:Hid (Hb w3 hb ff (.slice pl L.length cl) L np):=sj.o.gr hg3;have k2:=DY.o.c2;have kl:=DY.o.lt;have UF:=DY.o.fz 2;have HWY:Hid (Wy (QU (aT r) L (x,np)) L.length at_):=Fh;have sw:Hid (at_=0\/∃y,L[par at_]? =some y/\aT r (x,np) y=false):=hend;have OD:Hid (at_<=L.length):=Fh.le;have Kn:Hid (Gr w w3):=HG2.o.trans hg3;have Gx:Hid (w3.heap[B1]? =some (.cells #[.int .i64 (x,np).1.1, .int .u64 (x,np).1.2.1.1.1, .int .u64 (x,np).1.2.1.1.2.1, .int .u64 (x,np).1.2.1.1.2.2, .int .i64 (x,np).1.2.2, .int .u64 ((x,np).2:Nat)] 251 (0,0))):=(hg3.below.block B1 hBl).trans wW.o;clear Fh hend hg3 q0 q1 q2 q3 q4 q5 wW sj;go_upto_region 5 with fail;have yR:Hid (Hb (w3.setCell ⟨hb,2,none⟩ (.int .u64 ((np:Int)+1))) hb ff (.slice pl L.length cl) L (np+1)):=(DY.o.BB (np+1)).1;have Oy:Hid (Kp (fun k=>k=hb) w3 (w3.setCell ⟨hb,2,none⟩ (.int .u64 ((np:Int)+1)))):=(DY.o.BB (np+1)).2;generalize w3.setCell ⟨hb,2,none⟩ (.int .u64 ((np:Int)+1))=w4 at yR Oy⊢;have FM:B1≠hb:=fun e=>by have:=HH0.o.lt;have:=jl.o.1;omega
 have Dy:Hid (w4.heap[B1]? =some (.cells #[.int .i64 (x,np).1.1, .int .u64 (x,np).1.2.1.1.1, .int .u64 (x,np).1.2.1.1.2.1, .int .u64 (x,np).1.2.1.1.2.2, .int .i64 (x,np).1.2.2, .int .u64 ((x,np).2:Nat)] 251 (0,0))):=(Oy.o.block B1 (aG.1 Gx.o).1 FM).trans Gx.o;have Ai:B1<w4.heap.size:=(aG.1 Dy.o).1;obtain⟨q0,q1,q2,q3,q4,q5⟩:w4.cell? ⟨B1,0,none⟩=some (.int .i64 (x,np).1.1)/\w4.cell? ⟨B1,1,none⟩=some (.int .u64 (x,np).1.2.1.1.1)/\w4.cell? ⟨B1,2,none⟩=some (.int .u64 (x,np).1.2.1.1.2.1)/\w4.cell? ⟨B1,3,none⟩=some (.int .u64 (x,np).1.2.1.1.2.2)/\w4.cell? ⟨B1,4,none⟩=some (.int .i64 (x,np).1.2.2)/\w4.cell? ⟨B1,5,none⟩=some (.int .u64 ((x,np).2:Nat)):=by simp[World.cell?,Dy.o]
 obtain⟨iK,hiK,hk0,hk1,hk2⟩:=info_parts lD;have r0:=yR.o.c1;have X7:=yR.o.fz 1;have hlr:=yR.o.lt;have hne1:some hb≠(Value.slice pl L.length cl).ownBlock:=fun e=>yR.o.off e.symm;have hnm:w4.ownsRow 0 251 6 (.slice pl L.length cl) L.length (fl EI L):=yR.o.own;clear k2 kl UF hBl;go_cut [32]from 25 to 34 (fun _ w'=>∃g cap,Hid (Pu w hb ff np B1 g cap (.slice pl L.length cl) L (x,np) r at_ (L++[(x,np)]) L.length w'/\((Value.slice pl L.length cl).ownBlock=some g\/w.heap.size<=g)));case first=>
  go_region_law (refine step_append_lies _ rfl _ _ 247 rfl 0 251 iK (.agg #[.int .i64 0, .int .u64 0, .int .u64 0, .int .u64 0, .int .i64 0, .int .u64 0]) 6 48 Tryz.underlying247 hiK hk0 hk1 hk2 rfl (by decide) (Value.slice pl L.length cl) L.length (fl EI L) rfl (World.ownsRow.alloc (w:=w4.drew) hnm _) ⟨w4.heap.size,0,none⟩ 1 1 [.int .i64 (x,np).1.1, .int .u64 (x,np).1.2.1.1.1, .int .u64 (x,np).1.2.1.1.2.1, .int .u64 (x,np).1.2.1.1.2.2, .int .i64 (x,np).1.2.2, .int .u64 ((x,np).2:Nat)] rfl rfl (World.news_of_block (ai _ _)) (by simp[Value.oneCell']) (by decide) (by unfold maxLen;omega) (by omega) (Nat.zero_le _) _ rfl ?_
                 intro g cap fH Fq hgrow Nf YA;have Gz:=hgrow.block hb (by simp;omega) hne1;have k10:fH.cell? ⟨hb,1,none⟩=some (Value.slice pl L.length cl):=(World.cell?_of_block (a:=⟨hb,1,none⟩) Gz).trans ((((Gr.refl w4).drew.alloc _).cell hlr).trans r0);have aap:fH.frozen? ⟨hb,1,none⟩=false:=(iH Gz).trans ((((Gr.refl w4).drew.alloc _).frozen hlr).trans X7))
  all_goals (
   go_wp2_with fail;go_meet;have OC:fH.heap[hb]? =some (.cells #[fv ff, .slice pl L.length cl, .int .u64 ((np+1:Nat):Int)] 249 (0,0)):=Gz.trans ((((Gr.refl w4).drew.alloc _).below.block hb hlr).trans yR.o.blk);obtain⟨hs1,hs2⟩:=(kZ OC).1 (.slice (some ⟨g,0,none⟩) (L.length+1) cap);have hz4:w.heap.size<=w4.heap.size:=nT Kn.o.size Oy.o.size;have q8:Kp (fun q=>(Value.slice pl L.length cl).ownBlock=some q) w4 fH:=(Kp.aU ((Gr.refl w4).drew.alloc _)).trans (Kp.grownBy (S:=fun q=>(Value.slice pl L.length cl).ownBlock=some q) hgrow (fun _ h=>h)) (fun _ _ h=>h);have hg4:(Value.slice pl L.length cl).ownBlock=some g\/w4.heap.size<=g:=Nf.imp id (fun h=>by rw[h];simp);have hg:(Value.slice pl L.length cl).ownBlock=some g\/w.heap.size<=g:=hg4.imp id (fun h=>by omega);have hlw:=HH0.o.lt;have hrw:=HH0.o.row;have hgb:g≠hb:=fun e=>by
    rcases hg with h|h
    ·exact HH0.o.off (by rw[h,e])
    ·omega
   have hBg:B1≠g:=fun e=>by
    have hB:=jl.o.1;have hB4:B1<w4.heap.size:=Ai;rcases hg4 with h|h
    ·have:=hrw g h;omega
    ·omega
   refine⟨g,cap,⟨dR.init HWY.o,⟨hs1, ?_, ?_⟩, ?_,⟨?_,fun q hq=> ?_⟩,hBg,FM⟩,hg⟩
   ·rw[dH,aS];refine ay hs2 (by rw[dK];exact Fq) (fun k hk e=> ?_);have:k=g:=(by simpa[Value.ownBlock]using hk.symm);exact hgb (by rw[<-this,e])
   ·simpa[Value.ownBlock]using hgb
   ·refine(hs2.block B1 (nL Ai q8.size) FM).trans ((q8.block B1 Ai (fun h=> ?_)).trans Dy.o);have:=hrw B1 h;have:=jl.o.1;omega
   ·refine(((Kp.aU Kn.o).trans (Oy.o.mono (fun _ h=>Or.inl h)) (fun _ _ h=>h)).trans (q8.mono (fun _ h=>Or.inr h)) (fun _ _ h=>h)).trans (hs2.mono (fun _ h=>Or.inl h)) (fun _ _ h=>h)
   ·have:q=g:=(by simpa[Value.ownBlock]using hq.symm);rw[this];exact hg)
 case rest=>
  obtain⟨g,cap,Ov⟩:=hcut;have r1:=Ov.o.1.hp.c1;have U5:=Ov.o.1.hp.lt;have Z8:Hid ((Value.slice pl L.length cl).ownBlock=some g\/w.heap.size<=g):=Ov.o.2;have ZV:Hid (Pu w hb ff np B1 g cap (.slice pl L.length cl) L (x,np) r at_ (L++[(x,np)]) L.length wc):=Ov.o.1;clear Ov Dy Ai q0 q1 q2 q3 q4 q5 r0 X7 hlr hne1 hnm yR Oy DY Kn Gx hiK hk0 hk1 hk2;go_wp2_with fail;clear r1 U5;go_loopw [6] (fun s6 wr=>∃(i:Nat) (M:List It),i<=L.length/\s6= .int .i64 i/\Hid (Pu w hb ff np B1 g cap (.slice pl L.length cl) L (x,np) r at_ M i wr)) (fun s6 _=>(RowKit.intOf s6).toNat);case atStart=>exact⟨L.length,_,nR _,by first|rfl|simp,ZV.o⟩
  case round=>
   clear ZV;obtain⟨i,M,hil,rfl,HP⟩:=hrel;have AU:Hid (wr.ownsRow 0 251 6 (.slice (some ⟨g,0,none⟩) (L.length+1) cap) (L.length+1) (fl EI M)):=HP.o.row;have hfz:=nD AU.o;have r1:=HP.o.hp.c1;have hlr:=HP.o.hp.lt;have hgl:g<wr.heap.size:=(AU.o.lt g rfl).2;have U9:(i:Int)<(L.length:Int)+1:=(by omega);have hi0:(0:Int)<=(i:Int):=(by omega);obtain⟨z,hz⟩:∃z,M[i]? =some z:=⟨M[i]'(by rw[HP.o.inv.len];omega),by rw[nY]⟩;obtain⟨b1,o1,c1,e1,z1,y0,y1,y2,y3,y4,y5⟩:=gz HP.o.hp.oW hz;simp only[vS,oI,aI,and_true]at e1;obtain⟨⟨rfl,rfl⟩,-,rfl⟩:=e1;rw[nZ]at y0 y1 y2 y3 y4 y5;have f0:=hfz (i*6+0);have f1:=hfz (i*6+1);have f2:=hfz (i*6+2);have f3:=hfz (i*6+3);have f4:=hfz (i*6+4);have f5:=hfz (i*6+5);rw[nO]at f0;clear hz z1 hfz;by_cases hlt:at_<i
   ·have hltz:(at_:Int)<(i:Int):=(by omega);obtain⟨y,hy,hpi⟩:=HP.o.inv.step hlt;have Cw:0<i:=(by omega);have Ct:=eH Cw;have HPI:Hid (dR (aT r) L (x,np) at_ (M.set i y) (par i)):=hpi;have hpz:(par i:Int)<(L.length:Int)+1:=(by omega);have hp0:(0:Int)<=(par i:Int):=(by omega);obtain⟨b1,o1,c1,e1,z1,x0,x1,x2,x3,x4,x5⟩:=gz HP.o.hp.oW hy;clear z1;simp only[vS,oI,aI,and_true]at e1;obtain⟨⟨rfl,rfl⟩,-,rfl⟩:=e1;rw[nZ]at x0 x1 x2 x3 x4 x5;have nU:∀W,Calls Tryz.prog 147 #[.int .i64 i] W fun e w'=>e= .returned (.int .i64 (par i:Nat))/\w'=W:=fun W=>fO i Cw (by omega) W;have Dv:Hid (par i<i):=Ct;clear hy hpi Ct;go_wp2_with fail;go_region_with (go_at_call 147;refine(nU _).mono ?_;rintro e w4 ⟨rfl,rfl⟩);all_goals (
     obtain⟨ho,hk⟩:=eY (i:=i) y AU.o;have Ow:=hid (HP.o.set HPI.o (ag ho (Gr.refl _).drew.below) (hk.trans (Kp.aU (Gr.refl _).drew) (fun _ _ h=>h)) Z8.o);clear ho hk r1 x0 x1 x2 x3 x4 x5 y0 y1 y2 y3 y4 y5 f0 f1 f2 f3 f4 f5;go_wp2_with (go_at_call 147;refine(nU _).mono ?_;rintro e w4 ⟨rfl,rfl⟩);go_roundw;case rel=>exact⟨par i,_,by have:=Dv.o;omega,rfl,Ow.o⟩
     case measure=>simp[RowKit.intOf];exact Dv.o)
   ·have hltz:¬(at_:Int)<(i:Int):=(by omega);have hie:i=at_:=(by have:=HP.o.inv.way.le;omega);subst hie;obtain⟨q0,q1,q2,q3,q4,q5⟩:wr.cell? ⟨B1,0,none⟩=some (.int .i64 (x,np).1.1)/\wr.cell? ⟨B1,1,none⟩=some (.int .u64 (x,np).1.2.1.1.1)/\wr.cell? ⟨B1,2,none⟩=some (.int .u64 (x,np).1.2.1.1.2.1)/\wr.cell? ⟨B1,3,none⟩=some (.int .u64 (x,np).1.2.1.1.2.2)/\wr.cell? ⟨B1,4,none⟩=some (.int .i64 (x,np).1.2.2)/\wr.cell? ⟨B1,5,none⟩=some (.int .u64 ((x,np).2:Nat)):=(by simp[World.cell?,HP.o.box]);have hBl:B1<wr.heap.size:=(aG.1 HP.o.box).1;go_wp2_with fail;go_region;all_goals (
     go_end0;obtain⟨ho,hk⟩:=eY (i:=i) (x,np) AU.o;obtain⟨d1,d2⟩:=HP.o.inv.done sw.o;have hgb:hb≠g:=fun e=>HP.o.hp.off (by rw[e];rfl);have hk2:=hk.trans (Kp.aU (S:=fun q=>q=g) (Gr.refl _).drew) (fun _ _ h=>h);refine⟨_,_,rfl,⟨(hk2.block hb HP.o.hp.lt hgb).trans HP.o.hp.blk, ?_,HP.o.hp.off⟩,d1,d2,HP.o.turn.1.trans hk2 (fun q _ hq=> ?_),HP.o.turn.2⟩
     ·rw[lZ,HP.o.inv.len];exact ag ho (Gr.refl _).drew.below
     ·subst hq;rcases Z8.o with hg|hg
      ·exact Or.inr hg
      ·omega)
theorem dB(ff:Value)(w:World):Calls Tryz.prog 85 #[fv ff] w fun e w'=>∃hb,e= .returned (.pointer (some ⟨hb,0,none⟩))/\w.heap.size<=hb/\Hb w' hb ff (.slice none 0 0) [] 0/\Gr w w':=by
 go_enter Tryz.func85,Tryz.ntmps85;go_wp2;go_ret;exact⟨_,rfl,nR _,⟨ai _ _,World.ownsRow_nil _ _ _ _,by simp[Value.ownBlock]⟩,(Gr.refl _).alloc _⟩
theorem gB{ff:Value}{L:List It}(w:World)(hH:Hb w hb ff v L np):Calls Tryz.prog 197 #[.pointer (some ⟨hb,0,none⟩)] w fun e w'=>e= .returned (.int .i64 (L.length:Nat))/\w'=w:=by
 have k1:=hH.c1;obtain⟨pl,cl,rfl⟩:=hH.oW.form;have kl:=hH.lt;clear hH;go_enter Tryz.func197,Tryz.ntmps197;go_wp2;go_ret;exact⟨rfl,rfl⟩
abbrev ans(x:Th)(b:Bool):Value:= .tuple #[tv x, .bool b]
abbrev zt:Th:=(0,⟨(0,0,0),by decide⟩,0)
theorem pY{ff:Value}{L:List It}{t:It}(w:World)(hH:Hb w hb ff v L np)(ht:L[0]? =some t):Calls Tryz.prog 138 #[.pointer (some ⟨hb,0,none⟩)] w fun e w'=>e= .returned (ans t.1 true)/\Gr w w':=by
 have hlen:∀W:World,Gr w W->Calls Tryz.prog 197 #[.pointer (some ⟨hb,0,none⟩)] W fun e w'=>e= .returned (.int .i64 (L.length:Nat))/\w'=W:=fun W h=>gB W (hH.gr h);have hpos:0<L.length:=(lG.1 ht).1;have hpz:¬(L.length:Int)=0:=by omega
 have aat:(0:Int)<(L.length:Int):=by omega
 obtain⟨b1,o1,c1,e1,z1,x0,x1,x2,x3,x4,x5⟩:=gz hH.oW ht;subst e1;have k1:=hH.c1;have kl:=hH.lt;clear hH ht;simp only[Nat.zero_mul,nO]at x0 x1 x2 x3 x4 x5;go_enter Tryz.func138,Tryz.ntmps138;go_wp2_with fail;refine(hlen _ (by first|exact(Gr.refl _).alloc _|exact Gr.refl _)).mono ?_;rintro e w1 ⟨rfl,rfl⟩;go_wp2;refine bodyPost_ret (v:=ans t.1 true) (by simp[results,Tryz.results138,go_sem]) rfl ?_;exact⟨rfl,by first|exact(Gr.refl _).alloc _|exact Gr.refl _⟩
theorem jX{ff:Value}(w:World)(hH:Hb w hb ff v [] np):Calls Tryz.prog 138 #[.pointer (some ⟨hb,0,none⟩)] w fun e w'=>e= .returned (ans zt false)/\Gr w w':=by
 have hlen:∀W:World,Gr w W->Calls Tryz.prog 197 #[.pointer (some ⟨hb,0,none⟩)] W fun e w'=>e= .returned (.int .i64 0)/\w'=W:=fun W h=>gB W (hH.gr h);clear hH;go_enter Tryz.func138,Tryz.ntmps138;go_wp2_with fail;refine(hlen _ (by first|exact(Gr.refl _).alloc _|exact Gr.refl _)).mono ?_;rintro e w1 ⟨rfl,rfl⟩;go_wp2;refine bodyPost_ret (v:=ans zt false) (by simp[results,Tryz.results138,go_sem]) rfl ?_;exact⟨rfl,by first|exact((Gr.refl _).alloc _).alloc _|exact(Gr.refl _).alloc _|exact Gr.refl _⟩
end Hc
end Go.Proofs.YteekbpokkjjipaaGreat
