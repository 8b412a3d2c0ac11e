import Derived.Test.YteekbpokkjjipaaGreatJ30
variable{N p np j nc q i n mb:Nat}{w w':Go.World}{tag tag':Nat->Nat}{S:Nat->Prop}{v:Go.Value}
set_option maxHeartbeats 1000000
namespace Go.Proofs.YteekbpokkjjipaaGreat
namespace Rc
open Go.RowKit Go.Sort Go.Maps Pt Hc
theorem vG{f:ah->Int}{l:List ah}(h:fD f l):yS f l:=
 ⟨h.sorted.imp fun {a b} k=>(jq a b).1 k,fun t=>by
  rw[h.mem];exact⟨fun⟨h1,h2⟩=>⟨h1,fun u hu ha=>h2 u hu ((gG u t).2 ha)⟩,fun⟨h1,h2⟩=>⟨h1,fun u hu ha=>h2 u hu ((gG u t).1 ha)⟩⟩⟩
theorem qw{a b:List ah}(ha:a.Nodup)(hb:b.Nodup):yT a b (nI a b):=by
 have hn:=qR ha hb;have e:(nI a b).map Prod.fst=jh (wT a b++wT b a):=by
  unfold nI;rw[List.map_map];exact List.map_id' _
 have hm:∀t,t∈jh (wT a b++wT b a)↔(t∈a/\t∉b)\/(t∈b/\t∉a):=fun t=>(show t∈jh (wT a b++wT b a)↔t∈wT a b++wT b a from iV).trans Hz;refine⟨by rw[e];exact Eh (oF hn),fun t n=> ?_⟩;unfold nI;rw[mM];constructor
 ·rintro⟨u,hu,hp⟩;obtain⟨rfl,rfl⟩:=Prod.mk.inj hp;rcases(hm u).1 hu with⟨h1,h2⟩|⟨h1,h2⟩
  ·exact .inl ⟨h1,h2,if_neg h2⟩
  ·exact .inr ⟨h1,h2,if_pos h1⟩
 ·rintro(⟨h1,h2,rfl⟩|⟨h1,h2,rfl⟩)
  ·exact⟨t,(hm t).2 (.inl ⟨h1,h2⟩),by rw[if_neg h2]⟩
  ·exact⟨t,(hm t).2 (.inr ⟨h1,h2⟩),by rw[if_pos h1]⟩
theorem Uk{rk:Nat->Nat}{t:ah}(hp:p<N)(hr:rk p<=N):lX N rk (p,t)<(6277101735386680763835789423207666416102355444464034512896*(N+1)+(N+1))*(N+1):=by
 have h1:=bV t;have h2:gN t+1<=6277101735386680763835789423207666416102355444464034512896:=by unfold gN;omega
 have h3:gN t*(N+1)+rk p+1<=6277101735386680763835789423207666416102355444464034512896*(N+1)+(N+1):=by
  have:=Nat.mul_le_mul_right (N+1) (Nat.le_of_succ_le h2);omega
 have h4:=Nat.mul_le_mul_right (N+1) h3;rw[Nat.succ_mul]at h4;show(gN t*(N+1)+rk p)*(N+1)+p<_;omega
def wq(Q:List It):List (Nat×ah×Int):=Q.map fun y=>(y.1.1.toNat,y.1.2.1,y.1.2.2)
theorem D8(Q R:List It):wq (Q++R)=wq Q++wq R:=DD
theorem yU{Q R:List It}(h:Q.Perm R):(wq Q).Perm (wq R):=h.map _
theorem lN(Q:List It):(wq Q).length=Q.length:=fG _
theorem Dr{L:Nat->List (Nat×ah)}{ps:Nat×ah->Nat}{O F S:Nat->List ah}{C Co Cn:Nat->ah->Int}{W V:List (Nat×ah×Int)}{B x:Nat}(h:JZ N L ps O Co Cn S B x C F W)(hp:V.Perm W):JZ N L ps O Co Cn S B x C F V:=
 ⟨⟨fun p t ht=>by rw[pz hp];exact h.Ki.eq p t ht,h.Ki.fr⟩,h.mx,fun e he=>h.lo e (hp.mem_iff.1 he),by rw[hp.length_eq];exact h.bd⟩
def Vq(N:Nat)(y:It):Prop:=Vp N y.1/\-1<=y.1.2.2/\y.1.2.2<=1
structure Hd(N:Nat)(L:Nat->List (Nat×ah))(rs:List Nat)(O:Nat->List ah)(Co Cn:Nat->ah->Int)(S:Nat->List ah)(B M0:Nat)(C:Nat->ah->Int)(F:Nat->List ah)(c:Th)(b:Bool)(Q:List It)(np gk x:Nat)(Q0:List It):Prop where
 wR:JZ N L (lX N (lu rs)) O Co Cn S B x C F (wq Q0)
 tk:Tko N rs Q0 c b Q
 vs:∀y∈Q0,Vq N y
 nb:np+pot N L (lX N (lu rs)) S Co Cn x<=B
 gm:M0<=gk+x
theorem Bd{W:List (Nat×ah×Int)}{y:Nat×ah}(h:∀e∈W,(e.1,e.2.1)≠y):oh W y=0:=jy fun e he=>if_neg (h e he)
theorem Kw{M:List It}{t:ah}(h:∀x∈M,(x.1.1.toNat,x.1.2.1)=(p,t)):oh (wq M) (p,t)=mD M:=by
 induction M with
 | nil => rfl
 | cons a M ih=>
  have h1:=h a List.mem_cons_self;have h2:=ih fun x hx=>h x (List.mem_cons_of_mem _ hx);have e1:mD (a::M)=a.1.2.2+mD M:=by simp[mD]
  have e2:oh (wq (a::M)) (p,t)=(if (a.1.1.toNat,a.1.2.1)=(p,t)then a.1.2.2 else 0)+oh (wq M) (p,t):=aN _ _ _
  rw[e1,e2,if_pos h1,h2]
section
variable {N:Nat} {L:Nat->List (Nat×ah)} {rs:List Nat} {O:Nat->List ah} {Co Cn:Nat->ah->Int} {S:Nat->List ah} {B M0:Nat} {C:Nat->ah->Int} {F:Nat->List ah} {c:Th} {Q:List It} {np gk x:Nat} {Q0:List It}
structure Hat(N:Nat)(rs:List Nat)(c:Th)(Q:List It)(x:Nat)(Q0:List It)(p:Nat)(t:ah)(n:Int):Prop where
 eq:c=((p:Int),t,n)
 lt:p<N
 sum:oh (wq Q0) (p,t)=n
 min:∀e∈wq Q0,lX N (lu rs) (p,t)<=lX N (lu rs) (e.1,e.2.1)
 lo:x<=lX N (lu rs) (p,t)
 w1:∀y,oh (wq Q) y=if y=(p,t)then 0 else oh (wq Q0) y
 w2:∀e∈wq Q,e∈wq Q0/\(e.1,e.2.1)≠(p,t)
 w3:Q.length<=Q0.length
 vs:∀y∈Q,Vq N y
theorem Hd.at(h:Hd N L rs O Co Cn S B M0 C F c true Q np gk x Q0):∃p t n,Hat N rs c Q x Q0 p t n:=by
 obtain⟨p0,t,n⟩:=c;rcases h.tk with⟨k,_⟩|⟨_,M,m1,m2,m3,m4,m5⟩
 ·cases k
 obtain⟨m,hm⟩:=List.exists_mem_of_ne_nil M m2;have hM0:∀y∈M,y∈Q0:=fun y hy=>m1.mem_iff.1 (List.mem_append_left _ hy);have hQ0:∀y∈Q,y∈Q0:=fun y hy=>m1.mem_iff.1 (List.mem_append_right _ hy);obtain⟨p,hp1,hp2⟩:=(h.vs m (hM0 m hm)).1;have e0:p0=(p:Int):=by rw[<-hp1];exact(m3 m hm).1.symm
 subst e0;have hkM:∀y∈M,(y.1.1.toNat,y.1.2.1)=(p,t):=fun y hy=>by
  obtain⟨k1,k2⟩:=m3 y hy;simp only at k1 k2;rw[k1,k2,Int.toNat_natCast]
 have hkQ:∀y∈Q,(y.1.1.toNat,y.1.2.1)≠(p,t):=fun y hy e=>by
  obtain⟨q,hq,_⟩:=(h.vs y (hQ0 y hy)).1;obtain⟨e1,e2⟩:=Prod.mk.inj e;rw[hq,Int.toNat_natCast]at e1;exact(m5 y hy).1 ⟨by rw[hq,e1],e2⟩
 have hsp:∀y,oh (wq Q0) y=oh (wq M) y+oh (wq Q) y:=fun y=>by rw[<-pz (yU m1),D8,og]
 have hz:oh (wq Q) (p,t)=0:=Bd fun e he=>by
  obtain⟨y,hy,rfl⟩:=mM.1 he;exact hkQ y hy
 have hlo:x<=lX N (lu rs) (p,t):=by
  have:=(h.wR.lo (m.1.1.toNat,m.1.2.1,m.1.2.2) (mM.2 ⟨m,hM0 m hm,rfl⟩)).2;simp only at this;rw[hkM m hm]at this;exact this
 have hmin:∀e∈wq Q0,lX N (lu rs) (p,t)<=lX N (lu rs) (e.1,e.2.1):=fun e he=>by
  obtain⟨y,hy,rfl⟩:=mM.1 he;rcases jQ.1 (m1.mem_iff.2 hy)with k|k
  ·simp only;rw[hkM y k];exact nR _
  ·have h5:=(m5 y k).2;unfold kC at h5;rw[Int.toNat_natCast]at h5;simp only at h5⊢;omega
 refine⟨p,t,n,rfl,hp2, ?_,hmin,hlo,fun y=> ?_,fun e he=> ?_, ?_,fun y hy=>h.vs y (hQ0 y hy)⟩
 ·rw[hsp,hz,Kw hkM,<-m4];exact Int.add_zero _
 ·by_cases e:y=(p,t)
  ·rw[if_pos e,e,hz]
  ·rw[if_neg e,hsp,Bd (W:=wq M) fun e' he'=> ?_]
   ·exact(Int.zero_add _).symm
   ·obtain⟨z,hz',rfl⟩:=mM.1 he';simp only;rw[hkM z hz'];exact fun k=>e k.symm
 ·obtain⟨y,hy,rfl⟩:=mM.1 he;exact⟨mM.2 ⟨y,hQ0 y hy,rfl⟩,hkQ y hy⟩
 ·have:=m1.length_eq;rw[dH]at this;omega
end
structure nW(N:Nat)(Q:List It)(np:Nat)(pre:List (Nat×ah×Int))(Qc:List It)(nc:Nat):Prop where
 perm:(wq Qc).Perm (wq Q++pre)
 np:nc+Q.length=np+Qc.length
 vs:∀y∈Qc,Vq N y
theorem nW.init{Q:List It}(h:∀y∈Q,Vq N y):nW N Q np [] Q np:=⟨by rw[DF],rfl,h⟩
theorem nW.len{Q:List It}{pre:List (Nat×ah×Int)}{Qc:List It}(h:nW N Q np pre Qc nc):Qc.length=Q.length+pre.length/\nc=np+pre.length:=by
 have h1:=h.perm.length_eq;rw[dH,lN,lN]at h1;have h2:=h.np;omega
theorem nW.push{Q:List It}{pre:List (Nat×ah×Int)}{Qc Q':List It}(h:nW N Q np pre Qc nc){v:ah}{n:Int}(hq:q<N)(hn: -1<=n/\n<=1)(hp:Q'.Perm (Qc++[(((q:Int),v,n),nc)])):nW N Q np (pre++[(q,v,n)]) Q' (nc+1):=by
 refine⟨?_, ?_,fun y hy=> ?_⟩
 ·refine(yU hp).trans ?_;rw[D8,<-aA];refine h.perm.append ?_;show List.Perm [(Int.toNat (q:Int),v,n)] _;rw[Int.toNat_natCast]
 ·have h1:=h.np;have h2:=hp.length_eq;rw[dH,lS]at h2;omega
 ·rcases jQ.1 (hp.mem_iff.1 hy)with k|k
  ·exact h.vs y k
  ·rw[wY]at k;rw[k];exact⟨⟨q,rfl,hq⟩,hn⟩
theorem Im(a b:List (Nat×ah))(u:ah):DN (a++b) u=DN a u++DN b u:=List.filterMap_append
theorem Ha(l:List (Nat×ah))(a b:List (ah×Int)):jA l (a++b)=jA l a++jA l b:=List.flatMap_append
theorem nC(l:List (Nat×ah))(d:ah×Int):jA l [d]=(DN l d.1).map fun x=>(x.1,x.2,d.2):=by simp[jA]
theorem BJ{l:List (Nat×ah)}{d:ah×Int}{b:ah}(h:l[i]? =some (q,b)):jA (l.take (i+1)) [d]=jA (l.take i) [d]++(match bz b d.1 with|some v=>[(q,v,d.2)]|none=>[]):=by
 rw[nC,nC,List.take_add_one,h,Option.toList_some,Im,DD]
 congr 1
 unfold DN;cases e:bz b d.1<;>simp[e]
theorem BK{l:List (Nat×ah)}{ds:List (ah×Int)}{d:ah×Int}(h:ds[j]? =some d):jA l (ds.take (j+1))=jA l (ds.take j)++jA l [d]:=by
 rw[List.take_add_one,h,Option.toList_some,Ha]
theorem Uq{l:List (Nat×ah)}{ds:List (ah×Int)}{d:ah×Int}(h:ds[j]? =some d):(jA l (ds.take j)++jA (l.take i) [d]).length<=(jA l ds).length:=by
 have e1:jA l ds=jA l (ds.take (j+1))++jA l (ds.drop (j+1)):=by rw[<-Ha,List.take_append_drop]
 have e2:jA l [d]=jA (l.take i) [d]++jA (l.drop i) [d]:=by
  rw[nC,nC,nC,<-DD,<-Im,List.take_append_drop]
 rw[e1,BK h,e2];simp only[dH];omega
def jL(s:Rs.Sm):ah:=⟨s.1.2,s.2.2⟩
def sk(p:Nat)(t:ah):Rs.Sm:=⟨(((p%4611686018427387904:Nat):Int),t.1),by
 refine⟨?_,t.2⟩;have:p%4611686018427387904<4611686018427387904:=Nat.mod_lt _ (by decide);simp only[Lit.wf,IntKind.min,IntKind.max,IntKind.signed,IntKind.bits,Bool.and_eq_true,decide_eq_true_eq];show(-9223372036854775808:Int)<=((p%4611686018427387904:Nat):Int)/\((p%4611686018427387904:Nat):Int)<=9223372036854775807;omega⟩
theorem jT(hp:p<=1000000)(t:ah):(sk p t).1=((p:Int),t.1):=by
 show(((p%4611686018427387904:Nat):Int),t.1)=_;rw[Nat.mod_eq_of_lt (by omega)]
theorem K9(hp:p<=1000000){s:Rs.Sm}(h:s.1.1=(p:Int)):s=sk p (jL s):=Subtype.ext (by rw[jT hp];exact Prod.ext h rfl)
theorem kL(hp:p<=1000000){s:Rs.Sm}{t:ah}:s=sk p t↔s.1.1=(p:Int)/\jL s=t:=by
 constructor
 ·intro h;have:=jT hp t;rw[<-h]at this;exact⟨by rw[this],Subtype.ext (by show s.1.2=_;rw[this])⟩
 ·rintro⟨h1,rfl⟩;exact K9 hp h1
def ind(l:List ah)(t:ah):Int:=if t∈l then 1 else 0
theorem MP(l:List ah)(t:ah):0<=ind l t/\ind l t<=1:=by unfold ind;split<;>omega
theorem zw{l:List ah}(h:l.Nodup)(t:ah):Pt.sm (fun u=>if t=u then(1:Int)else 0) l=ind l t:=by
 induction l with
 | nil => rfl
 | cons a l ih=>
  have hn:=List.nodup_cons.1 h;rw[aN,ih hn.2];unfold ind;by_cases e:t=a
  ·subst e;rw[if_pos rfl,if_neg hn.1,if_pos List.mem_cons_self];rfl
  ·rw[if_neg e];by_cases k:t∈l
   ·rw[if_pos k,if_pos (List.mem_cons_of_mem _ k)];rfl
   ·rw[if_neg k,if_neg (fun h=>(fF.1 h).elim e k)];rfl
def gT(N:Nat)(Fo F:Nat->List ah)(s:Rs.Sm):Int:=if 0<=s.1.1/\s.1.1<(N:Int)then ind (F s.1.1.toNat) (jL s)-ind (Fo s.1.1.toNat) (jL s)else 0
theorem Za{Fo F:Nat->List ah}(s:Rs.Sm): -1<=gT N Fo F s/\gT N Fo F s<=1:=by
 have h1:=MP (F s.1.1.toNat) (jL s);have h2:=MP (Fo s.1.1.toNat) (jL s);unfold gT;split<;>omega
theorem QJ{Fo:Nat->List ah}:gT N Fo Fo=fun _=>0:=by
 funext s
 unfold gT;split<;>omega
def gJ(g:Rs.Sm->Int)(p:Nat)(ds:List (ah×Int))(s:Rs.Sm):Int:=g s+Pt.sm (fun d=>(if s=sk p d.1 then 1 else 0)*d.2) ds
theorem Vz(g:Rs.Sm->Int)(p:Nat):gJ g p []=g:=by
 funext s
 exact Int.add_zero _
theorem QK(g:Rs.Sm->Int)(p:Nat)(l:List (ah×Int))(d:ah×Int):(fun s=>if s=sk p d.1 then gJ g p l (sk p d.1)+d.2 else gJ g p l s)=gJ g p (l++[d]):=by
 funext s
 unfold gJ;rw[qN,aN,TV];by_cases e:s=sk p d.1
 ·rw[if_pos e,if_pos e,<-e];omega
 ·rw[if_neg e,if_neg e];omega
theorem Zb{g:Rs.Sm->Int}{l:List (ah×Int)}(hg:∀s,-1<=g s/\g s<=1)(hl:∀d∈l,-1<=d.2/\d.2<=1)(s:Rs.Sm): -(l.length:Int)-1<=gJ g p l s/\gJ g p l s<=l.length+1:=by
 unfold gJ;have:∀l:List (ah×Int),(∀d∈l,-1<=d.2/\d.2<=1)->-(l.length:Int)<=Pt.sm (fun d=>(if s=sk p d.1 then 1 else 0)*d.2) l/\Pt.sm (fun d=>(if s=sk p d.1 then 1 else 0)*d.2) l<=l.length:=fun l hl=>by
  induction l with
  | nil => simp[Pt.sm]
  | cons a l ih=>
   have h1:=hl a List.mem_cons_self;have h2:=ih fun d hd=>hl d (List.mem_cons_of_mem _ hd);rw[aN,lC];by_cases e:s=sk p a.1
   ·rw[if_pos e];omega
   ·rw[if_neg e];omega
 have h1:=this l hl;have h2:=hg s;omega
theorem VA{Fo F:Nat->List ah}(hp:p<N)(hN:N<=1000000){l':List ah}{ds:List (ah×Int)}(hd:yT (F p) l' ds)(h1:(F p).Nodup)(h2:l'.Nodup):gJ (gT N Fo F) p ds=gT N Fo (bG F p l'):=by
 funext s
 unfold gJ;by_cases e:s.1.1=(p:Int)
 ·have e1:Pt.sm (fun d:ah×Int=>(if s=sk p d.1 then 1 else 0)*d.2) ds=Pt.sm (fun d=>(fun u=>if jL s=u then(1:Int)else 0) d.1*d.2) ds:=eF fun d _=>by
    have:(s=sk p d.1)=(jL s=d.1):=propext ((kL (by omega)).trans ⟨fun h=>h.2,fun h=>⟨e,h⟩⟩);simp only[this]
  have e2:=hd.sum h1 h2 (fun u=>if jL s=u then(1:Int)else 0)
  rw[zw h1,zw h2]at e2;rw[e1,e2];unfold gT;have hin:0<=s.1.1/\s.1.1<(N:Int):=by omega
  rw[if_pos hin,if_pos hin,e,Int.toNat_natCast,bJ];omega
 ·have e1:Pt.sm (fun d:ah×Int=>(if s=sk p d.1 then 1 else 0)*d.2) ds=0:=jy fun d _=>by
    rw[if_neg fun k=>e ((kL (by omega)).1 k).1];exact Int.zero_mul _
  rw[e1];unfold gT;by_cases hin:0<=s.1.1/\s.1.1<(N:Int)
  ·rw[if_pos hin,if_pos hin,bH F l' (by omega)];exact Int.add_zero _
  ·rw[if_neg hin,if_neg hin];rfl
def tC(N:Nat)(S:Nat->List ah):List Rs.Sm:=(List.range N).flatMap fun p=>(S p).map (sk p)
theorem Iu(hN:N<=1000000){Fo F S:Nat->List ah}(h1:∀p t,p<N->t∈F p->t∈S p)(h2:∀p t,p<N->t∈Fo p->t∈S p)(s:Rs.Sm)(hs:gT N Fo F s≠0):s∈tC N S:=by
 unfold gT at hs;split at hs
 ·rename_i hin;obtain⟨q,hq⟩:∃q:Nat,s.1.1=(q:Int):=⟨s.1.1.toNat,by omega⟩;rw[hq,Int.toNat_natCast]at hs;unfold tC;refine List.mem_flatMap.2 ⟨q,List.mem_range.2 (by omega),mM.2 ⟨jL s, ?_,(K9 (by omega) hq).symm⟩⟩;unfold ind at hs;by_cases k1:jL s∈F q
  ·exact h1 q _ (by omega) k1
  ·by_cases k2:jL s∈Fo q
   ·exact h2 q _ (by omega) k2
   ·rw[if_neg k1,if_neg k2]at hs;exact absurd rfl hs
 ·exact absurd rfl hs
attribute [local go_sem ↓] Go.wp_at_zero Go.wp_at_succ
theorem UC(w:World)(t:ah)(n:Int):Ls ED (w.alloc (.cells #[.int .u64 t.1.1, .int .u64 t.1.2.1, .int .u64 t.1.2.2, .int .i64 n] 163)) (.slice (some ⟨w.heap.size,0,none⟩) 1 1) [(t,n)]:=by
 refine Or.inr ⟨w.heap.size,0,1,rfl,by simp,fun j u hj=> ?_⟩;have h:=(aa (ai w (.cells #[.int .u64 t.1.1, .int .u64 t.1.2.1, .int .u64 t.1.2.2, .int .i64 n] 163))).1 (0+j);rw[h,nZ,<-hj];simp[fl,ED]
theorem qA(p t0 t1 t2 n:Int)(w:World):Calls Tryz.prog 83 #[.int .i64 p, .agg #[.int .u64 t0, .int .u64 t1, .int .u64 t2, .int .i64 n]] w fun e w'=>e= .returned (.agg #[.int .i64 p, .int .u64 t0, .int .u64 t1, .int .u64 t2, .int .i64 n])/\Below w.heap.size w w':=by
 go_enter Tryz.func83,Tryz.ntmps83;go_wp2;refine bodyPost_ret (v:= .agg #[.int .i64 p, .int .u64 t0, .int .u64 t1, .int .u64 t2, .int .i64 n]) (by simp[results,Tryz.results83,go_sem]) rfl ⟨rfl, ?_⟩;exact(((Gr.refl _).alloc _).alloc _).below
def EC:El Th where
 k:=5
 enc a:=[.int .i64 a.1, .int .u64 a.2.1.1.1, .int .u64 a.2.1.1.2.1, .int .u64 a.2.1.1.2.2, .int .i64 a.2.2]
 len _:=rfl
 one x u hu:=by
  simp at hu;rcases hu with rfl|rfl|rfl|rfl|rfl<;>rfl
def Oa(g:Rs.Sm->Int)(ks:List Rs.Sm):List Th:=(Rs.iD ks).map fun s=>(s.1.1,jL s,g s)
def ZA:Prop:=∀(w:World) (tb bb n:Nat) (g:Rs.Sm->Int),Rs.Tt.Tl w tb bb 78 n g->n*40<=70368744177664->Calls Tryz.prog 84 #[.pointer (some ⟨tb,0,none⟩)] w fun e w'=>∃v ks,oU g ks/\e= .returned v/\w'.ownsRow w.heap.size 49 5 v (Oa g ks).length (fl EC (Oa g ks))/\Below w.heap.size w w'
def Bk(w:World)(tag:Nat->Nat)(b:Nat)(cs:Array Value)(T:TypeId):Prop:=w.heap[b]? =some (.cells cs T (0,0))/\tag b=4294967296
theorem Bk.keep{b:Nat}{cs:Array Value}{T:TypeId}(h:Bk w tag b cs T)(hK:Kp S w w')(hS:∀k,k<w.heap.size->S k->tag k≠4294967296)(hT:∀k,k<w.heap.size->tag' k=tag k):Bk w' tag' b cs T:=
 ⟨(hK.block b (ae h.1) fun e=>hS b (ae h.1) e h.2).trans h.1,by rw[hT b (ae h.1)];exact h.2⟩
theorem Bk.new(cs:Array Value)(T:TypeId):Bk (w.alloc (.cells cs T)) (tg tag w 4294967296) w.heap.size cs T:=⟨ai _ _,aO (nR _)⟩
def Lm{α:Type}(E:El α)(w:World)(tag:Nat->Nat)(j:Nat)(v:Value)(l:List α):Prop:=Ls E w v l/\∀k,v.ownBlock=some k->tag k=j
theorem Lm.keep{α:Type}{E:El α}{l:List α}(h:Lm E w tag j v l)(hK:Kp S w w')(hS:∀k,k<w.heap.size->S k->tag k≠j)(hT:∀k,k<w.heap.size->tag' k=tag k):Lm E w' tag' j v l:=
 ⟨hK.ls h.1 fun k hk e=>hS k (h.1.blk k hk) e (h.2 k hk),fun k hk=>by rw[hT k (h.1.blk k hk)];exact h.2 k hk⟩
theorem iN{base:Nat}{e:TypeId}{size:Nat}{xs:List Value}(h:w.ownsRow base e size v n xs){g:Nat}(hg:v.ownBlock=some g):base<=g:=by
 obtain⟨_,⟨h0,_⟩|⟨b,cap,cur,hv,hb,_⟩⟩:=h
 ·rw[h0]at hg;simp[Value.ownBlock]at hg
 ·rw[hv]at hg;have:b=g:=by simpa[Value.ownBlock]using hg
  omega
section
variable {w:World} {tag:Nat->Nat} {rb:Nat} {ar:Int} {sv rv ov cv uv:Value} {N:Nat} {L:Nat->List (Nat×ah)} {rs ms:List Nat}
theorem Rd.come(h:Rd w tag rb ar sv rv ov cv uv N L rs ms)(hp:ms[p]? =some mb):∃bi oi ci,cv= .slice (some ⟨bi,oi,none⟩) ms.length ci/\bi<w.heap.size/\w.cell? ⟨bi,oi+p,none⟩=some (.pointer (some ⟨mb,0,none⟩)):=by
 obtain⟨bi,oi,ci,h1,h2,h3⟩:=qW h.cm hp;exact⟨bi,oi,ci,h1,h2,h3⟩
theorem Rd.come'(h:Rd w tag rb ar sv rv ov cv uv N L rs ms)(hp:ms[p]? =some mb){bi oi ci:Nat}(e:cv= .slice (some ⟨bi,oi,none⟩) n ci):w.cell? ⟨rb,4,none⟩=some (.slice (some ⟨bi,oi,none⟩) n ci)/\rb<w.heap.size/\w.cell? ⟨bi,oi+p,none⟩=some (.pointer (some ⟨mb,0,none⟩))/\bi<w.heap.size:=by
 obtain⟨b',o',c',e',z',x'⟩:=h.come hp;rw[e]at e';simp only[vS,oI,aI,and_true]at e';obtain⟨⟨rfl,rfl⟩,-,-⟩:=e';exact⟨by rw[<-e];exact((aa h.blk).1 4).trans rfl,ae h.blk,x',z'⟩
theorem Rd.step(h:Rd w tag rb ar sv rv ov cv uv N L rs ms){p:Nat}(hp:p<N):∃(bi oi ci:Nat) (px:Option Addr) (cx:Nat),sv= .slice (some ⟨bi,oi,none⟩) N ci/\Lm EP w tag 0 (.slice px (L p).length cx) (L p)/\w.cell? ⟨rb,1,none⟩=some (.slice (some ⟨bi,oi,none⟩) N ci)/\rb<w.heap.size/\w.cell? ⟨bi,oi+p,none⟩=some (.slice px (L p).length cx)/\bi<w.heap.size:=by
 obtain⟨us,u1,u2,u3⟩:=h.st;obtain⟨x,hx⟩:∃x,us[p]? =some x:=⟨us[p]'(by omega),by rw[nY]⟩;obtain⟨bi,oi,ci,h1,h2,h3⟩:=XX u1 hx;obtain⟨h4,h5⟩:=u3 p x hx;obtain⟨px,cx,h6⟩:=h4.form;rw[h6]at h4 h5 h3;rw[u2]at h1;exact⟨bi,oi,ci,px,cx,h1,⟨h4,h5⟩,by rw[<-h1];exact((aa h.blk).1 1).trans rfl,ae h.blk,h3,h2⟩
end
end Rc
end Go.Proofs.YteekbpokkjjipaaGreat
