import Derived.Shelf.GgSortFunc.InsertionK
import Derived.Shelf.SlSortCmp.Kit1
import Derived.Test.YteekbpokkjjipaaGreatJ13
import Derived.Test.YteekbpokkjjipaaGreatJ7
import Derived.Test.YteekbpokkjjipaaGreatMSo
import Derived.Test.YteekbpokkjjipaaGreatRsSo
variable{n g tb b base cap:Nat}{w:Go.World}{e t:Go.TypeId}
set_option maxHeartbeats 4000000
set_option maxRecDepth 100000
namespace Go.Proofs.YteekbpokkjjipaaGreat
section
open Go.RowKit Go.Sort
theorem bQ{P:Program}{α:Type}(E:El α){sT:TypeId}{z:Value}{bt:Nat}(hu:P.underlying sT=some (.slice e))(hI:(P.info? e).map (fun i=>(i.zero,i.size,i.bytes))=some (some z,E.k,bt))(hz:z.cells.size=E.k)(hk:0<E.k)
    {w:World} {ops:Array Oper} {o:Oper} {a:Act} {K:Act->World->Prop} {Q:Exit->Act->World->Prop} {X:Prop} (hgd:o.guard=none) (s x:Operand)
    (ho:o.op= .call { callee:= .builtin .append,args:=#[s,x],argTypes:=#[sT,sT] })
    (base:Nat) (v:Value) (n:Nat) (xs:List Value) (hs:a.eval s=v) (hown:w.ownsRow base e E.k v n xs)
    (t:α) (hx:a.eval x= .slice (some ⟨w.heap.size,0,none⟩) 1 1) (hbig:(n+1)*bt<=140737488355328) (hmx:n+1<=maxLen) (hbase:base<=w.heap.size)
    (cs:Array Value) (hcs:cs.toList=E.enc t) (te:TypeId)
    (h:∀g cap w',Hid (w'.ownsRow base e E.k (.slice (some ⟨g,0,none⟩) (n+1) cap) (n+1) (xs++E.enc t))->Hid (w.grownBy w' v.ownBlock)->Hid (v.ownBlock=some g\/w.heap.size<=g)->K (a.put o.dst (.slice (some ⟨g,0,none⟩) (n+1) cap)) w') :
    if Region.wanted o (yielded ops a.tmps)=true then Oper.wp P o a (w.alloc (.cells cs te)) K Q else X:=by
 obtain⟨i0,hi,hz0,hz1,hz2⟩:=info_parts hI;refine step_append_lies _ hgd s x _ ho base e i0 _ E.k bt hu hi hz0 hz1 hz2 hz hk v n xs hs (hown.alloc _) ⟨w.heap.size,0,none⟩ 1 1 (E.enc t) hx (by rw[E.len,Nat.one_mul]) (by have:=World.news_of_block (ai w (.cells cs te));rw[hcs]at this;exact this) (E.one t) (by decide) hmx hbig (by simp;omega) _ rfl ?_;intro g cap w' h1 h2 h3 _;refine h g cap w' h1 ⟨h2.os,h2.tape,h2.output,nT (by simp) h2.size,fun k hk hne=>(h2.block k (by simp;omega) hne).trans ((World.grownBy_alloc w _ none).block k hk (by simp))⟩ ?_;rcases h3 with h3|h3
 ·exact Or.inl h3
 ·exact Or.inr (by rw[h3];simp)
end
namespace Rs
open Go.RowKit Go.Sort Go.Maps
attribute[local go_sem ↓]wp_at_zero wp_at_succ
theorem laidOut:laidOutB Tryz.prog=true:=by kernel_rfl
abbrev Sm:={ p:Int×Int×Int×Int // (Lit.int .i64 p.1).wf=true/\(Lit.int .u64 p.2.1).wf=true/\(Lit.int .u64 p.2.2.1).wf=true/\(Lit.int .u64 p.2.2.2).wf=true }
instance:Inhabited Sm:=⟨⟨(0,0,0,0),by decide⟩⟩
abbrev mv(p:Sm):Value:= .agg #[.int .i64 p.1.1, .int .u64 p.1.2.1, .int .u64 p.1.2.2.1, .int .u64 p.1.2.2.2]
theorem Mw{s t:Sm}(h0:s.1.1=t.1.1)(h1:s.1.2.1=t.1.2.1)(h2:s.1.2.2.1=t.1.2.2.1)(h3:s.1.2.2.2=t.1.2.2.2):s=t:=Subtype.ext (Prod.ext h0 (Prod.ext h1 (Prod.ext h2 h3)))
theorem U7:(match Tryz.prog.underlying 47 with|some (.array _ _)|some (.struct _)=>true|_=>false)=true:=by kernel_rfl
theorem Zi:(47:TypeId)<Tryz.prog.types.size:=of_decide_eq_true (by kernel_rfl)
theorem MH:∃d,Tryz.prog.types.size+1=d+3:=by
 have h:decide (2<=Tryz.prog.types.size)=true:=by kernel_rfl
 have h':=of_decide_eq_true h;exact⟨Tryz.prog.types.size-2,by omega⟩
theorem NI:WideMaps.KeyLaw Tryz.prog 47:=deep_law_laid laidOut (m:=3) (by omega) Zi (by kernel_rfl) U7
theorem BH:Tryz.prog.cellsOf 47=4:=by kernel_rfl
theorem oL:Tryz.prog.cellsOf 45=3:=by kernel_rfl
theorem xP:Tryz.prog.cellsOf 43=1:=by kernel_rfl
theorem XO:Tryz.prog.cellsOf 3=1:=by kernel_rfl
theorem NP:Tryz.prog.keyType 47=true:=by kernel_rfl
theorem jR{q:IntKind}(hu:Tryz.prog.underlying t=some (.int q))(d:Nat)(n:Int)(h:(Lit.int q n).wf=true):Tryz.prog.keyLits (d+1) t [.int q n]=some [.int q n]:=by
 unfold Program.keyLits;simp only[hu];simp[h]
theorem iC{q:IntKind}(hu:Tryz.prog.underlying t=some (.int q))(d:Nat){x:Value}{ls:List Lit}(h:Tryz.prog.keyLits (d+1) t [x]=some ls):∃n,x= .int q n/\(Lit.int q n).wf=true/\ls=[.int q n]:=by
 unfold Program.keyLits at h;simp only[hu]at h;split at h<;>simp_all
theorem wU(d:Nat)(x y z:Value):Tryz.prog.keyLits (d+2) 45 [x,y,z]=(do let a <-Tryz.prog.keyLits (d+1) 43 [x];let b <-Tryz.prog.keyLits (d+1) 43 [y];let c <-Tryz.prog.keyLits (d+1) 43 [z];pure (a++(b++c))):=by
 conv=>lhs;unfold Program.keyLits
 simp only[Tryz.underlying45,oL];simp[xP];cases Tryz.prog.keyLits (d+1) 43 [x]<;>cases Tryz.prog.keyLits (d+1) 43 [y]<;>cases Tryz.prog.keyLits (d+1) 43 [z]<;>simp
theorem ND(d:Nat)(x y z u:Value):Tryz.prog.keyLits (d+3) 47 [x,y,z,u]=(do let a <-Tryz.prog.keyLits (d+2) 3 [x];let b <-Tryz.prog.keyLits (d+2) 45 [y,z,u];pure (a++b)):=by
 conv=>lhs;unfold Program.keyLits
 simp only[Tryz.underlying47,BH];simp[oL,XO];cases Tryz.prog.keyLits (d+2) 3 [x]<;>cases Tryz.prog.keyLits (d+2) 45 [y,z,u]<;>simp
theorem Ji(p:Sm):keyOf Tryz.prog 47 (mv p)=some (.string (keyBytes [.int .i64 p.1.1, .int .u64 p.1.2.1, .int .u64 p.1.2.2.1, .int .u64 p.1.2.2.2])):=by
 obtain⟨d,hd⟩:=MH;have h1:=jR Tryz.underlying3 (d+1) p.1.1 p.2.1;have h2:=jR Tryz.underlying43 d p.1.2.1 p.2.2.1;have h3:=jR Tryz.underlying43 d p.1.2.2.1 p.2.2.2.1;have h4:=jR Tryz.underlying43 d p.1.2.2.2 p.2.2.2.2;have hf:(mv p).formed Tryz.prog 47=true:=by simp[Value.formed,Tryz.underlying47,BH]
 unfold keyOf;rw[Tryz.underlying47];simp only[NP,hf,Bool.and_self,if_true,hd];simp only[Value.cells,ND,wU,h1,h2,h3,h4];simp
theorem Uh(v:Value)(l:Lit)(h:keyOf Tryz.prog 47 v=some l):∃p:Sm,v=mv p:=by
 obtain⟨d,hd⟩:=MH;unfold keyOf at h;rw[Tryz.underlying47]at h;simp only[NP,Bool.true_and]at h;split at h
 ·next hf=>
  cases v<;>simp[Value.formed,Tryz.underlying47,BH]at hf
  next cs=>
  obtain⟨cs⟩:=cs
  match cs,hf with
  | [x,y,z,u],_=>
   simp only[Value.cells,hd,ND,wU]at h;cases h1:Tryz.prog.keyLits (d+2) 3 [x]with
   | none => simp[h1]at h
   | some a=>
    cases h2:Tryz.prog.keyLits (d+1) 43 [y]with
    | none => simp[h1,h2]at h
    | some b=>
     cases h3:Tryz.prog.keyLits (d+1) 43 [z]with
     | none => simp[h1,h2,h3]at h
     | some c=>
      cases h4:Tryz.prog.keyLits (d+1) 43 [u]with
      | none => simp[h1,h2,h3,h4]at h
      | some e=>
       obtain⟨n1,rfl,w1,_⟩:=iC Tryz.underlying3 (d+1) h1;obtain⟨n2,rfl,w2,_⟩:=iC Tryz.underlying43 d h2;obtain⟨n3,rfl,w3,_⟩:=iC Tryz.underlying43 d h3;obtain⟨n4,rfl,w4,_⟩:=iC Tryz.underlying43 d h4;exact⟨⟨(n1,n2,n3,n4),w1,w2,w3,w4⟩,rfl⟩
 ·cases h
def ZM:KK Tryz.prog 47 Sm where
 enc:=mv
 lit p:= .string (keyBytes [.int .i64 p.1.1, .int .u64 p.1.2.1, .int .u64 p.1.2.2.1, .int .u64 p.1.2.2.2])
 law:=Keyed.of_law NI
 key:=Ji
 inv v l h:=by
  obtain⟨p,rfl⟩:=Uh v l h;rw[Ji p]at h;exact⟨p,rfl,(oJ h).symm⟩
 inj p q h:=by
  have e:=NI.inj (Ji p) ((Ji q).trans (congrArg some h.symm));obtain⟨⟨a,b,c,d⟩,_⟩:=p;obtain⟨⟨a',b',c',d'⟩,_⟩:=q;simp at e;obtain⟨rfl,rfl,rfl,rfl⟩:=e;rfl
abbrev fv(f:Nat):Value:= .func (.func f) #[] #[]
def ES:El Sm where
 k:=4
 enc p:=[.int .i64 p.1.1, .int .u64 p.1.2.1, .int .u64 p.1.2.2.1, .int .u64 p.1.2.2.2]
 len _:=rfl
 one x u hu:=by
  simp at hu;rcases hu with rfl|rfl|rfl|rfl<;>rfl
abbrev Cg:=Sm×Int
abbrev gv(c:Cg):Value:= .agg #[.int .i64 c.1.1.1, .int .u64 c.1.1.2.1, .int .u64 c.1.1.2.2.1, .int .u64 c.1.1.2.2.2, .int .i64 c.2]
theorem Du:(Tryz.prog.info? 47).map (fun i=>(i.zero,i.size,i.bytes))=some (some (.agg #[.int .i64 0, .int .u64 0, .int .u64 0, .int .u64 0]),4,32):=by kernel_rfl
theorem wX:(Tryz.prog.info? 49).map (fun i=>(i.zero,i.size,i.bytes))=some (some (.agg #[.int .i64 0, .int .u64 0, .int .u64 0, .int .u64 0, .int .i64 0]),5,40):=by kernel_rfl
theorem Ls.atS{v:Value}{l:List Sm}(h:Ls ES w v l){j:Nat}{p:Sm}(hj:l[j]? =some p):
    ∃b off c,v= .slice (some ⟨b,off,none⟩) l.length c/\b<w.heap.size/\w.cell? ⟨b,off+j*4,none⟩=some (.int .i64 p.1.1)/\w.cell? ⟨b,off+j*4+1,none⟩=some (.int .u64 p.1.2.1)/\w.cell? ⟨b,off+j*4+2,none⟩=some (.int .u64 p.1.2.2.1)/\w.cell? ⟨b,off+j*4+3,none⟩=some (.int .u64 p.1.2.2.2):=by
 obtain⟨b,off,c,hv,hb,hc⟩:=h.get hj;exact⟨b,off,c,hv,hb,hc 0 _ (by decide) rfl,hc 1 _ (by decide) rfl,hc 2 _ (by decide) rfl,hc 3 _ (by decide) rfl⟩
theorem iA(x y:Int):c64 x y<0↔x<y:=by unfold c64;(repeat split)<;>omega
theorem fP(x y:Int):c64 x y=0↔x=y:=by unfold c64;(repeat split)<;>omega
theorem qE(a b c x y z:Int):lV a b c x y z<0↔a<x\/(a=x/\(b<y\/(b=y/\c<z))):=by
 have h1:=iA a x;have h2:=fP a x;have h3:=iA b y;have h4:=fP b y;have h5:=iA c z;unfold lV La;generalize c64 a x=p at *;generalize c64 b y=q at *;generalize c64 c z=r at *
 (repeat split)<;>omega
def VN(p q:Int):Int:=if p=0 then q else p
def FT(s t:Sm):Int:=VN (c64 s.1.1 t.1.1) (lV s.1.2.1 s.1.2.2.1 s.1.2.2.2 t.1.2.1 t.1.2.2.1 t.1.2.2.2)
theorem CZ(d:Nat)(a b c x y z:Int)(w:World):Sem.run Tryz.prog (Op.equalIn (d+2) 45 (.agg #[.int .u64 a, .int .u64 b, .int .u64 c]) (.agg #[.int .u64 x, .int .u64 y, .int .u64 z])) w= .ok (pR a b c x y z) w:=by
 have u3:=Tryz.underlying43;have a3:=Tryz.isAgg43;have z3:=Tryz.sizeOf43;have hS:Tryz.prog.underlying 45=some (.struct (Tryz.prog.fieldsOf 45)):=by kernel_rfl
 have hp:Tryz.prog.stoodInHeld 45=false:=by kernel_rfl
 rw[show(d+2:Nat)=(d+1)+1 from rfl,run_equalIn_agg w (d+1) 45 _ _ hS hp];simp only[Program.fieldsOf,Tryz.underlying45];go_simp;by_cases h1:a=x<;>by_cases h2:b=y<;>by_cases h3:c=z<;>simp[pR,h1,h2,h3]
theorem qM(d:Nat)(p a b c q x y z:Int)(w:World):Sem.run Tryz.prog (Op.equalIn (d+3) 47 (.agg #[.int .i64 p, .int .u64 a, .int .u64 b, .int .u64 c]) (.agg #[.int .i64 q, .int .u64 x, .int .u64 y, .int .u64 z])) w= .ok (p==q&&pR a b c x y z) w:=by
 have u4:=Tryz.underlying3;have a4:=Tryz.isAgg3;have z4:=Tryz.sizeOf3;have a5:=Tryz.isAgg45;have z5:=Tryz.sizeOf45;have hP:=CZ d;have hS:Tryz.prog.underlying 47=some (.struct (Tryz.prog.fieldsOf 47)):=by kernel_rfl
 have hp:Tryz.prog.stoodInHeld 47=false:=by kernel_rfl
 rw[show(d+3:Nat)=(d+2)+1 from rfl,run_equalIn_agg w (d+2) 47 _ _ hS hp];simp only[Program.fieldsOf,Tryz.underlying47];go_simp;by_cases h1:p=q<;>cases pR a b c x y z<;>simp[h1]
theorem Vn(s t:Sm):(s.1.1==t.1.1&&pR s.1.2.1 s.1.2.2.1 s.1.2.2.2 t.1.2.1 t.1.2.2.1 t.1.2.2.2)=decide (s=t):=by
 rw[Bool.eq_iff_iff];simp only[bA,beq_iff_eq,nX,decide_eq_true_iff];exact⟨fun h=>Mw h.1 h.2.1 h.2.2.1 h.2.2.2,fun h=>by subst h;exact⟨rfl,rfl,rfl,rfl⟩⟩
theorem uU(h k:Cg)(w:World):Sem.run Tryz.prog (Op.equalIn 10000 49 (gv h) (gv k)) w= .ok (decide (h=k)) w:=by
 obtain⟨s,m⟩:=h;obtain⟨t,n⟩:=k;have hd:decide (((s,m):Cg)=(t,n))=((s.1.1==t.1.1&&pR s.1.2.1 s.1.2.2.1 s.1.2.2.2 t.1.2.1 t.1.2.2.1 t.1.2.2.2)&&m==n):=by
  rw[Vn,Bool.eq_iff_iff];simp
 rw[hd];clear hd;obtain⟨⟨p,a,b,c⟩,_⟩:=s;obtain⟨⟨q,x,y,z⟩,_⟩:=t;have u4:=Tryz.underlying2;have a4:=Tryz.isAgg2;have z4:=Tryz.sizeOf2;have a5:=Tryz.isAgg47;have z5:=Tryz.sizeOf47;have hP:=qM 9996;have hS:Tryz.prog.underlying 49=some (.struct (Tryz.prog.fieldsOf 49)):=by kernel_rfl
 have hp:Tryz.prog.stoodInHeld 49=false:=by kernel_rfl
 rw[show(10000:Nat)=9999+1 from rfl,run_equalIn_agg w 9999 49 _ _ hS hp];simp only[Program.fieldsOf,Tryz.underlying49];go_simp;by_cases h1:p=q<;>by_cases h2:m=n<;>cases pR a b c x y z<;>simp[h1,h2]
end Rs
section
open Go.RowKit Go.Sort Go.Shelf Go.Lib
section
variable {α:Type} [Inhabited α] {E:El α}
theorem DY(hk:0<E.k)(ts:List α):flatK E.enc E.k ts.toArray=(fl E ts).toArray:=by
 refine ext_get! (by rw[size_flatK];simp[gD]) fun t ht=> ?_;rw[size_flatK]at ht;have ht':t<ts.length*E.k:=by simpa using ht
 have hq:t/E.k<ts.length:=(Nat.div_lt_iff_lt_mul hk).2 ht';rw[get_flatK _ _ _ t ht];have h1:=GY E ts (t/E.k) (t%E.k) ts[t/E.k] (by simp) (Nat.mod_lt _ hk);rw[Nat.div_add_mod']at h1;have h3:(ts.toArray)[t/E.k]! =ts[t/E.k]:=by simp[hq]
 rw[h3];have h4:((fl E ts).toArray)[t]! =((fl E ts)[t]?).getD default:=by simp
 rw[h4,h1];simp
theorem nk(hk:0<E.k){ts:List α}(h:w.ownsRow base e E.k (.slice (some ⟨g,0,none⟩) ts.length cap) ts.length (fl E ts)):HoldsK E.enc E.k w g 0 ts.toArray:=by
 obtain⟨_,⟨h0,_⟩|⟨g',cap',cur,hv,hg,hh,hc1,hc2,hsz,htk⟩⟩:=id h
 ·cases h0
 cases hv;unfold HoldsK;rw[DY hk];intro j hj;have hj':j<(fl E ts).length:=by simpa using hj
 refine⟨?_, ?_⟩
 ·have:=h.cells (g:=g) rfl j _ (qw hj');rw[KR]at this;rw[this];simp[hj']
 ·simp only[World.frozen?,hh];simp
theorem uF(hk:0<E.k){os:Array Obj}{cur:Array Value}(us:List α)(hb:w.heap[g]? =some (.cells cur e (0,0))):
    (sortWorldK E.enc E.k w g 0 n us.toArray os).heap[g]? =some (.cells (putCells id 0 (fl E us).toArray cur) e (0,0)):=by
 have hg:g<w.heap.size:=(aG.1 hb).1;unfold sortWorldK putRowK;rw[DY hk,heap_grow_old _ _ (by simpa using hg)];simp[putRow,mapBlock,Sort.ahead,Array.getElem?_modify,hb,onCells]
theorem CJ(cur:Array Value)(vs:List Value)(h:vs.length<=cur.size):(putCells id 0 vs.toArray cur).toList.take vs.length=vs:=by
 apply List.ext_getElem?;intro j;by_cases hj:j<vs.length
 ·rw[List.getElem?_take_of_lt hj,Array.getElem?_toList];simp[putCells,hj,show j<cur.size by omega]
 ·rw[List.getElem?_take_eq_none (by omega),lQ (by omega)]
theorem tX(hk:0<E.k){ts us:List α}{os:Array Obj}(h:w.ownsRow base e E.k (.slice (some ⟨g,0,none⟩) ts.length cap) ts.length (fl E ts))(hl:us.length=ts.length):
    (sortWorldK E.enc E.k w g 0 n us.toArray os).ownsRow base e E.k (.slice (some ⟨g,0,none⟩) ts.length cap) ts.length (fl E us):=by
 obtain⟨_,⟨h0,_⟩|⟨g',cap',cur,hv,hg,hh,hc1,hc2,hsz,htk⟩⟩:=id h
 ·cases h0
 cases hv;have hle:(fl E us).length<=cur.size:=by rw[gD,hl,hsz];exact nM _ hc1
 refine⟨by rw[gD,hl], .inr ⟨g,cap,_,rfl,hg,uF hk us hh,hc1,hc2,by simp[putCells,hsz], ?_⟩⟩;have:=CJ cur (fl E us) hle
 rwa [gD,hl]at this
theorem zn{us:List α}{os:Array Obj}:Kp (fun k=>k=g) w (sortWorldK E.enc E.k w g 0 n us.toArray os):=by
 refine⟨rfl,rfl,rfl,by simp[sortWorldK,putRowK,putRow,mapBlock,Sort.ahead,grow],fun k hk hne=> ?_⟩;unfold sortWorldK putRowK;rw[heap_grow_old _ _ (by simpa[putRow,mapBlock,Sort.ahead]using hk)];have:g≠k:=fun e=>hne e.symm;simp[putRow,mapBlock,Sort.ahead,Array.getElem?_modify,this]
end
section
variable {K:Type}
def qH(cf:K->K->Int)(ks:List K):List K:=ks.mergeSort fun x y=> !(ltOf cf) y x
theorem dB(cf:K->K->Int)(ks:List K):(qH cf ks).length=ks.length:=List.length_mergeSort ..
theorem ib(cf:K->K->Int)(ks:List K):(qH cf ks).Perm ks:=List.mergeSort_perm ..
theorem jh{cf:K->K->Int}{ks:List K}{x:K}:x∈qH cf ks↔x∈ks:=(ib cf ks).mem_iff
theorem iU{cf:K->K->Int}(hO:SWO (ltOf cf))(a:List K):(qH cf a).Pairwise fun x y=>(!(ltOf cf) y x)=true:=by
 refine List.pairwise_mergeSort (fun x y z h1 h2=> ?_) (fun x y=> ?_) a
 ·simp only[Bool.not_eq_true']at *;exact hO.ntrans z y x h2 h1
 ·cases h1:ltOf cf y x with
  | false => simp
  | true=>
   cases h2:ltOf cf x y with
   | false => simp
   | true => have:=hO.trans x y x h2 h1;rw[hO.irrefl]at this;cases this
theorem yo{cf:K->K->Int}(hO:SWO (ltOf cf))(hT:∀x y,ltOf cf x y=false->ltOf cf y x=false->x=y){a b:List K}(h:a.Perm b):qH cf a=qH cf b:=by
 refine List.Perm.eq_of_pairwise (le:=fun x y=>(!(ltOf cf) y x)=true) (fun x y _ _ h1 h2=> ?_) (iU hO a) (iU hO b) (((ib cf a).trans h).trans (ib cf b).symm);simp only[Bool.not_eq_true']at h1 h2;exact hT x y h2 h1
end
end
section
open Go.RowKit Go.Sort Go.Maps Go.Shelf Go.Lib
open Tt (Tl dR dG)
attribute[local go_sem ↓]wp_at_zero wp_at_succ
theorem wS(x y:Tm):ltOf Ah x y=dH x y:=rfl
theorem Vd:SWO (ltOf Ah) where
 irrefl x:=oQ.p9 x
 trans x y z h1 h2:=oQ.tr x y z h1 h2
 ntrans x y z h1 h2:=by
  rw[wS,Ab]at *;omega
theorem Zb(x y:Tm)(h1:ltOf Ah x y=false)(h2:ltOf Ah y x=false):x=y:=by
 by_cases e:x=y
 ·exact e
 ·have:=oQ.tot x y e h1;rw[wS]at h2;rw[this]at h2;cases h2
theorem Pq(blk off size:Nat)(w:World):CmpLays Tryz.prog 17 #[] ET.enc 3 Ah blk off size w:=
 fun _ _ _ _ x y=>gG x.1.1 x.1.2.1 x.1.2.2 y.1.1 y.1.2.1 y.1.2.2 _
abbrev jE(ks:List Tm):List Tm:=qH Ah ks
theorem pV{ks:List Tm}(h:ks.Nodup):(jE ks).Pairwise fun a b=>dH a b=true:=by
 have h1:=iU Vd ks;have h2:(jE ks).Nodup:=(ib Ah ks).nodup_iff.2 h;refine List.Pairwise.imp₂ (R:=fun x y=>(!(ltOf Ah) y x)=true) (S:=fun x y=>x≠y) (fun {a b} ha hb=> ?_) h1 h2;have ha':dH b a=false:=by simpa[wS]using ha
 exact oQ.tot b a (fun e=>hb e.symm) ha'
theorem vW(g cap base:Nat)(ts:List Tm)(w:World)(h:w.ownsRow base 45 3 (.slice (some ⟨g,0,none⟩) ts.length cap) ts.length (eG ts))(hsz:ts.length<4611686018427387904):
    Calls Tryz.prog 211 #[.slice (some ⟨g,0,none⟩) ts.length cap, .func (.func 17) #[] #[]] w fun e w'=>e= .returned (.tuple #[])/\w'.ownsRow base 45 3 (.slice (some ⟨g,0,none⟩) ts.length cap) ts.length (eG (jE ts))/\Kp (fun k=>k=g) w w':=by
 have eg:∀args w,(callFunc 17 args).run Tryz.prog w= .ok (.enter 17 args) w:=enters_of Tryz.func17 (by kernel_rfl) rfl;have hg:g<w.heap.size:=(h.lt g rfl).2;have hcon:=AnyQ.slices_SortFunc_total Tryz.lSortT 3 Tryz.isAgg45 Tryz.sizeOf45 ET.enc (fun _=>rfl) ET.one Ah Vd 17 #[] g 0 cap ts.toArray w eg (Pq g 0 _ w) (nk (E:=ET) (by decide) h) hg (by simpa using hsz) Zb;change Calls Tryz.prog 211 _ _ _ at hcon;rw[List.size_toArray]at hcon;refine hcon.mono ?_;rintro e w' ⟨rfl,n,os,rfl⟩;exact⟨rfl,tX (E:=ET) (by decide) h (dB Ah ts),zn (E:=ET)⟩
theorem wV{f:Tm->Int}(w:World)(h:Tl w tb b 17 n f)(hn:n*24<=140737488355328):
    Calls Tryz.prog 151 #[.pointer (some ⟨tb,0,none⟩)] w fun e w'=>∃(v:Value) (ks:List Tm),qj f ks/\e= .returned v/\
     w'.ownsRow w.heap.size 45 3 v (jE ks).length (eG (jE ks))/\v≠ .slice none 0 0/\Below w.heap.size w w':=by
 obtain⟨i0,hi,hz0,hz1,hz2⟩:=info_parts NW;have HT:Hid (Tl w tb b 17 n f):=h;have c0:=h.c0;have c1:=h.c1;have hlt:=h.lt;obtain⟨D,hown,h1,h2⟩:=h.ta;have hbl:=hown.lt;have hsz:=hown.size_le;have hlen:=fun ty=>hown.len Tryz.underlying301 ty;clear h h1;go_enter Tryz.func151,Tryz.ntmps151;go_wp2_with (first
  | (at_make;refine wpList_make_own _ rfl _ _ 39 rfl w.heap.size 45 i0 (.agg #[.int .u64 0, .int .u64 0, .int .u64 0]) 3 Tryz.underlying39 hi hz0 hz1 _ _ _ (Maps.size D) rfl rfl rfl (by rw[hz2];omega) (by unfold maxLen;omega) (nR _) ?_;intro w1 DC hg1
     have c1b:=(HT.o.kp (Kp.grownBy (S:=fun _=>False) hg1 (fun k hk=>by cases hk)) (fun h=>h) (fun h=>h)).c1)
  | (at_range;refine wpList_range_own _ rfl _ 301 rfl 45 2 ZT.law Tryz.underlying301 _ b n _ rfl (hown.kept hg1 (by simp)) ?_;intro w0 hrg0 hg0 hs0)
  | go_in)
 go_frame;go_loopw [3,4] (fun v _ wr=>∃(left:Lit->Bool) (cnt:Nat) (ss:List Tm),wr.ranges Tryz.prog 45 (plainElem Tryz.prog 2) b w1.heap.size n D left cnt/\ss.length+cnt<=Maps.size D/\
     wr.ownsRow w.heap.size 45 3 v ss.length (eG ss)/\v≠ .slice none 0 0/\nP ZT D left ss/\Below w.heap.size w wr)
  (fun _ _ wr=>wr.rangeLeft b w1.heap.size)
 case atStart=>
  exact⟨_,_,[],hrg0,by simp,DC.kept hg0 (Or.inr (by simp[Value.ownBlock])),by simp,nP.start D,
   ((Below.refl _ _).grown hg1 (nR _) (fun j hj=>by cases hj)).grown hg0 hg1.size (fun j hj=>by cases hj)⟩
 case round=>
  obtain⟨left,cnt,ss,hrg,hcs,hrow,hnn,hC,hnx⟩:=hrel;go_wp2_with (first
   | (at_next; refine wpList_next_ranges _ rfl _ rfl 45 ZT.law (plainElem Tryz.prog 2) tv (Value.int .i64) (fun key kl hk => LM hk) (fun v y hv=>by obtain⟨c,rfl,_⟩:=plainElem_int_inv Tryz.underlying2 hv;exact⟨c,rfl⟩) b w1.heap.size n _ _ _ rfl hrg ?_ ?_)
   | go_in)
  ·intro hc0 hl0;rcases hrow.2 with⟨hnil,_⟩|⟨gb,cap,cur,rfl,hbase,hb,h3,h4,h5,h6⟩
   ·exact absurd hnil hnn
   have hS:=hC.sup h2 hl0;have c0r:=(hnx.cell (p:=⟨tb,0,none⟩) hlt).trans c0;have hc:=vW gb cap w.heap.size ss wr hrow (by omega);clear h6 hb h5;go_wp2_with (go_at_call 211;refine hc.mono ?_;rintro e w' ⟨rfl,ho',hk'⟩);go_ret;refine⟨_,ss,hS,rfl,by rw[dB];exact ho',by simp, ?_⟩;exact hnx.trans (hk'.below hnx.size (fun k hk=>by rw[hk];exact hbase))
  ·intro ta lW tc tp c kl yd yp w2 cnt2 hkey hlk hv hat hrg2 hlt2 hg2 hs2 hen;obtain⟨x,hx⟩:∃x:Tm,x=⟨(ta,lW,tc),tp⟩:=⟨_,rfl⟩;rw[<-hx]at hkey hen⊢;clear hx tp ta lW tc;obtain rfl:kl=ZT.lit x:=by
    have h7:=(ZT.key x).symm.trans hkey;exact(oJ h7).symm
   have hrow2:=hrow.kept hg2 (Or.inr (row_ne_iter hrow hrg).symm);have B2:Below w.heap.size w w2:=hnx.grown hg2 hnx.size (fun j hj=>by cases hj;exact hg1.size);have Io:=hC.step hlk hat;clear hs2 hv hat hkey hlk;go_wp2_with (first
    | (at_builtin;refine Cz.fU true rfl _ _ rfl w.heap.size _ ss.length _ rfl (hrow2.alloc _) x (by show Value.slice (some ⟨w2.heap.size+1,0,none⟩) 1 1=_;simp) (by omega) (by have:=B2.size;simp;omega) ?_;intro g' cap' w3 ho3 hg3 hl3)
    | go_in)
   have hrg3:=(hrg2.alloc _).kept hg3 (row_ne_low hrow2 hbl) (row_ne_iter hrow2 hrg2);go_roundw;case rel=>
    refine⟨_,cnt2,ss++[x],hrg3,by simp;omega, ?_,by simp,Io, ?_⟩
    ·rw[jy,vv,dK];exact ho3
    ·exact(B2.alloc B2.size _).grown hg3 (by have:=B2.size;simp;omega) (fun j hj=>(hrow2.lt j hj).1)
   case measure=>rw[hrg3.left_eq,hrg.left_eq];exact hlt2
theorem wQ{f:Tm->Int}(w:World)(h:Tl w tb b 17 n f)(hn:n*24<=140737488355328):
    Calls Tryz.prog 88 #[cv tb] w fun e w'=>∃(v:Value) (ks:List Tm),qj f ks/\e= .returned v/\
     w'.ownsRow w.heap.size 45 3 v (jE ks).length (eG (jE ks))/\v≠ .slice none 0 0/\Below w.heap.size w w':=by
 have hk:=fun o=>wV _ (h.gr ((Gr.refl w).alloc o)) hn;have HG:Hid (∀o,Gr w (w.alloc o)):=fun o=>(Gr.refl w).alloc o;clear h;go_enter Tryz.func88,Tryz.ntmps88;go_wp2_with fail;refine(hk _).mono ?_;rintro e w1 ⟨v,ks,hS,rfl,ho,hv,hb⟩;go_wp2;go_ret;exact⟨_,ks,hS,rfl,aM ho (by simp),hv,(HG.o _).below.trans (hb.mono (by simp))⟩
end
namespace Rs.Tt
open Go.RowKit Go.Sort Go.Maps
attribute[local go_sem ↓]wp_at_zero wp_at_succ
theorem zeroE(w:World):(zeroValue 2).run Tryz.prog w= .ok (.int .i64 0) w:=by kernel_rfl
def dR(n:Int):Bool:=decide (n < -2147483647)|| decide (2147483647<n)
theorem dG{n:Int}:dR n=false↔-2147483647<=n/\n<=2147483647:=by unfold dR;simp
theorem UH{n:Int}:dR n=true↔n < -2147483647\/2147483647<n:=by unfold dR;simp
theorem gy(n:Int)(w:World):Calls Tryz.prog 143 #[.int .i64 n] w fun e w'=>e= .returned (.bool (dR n))/\w'=w:=by
 unfold dR;go_enter Tryz.func143,Tryz.ntmps143;go_wp2;all_goals (go_ret;refine⟨?_,rfl⟩;simp_all)
theorem heap_alloc2_new(w:World)(o p:Obj):(((w.alloc o).alloc p)).heap[w.heap.size+1]? =some p:=by
 have:=ai (w.alloc o) p;simpa using this
theorem heap_alloc2_old(w:World)(o p:Obj):(((w.alloc o).alloc p)).heap[w.heap.size]? =some o:=by
 rw[Below.heap_alloc _ _ _ (by simp)];exact ai _ _
structure Tl(w:World)(tb b g n:Nat)(f:Sm->Int):Prop where
 blk:w.heap[tb]? =some (.cells #[fv g, .map (some b)] 238 (0,0))
 ta:Ta ZM 2 w b n f
 bd:∀s,-2147483647<=f s/\f s<=2147483647
section
variable {w w':World} {tb b g n:Nat} {f:Sm->Int}
theorem Tl.lt(h:Tl w tb b g n f):tb<w.heap.size:=(aG.1 h.blk).1
theorem Tl.c0(h:Tl w tb b g n f):w.cell? ⟨tb,0,none⟩=some (fv g):=by simp[World.cell?,h.blk]
theorem Tl.c1(h:Tl w tb b g n f):w.cell? ⟨tb,1,none⟩=some (.map (some b)):=by simp[World.cell?,h.blk]
theorem Tl.ne(h:Tl w tb b g n f):tb≠b:=fun e=>by
 obtain⟨D,⟨es,clock,hb,_⟩,_⟩:=h.ta;rw[<-e,h.blk]at hb;cases hb
theorem Tl.kp{S:Nat->Prop}(h:Tl w tb b g n f)(hk:Kp S w w')(h1:¬S tb)(h2:¬S b):Tl w' tb b g n f:=
 ⟨(hk.block tb h.lt h1).trans h.blk,h.ta.kept (hk.block b h.ta.lt h2),h.bd⟩
theorem Tl.below(h:Tl w tb b g n f)(hb:Below w.heap.size w w'):Tl w' tb b g n f:=h.kp (S:=fun _=>False) (Kp.of_below hb) (fun h=>h) (fun h=>h)
theorem Tl.gr(h:Tl w tb b g n f)(hb:Gr w w'):Tl w' tb b g n f:=h.below hb.below
end
theorem dD(g:Nat)(w:World):Calls Tryz.prog 77 #[fv g] w fun e w'=>e= .returned (.pointer (some ⟨w.heap.size+1,0,none⟩))/\Tl w' (w.heap.size+1) w.heap.size g 0 (fun _=>0)/\Gr w w':=by
 have hmm:=@run_makeMap Tryz.prog;go_enter Tryz.func77,Tryz.ntmps77;go_wp2;go_ret;refine⟨rfl,⟨?_, ?_,fun _=> ?_⟩,((Gr.refl _).alloc _).alloc _⟩
 ·exact heap_alloc2_new _ _ _
 ·exact(Ta.made w).kept ((heap_alloc2_old _ _ _).trans (MapKept.heap_alloc w _).1.symm)
 ·decide
theorem kZ(w:World):CallsD Tryz.prog 208 #[] .returning w fun e u' w'=>e= .returned (.tuple #[])/\u'= .returning/\w'=w:=by
 refine callsD_of_wpS Tryz.func208 rfl fun c₀ cs hu=> ?_;apply wpS_region;simp[wpOpsS,go_sem,recoverD,hu,Tryz.ntmps208,bodyPostS,results,Tryz.results208];cases c₀
 simp_all
abbrev bx(x:Sm)(w:World):World:=w.alloc (.cells #[.int .i64 x.1.1, .int .u64 x.1.2.1, .int .u64 x.1.2.2.1, .int .u64 x.1.2.2.2] 47)
theorem dQ{f:Sm->Int}(x:Sm)(w:World)(h:Tl w tb b g n f):
    Calls Tryz.prog 144 #[.pointer (some ⟨tb,0,none⟩),mv x] w fun e w'=>e= .returned (.tuple #[.int .i64 (f x), .bool true])/\Gr w w':=by
 have hmx:Tryz.prog.follows .mixedOrders=true:=by kernel_rfl
 have HT:Hid (Tl (bx x w).drew tb b g n f):=(h.gr ((Gr.refl _).alloc _)).gr (Gr.refl _).drew;have hblk:(bx x w).heap[w.heap.size]? =some (.cells #[.int .i64 x.1.1, .int .u64 x.1.2.1, .int .u64 x.1.2.2.1, .int .u64 x.1.2.2.2] 47 (0,0)):=ai _ _;have S0:(bx x w).drew.cell? ⟨tb,1,none⟩=some (.map (some b))/\(bx x w).drew.cell? ⟨w.heap.size,0,none⟩=some (.int .i64 x.1.1)/\(bx x w).drew.cell? ⟨w.heap.size,1,none⟩=some (.int .u64 x.1.2.1)/\(bx x w).drew.cell? ⟨w.heap.size,2,none⟩=some (.int .u64 x.1.2.2.1)/\(bx x w).drew.cell? ⟨w.heap.size,3,none⟩=some (.int .u64 x.1.2.2.2):=by
  refine⟨HT.o.c1, ?_, ?_, ?_, ?_⟩<;>(show(bx x w).cell? _=_;simp only[World.cell?];rw[hblk];rfl)
 obtain⟨D,hown,h1,h2⟩:=HT.o.ta;have hx:=h1 x;obtain⟨c,hrun,hat,_⟩:=hown.lookup_int ZM.law Tryz.underlying235 Tryz.underlying2 (zeroE _) (ZM.key x);have e0:c=f x:=by
  rw[hx]at hat;simpa using hat.symm
 subst e0;have hrun:(Instr.lookup 235 (.map (some b)) (mv x) false).run Tryz.prog (bx x w).drew= .ok (.int .i64 (f x)) (bx x w).drew:=hrun;have hG:Gr w (bx x w).drew:=((Gr.refl _).alloc _).drew;clear hx hat h1 h2 hown h HT hblk;generalize f x=r at hrun⊢;go_enter_defers Tryz.func144,Tryz.ntmps144;go_wp2_with fail;go_region_held3 (fun w'=>w'.cell? ⟨tb,1,none⟩=some (.map (some b))/\w'.cell? ⟨w.heap.size,0,none⟩=some (.int .i64 x.1.1)/\w'.cell? ⟨w.heap.size,1,none⟩=some (.int .u64 x.1.2.1)/\w'.cell? ⟨w.heap.size,2,none⟩=some (.int .u64 x.1.2.2.1)/\w'.cell? ⟨w.heap.size,3,none⟩=some (.int .u64 x.1.2.2.2))
  (first|exact S0) (fail)
 go_wp2;refine leaves_cons (f:=208) (args:=#[]) (by simp) (by simp[go_sem]) ?_;refine(kZ _).mono ?_;rintro e u' w'' ⟨rfl,rfl,rfl⟩;simp[Leaves,settle,results,Tryz.results144,go_sem];exact hG
theorem bU(x:Sm)(w:World):(bx x w).cell? ⟨w.heap.size,0,none⟩=some (.int .i64 x.1.1)/\(bx x w).cell? ⟨w.heap.size,1,none⟩=some (.int .u64 x.1.2.1)/\(bx x w).cell? ⟨w.heap.size,2,none⟩=some (.int .u64 x.1.2.2.1)/\(bx x w).cell? ⟨w.heap.size,3,none⟩=some (.int .u64 x.1.2.2.2):=by
 have hblk:(bx x w).heap[w.heap.size]? =some (.cells #[.int .i64 x.1.1, .int .u64 x.1.2.1, .int .u64 x.1.2.2.1, .int .u64 x.1.2.2.2] 47 (0,0)):=ai _ _;refine⟨?_, ?_, ?_, ?_⟩<;>(simp only[World.cell?];rw[hblk];rfl)
theorem Ay{f:Sm->Int}(x:Sm)(v:Int)(w:World)(h:Tl w tb b g n f)(hn:n<maxLen)(hv: -2147483647<=v/\v<=2147483647):
    Calls Tryz.prog 145 #[.pointer (some ⟨tb,0,none⟩),mv x, .int .i64 v] w fun e w'=>e= .returned (.tuple #[])/\Tl w' tb b g (n+1) (upd f x v)/\Kp (fun k=>k=b) w w':=by
 have hmx:Tryz.prog.follows .mixedOrders=true:=by kernel_rfl
 have HT:Hid (Tl (bx x w).drew tb b g n f):=(h.gr ((Gr.refl _).alloc _)).gr (Gr.refl _).drew;have HG:Hid (Gr w (bx x w).drew):=((Gr.refl _).alloc _).drew;have S0:(bx x w).drew.cell? ⟨tb,1,none⟩=some (.map (some b))/\(bx x w).drew.cell? ⟨w.heap.size,0,none⟩=some (.int .i64 x.1.1)/\(bx x w).drew.cell? ⟨w.heap.size,1,none⟩=some (.int .u64 x.1.2.1)/\(bx x w).drew.cell? ⟨w.heap.size,2,none⟩=some (.int .u64 x.1.2.2.1)/\(bx x w).drew.cell? ⟨w.heap.size,3,none⟩=some (.int .u64 x.1.2.2.2):=
  ⟨HT.o.c1,(bU x w).1,(bU x w).2.1,(bU x w).2.2.1,(bU x w).2.2.2⟩
 have OE:∀s,-2147483647<=upd f x v s/\upd f x v s<=2147483647:=fun s=>by unfold upd;split;exact hv;exact h.bd s
 have vE:Hid (∀s,-2147483647<=upd f x v s/\upd f x v s<=2147483647):=OE;obtain⟨D,hown,h1,h2⟩:=HT.o.ta;have hne:=HT.o.ne;have hlt:=HT.o.lt;have hbl:b<w.heap.size:=h.ta.lt;have hbx:w.heap.size<(bx x w).drew.heap.size:=by show w.heap.size<(bx x w).heap.size;simp
 clear h OE;by_cases h0:v=0
 ·subst h0;have ht:=Ed h1 h2 x;obtain⟨w1,hrun,hown1,hturn1⟩:=hown.drop ZM.law Tryz.underlying235 (ZM.key x) 0;have hrun:Sem.run Tryz.prog (Builtin.delete_ #[235,47] 0 #[.map (some b),mv x]) (bx x w).drew= .ok (.tuple #[]) w1:=hrun;have qB:Hid ((bx x w).drew.grownBy w1 (some b)):=hturn1.grown;have S1:w1.cell? ⟨tb,1,none⟩=some (.map (some b))/\w1.cell? ⟨w.heap.size,0,none⟩=some (.int .i64 x.1.1)/\w1.cell? ⟨w.heap.size,1,none⟩=some (.int .u64 x.1.2.1)/\w1.cell? ⟨w.heap.size,2,none⟩=some (.int .u64 x.1.2.2.1)/\w1.cell? ⟨w.heap.size,3,none⟩=some (.int .u64 x.1.2.2.2):=by
   have e1:∀q,w1.cell? ⟨tb,q,none⟩=(bx x w).drew.cell? ⟨tb,q,none⟩:=fun q=>yJ (a:=⟨tb,q,none⟩) (qB.o.block tb hlt (by simp[hne]));have e2:∀q,w1.cell? ⟨w.heap.size,q,none⟩=(bx x w).drew.cell? ⟨w.heap.size,q,none⟩:=fun q=>yJ (a:=⟨w.heap.size,q,none⟩) (qB.o.block w.heap.size hbx (by simp;omega));exact⟨(e1 1).trans S0.1,(e2 0).trans S0.2.1,(e2 1).trans S0.2.2.1,(e2 2).trans S0.2.2.2.1,(e2 3).trans S0.2.2.2.2⟩
  have HE:Hid (Tl w1 tb b g (n+1) (upd f x 0)/\Kp (fun k=>k=b) w w1):=
   ⟨⟨(qB.o.block tb hlt (by simp[hne])).trans HT.o.blk,⟨_,hown1.mono (Nat.le_succ _),ht.1,ht.2⟩,vE.o⟩,(Kp.aZ (S:=fun k=>k=b) HG.o).trans (Kp.grownBy (S:=fun k=>k=b) qB.o (fun k hk=>by simpa using hk.symm)) (fun _ _ h=>h)⟩
  clear h1 h2 hown hown1 hturn1 qB vE HT HG hlt hbx;go_enter Tryz.func145,Tryz.ntmps145;go_wp2_with fail;go_region_held3 (fun w'=>w'.cell? ⟨tb,1,none⟩=some (.map (some b))/\w'.cell? ⟨w.heap.size,0,none⟩=some (.int .i64 x.1.1)/\w'.cell? ⟨w.heap.size,1,none⟩=some (.int .u64 x.1.2.1)/\w'.cell? ⟨w.heap.size,2,none⟩=some (.int .u64 x.1.2.2.1)/\w'.cell? ⟨w.heap.size,3,none⟩=some (.int .u64 x.1.2.2.2))
   (first|exact S0|exact S1) (fail)
  go_wp2;refine bR (results_none rfl _ _ _) rfl ?_;exact⟨rfl,HE.o.1,HE.o.2⟩
 ·have ht:=C9 (hown.isMap) h1 h2 x v h0;have hwf:(Lit.int .i64 v).wf=true:=WalkArith.wf_i64 (by omega);obtain⟨w1,hrun,hown1,hturn1⟩:=hown.store ZM.law Tryz.underlying235 hn (ZM.key x) (plainElem_int Tryz.underlying2 hwf);have hrun:(Instr.mapUpdate 235 (.map (some b)) (mv x) (.int .i64 v)).run Tryz.prog (bx x w).drew= .ok () w1:=hrun;have qB:Hid ((bx x w).drew.grownBy w1 (some b)):=hturn1.grown;have S1:w1.cell? ⟨tb,1,none⟩=some (.map (some b))/\w1.cell? ⟨w.heap.size,0,none⟩=some (.int .i64 x.1.1)/\w1.cell? ⟨w.heap.size,1,none⟩=some (.int .u64 x.1.2.1)/\w1.cell? ⟨w.heap.size,2,none⟩=some (.int .u64 x.1.2.2.1)/\w1.cell? ⟨w.heap.size,3,none⟩=some (.int .u64 x.1.2.2.2):=by
   have e1:∀q,w1.cell? ⟨tb,q,none⟩=(bx x w).drew.cell? ⟨tb,q,none⟩:=fun q=>yJ (a:=⟨tb,q,none⟩) (qB.o.block tb hlt (by simp[hne]));have e2:∀q,w1.cell? ⟨w.heap.size,q,none⟩=(bx x w).drew.cell? ⟨w.heap.size,q,none⟩:=fun q=>yJ (a:=⟨w.heap.size,q,none⟩) (qB.o.block w.heap.size hbx (by simp;omega));exact⟨(e1 1).trans S0.1,(e2 0).trans S0.2.1,(e2 1).trans S0.2.2.1,(e2 2).trans S0.2.2.2.1,(e2 3).trans S0.2.2.2.2⟩
  have HE:Hid (Tl w1 tb b g (n+1) (upd f x v)/\Kp (fun k=>k=b) w w1):=
   ⟨⟨(qB.o.block tb hlt (by simp[hne])).trans HT.o.blk,⟨_,hown1,ht.1,ht.2⟩,vE.o⟩,(Kp.aZ (S:=fun k=>k=b) HG.o).trans (Kp.grownBy (S:=fun k=>k=b) qB.o (fun k hk=>by simpa using hk.symm)) (fun _ _ h=>h)⟩
  clear h1 h2 hown hown1 hturn1 qB vE HT HG hlt hbx;go_enter Tryz.func145,Tryz.ntmps145;go_wp2_with fail;go_region_held3 (fun w'=>w'.cell? ⟨tb,1,none⟩=some (.map (some b))/\w'.cell? ⟨w.heap.size,0,none⟩=some (.int .i64 x.1.1)/\w'.cell? ⟨w.heap.size,1,none⟩=some (.int .u64 x.1.2.1)/\w'.cell? ⟨w.heap.size,2,none⟩=some (.int .u64 x.1.2.2.1)/\w'.cell? ⟨w.heap.size,3,none⟩=some (.int .u64 x.1.2.2.2))
   (first|exact S0|exact S1) (fail)
  go_wp2;go_end0;exact⟨rfl,HE.o.1,HE.o.2⟩
theorem BL{x:Sm}{w2:World}(h:Gr (bx x w) w2):w2.cell? ⟨w.heap.size,0,none⟩=some (.int .i64 x.1.1)/\w2.cell? ⟨w.heap.size,1,none⟩=some (.int .u64 x.1.2.1)/\w2.cell? ⟨w.heap.size,2,none⟩=some (.int .u64 x.1.2.2.1)/\w2.cell? ⟨w.heap.size,3,none⟩=some (.int .u64 x.1.2.2.2):=by
 have hz:w.heap.size<(bx x w).heap.size:=by simp
 exact⟨(h.cell hz).trans (bU x w).1,(h.cell hz).trans (bU x w).2.1,(h.cell hz).trans (bU x w).2.2.1,(h.cell hz).trans (bU x w).2.2.2⟩
def Es(f:Sm->Int)(x:Sm)(v:Int):Int:=if dR v=true\/dR (f x+v)=true then 12 else 0
def xU(f:Sm->Int)(x:Sm)(v:Int):Sm->Int:=if dR v=true\/dR (f x+v)=true then f else upd f x (f x+v)
theorem oM{f:Sm->Int}(x:Sm)(v:Int)(w:World)(h:Tl w tb b g n f)(hn:n<maxLen):
    Calls Tryz.prog 81 #[.pointer (some ⟨tb,0,none⟩),mv x, .int .i64 v] w fun e w'=>e= .returned (.int .i64 (Es f x v))/\Tl w' tb b g (n+1) (xU f x v)/\Kp (fun k=>k=b) w w':=by
 have hb:=h.bd x;have HG:Hid (Gr w (bx x w)):=(Gr.refl _).alloc _;have HT:Hid (Tl (bx x w) tb b g n f):=h.gr HG.o;have hco:=dQ x (bx x w) HT.o;have hset:=fun(W:World) (hW:Gr (bx x w) W) (hv: -2147483647<=f x+v/\f x+v<=2147483647)=>Ay x (f x+v) W (HT.o.gr hW) hn hv;have h1:=fun W=>gy v W;have h2:=fun W=>gy (f x+v) W;have Qr:Hid (∀W,Gr (bx x w) W->Kp (fun k=>k=b) w W):=fun W hW=>(Kp.aZ (HG.o.trans hW));unfold Es xU;clear h;cases hv:dR v with
 | true=>
  rw[hv]at h1;clear hv;rw[if_pos (Or.inl rfl),if_pos (Or.inl rfl)];go_enter Tryz.func81,Tryz.ntmps81;go_wp2_with fail;refine(h1 _).mono ?_;rintro e w1 ⟨rfl,rfl⟩;go_wp2;go_ret;exact⟨rfl,⟨HT.o.blk,HT.o.ta.mono (Nat.le_succ _),HT.o.bd⟩,Qr.o _ (Gr.refl _)⟩
 | false=>
  have hv':=dG.1 hv;rw[hv]at h1;clear hv;cases hv2:dR (f x+v)with
  | true=>
   rw[hv2]at h2;clear hv2 hset;rw[if_pos (Or.inr rfl),if_pos (Or.inr rfl)];generalize f x=c at *;go_enter Tryz.func81,Tryz.ntmps81;go_wp2_with fail;refine(h1 _).mono ?_;rintro e w1 ⟨rfl,rfl⟩;go_wp2_with fail;refine hco.mono ?_;rintro e w2 ⟨rfl,g2⟩;go_wp2_with fail;refine(h2 _).mono ?_;rintro e w3 ⟨rfl,rfl⟩;go_wp2;go_ret;have ht:=HT.o.gr g2;exact⟨rfl,⟨ht.blk,ht.ta.mono (Nat.le_succ _),ht.bd⟩,Qr.o _ g2⟩
  | false=>
   have hv3:=dG.1 hv2;rw[hv2]at h2;clear hv2;rw[if_neg (by simp),if_neg (by simp)];have Ol:=fun W hW=>hset W hW hv3;clear hset;generalize f x=c at *;go_enter Tryz.func81,Tryz.ntmps81;go_wp2_with fail;refine(h1 _).mono ?_;rintro e w1 ⟨rfl,rfl⟩;go_wp2_with fail;refine hco.mono ?_;rintro e w2 ⟨rfl,g2⟩;obtain⟨c0,c1,c2,c3⟩:=BL g2;go_wp2_with fail;refine(h2 _).mono ?_;rintro e w3 ⟨rfl,rfl⟩;go_wp2_with fail;refine(Ol _ g2).mono ?_;rintro e w4 ⟨rfl,ht,hk⟩;go_wp2;go_ret;exact⟨rfl,ht,(Qr.o _ g2).trans hk (fun _ _ h=>h)⟩
theorem Bw{f:Sm->Int}(x:Sm)(w:World)(h:Tl w tb b g n f):
    Calls Tryz.prog 149 #[.pointer (some ⟨tb,0,none⟩),mv x] w fun e w'=>e= .returned (.int .i64 (f x))/\Gr w w':=by
 have HG:Hid (Gr w (bx x w)):=(Gr.refl _).alloc _;have hco:=dQ x (bx x w) (h.gr HG.o);generalize f x=c at hco⊢;clear h;go_enter Tryz.func149,Tryz.ntmps149;go_wp2_with fail;refine hco.mono ?_;rintro e w1 ⟨rfl,g1⟩;go_wp2;go_ret;exact⟨rfl,HG.o.trans g1⟩
end Rs.Tt
namespace Rs
open Go.RowKit Go.Sort Go.Maps
attribute[local go_sem ↓]wp_at_zero wp_at_succ
theorem Rj(p q:Int)(b:Nat)(w:World)(h0:w.cell? ⟨b,0,none⟩=some (.int .i64 p))(h1:w.cell? ⟨b,1,none⟩=some (.int .i64 q)):
    Calls Tryz.prog 50 #[.slice (some ⟨b,0,none⟩) 2 2] w fun e w'=>e= .returned (.int .i64 (VN p q))/\w'=w:=by
 by_cases e0:p=0
 ·subst e0;by_cases e1:q=0
  ·subst e1;go_enter Tryz.func50,Tryz.ntmps50;go_wp2;refine wp_loop_rounds 3 ?_;rw[rounds_succ];go_wp2;rw[rounds_succ];go_wp2;rw[rounds_succ];go_wp2;go_ret;exact⟨rfl,rfl⟩
  ·have b1:(q != 0)=true:=(by rw[bne_iff_ne];exact e1);have hr:VN 0 q=q:=(by simp[VN]);rw[hr];clear hr;go_enter Tryz.func50,Tryz.ntmps50;go_wp2;refine wp_loop_rounds 2 ?_;rw[rounds_succ];go_wp2;rw[rounds_succ];go_wp2;go_ret;exact⟨rfl,rfl⟩
 ·have b0:(p != 0)=true:=by rw[bne_iff_ne];exact e0
  have hr:VN p q=p:=by simp[VN,e0]
  rw[hr];clear hr;go_enter Tryz.func50,Tryz.ntmps50;go_wp2;refine wp_loop_rounds 1 ?_;rw[rounds_succ];go_wp2;go_ret;exact⟨rfl,rfl⟩
theorem p8(x:Int)(w:World):Calls Tryz.prog 195 #[.int .i64 x] w fun e w'=>e= .returned (.bool false)/\w'=w:=by
 go_enter Tryz.func195,Tryz.ntmps195;go_wp2;go_ret;exact⟨rfl,rfl⟩
theorem rF(x y:Int)(w:World):Calls Tryz.prog 136 #[.int .i64 x, .int .i64 y] w fun e w'=>e= .returned (.int .i64 (c64 x y))/\w'=w:=by
 have H:=fun v W=>p8 v W;go_enter Tryz.func136,Tryz.ntmps136;go_wp2_with (go_at_call 195;refine(H _ _).mono ?_;rintro e w1 ⟨rfl,rfl⟩);all_goals go_ret
 all_goals refine⟨?_,rfl⟩
 all_goals refine AJ ?_
 all_goals unfold c64
 all_goals (repeat split)<;>omega
theorem ji(s t:Sm)(w:World):Calls Tryz.prog 78 #[mv s,mv t] w fun e w'=>e= .returned (.int .i64 (FT s t))/\Gr w w':=by
 have hmx:Tryz.prog.follows .mixedOrders=true:=by kernel_rfl
 have H1:=fun W=>rF s.1.1 t.1.1 W;have H2:=fun W=>gG s.1.2.1 s.1.2.2.1 s.1.2.2.2 t.1.2.1 t.1.2.2.1 t.1.2.2.2 W;unfold FT;generalize c64 s.1.1 t.1.1=p at *;generalize lV s.1.2.1 s.1.2.2.1 s.1.2.2.2 t.1.2.1 t.1.2.2.1 t.1.2.2.2=q at *;obtain⟨W0,hW0⟩:=aD (((w.alloc (.cells #[.int .i64 s.1.1, .int .u64 s.1.2.1, .int .u64 s.1.2.2.1, .int .u64 s.1.2.2.2] 47)).alloc (.cells #[.int .i64 t.1.1, .int .u64 t.1.2.1, .int .u64 t.1.2.2.1, .int .u64 t.1.2.2.2] 47)).drew);have hz0:w.heap.size+1<W0.heap.size:=by rw[hW0];show _<((w.alloc _).alloc _).heap.size;simp
 have S0:(W0.cell? ⟨w.heap.size,0,none⟩=some (.int .i64 s.1.1)/\W0.cell? ⟨w.heap.size,1,none⟩=some (.int .u64 s.1.2.1)/\W0.cell? ⟨w.heap.size,2,none⟩=some (.int .u64 s.1.2.2.1)/\W0.cell? ⟨w.heap.size,3,none⟩=some (.int .u64 s.1.2.2.2)/\W0.cell? ⟨w.heap.size+1,0,none⟩=some (.int .i64 t.1.1)/\W0.cell? ⟨w.heap.size+1,1,none⟩=some (.int .u64 t.1.2.1)/\W0.cell? ⟨w.heap.size+1,2,none⟩=some (.int .u64 t.1.2.2.1)/\W0.cell? ⟨w.heap.size+1,3,none⟩=some (.int .u64 t.1.2.2.2))/\Gr W0 W0:=by
  refine⟨?_,Gr.refl _⟩;rw[hW0];have b0:((w.alloc (.cells #[.int .i64 s.1.1, .int .u64 s.1.2.1, .int .u64 s.1.2.2.1, .int .u64 s.1.2.2.2] 47)).alloc (.cells #[.int .i64 t.1.1, .int .u64 t.1.2.1, .int .u64 t.1.2.2.1, .int .u64 t.1.2.2.2] 47)).drew.heap[w.heap.size]? =some (.cells #[.int .i64 s.1.1, .int .u64 s.1.2.1, .int .u64 s.1.2.2.1, .int .u64 s.1.2.2.2] 47 (0,0)):=(Below.heap_alloc _ _ _ (by simp)).trans (ai _ _);have b1:((w.alloc (.cells #[.int .i64 s.1.1, .int .u64 s.1.2.1, .int .u64 s.1.2.2.1, .int .u64 s.1.2.2.2] 47)).alloc (.cells #[.int .i64 t.1.1, .int .u64 t.1.2.1, .int .u64 t.1.2.2.1, .int .u64 t.1.2.2.2] 47)).drew.heap[w.heap.size+1]? =some (.cells #[.int .i64 t.1.1, .int .u64 t.1.2.1, .int .u64 t.1.2.2.1, .int .u64 t.1.2.2.2] 47 (0,0)):=by
   have:=ai (w.alloc (.cells #[.int .i64 s.1.1, .int .u64 s.1.2.1, .int .u64 s.1.2.2.1, .int .u64 s.1.2.2.2] 47)) (.cells #[.int .i64 t.1.1, .int .u64 t.1.2.1, .int .u64 t.1.2.2.1, .int .u64 t.1.2.2.2] 47);rw[show(w.alloc (.cells #[.int .i64 s.1.1, .int .u64 s.1.2.1, .int .u64 s.1.2.2.1, .int .u64 s.1.2.2.2] 47)).heap.size=w.heap.size+1 by simp]at this;exact this
  refine⟨?_, ?_, ?_, ?_, ?_, ?_, ?_, ?_⟩<;>(simp only[World.cell?,b0,b1];rfl)
 have kF:∀W W':World,((W.cell? ⟨w.heap.size,0,none⟩=some (.int .i64 s.1.1)/\W.cell? ⟨w.heap.size,1,none⟩=some (.int .u64 s.1.2.1)/\W.cell? ⟨w.heap.size,2,none⟩=some (.int .u64 s.1.2.2.1)/\W.cell? ⟨w.heap.size,3,none⟩=some (.int .u64 s.1.2.2.2)/\W.cell? ⟨w.heap.size+1,0,none⟩=some (.int .i64 t.1.1)/\W.cell? ⟨w.heap.size+1,1,none⟩=some (.int .u64 t.1.2.1)/\W.cell? ⟨w.heap.size+1,2,none⟩=some (.int .u64 t.1.2.2.1)/\W.cell? ⟨w.heap.size+1,3,none⟩=some (.int .u64 t.1.2.2.2))/\Gr W0 W)->Gr W W'->((W'.cell? ⟨w.heap.size,0,none⟩=some (.int .i64 s.1.1)/\W'.cell? ⟨w.heap.size,1,none⟩=some (.int .u64 s.1.2.1)/\W'.cell? ⟨w.heap.size,2,none⟩=some (.int .u64 s.1.2.2.1)/\W'.cell? ⟨w.heap.size,3,none⟩=some (.int .u64 s.1.2.2.2)/\W'.cell? ⟨w.heap.size+1,0,none⟩=some (.int .i64 t.1.1)/\W'.cell? ⟨w.heap.size+1,1,none⟩=some (.int .u64 t.1.2.1)/\W'.cell? ⟨w.heap.size+1,2,none⟩=some (.int .u64 t.1.2.2.1)/\W'.cell? ⟨w.heap.size+1,3,none⟩=some (.int .u64 t.1.2.2.2))/\Gr W0 W'):=fun W W' h hb=>by
  have q0:w.heap.size<W.heap.size:=by have:=h.2.size;omega
  have q1:w.heap.size+1<W.heap.size:=by have:=h.2.size;omega
  exact⟨⟨(hb.cell q0).trans h.1.1,(hb.cell q0).trans h.1.2.1,(hb.cell q0).trans h.1.2.2.1,(hb.cell q0).trans h.1.2.2.2.1,(hb.cell q1).trans h.1.2.2.2.2.1,(hb.cell q1).trans h.1.2.2.2.2.2.1,(hb.cell q1).trans h.1.2.2.2.2.2.2.1,(hb.cell q1).trans h.1.2.2.2.2.2.2.2⟩,h.2.trans hb⟩
 have HG:Gr w W0:=by rw[hW0];exact(((Gr.refl _).alloc _).alloc _).drew
 go_enter Tryz.func78,Tryz.ntmps78;go_wp2_with fail;go_region_held3 (fun W=>(W.cell? ⟨w.heap.size,0,none⟩=some (.int .i64 s.1.1)/\W.cell? ⟨w.heap.size,1,none⟩=some (.int .u64 s.1.2.1)/\W.cell? ⟨w.heap.size,2,none⟩=some (.int .u64 s.1.2.2.1)/\W.cell? ⟨w.heap.size,3,none⟩=some (.int .u64 s.1.2.2.2)/\W.cell? ⟨w.heap.size+1,0,none⟩=some (.int .i64 t.1.1)/\W.cell? ⟨w.heap.size+1,1,none⟩=some (.int .u64 t.1.2.1)/\W.cell? ⟨w.heap.size+1,2,none⟩=some (.int .u64 t.1.2.2.1)/\W.cell? ⟨w.heap.size+1,3,none⟩=some (.int .u64 t.1.2.2.2))/\Gr W0 W)
  (first|(rw[<-hW0];exact S0)|exact kF _ _ (by assumption) (by assumption)|exact kF _ _ (by assumption) ((Gr.refl _).alloc _)|assumption)
  (first|(go_at_call 136;refine(H1 _).mono ?_;rintro e w1 ⟨rfl,rfl⟩)|(go_at_call 17;refine(H2 _).mono ?_;rintro e w2 ⟨rfl,g2⟩)|(go_at_call 50;refine(Rj p q _ _ (by simp) (by simp)).mono ?_;rintro e w3 ⟨rfl,rfl⟩))
 go_wp2;go_ret;rw[<-hW0]at g2;exact⟨rfl,HG.trans (g2.alloc _)⟩
end Rs
namespace Rs
open Go.RowKit Go.Sort Go.Maps Go.Shelf
def slt(s t:Sm):Bool:=ltOf FT s t
theorem oh(s t:Sm):slt s t=true↔s.1.1<t.1.1\/(s.1.1=t.1.1/\(s.1.2.1<t.1.2.1\/(s.1.2.1=t.1.2.1/\(s.1.2.2.1<t.1.2.2.1\/(s.1.2.2.1=t.1.2.2.1/\s.1.2.2.2<t.1.2.2.2))))):=by
 unfold slt ltOf FT;have h1:=iA s.1.1 t.1.1;have h2:=fP s.1.1 t.1.1;have h3:=qE s.1.2.1 s.1.2.2.1 s.1.2.2.2 t.1.2.1 t.1.2.2.1 t.1.2.2.2;rw[decide_eq_true_iff];unfold VN;generalize c64 s.1.1 t.1.1=p at *;generalize lV s.1.2.1 s.1.2.2.1 s.1.2.2.2 t.1.2.1 t.1.2.2.1 t.1.2.2.2=q at *;split<;>omega
theorem Av(s t:Sm):slt s t=false↔¬(s.1.1<t.1.1\/(s.1.1=t.1.1/\(s.1.2.1<t.1.2.1\/(s.1.2.1=t.1.2.1/\(s.1.2.2.1<t.1.2.2.1\/(s.1.2.2.1=t.1.2.2.1/\s.1.2.2.2<t.1.2.2.2)))))):=by
 rw[<-oh,Bool.not_eq_true]
theorem qY(x y:Sm):ltOf FT x y=slt x y:=rfl
theorem Zc(x y:Sm)(h1:ltOf FT x y=false)(h2:ltOf FT y x=false):x=y:=by
 rw[qY,Av]at h1 h2;exact Mw (by omega) (by omega) (by omega) (by omega)
theorem Ze:SWO (ltOf FT) where
 irrefl x:=by rw[qY,Av];omega
 trans x y z h1 h2:=by rw[qY,oh]at *;omega
 ntrans x y z h1 h2:=by rw[qY,Av]at *;omega
abbrev iJ(ks:List Sm):List Sm:=qH FT ks
theorem FL{ks:List Sm}(h:ks.Nodup):(iJ ks).Pairwise fun a b=>slt a b=true:=by
 have h1:=iU Ze ks;have h2:(iJ ks).Nodup:=(ib FT ks).nodup_iff.2 h;refine List.Pairwise.imp₂ (R:=fun x y=>(!(ltOf FT) y x)=true) (S:=fun x y=>x≠y) (fun {a b} ha hb=> ?_) h1 h2;have ha':ltOf FT b a=false:=by simpa using ha
 cases hq:slt a b with
 | true => rfl
 | false => exact absurd (Zc a b hq ha') hb
end Rs
namespace Rs
open Go.RowKit Go.Sort Go.Maps Go.Shelf Go.Lib
open Rs.Tt (Tl)
attribute[local go_sem ↓]wp_at_zero wp_at_succ
theorem Ps(blk off size:Nat)(w:World):CmpLays Tryz.prog 78 #[] ES.enc 4 FT blk off size w:=
 fun _ _ _ _ x y=>ji x y _
theorem vW(g cap base:Nat)(ts:List Sm)(w:World)(h:w.ownsRow base 47 4 (.slice (some ⟨g,0,none⟩) ts.length cap) ts.length (fl ES ts))(hsz:ts.length<4611686018427387904):
    Calls Tryz.prog 210 #[.slice (some ⟨g,0,none⟩) ts.length cap, .func (.func 78) #[] #[]] w fun e w'=>e= .returned (.tuple #[])/\w'.ownsRow base 47 4 (.slice (some ⟨g,0,none⟩) ts.length cap) ts.length (fl ES (iJ ts))/\Kp (fun k=>k=g) w w':=by
 have eg:∀args w,(callFunc 78 args).run Tryz.prog w= .ok (.enter 78 args) w:=enters_of Tryz.func78 (by kernel_rfl) rfl;have hg:g<w.heap.size:=(h.lt g rfl).2;have hcon:=AnyQ.slices_SortFunc_total Tryz.lSortS 4 Tryz.isAgg47 Tryz.sizeOf47 ES.enc (fun _=>rfl) ES.one FT Ze 78 #[] g 0 cap ts.toArray w eg (Ps g 0 _ w) (nk (E:=ES) (by decide) h) hg (by simpa using hsz) Zc;change Calls Tryz.prog 210 _ _ _ at hcon;rw[List.size_toArray]at hcon;refine hcon.mono ?_;rintro e w' ⟨rfl,n,os,rfl⟩;exact⟨rfl,tX (E:=ES) (by decide) h (dB FT ts),zn (E:=ES)⟩
theorem wV{f:Sm->Int}(w:World)(h:Tl w tb b 78 n f)(hn:n*32<=140737488355328):
    Calls Tryz.prog 148 #[.pointer (some ⟨tb,0,none⟩)] w fun e w'=>∃(v:Value) (ks:List Sm),qj f ks/\e= .returned v/\
     w'.ownsRow w.heap.size 47 4 v (iJ ks).length (fl ES (iJ ks))/\v≠ .slice none 0 0/\Below w.heap.size w w':=by
 obtain⟨i0,hi,hz0,hz1,hz2⟩:=info_parts Du;have HT:Hid (Tl w tb b 78 n f):=h;have c0:=h.c0;have c1:=h.c1;have hlt:=h.lt;obtain⟨D,hown,h1,h2⟩:=h.ta;have hbl:=hown.lt;have hsz:=hown.size_le;have hlen:=fun ty=>hown.len Tryz.underlying235 ty;clear h h1;go_enter Tryz.func148,Tryz.ntmps148;go_wp2_with (first
  | (at_make;refine wpList_make_own _ rfl _ _ 190 rfl w.heap.size 47 i0 (.agg #[.int .i64 0, .int .u64 0, .int .u64 0, .int .u64 0]) 4 Tryz.underlying190 hi hz0 hz1 _ _ _ (Maps.size D) rfl rfl rfl (by rw[hz2];omega) (by unfold maxLen;omega) (nR _) ?_;intro w1 DC hg1
     have c1b:=(HT.o.kp (Kp.grownBy (S:=fun _=>False) hg1 (fun k hk=>by cases hk)) (fun h=>h) (fun h=>h)).c1)
  | (at_range;refine wpList_range_own _ rfl _ 235 rfl 47 2 ZM.law Tryz.underlying235 _ b n _ rfl (hown.kept hg1 (by simp)) ?_;intro w0 hrg0 hg0 hs0)
  | go_in)
 go_frame;go_loopw [3,4] (fun v _ wr=>∃(left:Lit->Bool) (cnt:Nat) (ss:List Sm),wr.ranges Tryz.prog 47 (plainElem Tryz.prog 2) b w1.heap.size n D left cnt/\ss.length+cnt<=Maps.size D/\
     wr.ownsRow w.heap.size 47 4 v ss.length (fl ES ss)/\v≠ .slice none 0 0/\nP ZM D left ss/\Below w.heap.size w wr)
  (fun _ _ wr=>wr.rangeLeft b w1.heap.size)
 case atStart=>
  exact⟨_,_,[],hrg0,by simp,DC.kept hg0 (Or.inr (by simp[Value.ownBlock])),by simp,nP.start D,
   ((Below.refl _ _).grown hg1 (nR _) (fun j hj=>by cases hj)).grown hg0 hg1.size (fun j hj=>by cases hj)⟩
 case round=>
  obtain⟨left,cnt,ss,hrg,hcs,hrow,hnn,hC,hnx⟩:=hrel;go_wp2_with (first
   | (at_next; refine wpList_next_ranges _ rfl _ rfl 47 ZM.law (plainElem Tryz.prog 2) mv (Value.int .i64) (fun key kl hk => Uh key kl hk) (fun v y hv=>by obtain⟨c,rfl,_⟩:=plainElem_int_inv Tryz.underlying2 hv;exact⟨c,rfl⟩) b w1.heap.size n _ _ _ rfl hrg ?_ ?_)
   | go_in)
  ·intro hc0 hl0;rcases hrow.2 with⟨hnil,_⟩|⟨gb,cap,cur,rfl,hbase,hb,h3,h4,h5,h6⟩
   ·exact absurd hnil hnn
   have hS:=hC.sup h2 hl0;have c0r:=(hnx.cell (p:=⟨tb,0,none⟩) hlt).trans c0;have hc:=vW gb cap w.heap.size ss wr hrow (by omega);clear h6 hb h5;go_wp2_with (go_at_call 210;refine hc.mono ?_;rintro e w' ⟨rfl,ho',hk'⟩);go_ret;refine⟨_,ss,hS,rfl,by rw[dB];exact ho',by simp, ?_⟩;exact hnx.trans (hk'.below hnx.size (fun k hk=>by rw[hk];exact hbase))
  ·intro ta lW tc td tp c kl yd yp w2 cnt2 hkey hlk hv hat hrg2 hlt2 hg2 hs2 hen;obtain⟨x,hx⟩:∃x:Sm,x=⟨(ta,lW,tc,td),tp⟩:=⟨_,rfl⟩;rw[<-hx]at hkey hen⊢;clear hx tp ta lW tc td;obtain rfl:kl=ZM.lit x:=by
    have h7:=(ZM.key x).symm.trans hkey;exact(oJ h7).symm
   have hrow2:=hrow.kept hg2 (Or.inr (row_ne_iter hrow hrg).symm);have B2:Below w.heap.size w w2:=hnx.grown hg2 hnx.size (fun j hj=>by cases hj;exact hg1.size);have Io:=hC.step hlk hat;clear hs2 hv hat hkey hlk;go_wp2_with (first
    | (at_builtin;refine fU (E:=ES) Tryz.underlying190 Du rfl (by decide) rfl _ _ rfl w.heap.size _ ss.length _ rfl (hrow2.alloc _) x (by show Value.slice (some ⟨w2.heap.size+1,0,none⟩) 1 1=_;simp) (by omega) (by unfold maxLen;omega) (by have:=B2.size;simp;omega) _ rfl _ ?_;intro g' cap' w3 ho3 hg3 hl3)
    | go_in)
   have hrg3:=(hrg2.alloc _).kept hg3 (row_ne_low hrow2 hbl) (row_ne_iter hrow2 hrg2);go_roundw;case rel=>
    refine⟨_,cnt2,ss++[x],hrg3,by simp;omega, ?_,by simp,Io, ?_⟩
    ·rw[aT,dx,dK];exact ho3
    ·exact(B2.alloc B2.size _).grown hg3 (by have:=B2.size;simp;omega) (fun j hj=>(hrow2.lt j hj).1)
   case measure=>rw[hrg3.left_eq,hrg.left_eq];exact hlt2
end Rs
end Go.Proofs.YteekbpokkjjipaaGreat
