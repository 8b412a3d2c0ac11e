import Derived.Test.YteekbpokkjjipaaGreatRcFro
set_option maxRecDepth 100000
namespace Go.Proofs.YteekbpokkjjipaaGreat
namespace Rc
open Go.ChangeShapes Go.WideShapes Go.ChangeAt Go.RowKit Go.Joins Go.Sort Pt Hc
open Df (bI jG GR wP NV dI RQ RS)
open Lf (sD)
section
variable {H:Type} {enc:TypeId×Value->H} {W:World} {base:Nat} {sp:Nat->Bool} {held:Bool}
theorem Ee{fuel:Nat}{c:Value}{y:DataW H×List MemPlace}(h:DataW.trod enc Tryz.prog W base sp held fuel 43 [c]=some y):∃n:Int,c= .int .u64 n/\(Lit.int .u64 n).wf=true:=by
 obtain⟨u,e,_,w⟩:=DataW.trod_int Tryz.underlying43 h;simp at e;exact⟨u,e,w⟩
theorem rG(fuel:Nat)(cs:List Value)(y:DataW H×List MemPlace)(hl:cs.length=5)(h:DataW.trod enc Tryz.prog W base sp held fuel 49 cs=some y):∃x:Th,cs=EC.enc x/\True:=by
 have YJ:Tryz.prog.cellsOf 47=4:=by kernel_rfl
 have UR:Tryz.prog.cellsOf 45=3:=by kernel_rfl
 have hone:Tryz.prog.cellsOf 2=1:=by kernel_rfl
 match cs,hl with
 | [c3,c4,c5,c6,c7],_=>
  obtain⟨xs,k,_,_,_,hxl,lJ⟩:=DataW.trod_struct Tryz.underlying49 h
  match xs,hxl with
  | [x0,x1],_=>
   have g0:DataW.trod enc Tryz.prog W base sp held k 47 (([c3,c4,c5,c6,c7].drop 0).take (Tryz.prog.cellsOf 47))=some x0:=lJ 0 _ rfl;have g1:DataW.trod enc Tryz.prog W base sp held k 2 (([c3,c4,c5,c6,c7].drop 4).take (Tryz.prog.cellsOf 2))=some x1:=lJ 1 _ rfl;rw[YJ]at g0;rw[hone]at g1;obtain⟨u7,e7,_,w7⟩:=DataW.trod_int Tryz.underlying2 g1;simp at e7;subst e7;simp only[List.drop_zero,List.take_succ_cons,List.take_zero]at g0;obtain⟨zs,k',_,_,_,hzl,hgg⟩:=DataW.trod_struct Tryz.underlying47 g0
   match zs,hzl with
   | [z0,z1],_=>
    have j0:DataW.trod enc Tryz.prog W base sp held k' 3 (([c3,c4,c5,c6].drop 0).take (Tryz.prog.cellsOf 3))=some z0:=hgg 0 _ rfl;have j1:DataW.trod enc Tryz.prog W base sp held k' 45 (([c3,c4,c5,c6].drop 1).take (Tryz.prog.cellsOf 45))=some z1:=hgg 1 _ rfl;rw[Df.Xf]at j0;rw[UR]at j1;obtain⟨u3,rfl,_⟩:=Df.iC j0;simp only[List.drop_succ_cons,List.drop_zero,List.take_succ_cons,List.take_zero]at j1;obtain⟨ts,k2',_,_,_,htl,hhh⟩:=DataW.trod_struct Tryz.underlying45 j1
    match ts,htl with
    | [t0,t1,t2],_=>
     have i0:DataW.trod enc Tryz.prog W base sp held k2' 43 (([c4,c5,c6].drop 0).take (Tryz.prog.cellsOf 43))=some t0:=hhh 0 _ rfl;have i1:DataW.trod enc Tryz.prog W base sp held k2' 43 (([c4,c5,c6].drop 1).take (Tryz.prog.cellsOf 43))=some t1:=hhh 1 _ rfl;have i2:DataW.trod enc Tryz.prog W base sp held k2' 43 (([c4,c5,c6].drop 2).take (Tryz.prog.cellsOf 43))=some t2:=hhh 2 _ rfl;rw[Df.c1u]at i0 i1 i2;obtain⟨u4,rfl,w4⟩:=Ee i0;obtain⟨u5,rfl,w5⟩:=Ee i1;obtain⟨u6,rfl,w6⟩:=Ee i2;exact⟨(u3,⟨(u4,u5,u6),w4,w5,w6⟩,u7),rfl,trivial⟩
theorem Ef(fuel:Nat)(c0 c1 c2:Value)(y:DataW H×List MemPlace)(h:DataW.trod enc Tryz.prog W base sp held fuel 25 [c0,c1,c2]=some y)(hw:Df.Wj Tryz.prog 25 y.1) :
    ∃(a:Int) (xs:List NV) (es:List dI),c0= .int .i64 a/\RQ (jG a xs es)/\GR W.heap.size W c1 c2 xs es/\Df.Sz xs es/\wP c2 xs:=by
 obtain⟨xs,k,_,hxy,_,hxl,lJ⟩:=DataW.trod_struct Tryz.underlying25 h
 match xs,hxl with
 | [y0,y1,y2],_=>
  have Qu:∀n∈DataW.weightsEach Tryz.prog [3,22,23] [y0.1,y1.1,y2.1],n<=reachBytes:=fun n hn=>hw n (by
   rw[hxy];simp only[DataW.weights,Tryz.underlying25];exact hn)
  have h0:DataW.trod enc Tryz.prog W base sp held k 3 (([c0,c1,c2].drop 0).take (Tryz.prog.cellsOf 3))=some y0:=lJ 0 _ rfl;have h1:DataW.trod enc Tryz.prog W base sp held k 22 (([c0,c1,c2].drop 1).take (Tryz.prog.cellsOf 22))=some y1:=lJ 1 _ rfl;have h2:DataW.trod enc Tryz.prog W base sp held k 23 (([c0,c1,c2].drop 2).take (Tryz.prog.cellsOf 23))=some y2:=lJ 2 _ rfl;rw[Df.Xf]at h0;rw[show Tryz.prog.cellsOf 22=1 by kernel_rfl]at h1;rw[show Tryz.prog.cellsOf 23=1 by kernel_rfl]at h2;obtain⟨a,rfl,ta⟩:=Df.iC h0;obtain⟨q1,d1,l1,e1,z1,p1,s1,_⟩:=Df.iU Df.EV (Df.Td W) Tryz.underlying22 (by kernel_rfl) (by decide) (fun fuel cs y hl h hw=>Df.IX fuel cs y hl h hw) _ _ _ h1 (fun n hn=>Qu n (DataW.weights_mem_each (j:=1) rfl rfl n hn));obtain⟨q2,d2,l2,e2,z2,p2,s2,t2⟩:=Df.iU Df.ED RS Tryz.underlying23 (by kernel_rfl) (by decide) (fun fuel cs y hl h _=>Df.KC fuel cs y hl h) _ _ _ h2 (fun n hn=>Qu n (DataW.weights_mem_each (j:=2) rfl rfl n hn));simp at e1 e2;subst e1 e2;rw[show Tryz.prog.bytesOf 149=112 by kernel_rfl]at s1;rw[show Tryz.prog.bytesOf 151=40 by kernel_rfl]at s2;have hrb:reachBytes<=140737488351232:=by decide
  refine⟨a,l1,l2,rfl,⟨ta,fun n hn=> ?_,p2⟩,⟨z1,z2,fun x hx=>(p1 x hx).2.1,fun x hx=>by have:=(p1 x hx).2.2;omega,by omega,by omega⟩,⟨by omega,by omega,fun x hx=>⟨(p1 x hx).2.2.1,(p1 x hx).2.2.2.1⟩⟩,⟨fun p n c e=>by simp only[vS]at e;omega,fun x hx=>⟨(p1 x hx).2.2.2.2,by have:=(p1 x hx).2.2.2.1;omega⟩⟩⟩;obtain⟨x,hx,rfl⟩:=mM.1 hn;exact(p1 x hx).1
end
theorem Vy{g:bI}(h:RQ g):sD g:=fun n hn=>⟨(h.2.1 n hn).2.2.2.2.1,fun c hc=>((h.2.1 n hn).2.2.2.2.2.2 c hc).2.2⟩
theorem We{cs:Array Value}(h:cs.size=5):∃c0 c1 c2 c3 c4,cs=#[c0,c1,c2,c3,c4]:=by
 obtain⟨l⟩:=cs
 match l,h with
 | [c0, c1, c2, c3, c4], _ => exact⟨c0,c1,c2,c3,c4,rfl⟩
theorem Sd{M:Nat}{w:World}{v:Value}{l:List Th}(h:Df.Lz EC M w v l):Lw w v l:=h.imp (fun h=>h.1) fun h=>h
theorem LQ{H:Type}{enc:TypeId×Value->H}{W:World}{r:Reach}{b0 base:Nat}{sp:Nat->Bool}{held:Bool}{v:Value}{d:DataW H}{p:List MemPlace}(hv:Value.okWide Tryz.prog W r b0 28 v)(h:DataW.Trod enc Tryz.prog W base sp held 28 v d p)(hw:Df.Wj Tryz.prog 28 d) :
    (∀x∈p,x.block<W.heap.size)/\∃(a:Int) (nv ev va vb:Value) (xs:List NV) (es:List dI) (la lb:List Th),v= .agg #[.int .i64 a,nv,ev,va,vb]/\RQ (jG a xs es)/\GR W.heap.size W nv ev xs es/\wP ev xs/\Lw W va la/\Lw W vb lb/\la.length*40<=140737488351232/\lb.length*40<=140737488351232:=by
 have hlt:∀x∈p,x.block<W.heap.size:=by
  obtain⟨fuel,hf⟩:=h;exact DataW.trod_lt fuel _ _ _ hf
 refine⟨hlt, ?_⟩;obtain⟨cs,rfl,hsz⟩:=okWide_struct Tryz.underlying28 hv;obtain⟨c0,c1,c2,c3,c4,rfl⟩:=We (hsz.trans (by kernel_rfl));obtain⟨fuel,hf⟩:=h;simp only[Value.cells]at hf;obtain⟨xs,k,_,hxy,_,hxl,lJ⟩:=DataW.trod_struct Tryz.underlying28 hf
 match xs,hxl with
 | [y0,y1,y2],_=>
  simp only[Prod.mk.injEq,List.map_cons,List.map_nil]at hxy;obtain⟨rfl,_⟩:=hxy;have Qu:∀n∈DataW.weightsEach Tryz.prog [25,26,26] [y0.1,y1.1,y2.1],n<=reachBytes:=fun n hn=>hw n (by
   simp only[DataW.weights,Tryz.underlying28];exact hn)
  have h0:DataW.trod enc Tryz.prog W base sp held k 25 (([c0,c1,c2,c3,c4].drop 0).take (Tryz.prog.cellsOf 25))=some y0:=lJ 0 _ rfl;have h1:DataW.trod enc Tryz.prog W base sp held k 26 (([c0,c1,c2,c3,c4].drop 3).take (Tryz.prog.cellsOf 26))=some y1:=lJ 1 _ rfl;have h2:DataW.trod enc Tryz.prog W base sp held k 26 (([c0,c1,c2,c3,c4].drop 4).take (Tryz.prog.cellsOf 26))=some y2:=lJ 2 _ rfl;rw[show Tryz.prog.cellsOf 25=3 by kernel_rfl]at h0;rw[show Tryz.prog.cellsOf 26=1 by kernel_rfl]at h1 h2;obtain⟨a,xs,es,rfl,hT,hG,_,hC⟩:=Ef _ _ _ _ _ h0 (fun n hn=>Qu n (DataW.weights_mem_each (j:=0) rfl rfl n hn));obtain⟨q1,d1,l1,e1,z1,_,s1,_⟩:=Df.iU EC (fun _=>True) Tryz.underlying26 (by kernel_rfl) (by decide) (fun fuel cs y hl h _=>rG fuel cs y hl h) _ _ _ h1 (fun n hn=>Qu n (DataW.weights_mem_each (j:=1) rfl rfl n hn));obtain⟨q2,d2,l2,e2,z2,_,s2,_⟩:=Df.iU EC (fun _=>True) Tryz.underlying26 (by kernel_rfl) (by decide) (fun fuel cs y hl h _=>rG fuel cs y hl h) _ _ _ h2 (fun n hn=>Qu n (DataW.weights_mem_each (j:=2) rfl rfl n hn));simp at e1 e2;subst e1 e2;rw[show Tryz.prog.bytesOf 49=40 by kernel_rfl]at s1 s2;have hrb:reachBytes<=140737488351232:=by decide
  exact⟨a,c1,c2,_,_,xs,es,l1,l2,rfl,hT,hG,hC,Sd z1,Sd z2,by omega,by omega⟩
end Rc
section
open Go.ChangeShapes Go.WideShapes Go.ChangeAt Go.RowKit
theorem lY(H:Type)(enc:TypeId×Value->H)(W:World)(base:Nat)(args:Array Value)(ds gs:List (DataW H))(before:List MemPlace)
    (hval:∀(j:Nat) t v,Tryz.f3.params[j]? =some t->args[j]? =some v->Value.okWide Tryz.prog W .any base t v)
    (hW:DataW.Whole enc Tryz.prog Tryz.f3.params.toList Rows.reachFrontsSpec.vars false W args.toList ds gs before) (hR:(DataW.weightsEach Tryz.prog (Tryz.f3.params.toList++(OpenSpec.ofChange Rows.reachFrontsSpec).bare.plain.varTypes Tryz.prog) (ds++gs)).all (·<=reachBytes)=true) :
    Calls Tryz.prog 3 args W fun e W'=>∃v,e= .returned v/\Rows.reachFrontsSpec.post enc Tryz.prog Tryz.f3 false true false false W args v W':=by
 have hW':=hW;obtain⟨p,q,vP,hV,rfl,hfz,hnd⟩:=hW;have hA:DataW.TrodAll enc Tryz.prog W 0 (fun _=>true) true Tryz.f3.params.toList args.toList ds p:=vP;rw[Tryz.params3]at hA hval;obtain⟨v0,d0,rfl,rfl,h0⟩:=trodAll_one hA;obtain⟨rfl,rfl⟩:=trodVars_none hV;obtain⟨aaB,a0,nv0,ev0,va0,vb0,xs0,es0,la0,lb0,rfl,hT0,hG0,hC0,vP,hB0,sA0,sB0⟩:=Rc.LQ (hval 0 28 v0 rfl rfl) h0 (fun n hn=>by simpa using List.all_eq_true.1 hR n (DataW.weights_mem_each (j:=0) (by kernel_rfl) rfl n hn));simp only[DF]at hW';refine(Rc.sH W hG0 hC0 (Rc.Vy hT0) vP hB0 (by omega) (by omega)).mono fun e W' ⟨he,hB⟩=> ?_;subst he;exact⟨_,rfl,_,_,_,[],_,[],hW',trodAll_mk1 (shut_bool Tryz.underlying4 _),trodAll_mk1 (Below.trod laidOut (by kernel_rfl) (of_decide_eq_true (by kernel_rfl)) h0 hB aaB),rfl,hB.frame _,fun h=>by cases h⟩
theorem oH(os:Os)(started:os.Started)(H:Type)(enc:TypeId×Value->H)(F:Stop.Interp) :
    ReturnsInHanded {} Tryz.checked os 3 .any ((OpenSpec.ofChange Rows.reachFrontsSpec).preRow enc Tryz.prog Tryz.f3 Rows.reachFrontsRow.domain false Rows.reachFrontsRow.laid) (((OpenSpec.ofChange Rows.reachFrontsSpec).at F).post enc Tryz.prog Tryz.f3 false true false false):=by
 refine returnsInHanded_of_row (C:=Tryz.checked) (s:=OpenSpec.ofChange Rows.reachFrontsSpec) own started (by kernel_rfl) Tryz.func3
  (witness (enc:=enc) #[.agg #[.int .i64 0, .slice none 0 0, .slice none 0 0, .slice none 0 0, .slice none 0 0]] (World.shaped_of_ZipB (by kernel_rfl) (by kernel_rfl)) (by kernel_rfl)
   (OpenSpec.preRow_of_cond 8 (x:=([.agg [.agg [.lit (.int .i64 0), .nil, .nil], .nil, .nil]],[],[])) (by kernel_rfl) (by kernel_rfl) (fun k hk=>by cases hk) (by kernel_rfl) (ME os _))) ?_
 intro W base args ds gs before hval hW _ _ hR _ _ _;exact lY H enc W base args ds gs before hval hW hR
theorem reachFronts_said:Rows.ReachFrontsSaid:=
 OpenClaim.holds_of_cond 3 Tryz.f3 rfl rfl rfl rfl rfl rfl rfl ⟨rfl,rfl,rfl,rfl,rfl⟩ rfl rfl rfl rfl rfl (by kernel_rfl) Tryz.func3 pW
  (of_decide_eq_true (by kernel_rfl)) (by unfold Func.isWrapper;first|(rw[if_pos (by decide +kernel)];kernel_rfl)|(rw[if_neg (by decide +kernel)];exact⟨rfl,rfl⟩))
  (fun os started H enc _ F=>by rw[OpenClaim.pre_eq_preRow];exact oH os started H enc F)
end
end Go.Proofs.YteekbpokkjjipaaGreat
