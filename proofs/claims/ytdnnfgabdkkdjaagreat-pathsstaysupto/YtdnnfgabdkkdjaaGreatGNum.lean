import Derived.Test.YtdnnfgabdkkdjaaGreatGPlc
import Derived.Test.YtdnnfgabdkkdjaaGreatLStep
namespace Go.Proofs.YtdnnfgabdkkdjaaGreat.Df
open Go.RowKit Go.Sort
attribute [local go_sem ↓] Go.wp_at_zero Go.wp_at_succ
def EI : El Int where
 k := 1
 enc o := [.int .i64 o]
 len _ := rfl
 one o u hu := by
  simp at hu
  subst hu
  rfl
theorem infoI : (Tryz.prog.info? 3).map (fun i => (i.zero, i.size, i.bytes)) = some (some (.int .i64 0), 1, 8) := by kernel_rfl
structure SV where
 nd : Int
 pt : Int
 inn : Bool
 q : Option Addr
 m : Nat
 c : Nat
abbrev SV.ev (s : SV) : Value := .slice s.q s.m s.c
abbrev scells (a b : Int) (i : Bool) (v : Value) : Array Value := #[.int .i64 a, .int .i64 b, .bool i, v]
def ES : El SV where
 k := 4
 enc s := (scells s.nd s.pt s.inn s.ev).toList
 len _ := rfl
 one o u hu := by
  simp at hu
  rcases hu with rfl | rfl | rfl | rfl <;> rfl
theorem infoS : (Tryz.prog.info? 141).map (fun i => (i.zero, i.size, i.bytes)) = some (some (.agg #[.int .i64 0, .int .i64 0, .bool false, .slice none 0 0]), 4, 48) := by kernel_rfl
def SV.of (t : Spt) : SV := ⟨t.1, t.2.1, t.2.2, none, 0, 0⟩
abbrev gcells (a : Int) (nv ev fv pv : Value) : Array Value := #[.int .i64 a, nv, ev, fv, pv]
structure Np (w0 w : World) (gb : Nat) (a : Int) (nv ev fv pv : Value) (F : List Int) (S : List SV) : Prop where
 blk : w.heap[gb]? = some (.cells (gcells a nv ev fv pv) 110 (0, 0))
 kp : Kp (fun k => k = gb) w0 w
 fr : w.ownsRow w0.heap.size 3 1 fv F.length (fl EI F)
 sp : w.ownsRow w0.heap.size 141 4 pv S.length (fl ES S)
theorem Np.gr {w0 w w' : World} {gb : Nat} {a : Int} {nv ev fv pv : Value} {F : List Int} {S : List SV} (h : Np w0 w gb a nv ev fv pv F S) (hb : Below w.heap.size w w') : Np w0 w' gb a nv ev fv pv F S :=
 ⟨(hb.block _ (tk_lt h.blk)).trans h.blk, h.kp.trans (Kp.of_below hb) (fun _ _ h => h), owns_below h.fr hb, owns_below h.sp hb⟩
theorem Np.spot {w0 w w1 : World} {gb : Nat} {a : Int} {nv ev fv pv pv' : Value} {F : List Int} {S : List SV} {s : SV} (h : Np w0 w gb a nv ev fv pv F S) (h1 : w1.ownsRow w0.heap.size 141 4 pv' (S.length + 1) (fl ES S ++ ES.enc s)) (h2 : w.grownBy w1 pv.ownBlock) (h0 : gb < w0.heap.size) :
    Np w0 (w1.setCell ⟨gb, 4, none⟩ pv') gb a nv ev fv pv' F (S ++ [s]) := by
 have k2 := Kp.grownBy (S := fun k => pv.ownBlock = some k) h2 (fun _ h => h)
 have hb : w1.heap[gb]? = some (.cells (gcells a nv ev fv pv) 110 (0, 0)) := (k2.block _ (tk_lt h.blk) (fun e => by have := (owns_rd h.sp gb e).1; omega)).trans h.blk
 obtain ⟨s1, s2⟩ := tk_set hb 4 pv'
 have hf := owns_kp k2 h.fr (fun k e e2 => owns_ne_own h.fr h.sp (by decide) k e e2)
 exact ⟨s1, (h.kp.trans ((k2.mono (T := fun k => k = gb ∨ pv.ownBlock = some k) (fun _ h => Or.inr h)).trans s2 (fun _ _ h => Or.inl h)) (fun j hj e => by rcases e with e | e; exact e; have := (owns_rd h.sp j e).1; omega)), owns_kp s2 hf (fun k e e2 => by have := (owns_rd hf k e).1; omega), owns_kp s2 (owns_re h1 (by simp) (by rw [fl_append, fl_one])) (fun k e e2 => by have := (owns_rd h1 k e).1; omega)⟩
theorem Np.frst {w0 w w1 : World} {gb : Nat} {a : Int} {nv ev fv pv fv' : Value} {F : List Int} {S : List SV} {x : Int} (h : Np w0 w gb a nv ev fv pv F S) (h1 : w1.ownsRow w0.heap.size 3 1 fv' (F.length + 1) (fl EI F ++ EI.enc x)) (h2 : w.grownBy w1 fv.ownBlock) (h0 : gb < w0.heap.size) :
    Np w0 (w1.setCell ⟨gb, 3, none⟩ fv') gb a nv ev fv' pv (F ++ [x]) S := by
 have k2 := Kp.grownBy (S := fun k => fv.ownBlock = some k) h2 (fun _ h => h)
 have hb : w1.heap[gb]? = some (.cells (gcells a nv ev fv pv) 110 (0, 0)) := (k2.block _ (tk_lt h.blk) (fun e => by have := (owns_rd h.fr gb e).1; omega)).trans h.blk
 obtain ⟨s1, s2⟩ := tk_set hb 3 fv'
 have hf := owns_kp k2 h.sp (fun k e e2 => owns_ne_own h.sp h.fr (by decide) k e e2)
 exact ⟨s1, (h.kp.trans ((k2.mono (T := fun k => k = gb ∨ fv.ownBlock = some k) (fun _ h => Or.inr h)).trans s2 (fun _ _ h => Or.inl h)) (fun j hj e => by rcases e with e | e; exact e; have := (owns_rd h.fr j e).1; omega)), owns_kp s2 (owns_re h1 (by simp) (by rw [fl_append, fl_one])) (fun k e e2 => by have := (owns_rd h1 k e).1; omega), owns_kp s2 hf (fun k e e2 => by have := (owns_rd hf k e).1; omega)⟩
def inU (i p : Nat) : List Spt := (List.range p).map (fun p => (i, p, true))
def outU (i p : Nat) : List Spt := (List.range p).map (fun p => (i, p, false))
theorem inU_succ (i p : Nat) : inU i (p + 1) = inU i p ++ [(i, p, true)] := by simp [inU, List.range_succ]
theorem outU_succ (i p : Nat) : outU i (p + 1) = outU i p ++ [(i, p, false)] := by simp [outU, List.range_succ]
theorem Np.re {w0 w : World} {gb : Nat} {a : Int} {nv ev fv pv : Value} {F F' : List Int} {S S' : List SV} (h : Np w0 w gb a nv ev fv pv F S) (hF : F = F') (hS : S = S') : Np w0 w gb a nv ev fv pv F' S' := by subst hF; subst hS; exact h
theorem spots_bound {ns : List Nod} (h : Pok ns) {j : Nat} {n : Nod} (hj : ns[j]? = some n) (h24 : ns.length ≤ 24) : (spotsU ns j).length + (n.ins.toNat + n.outs.toNat) ≤ 192 := by
 have h1 := firstN_le h (j + 1)
 rw [firstN_succ hj] at h1
 have := (List.getElem?_eq_some_iff.1 hj).1
 unfold firstN at h1
 omega
set_option maxRecDepth 100000 in
set_option maxHeartbeats 8000000 in
theorem number_any {M gb : Nat} {a : Int} {nv : Value} {eq : Option Addr} {em ec : Nat} {xs : List NV} (w : World) (hb : w.heap[gb]? = some (.cells (gcells a nv (.slice eq em ec) (.slice none 0 0) (.slice none 0 0)) 110 (0, 0))) (hN : Lz EV M w nv xs) (hgb : ∀ k, nv.ownBlock = some k → k ≠ gb) (h24 : xs.length ≤ 24) (hP : Pok (xs.map NV.n)) : Calls Tryz.prog 55 #[.pointer (some ⟨gb, 0, none⟩)] w fun r w' => r = .returned (.tuple #[]) ∧ ∃ fv pv, Np w w' gb a nv (.slice eq em ec) fv pv (firsts (xs.map NV.n) xs.length) ((spotsU (xs.map NV.n) xs.length).map SV.of) := by
 have hmx : Tryz.prog.follows .mixedOrders = true := by kernel_rfl
 have HGL := hid (tk_lt hb)
 obtain ⟨pn, cn, hnv⟩ := hN.form
 obtain ⟨nl, hnl⟩ : ∃ n, n = xs.length := ⟨_, rfl⟩
 rw [← hnl] at hnv h24 ⊢
 subst hnv
 have HN0 : Hid (∀ W, Kp (fun k => k = gb) w W → Lz EV M W (.slice pn nl cn) xs) := fun W hk => by
  rcases hN with ⟨h, hm⟩ | h
  ·exact Or.inl ⟨hk.ls h (fun k e => hgb k e), hm⟩
  ·exact Or.inr h
 have HNL := hid hnl
 have HP := hid hP
 obtain ⟨ns, hns⟩ : ∃ ns, ns = xs.map NV.n := ⟨_, rfl⟩
 rw [← hns] at HP ⊢
 have HNS : Hid (ns = xs.map NV.n ∧ ns.length = nl) := ⟨hns, by rw [hns, hnl, List.length_map]⟩
 have N0 : Hid (Np w w gb a (.slice pn nl cn) (.slice eq em ec) (.slice none 0 0) (.slice none 0 0) [] []) := ⟨hb, Kp.refl _ _, World.ownsRow_nil _ _ _ _, World.ownsRow_nil _ _ _ _⟩
 have c0 := (tk_store hb).1
 have l0 := tk_lt hb
 clear hb hN hgb hP hns hnl
 go_enter Tryz.func55, Tryz.ntmps55
 go_wp2_with fail
 clear c0 l0
 go_loopw [12] (fun s12 wr => ∃ (j : Nat) (fv pv : Value), j ≤ nl ∧ s12 = .int .i64 (j : Nat) ∧ Hid (Np w wr gb a (.slice pn nl cn) (.slice eq em ec) fv pv (firsts ns j) ((spotsU ns j).map SV.of))) (fun s12 _ => nl - (RowKit.intOf s12).toNat)
 case atStart => exact ⟨0, _, _, Nat.zero_le _, rfl, N0.out⟩
 case round =>
  clear N0
  obtain ⟨j, fv, pv, hj, rfl, HI⟩ := hrel
  by_cases hlt : j < nl
  ·have hltz : (j : Int) < (nl : Int) := by omega
   have hj0 : (0 : Int) ≤ (j : Int) := by omega
   obtain ⟨y, hy⟩ : ∃ y, xs[j]? = some y := ⟨xs[j]'(by have := HNL.out; omega), by simp⟩
   have HYN : Hid (ns[j]? = some y.n) := by show _ = _; rw [HNS.out.1]; simp [hy]
   obtain ⟨b1, o1, q1, ev1, zz1, x0, x1, x2, x3, x4, x5, x6, x7, x8, x9⟩ := ls_atV ((HN0.out wr HI.out.kp).ls hy) hy
   simp only [Value.slice.injEq] at ev1
   obtain ⟨rfl, -, rfl⟩ := ev1
   have HBD := hid (spots_bound HP.out HYN.out (by rw [HNS.out.2]; exact h24))
   have HPY := hid (HP.out y.n (List.mem_of_getElem? HYN.out))
   clear hy
   obtain ⟨fq, fm, fc, hfv⟩ := owns_form HI.out.fr
   obtain ⟨sq, sm, sc, hsv⟩ := owns_form HI.out.sp
   subst hfv
   subst hsv
   have HSM : Hid (sm = (spotsU ns j).length) := by
    have := (owns_caps HI.out.sp _ _ _ rfl).1
    show _ = _
    simpa using this
   obtain ⟨yb, hyb⟩ : ∃ b, b = wr.heap.size := ⟨_, rfl⟩
   obtain ⟨W5, hW5⟩ : ∃ W, W = wr.alloc (.cells y.cells 89) := ⟨_, rfl⟩
   have P5 : Hid (Np w W5 gb a (.slice (some ⟨b1, o1, none⟩) nl cn) (.slice eq em ec) (.slice fq fm fc) (.slice sq sm sc) (firsts ns j) ((spotsU ns j).map SV.of) ∧ W5.heap[yb]? = some (.cells y.cells 89 (0, 0)) ∧ w.heap.size ≤ yb) := by
    rw [hW5, hyb]
    exact ⟨HI.out.gr ((Gr.refl wr).alloc _).below, heap_new' _ _, HI.out.kp.size⟩
   have HW5 : Hid (wr.alloc (.cells #[.int .i64 y.n.kind, .int .i64 y.n.ins, .int .i64 y.n.outs, .slice y.cq y.cm y.cc, .int .u64 (y.n.via.1 : Nat), .int .u64 (y.n.via.2.1 : Nat), .int .u64 (y.n.via.2.2 : Nat), .int .u64 (y.n.bound : Nat), .slice y.dq y.dm y.dc, .bool y.n.start] 89) = W5 ∧ wr.heap.size = yb) := ⟨hW5.symm, hyb.symm⟩
   clear hW5 hyb
   go_upto_region 3 with fail
   rw [HW5.out.1, HW5.out.2]
   clear HW5 x0 x1 x2 x3 x4 x5 x6 x7 x8 x9 zz1
   go_cut [] (fun w' => Hid (∃ fv', Np w w' gb a (.slice (some ⟨b1, o1, none⟩) nl cn) (.slice eq em ec) fv' (.slice sq sm sc) (firsts ns (j + 1)) ((spotsU ns j).map SV.of) ∧ w'.heap[yb]? = some (.cells y.cells 89 (0, 0))))
   case first =>
    have BD : Hid (Below W5.heap.size W5 W5.drew) := (Gr.refl W5).drew.below
    refine wp_regionD (S := fun W => W.heap[gb]? = some (.cells (gcells a (.slice (some ⟨b1, o1, none⟩) nl cn) (.slice eq em ec) (.slice fq fm fc) (.slice sq sm sc)) 110 (0, 0))) (D := [14]) hmx ?_
    generalize W5.drew = Wd at BD ⊢
    have PD := hid (P5.out.1.gr BD.out)
    have YD := hid ((BD.out.block _ (tk_lt P5.out.2.1)).trans P5.out.2.1)
    have hS0 := PD.out.blk
    refine' wpAnyD_take (i := 0) (oi := ⟨some 17, .move (.tmp 0), 75, "graph.go:40", #[], none⟩) (v := _) rfl (by kernel_rfl) (by kernel_rfl) (by kernel_rfl) (fun _ _ _ h => h) (by kernel_rfl) (Or.inl ⟨by rfl, ?hy1⟩) hS0 ?rest1
    case hy1 => (intro W hSw; go_simp; try (with_reducible rfl))
    try simp only [Act.put, List.setIfInBounds_toArray, List.set_cons_zero, List.set_cons_succ]
    refine' wpAnyD_take (i := 1) (oi := ⟨some 18, .move (.tmp 0), 75, "graph.go:40", #[], none⟩) (v := _) rfl (by kernel_rfl) (by kernel_rfl) (by kernel_rfl) (fun _ _ _ h => h) (by kernel_rfl) (Or.inl ⟨by rfl, ?hy2⟩) hS0 ?rest2
    case hy2 => (intro W hSw; go_simp; try (with_reducible rfl))
    try simp only [Act.put, List.setIfInBounds_toArray, List.set_cons_zero, List.set_cons_succ]
    refine' wpAnyD_take (i := 2) (oi := ⟨some 19, .nilCheck (.tmp 18), 0, "graph.go:40", #[⟨1, .data⟩], none⟩) (v := _) rfl (by kernel_rfl) (by kernel_rfl) (by kernel_rfl) (fun _ _ _ h => h) (by kernel_rfl) (Or.inl ⟨by rfl, ?hy3⟩) hS0 ?rest3
    case hy3 => (intro W hSw; go_simp; try (with_reducible rfl))
    try simp only [Act.put, List.setIfInBounds_toArray, List.set_cons_zero, List.set_cons_succ]
    refine' wpAnyD_take (i := 3) (oi := ⟨some 20, .fieldAddr 110 (.tmp 19) 1, 0, "graph.go:40", #[⟨2, .data⟩], none⟩) (v := _) rfl (by kernel_rfl) (by kernel_rfl) (by kernel_rfl) (fun _ _ _ h => h) (by kernel_rfl) (Or.inl ⟨by rfl, ?hy4⟩) hS0 ?rest4
    case hy4 => (intro W hSw; go_simp; try (with_reducible rfl))
    try simp only [Act.put, List.setIfInBounds_toArray, List.set_cons_zero, List.set_cons_succ]
    refine' wpAnyD_take (i := 4) (oi := ⟨some 21, .load 59 (.tmp 20), 59, "graph.go:40", #[⟨3, .data⟩], none⟩) (v := _) rfl (by kernel_rfl) (by kernel_rfl) (by kernel_rfl) (fun _ _ _ h => h) (by kernel_rfl) (Or.inl ⟨by rfl, ?hy5⟩) hS0 ?rest5
    case hy5 => (intro W hSw; have hc := (tk_store hSw).1; have hl := tk_lt hSw; go_simp; try (with_reducible rfl))
    try simp only [Act.put, List.setIfInBounds_toArray, List.set_cons_zero, List.set_cons_succ]
    refine' wpAnyD_take (i := 5) (oi := ⟨some 22, .move (.tmp 0), 75, "graph.go:40", #[], none⟩) (v := _) rfl (by kernel_rfl) (by kernel_rfl) (by kernel_rfl) (fun _ _ _ h => h) (by kernel_rfl) (Or.inl ⟨by rfl, ?hy6⟩) hS0 ?rest6
    case hy6 => (intro W hSw; go_simp; try (with_reducible rfl))
    try simp only [Act.put, List.setIfInBounds_toArray, List.set_cons_zero, List.set_cons_succ]
    refine' wpAnyD_take (i := 6) (oi := ⟨some 23, .nilCheck (.tmp 22), 0, "graph.go:40", #[⟨5, .data⟩], none⟩) (v := _) rfl (by kernel_rfl) (by kernel_rfl) (by kernel_rfl) (fun _ _ _ h => h) (by kernel_rfl) (Or.inl ⟨by rfl, ?hy7⟩) hS0 ?rest7
    case hy7 => (intro W hSw; go_simp; try (with_reducible rfl))
    try simp only [Act.put, List.setIfInBounds_toArray, List.set_cons_zero, List.set_cons_succ]
    refine' wpAnyD_take (i := 7) (oi := ⟨some 24, .fieldAddr 110 (.tmp 23) 2, 0, "graph.go:40", #[⟨6, .data⟩], none⟩) (v := _) rfl (by kernel_rfl) (by kernel_rfl) (by kernel_rfl) (fun _ _ _ h => h) (by kernel_rfl) (Or.inl ⟨by rfl, ?hy8⟩) hS0 ?rest8
    case hy8 => (intro W hSw; go_simp; try (with_reducible rfl))
    try simp only [Act.put, List.setIfInBounds_toArray, List.set_cons_zero, List.set_cons_succ]
    refine' wpAnyD_take (i := 8) (oi := ⟨some 25, .load 108 (.tmp 24), 108, "graph.go:40", #[⟨7, .data⟩], none⟩) (v := _) rfl (by kernel_rfl) (by kernel_rfl) (by kernel_rfl) (fun _ _ _ h => h) (by kernel_rfl) (Or.inl ⟨by rfl, ?hy9⟩) hS0 ?rest9
    case hy9 => (intro W hSw; have hc := (tk_store hSw).1; have hl := tk_lt hSw; go_simp; try (with_reducible rfl))
    try simp only [Act.put, List.setIfInBounds_toArray, List.set_cons_zero, List.set_cons_succ]
    refine' wpAnyD_take (i := 9) (oi := ⟨some 26, .call ⟨.builtin .len, #[.tmp 25], #[108]⟩, 3, "graph.go:40", #[⟨8, .data⟩], none⟩) (v := _) rfl (by kernel_rfl) (by kernel_rfl) (by kernel_rfl) (fun _ _ _ h => h) (by kernel_rfl) (Or.inl ⟨by rfl, ?hy10⟩) hS0 ?rest10
    case hy10 => (intro W hSw; go_simp; try (with_reducible rfl))
    try simp only [Act.put, List.setIfInBounds_toArray, List.set_cons_zero, List.set_cons_succ]
    refine wpAnyD_one (i := 10) (o := ⟨some 27, .buildSlice 59 1 #[(0, .tmp 26)], 59, "graph.go:40", #[⟨9, .data⟩], none⟩) (by kernel_rfl) rfl (fun K hK => ?_)
    go_simp
    have b6 := ((Gr.refl Wd).alloc (.cells #[.int .i64 (sm : Nat)] 3)).below
    have hS6 := (b6.block _ (tk_lt hS0)).trans hS0
    clear b6
    refine hK.out _ _ (fun hD => hS6) ?_
    clear hK K
    try simp only [Act.put, List.setIfInBounds_toArray, List.set_cons_zero, List.set_cons_succ]
    refine wpAnyD_one (i := 11) (o := ⟨some 28, .call ⟨.builtin .append, #[.tmp 21, .tmp 27], #[59, 59]⟩, 59, "graph.go:40", #[⟨4, .data⟩, ⟨10, .data⟩], none⟩) (by kernel_rfl) rfl (fun K hK => ?_)
    refine step_app1 EI Tryz.underlying59 infoI rfl (by decide) rfl _ _ rfl w.heap.size _ (firsts ns j).length _ rfl PD.out.fr (sm : Int) (by first | rfl | simp) (by rw [firsts_length]; omega) (by rw [firsts_length]; unfold maxLen; omega) PD.out.kp.size _ rfl _ ?_
    intro g7 cap7 w7 h7 k7 _
    have N7 : Hid (Np w (w7.setCell ⟨gb, 3, none⟩ (.slice (some ⟨g7, 0, none⟩) ((firsts ns j).length + 1) cap7)) gb a (.slice (some ⟨b1, o1, none⟩) nl cn) (.slice eq em ec) (.slice (some ⟨g7, 0, none⟩) ((firsts ns j).length + 1) cap7) (.slice sq sm sc) (firsts ns (j + 1)) ((spotsU ns j).map SV.of)) := (PD.out.frst h7.out k7.out HGL.out).re (by rw [firsts_succ, firstN, HSM.out]) rfl
    have k2 := Kp.grownBy (S := fun k => (Value.slice fq fm fc).ownBlock = some k) k7.out (fun _ h => h)
    have hS7 : w7.heap[gb]? = some (.cells (gcells a (.slice (some ⟨b1, o1, none⟩) nl cn) (.slice eq em ec) (.slice fq fm fc) (.slice sq sm sc)) 110 (0, 0)) := (k2.block _ (tk_lt hS0) (fun e => by have := (owns_rd PD.out.fr gb e).1; have := HGL.out; omega)).trans hS0
    have hyw : w7.heap[yb]? = some (.cells y.cells 89 (0, 0)) := (k2.block _ (tk_lt YD.out) (fun e => owns_ne_blk PD.out.fr YD.out (by decide) yb e rfl)).trans YD.out
    have Y7 : Hid ((w7.setCell ⟨gb, 3, none⟩ (.slice (some ⟨g7, 0, none⟩) ((firsts ns j).length + 1) cap7)).heap[yb]? = some (.cells y.cells 89 (0, 0))) := ((tk_set hS7 3 _).2.block yb (tk_lt hyw) (fun e => by have := P5.out.2.2; have := HGL.out; omega)).trans hyw
    clear h7 k7 k2 hyw
    generalize (firsts ns j).length + 1 = fl7 at N7 Y7 ⊢
    refine hK.out _ _ (fun hD => hS7) ?_
    clear hK K
    try simp only [Act.put, List.setIfInBounds_toArray, List.set_cons_zero, List.set_cons_succ]
    refine wpAnyD_one (i := 12) (o := ⟨some 29, .nilCheck (.tmp 17), 0, "graph.go:40", #[⟨0, .data⟩, ⟨0, .phase⟩, ⟨1, .phase⟩, ⟨2, .phase⟩, ⟨3, .phase⟩, ⟨4, .phase⟩, ⟨5, .phase⟩, ⟨6, .phase⟩, ⟨7, .phase⟩, ⟨8, .phase⟩, ⟨9, .phase⟩, ⟨10, .phase⟩, ⟨11, .phase⟩], none⟩) (by kernel_rfl) rfl (fun K hK => ?_)
    go_simp
    refine hK.out _ _ (fun hD => hS7) ?_
    clear hK K
    try simp only [Act.put, List.setIfInBounds_toArray, List.set_cons_zero, List.set_cons_succ]
    refine' wpAnyD_take (i := 13) (oi := ⟨some 30, .fieldAddr 110 (.tmp 29) 1, 0, "graph.go:40", #[⟨12, .data⟩, ⟨0, .phase⟩, ⟨1, .phase⟩, ⟨2, .phase⟩, ⟨3, .phase⟩, ⟨4, .phase⟩, ⟨5, .phase⟩, ⟨6, .phase⟩, ⟨7, .phase⟩, ⟨8, .phase⟩, ⟨9, .phase⟩, ⟨10, .phase⟩, ⟨11, .phase⟩], none⟩) (v := _) rfl (by kernel_rfl) (by kernel_rfl) (by kernel_rfl) (fun _ _ _ h => h) (by kernel_rfl) (Or.inl ⟨by rfl, ?hy14⟩) hS7 ?rest14
    case hy14 => (intro W hSw; go_simp; try (with_reducible rfl))
    try simp only [Act.put, List.setIfInBounds_toArray, List.set_cons_zero, List.set_cons_succ]
    refine wpAnyD_one (i := 14) (o := ⟨none, .store 59 (.tmp 30) (.tmp 28), 0, "graph.go:40", #[⟨13, .data⟩, ⟨11, .data⟩, ⟨11, .chain⟩, ⟨0, .phase⟩, ⟨1, .phase⟩, ⟨2, .phase⟩, ⟨3, .phase⟩, ⟨4, .phase⟩, ⟨5, .phase⟩, ⟨6, .phase⟩, ⟨7, .phase⟩, ⟨8, .phase⟩, ⟨9, .phase⟩, ⟨10, .phase⟩, ⟨11, .phase⟩], none⟩) (by kernel_rfl) rfl (fun K hK => ?_)
    have c7 := (tk_store hS7).1
    have f7 := (tk_store hS7).2
    have l7 := tk_lt hS7
    go_simp
    generalize (w7.setCell ⟨gb, 3, none⟩ (.slice (some ⟨g7, 0, none⟩) fl7 cap7)) = w9 at N7 Y7 ⊢
    clear c7 f7 l7
    refine hK.out _ _ (fun hD => absurd (by decide) hD) ?_
    clear hK K
    try simp only [Act.put, List.setIfInBounds_toArray, List.set_cons_zero, List.set_cons_succ]
    refine wpAnyD_done (by kernel_rfl) ?_ _
    go_wp2_with fail
    go_meet
    exact ⟨_, N7.out, Y7.out⟩
   case rest =>
    obtain ⟨fv', NF, NY⟩ := hcut.out
    rename_i wc
    have HC : Hid (Np w wc gb a (.slice (some ⟨b1, o1, none⟩) nl cn) (.slice eq em ec) fv' (.slice sq sm sc) (firsts ns (j + 1)) ((spotsU ns j).map SV.of) ∧ wc.heap[yb]? = some (.cells y.cells 89 (0, 0))) := ⟨NF, NY⟩
    have cy := (tk_store NY).1
    have ly := tk_lt NY
    clear hcut NF NY HI
    go_upto_region 5 with fail
    clear cy ly
    obtain ⟨ci, hci⟩ : ∃ c : Nat, y.n.ins = (c : Int) := ⟨y.n.ins.toNat, by have := HPY.out; omega⟩
    obtain ⟨co, hco⟩ : ∃ c : Nat, y.n.outs = (c : Int) := ⟨y.n.outs.toNat, by have := HPY.out; omega⟩
    have HCI : Hid (y.n.ins = (ci : Int) ∧ y.n.outs = (co : Int) ∧ ci ≤ 4 ∧ co ≤ 4 ∧ y.n.ins.toNat = ci ∧ y.n.outs.toNat = co) := ⟨hci, hco, by have := HPY.out; omega, by have := HPY.out; omega, by omega, by omega⟩
    have hci4 : ci ≤ 4 := HCI.out.2.2.1
    have hco4 : co ≤ 4 := HCI.out.2.2.2.1
    rw [hci]
    clear hci hco
    go_loopw [33] (fun s33 wr => ∃ (p : Nat) (pv : Value), p ≤ ci ∧ s33 = .int .i64 (p : Nat) ∧ Hid (Np w wr gb a (.slice (some ⟨b1, o1, none⟩) nl cn) (.slice eq em ec) fv' pv (firsts ns (j + 1)) ((spotsU ns j ++ inU j p).map SV.of) ∧ wr.heap[yb]? = some (.cells y.cells 89 (0, 0)))) (fun s33 _ => ci - (RowKit.intOf s33).toNat)
    case atStart => exact ⟨0, _, Nat.zero_le _, rfl, HC.out.1.re rfl (by simp [inU]), HC.out.2⟩
    case round =>
     clear HC
     obtain ⟨p, pv, hp, rfl, HI⟩ := hrel
     by_cases hpl : p < ci
     ·have hplz : (p : Int) < (ci : Int) := by omega
      obtain ⟨SL, hSL⟩ : ∃ l, l = (spotsU ns j ++ inU j p).map SV.of := ⟨_, rfl⟩
      rw [← hSL] at HI
      have HSL := hid hSL
      clear hSL
      obtain ⟨sq2, sm2, sc2, hsv2⟩ := owns_form HI.out.1.sp
      subst hsv2
      have HLN : Hid (SL.length = sm + p ∧ sm + p + 1 ≤ 192) := by
       have h1 := HBD.out
       rw [HCI.out.2.2.2.2.1, HCI.out.2.2.2.2.2, ← HSM.out] at h1
       refine ⟨by rw [HSL.out]; simp [inU, HSM.out]; try omega, by omega⟩
      have cg := (tk_store HI.out.1.blk).1
      have fg := (tk_store HI.out.1.blk).2
      have lg := tk_lt HI.out.1.blk
      go_wp2_with (at_builtin; refine wpApp1 ES Tryz.underlying108 infoS rfl (by decide) rfl _ _ rfl w.heap.size _ SL.length _ rfl HI.out.1.sp (SV.of (j, p, true)) (by first | rfl | simp) (by rw [HLN.out.1]; have := HLN.out.2; omega) (by rw [HLN.out.1]; have := HLN.out.2; unfold maxLen; omega) HI.out.1.kp.size _ rfl _ ?_)
      intro g8 cap8 w8 h8 k8 _
      have N8 : Hid (Np w (w8.setCell ⟨gb, 4, none⟩ (.slice (some ⟨g8, 0, none⟩) (SL.length + 1) cap8)) gb a (.slice (some ⟨b1, o1, none⟩) nl cn) (.slice eq em ec) fv' (.slice (some ⟨g8, 0, none⟩) (SL.length + 1) cap8) (firsts ns (j + 1)) ((spotsU ns j ++ inU j (p + 1)).map SV.of) ∧ (w8.setCell ⟨gb, 4, none⟩ (.slice (some ⟨g8, 0, none⟩) (SL.length + 1) cap8)).heap[yb]? = some (.cells y.cells 89 (0, 0))) := by
       refine ⟨(HI.out.1.spot h8 k8 HGL.out).re rfl (by rw [HSL.out, inU_succ]; simp), ?_⟩
       have k2 := Kp.grownBy (S := fun k => (Value.slice sq2 sm2 sc2).ownBlock = some k) k8 (fun _ h => h)
       have hb8 := (k2.block _ (tk_lt HI.out.1.blk) (fun e => by have := (owns_rd HI.out.1.sp gb e).1; have := HGL.out; omega)).trans HI.out.1.blk
       rw [(tk_set hb8 4 _).2.block yb (Nat.lt_of_lt_of_le (tk_lt HI.out.2) k2.size) (fun e => by have := P5.out.2.2; have := HGL.out; omega), k2.block yb (tk_lt HI.out.2) (fun e => owns_ne_blk HI.out.1.sp HI.out.2 (by decide) yb e rfl)]
       exact HI.out.2
      have hb8 : w8.heap[gb]? = some (.cells (gcells a (.slice (some ⟨b1, o1, none⟩) nl cn) (.slice eq em ec) fv' (.slice sq2 sm2 sc2)) 110 (0, 0)) := ((Kp.grownBy (S := fun k => (Value.slice sq2 sm2 sc2).ownBlock = some k) k8 (fun _ h => h)).block _ (tk_lt HI.out.1.blk) (fun e => by have := (owns_rd HI.out.1.sp gb e).1; have := HGL.out; omega)).trans HI.out.1.blk
      have c8 := (tk_store hb8).1
      have f8 := (tk_store hb8).2
      have l8 := tk_lt hb8
      clear h8 k8 hb8 cg fg lg
      generalize hLL : SL.length + 1 = ll at N8 ⊢
      clear hLL
      go_wp2_with fail
      generalize (w8.setCell ⟨gb, 4, none⟩ (.slice (some ⟨g8, 0, none⟩) ll cap8)) = w9 at N8 ⊢
      have FIN := N8
      clear N8 c8 f8 l8
      go_wp2_with fail
      go_roundw
      case rel => exact ⟨p + 1, _, by omega, by go_num, FIN.out⟩
      case measure => simp [RowKit.intOf]; omega
     ·have hplz : ¬ (p : Int) < (ci : Int) := by omega
      obtain rfl : p = ci := by omega
      have cy := (tk_store HI.out.2).1
      have ly := tk_lt HI.out.2
      go_upto_region 10 with fail
      rw [HCI.out.2.1]
      clear cy ly
      go_loopw [51] (fun s51 wr => ∃ (p2 : Nat) (pv : Value), p2 ≤ co ∧ s51 = .int .i64 (p2 : Nat) ∧ Hid (Np w wr gb a (.slice (some ⟨b1, o1, none⟩) nl cn) (.slice eq em ec) fv' pv (firsts ns (j + 1)) ((spotsU ns j ++ inU j p ++ outU j p2).map SV.of) ∧ wr.heap[yb]? = some (.cells y.cells 89 (0, 0)))) (fun s51 _ => co - (RowKit.intOf s51).toNat)
      case atStart => exact ⟨0, _, Nat.zero_le _, rfl, HI.out.1.re rfl (by simp [outU]), HI.out.2⟩
      case round =>
       clear HI
       obtain ⟨p2, pv, hp2, rfl, HI⟩ := hrel
       by_cases hpl2 : p2 < co
       ·have hplz2 : (p2 : Int) < (co : Int) := by omega
        obtain ⟨SL, hSL⟩ : ∃ l, l = (spotsU ns j ++ inU j p ++ outU j p2).map SV.of := ⟨_, rfl⟩
        rw [← hSL] at HI
        have HSL := hid hSL
        clear hSL
        obtain ⟨sq2, sm2, sc2, hsv2⟩ := owns_form HI.out.1.sp
        subst hsv2
        have HLN : Hid (SL.length = sm + (p + p2) ∧ sm + (p + p2) + 1 ≤ 192) := by
         have h1 := HBD.out
         rw [HCI.out.2.2.2.2.1, HCI.out.2.2.2.2.2, ← HSM.out] at h1
         refine ⟨by rw [HSL.out]; simp [inU, outU, HSM.out]; try omega, by omega⟩
        have cg := (tk_store HI.out.1.blk).1
        have fg := (tk_store HI.out.1.blk).2
        have lg := tk_lt HI.out.1.blk
        go_wp2_with (at_builtin; refine wpApp1 ES Tryz.underlying108 infoS rfl (by decide) rfl _ _ rfl w.heap.size _ SL.length _ rfl HI.out.1.sp (SV.of (j, p2, false)) (by first | rfl | simp) (by rw [HLN.out.1]; have := HLN.out.2; omega) (by rw [HLN.out.1]; have := HLN.out.2; unfold maxLen; omega) HI.out.1.kp.size _ rfl _ ?_)
        intro g8 cap8 w8 h8 k8 _
        have N8 : Hid (Np w (w8.setCell ⟨gb, 4, none⟩ (.slice (some ⟨g8, 0, none⟩) (SL.length + 1) cap8)) gb a (.slice (some ⟨b1, o1, none⟩) nl cn) (.slice eq em ec) fv' (.slice (some ⟨g8, 0, none⟩) (SL.length + 1) cap8) (firsts ns (j + 1)) ((spotsU ns j ++ inU j p ++ outU j (p2 + 1)).map SV.of) ∧ (w8.setCell ⟨gb, 4, none⟩ (.slice (some ⟨g8, 0, none⟩) (SL.length + 1) cap8)).heap[yb]? = some (.cells y.cells 89 (0, 0))) := by
         refine ⟨(HI.out.1.spot h8 k8 HGL.out).re rfl (by rw [HSL.out, outU_succ]; simp), ?_⟩
         have k2 := Kp.grownBy (S := fun k => (Value.slice sq2 sm2 sc2).ownBlock = some k) k8 (fun _ h => h)
         have hb8 := (k2.block _ (tk_lt HI.out.1.blk) (fun e => by have := (owns_rd HI.out.1.sp gb e).1; have := HGL.out; omega)).trans HI.out.1.blk
         rw [(tk_set hb8 4 _).2.block yb (Nat.lt_of_lt_of_le (tk_lt HI.out.2) k2.size) (fun e => by have := P5.out.2.2; have := HGL.out; omega), k2.block yb (tk_lt HI.out.2) (fun e => owns_ne_blk HI.out.1.sp HI.out.2 (by decide) yb e rfl)]
         exact HI.out.2
        have hb8 : w8.heap[gb]? = some (.cells (gcells a (.slice (some ⟨b1, o1, none⟩) nl cn) (.slice eq em ec) fv' (.slice sq2 sm2 sc2)) 110 (0, 0)) := ((Kp.grownBy (S := fun k => (Value.slice sq2 sm2 sc2).ownBlock = some k) k8 (fun _ h => h)).block _ (tk_lt HI.out.1.blk) (fun e => by have := (owns_rd HI.out.1.sp gb e).1; have := HGL.out; omega)).trans HI.out.1.blk
        have c8 := (tk_store hb8).1
        have f8 := (tk_store hb8).2
        have l8 := tk_lt hb8
        clear h8 k8 hb8 cg fg lg
        generalize hLL : SL.length + 1 = ll at N8 ⊢
        clear hLL
        go_wp2_with fail
        generalize (w8.setCell ⟨gb, 4, none⟩ (.slice (some ⟨g8, 0, none⟩) ll cap8)) = w9 at N8 ⊢
        have FIN := N8
        clear N8 c8 f8 l8
        go_wp2_with fail
        go_roundw
        case rel => exact ⟨p2 + 1, _, by omega, by go_num, FIN.out⟩
        case measure => simp [RowKit.intOf]; omega
       ·have hplz2 : ¬ (p2 : Int) < (co : Int) := by omega
        have FIN : Hid (Np w wr gb a (.slice (some ⟨b1, o1, none⟩) nl cn) (.slice eq em ec) fv' pv (firsts ns (j + 1)) ((spotsU ns (j + 1)).map SV.of)) := HI.out.1.re rfl (by rw [spotsU_succ HYN.out, spotsOf, HCI.out.2.2.2.2.1, HCI.out.2.2.2.2.2, show p2 = co by omega, List.append_assoc]; rfl)
        go_wp2_with fail
        go_roundw
        case rel => exact ⟨j + 1, _, _, by omega, by go_num, FIN.out⟩
        case measure => simp [RowKit.intOf]; omega
  ·have hltz : ¬ (j : Int) < (nl : Int) := by omega
   obtain rfl : j = nl := by omega
   go_wp2_with fail
   go_end0
   exact ⟨rfl, _, _, HI.out⟩
end Go.Proofs.YtdnnfgabdkkdjaaGreat.Df
