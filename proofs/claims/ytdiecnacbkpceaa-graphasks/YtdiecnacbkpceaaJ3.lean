import Derived.Test.YtdiecnacbkpceaaJ1
import Derived.Test.YtdiecnacbkpceaaJ2
import Derived.Test.YtdiecnacbkpceaaGQs2
import Derived.Test.YtdiecnacbkpceaaGM1
import Derived.BigQuiet
namespace Go.Proofs.Ytdiecnacbkpceaa.Df
open Go.RowKit Go.Sort
attribute [local go_sem ↓] Go.wp_at_zero Go.wp_at_succ

theorem fl_EI (l : List Int) : fl EI l = l.map (Value.int .i64) := by
  induction l with
  | nil => rfl
  | cons x l ih => rw [fl_cons, ih]; rfl
theorem edN_few {g : Gph} (k : Int) (h : Gok g) : (edN g k).length ≤ 48 := by
  unfold edN
  split
  · exact Nat.le_trans (edgesU_length _ _ _ _) h.el
  · simp
theorem GR.nr {M : Nat} {w : World} {nv ev : Value} {a : Int} {xs : List NV} {es : List Edg} (h : GR M w nv ev xs es) (hM : M ≤ w.heap.size) (hok : Gok (gof a xs es)) : Nr w nv xs := ⟨h.nodes.up hM, by have := hok.nl; simpa using this, hok.pok⟩
theorem Lz.cut {α : Type} {E : El α} {M : Nat} {w : World} {q : Option Addr} {n c k : Nat} {l : List α} (h : Lz E M w (.slice q n c) l) (hk : k ≤ l.length) : Lz E M w (.slice q k c) (l.take k) := by
  rcases h with ⟨h, hb⟩ | ⟨rfl, p, c', e⟩
  · rcases id h with ⟨rfl, h1⟩ | ⟨b, off, c', hv, _⟩
    · clear h1
      obtain rfl : k = 0 := by simpa using hk
      exact Or.inr ⟨by simp, q, c, rfl⟩
    · simp only [Value.slice.injEq] at hv
      obtain ⟨rfl, -, rfl⟩ := hv
      exact Or.inl ⟨h.cut hk c, hb⟩
  · obtain rfl : k = 0 := by simpa using hk
    exact Or.inr ⟨by simp, q, c, rfl⟩
set_option maxRecDepth 100000 in
set_option maxHeartbeats 4000000 in
theorem places_any {B gb M : Nat} {nv ev : Value} {a : Int} {xs : List NV} {es : List Edg} (k i p : Int) (w : World) (hm : Gm B w gb (gof a xs es)) (hG : GR M w nv ev xs es) (hM : M ≤ w.heap.size) (hok : Gok (gof a xs es)) : Calls Try.prog 20 #[.pointer (some ⟨gb, 0, none⟩), .agg (gvc a nv ev), .int .i64 k, .int .i64 i, .int .i64 p] w fun r w' => r = .returned (.bool true) ∧ Below w.heap.size w w' := by
  have hmx : Try.prog.follows .mixedOrders = true := by kernel_rfl
  obtain ⟨pn, cn, rfl⟩ := hG.nodes.form
  obtain ⟨pe, ce, rfl⟩ := hG.edges.form
  have HNR := hid (hG.nr hM hok)
  have HGM := hid hm
  have HED := hid hG.edges
  have HEL : Hid (es.length ≤ 48) := hok.el
  have HEN := hid (edN_few k hok)
  have HEQ : Hid (redN (xs.map NV.n) es k es.length = edN (gof a xs es) k) := redN_eq hok k
  obtain ⟨W0, hW0⟩ : ∃ W, W = w.alloc (.cells (gvc a (.slice pn xs.length cn) (.slice pe es.length ce)) 25) := ⟨_, rfl⟩
  obtain ⟨xb, hxb⟩ : ∃ b, b = w.heap.size := ⟨_, rfl⟩
  have S0 : Hid (Gr w W0 ∧ W0.heap[xb]? = some (.cells (gvc a (.slice pn xs.length cn) (.slice pe es.length ce)) 25 (0, 0))) := by
    rw [hW0, hxb]
    exact ⟨(Gr.refl w).alloc _, heap_new' _ _⟩
  have HW0 : Hid (w.alloc (.cells #[.int .i64 a, .slice pn xs.length cn, .slice pe es.length ce] 25) = W0 ∧ w.heap.size = xb) := ⟨hW0.symm, hxb.symm⟩
  have hof := fun W (hg : Gr w W) => gof_any k W (HGM.out.below hg.below)
  have hrof := fun W (hg : Gr w W) => rof_any (a := a) (qe := pe) (me := es.length) (ce := ce) k W (HNR.out.below hg.below)
  have hin := fun W (hg : Gr w W) => gin_any i p W (HGM.out.below hg.below)
  have hout := fun W (hg : Gr w W) => gout_any i p W (HGM.out.below hg.below)
  have hrin := fun W (hg : Gr w W) => rin_any (a := a) (qe := pe) (me := es.length) (ce := ce) i p W (HNR.out.below hg.below)
  have hrout := fun W (hg : Gr w W) => rout_any (a := a) (qe := pe) (me := es.length) (ce := ce) i p W (HNR.out.below hg.below)
  have hred := fun W (hg : Gr w W) => redges_any (a := a) k W (HNR.out.below hg.below) ⟨_, _, _, rfl⟩ (HED.out.below hg.below) HEL.out
  rw [HEQ.out] at hred
  have hedg := fun (m : Int) W (hb : Below w.heap.size w W) => edges_any k m W (HGM.out.below hb)
  simp only at hof hin hout
  clear hG hm hW0 hxb hok
  obtain ⟨o1, ho1⟩ : ∃ x, x = (ofN (xs.map NV.n) k).1 := ⟨_, rfl⟩
  obtain ⟨o2, ho2⟩ : ∃ x, x = (ofN (xs.map NV.n) k).2.1 := ⟨_, rfl⟩
  obtain ⟨o3, ho3⟩ : ∃ x, x = (ofN (xs.map NV.n) k).2.2 := ⟨_, rfl⟩
  obtain ⟨qi, hqi⟩ : ∃ x, x = inN (xs.map NV.n) i p := ⟨_, rfl⟩
  obtain ⟨qo, hqo⟩ : ∃ x, x = outN (xs.map NV.n) i p := ⟨_, rfl⟩
  rw [← ho1, ← ho2, ← ho3] at hof hrof
  rw [← hqi] at hin hrin
  rw [← hqo] at hout hrout
  obtain ⟨L, hL⟩ : ∃ L, L = edN (gof a xs es) k := ⟨_, rfl⟩
  rw [← hL] at hred hedg HEN
  clear ho1 ho2 ho3 hqi hqo hL HEQ
  generalize xs.length = nl at *
  generalize es.length = el at *
  have cx := (tk_store S0.out.2).1
  have lx := tk_lt S0.out.2
  go_enter Try.func20, Try.ntmps20
  go_upto_region 1 with fail
  rw [HW0.out.1, HW0.out.2]
  clear HW0
  go_wp2_with fail
  refine (hof _ S0.out.1).mono ?_
  rintro r w1 ⟨rfl, g1⟩
  have S1 : Hid (Gr w w1 ∧ w1.heap[xb]? = some (.cells (gvc a (.slice pn nl cn) (.slice pe el ce)) 25 (0, 0))) := ⟨S0.out.1.trans g1, (g1.below.block _ (tk_lt S0.out.2)).trans S0.out.2⟩
  clear g1 cx lx S0 hof
  have cx := (tk_store S1.out.2).1
  have lx := tk_lt S1.out.2
  go_wp2_with fail
  refine (hrof _ S1.out.1).mono ?_
  rintro r w2 ⟨rfl, g2⟩
  have S2 : Hid (Gr w w2 ∧ w2.heap[xb]? = some (.cells (gvc a (.slice pn nl cn) (.slice pe el ce)) 25 (0, 0))) := ⟨S1.out.1.trans g2, (g2.below.block _ (tk_lt S1.out.2)).trans S1.out.2⟩
  clear g2 cx lx S1 hrof
  have cx := (tk_store S2.out.2).1
  have lx := tk_lt S2.out.2
  go_upto_region 3 with fail
  have hA : ∀ (n : Nat) (os : Array Obj), Calls Try.prog 8 #[.pointer (some ⟨gb, 0, none⟩), .int .i64 i, .int .i64 p] (grow (w2.drewN n) os) fun e w' => e = .returned (.int .i64 qi) ∧ Gr (grow (w2.drewN n) os) w' := fun n os => (hin _ (S2.out.1.trans ⟨n, os, rfl⟩)).mono fun e w' h => ⟨h.1, by rw [h.2]; exact Gr.refl _⟩
  have hB : ∀ (n : Nat) (os : Array Obj), Calls Try.prog 9 #[.pointer (some ⟨gb, 0, none⟩), .int .i64 i, .int .i64 p] (grow (w2.drewN n) os) fun e w' => e = .returned (.int .i64 qo) ∧ Gr (grow (w2.drewN n) os) w' := fun n os => hout _ (S2.out.1.trans ⟨n, os, rfl⟩)
  have hC : ∀ (n : Nat) (os : Array Obj), Calls Try.prog 38 #[.agg (gvc a (.slice pn nl cn) (.slice pe el ce)), .int .i64 i, .int .i64 p] (grow (w2.drewN n) os) fun e w' => e = .returned (.int .i64 qi) ∧ Gr (grow (w2.drewN n) os) w' := fun n os => hrin _ (S2.out.1.trans ⟨n, os, rfl⟩)
  have hD : ∀ (n : Nat) (os : Array Obj), Calls Try.prog 39 #[.agg (gvc a (.slice pn nl cn) (.slice pe el ce)), .int .i64 i, .int .i64 p] (grow (w2.drewN n) os) fun e w' => e = .returned (.int .i64 qo) ∧ Gr (grow (w2.drewN n) os) w' := fun n os => hrout _ (S2.out.1.trans ⟨n, os, rfl⟩)
  have hgc : ∀ (n : Nat) (os : Array Obj) (b o : Nat), b < w2.heap.size → (grow (w2.drewN n) os).cell? ⟨b, o, none⟩ = w2.cell? ⟨b, o, none⟩ := fun n os b o hb => Gr.cell (w := w2) (v := grow (w2.drewN n) os) ⟨n, os, rfl⟩ hb
  clear hin hout hrin hrout
  go_quiet_grown (first | (go_at_call 8; refine Calls.grown_of (hA _ _)) | (go_at_call 9; refine Calls.grown_of (hB _ _)) | (go_at_call 38; refine Calls.grown_of (hC _ _)) | (go_at_call 39; refine Calls.grown_of (hD _ _)))
  have S3 : Hid (Gr w (grow (w2.drewN nq) osq) ∧ (grow (w2.drewN nq) osq).heap[xb]? = some (.cells (gvc a (.slice pn nl cn) (.slice pe el ce)) 25 (0, 0))) := by
    have g3 : Gr w2 (grow (w2.drewN nq) osq) := ⟨nq, osq, rfl⟩
    exact ⟨S2.out.1.trans g3, (g3.below.block _ (tk_lt S2.out.2)).trans S2.out.2⟩
  generalize grow (w2.drewN nq) osq = w3 at S3 ⊢
  clear cx lx S2 hA hB hC hD hgc
  have cx := (tk_store S3.out.2).1
  have lx := tk_lt S3.out.2
  go_wp2_with fail
  refine (hred _ S3.out.1).mono ?_
  rintro r w4 ⟨v, rfl, h4⟩
  have S4 : Hid (Below w.heap.size w w4 ∧ w4.ownsRow w3.heap.size 3 1 v L.length (fl EI L)) := ⟨S3.out.1.below.trans (h4.out.1.mono S3.out.1.size), h4.out.2⟩
  obtain ⟨vq, vm, vc, rfl⟩ := owns_form h4.out.2
  have hvm := (owns_caps h4.out.2 _ _ _ rfl)
  obtain ⟨rfl, hvc⟩ := hvm
  clear h4 S3 hred cx lx
  go_wp2_with fail
  refine (hedg (-1) w4 S4.out.1).mono ?_
  rintro r w5 ⟨v5, rfl, o5, b5⟩
  have S4' : Hid (Below w.heap.size w w4 ∧ Lz EI w4.heap.size w4 (.slice vq L.length vc) L) := ⟨S4.out.1, owns_lz (E := EI) S4.out.2⟩
  have L5 : Hid (Below w.heap.size w w5 ∧ Lz EI w5.heap.size w5 v5 L ∧ Lz EI w5.heap.size w5 (.slice vq L.length vc) L) := by
    rw [cutL_all (Or.inl (by decide)), ← fl_EI] at o5
    exact ⟨S4'.out.1.trans (b5.mono S4'.out.1.size), owns_lz (E := EI) o5, (S4'.out.2.below b5).up b5.size⟩
  obtain ⟨q5, m5, c5, rfl⟩ := owns_form o5
  clear o5 b5
  go_wp2_with fail
  refine (sints_eq w5 L5.out.2.1 L5.out.2.2 (by have := HEN.out; omega)).mono ?_
  rintro r w6 ⟨rfl, g6⟩
  have L6 : Hid (Below w.heap.size w w6 ∧ Lz EI w6.heap.size w6 (.slice vq L.length vc) L) := ⟨L5.out.1.trans (g6.below.mono L5.out.1.size), (L5.out.2.2.below g6.below).up g6.size⟩
  clear g6 L5
  go_wp2_with fail
  refine (hedg (-1) w6 L6.out.1).mono ?_
  rintro r w7 ⟨v7, rfl, o7, b7⟩
  have L7 : Hid (Below w.heap.size w w7 ∧ Lz EI w7.heap.size w7 v7 L ∧ Lz EI w7.heap.size w7 (.slice vq L.length vc) L) := by
    rw [cutL_all (Or.inl (by decide)), ← fl_EI] at o7
    exact ⟨L6.out.1.trans (b7.mono L6.out.1.size), owns_lz (E := EI) o7, (L6.out.2.below b7).up b7.size⟩
  obtain ⟨q7, m7, c7, rfl⟩ := owns_form o7
  clear o7 b7
  go_wp2_with fail
  refine (sints_eq w7 L7.out.2.1 L7.out.2.2 (by have := HEN.out; omega)).mono ?_
  rintro r w8 ⟨rfl, g8⟩
  have L8 : Hid (Below w.heap.size w w8 ∧ Lz EI w8.heap.size w8 (.slice vq L.length vc) L) := ⟨L7.out.1.trans (g8.below.mono L7.out.1.size), (L7.out.2.2.below g8.below).up g8.size⟩
  clear g8 L7
  go_upto_region 9 with fail
  obtain ⟨m, hm⟩ : ∃ m : Nat, m = L.length / 2 := ⟨_, rfl⟩
  have hwq : wrap64 ((L.length : Int) / 2) = (m : Int) := by
    have := HEN.out
    unfold wrap64
    omega
  have HML : Hid (m ≤ L.length ∧ L.length ≤ vc) := ⟨by show _ ≤ _; omega, hvc⟩
  rw [hwq]
  clear hwq hm
  have BD : Hid (Below w8.heap.size w8 w8.drew) := (Gr.refl _).drew.below
  refine wp_regionD (S := fun W => Below w8.heap.size w8 W) (D := []) hmx ?_
  generalize w8.drew = Wd at BD ⊢
  refine' wpAnyD_take (i := 0) (oi := { dst := some 88, op := Go.Op.move (Go.Operand.tmp 0), type := 26, pos := "law.go:169", after := #[], guard := none }) (v := _) rfl (by kernel_rfl) (by kernel_rfl) (by kernel_rfl) (fun _ _ _ h => h) (by kernel_rfl) (Or.inl ⟨by rfl, ?hy1⟩) BD.out ?rest1
  case hy1 => (intro W hSw; go_simp; try (with_reducible rfl))
  try simp only [Act.put, List.setIfInBounds_toArray, List.set_cons_zero, List.set_cons_succ]
  refine' wpAnyD_take (i := 1) (oi := { dst := some 89, op := Go.Op.move (Go.Operand.tmp 2), type := 3, pos := "law.go:169", after := #[], guard := none }) (v := _) rfl (by kernel_rfl) (by kernel_rfl) (by kernel_rfl) (fun _ _ _ h => h) (by kernel_rfl) (Or.inl ⟨by rfl, ?hy2⟩) BD.out ?rest2
  case hy2 => (intro W hSw; go_simp; try (with_reducible rfl))
  try simp only [Act.put, List.setIfInBounds_toArray, List.set_cons_zero, List.set_cons_succ]
  refine' wpAnyD_take (i := 2) (oi := { dst := some 90, op := Go.Op.move (Go.Operand.tmp 18), type := 3, pos := "law.go:169", after := #[], guard := none }) (v := _) rfl (by kernel_rfl) (by kernel_rfl) (by kernel_rfl) (fun _ _ _ h => h) (by kernel_rfl) (Or.inl ⟨by rfl, ?hy3⟩) BD.out ?rest3
  case hy3 => (intro W hSw; go_simp; try (with_reducible rfl))
  try simp only [Act.put, List.setIfInBounds_toArray, List.set_cons_zero, List.set_cons_succ]
  refine' wpAnyD_take (i := 4) (oi := { dst := some 92, op := Go.Op.move (Go.Operand.tmp 17), type := 32, pos := "law.go:169", after := #[], guard := none }) (v := _) rfl (by kernel_rfl) (by kernel_rfl) (by kernel_rfl) (fun _ _ _ h => h) (by kernel_rfl) (Or.inl ⟨by rfl, ?hy4⟩) BD.out ?rest4
  case hy4 => (intro W hSw; go_simp; try (with_reducible rfl))
  try simp only [Act.put, List.setIfInBounds_toArray, List.set_cons_zero, List.set_cons_succ]
  refine' wpAnyD_take (i := 5) (oi := { dst := some 93, op := Go.Op.move (Go.Operand.tmp 18), type := 3, pos := "law.go:169", after := #[], guard := none }) (v := _) rfl (by kernel_rfl) (by kernel_rfl) (by kernel_rfl) (fun _ _ _ h => h) (by kernel_rfl) (Or.inl ⟨by rfl, ?hy5⟩) BD.out ?rest5
  case hy5 => (intro W hSw; go_simp; try (with_reducible rfl))
  try simp only [Act.put, List.setIfInBounds_toArray, List.set_cons_zero, List.set_cons_succ]
  refine' wpAnyD_take (i := 6) (oi := { dst := some 94, op := Go.Op.slice 32 (Go.Operand.tmp 92) none (some (Go.Operand.tmp 93)) none, type := 32, pos := "law.go:169", after := #[{ on := 4, ground := Go.Ground.data }, { on := 5, ground := Go.Ground.data }], guard := none }) (v := _) rfl (by kernel_rfl) (by kernel_rfl) (by kernel_rfl) (fun _ _ _ h => h) (by kernel_rfl) (Or.inl ⟨by rfl, ?hy6⟩) BD.out ?rest6
  case hy6 => (intro W hSw; have h1 : (m : Int) ≤ (vc : Int) := (by have := HML.out; omega); go_simp; try (with_reducible rfl))
  try simp only [Act.put, List.setIfInBounds_toArray, List.set_cons_zero, List.set_cons_succ]
  refine wpAnyD_one (i := 3) (o := { dst := some 91, op := Go.Op.call { callee := Go.Callee.value (Go.Operand.func 13), args := #[Go.Operand.tmp 88, Go.Operand.tmp 89, Go.Operand.tmp 90], argTypes := #[26, 3, 3] }, type := 32, pos := "law.go:169", after := #[{ on := 0, ground := Go.Ground.data }, { on := 1, ground := Go.Ground.data }, { on := 2, ground := Go.Ground.data }], guard := none }) (by kernel_rfl) rfl (fun K hK => ?_)
  go_simp
  refine (hedg (m : Int) _ (L8.out.1.trans (BD.out.mono L8.out.1.size))).mono ?_
  rintro r w9 ⟨v9, rfl, o9, b9⟩
  have L9 : Hid (Below w.heap.size w w9 ∧ Below w8.heap.size w8 w9 ∧ Lz EI w9.heap.size w9 v9 (L.take m) ∧ Lz EI w9.heap.size w9 (.slice vq L.length vc) L) := by
    have hc : cutL L (m : Int) = L.take m := by unfold cutL; rw [if_pos (by omega), Int.toNat_natCast]
    rw [hc, ← fl_EI] at o9
    have b8 := BD.out.trans (b9.mono BD.out.size)
    exact ⟨L8.out.1.trans (b8.mono L8.out.1.size), b8, owns_lz (E := EI) o9, (L8.out.2.below b8).up b8.size⟩
  obtain ⟨q9, m9, c9, rfl⟩ := owns_form o9
  clear o9 b9
  go_wp2_with fail
  refine hK.out _ _ (fun hD => L9.out.2.1) ?_
  clear hK K
  try simp only [Act.put, List.setIfInBounds_toArray, List.set_cons_zero, List.set_cons_succ]
  refine wpAnyD_one (i := 7) (o := { dst := some 95, op := Go.Op.call { callee := Go.Callee.value (Go.Operand.func 41), args := #[Go.Operand.tmp 91, Go.Operand.tmp 94], argTypes := #[32, 32] }, type := 4, pos := "law.go:169", after := #[{ on := 3, ground := Go.Ground.data }, { on := 6, ground := Go.Ground.data }, { on := 3, ground := Go.Ground.chain }], guard := none }) (by kernel_rfl) rfl (fun K hK => ?_)
  go_simp
  refine (sints_eq w9 L9.out.2.2.1 (L9.out.2.2.2.cut HML.out.1) (by have := HEN.out; rw [List.length_take]; omega)).mono ?_
  rintro r w10 ⟨rfl, g10⟩
  have F10 : Hid (Below w.heap.size w w10 ∧ Below w8.heap.size w8 w10) := ⟨L9.out.1.trans (g10.below.mono L9.out.1.size), L9.out.2.1.trans (g10.below.mono L9.out.2.1.size)⟩
  clear g10
  go_wp2_with fail
  refine hK.out _ _ (fun hD => F10.out.2) ?_
  clear hK K
  try simp only [Act.put, List.setIfInBounds_toArray, List.set_cons_zero, List.set_cons_succ]
  refine wpAnyD_one (i := 8) (o := { dst := some 10, op := Go.Op.assign (Go.Operand.tmp 95), type := 4, pos := "law.go:169", after := #[{ on := 7, ground := Go.Ground.data }, { on := 7, ground := Go.Ground.chain }, { on := 0, ground := Go.Ground.phase }, { on := 1, ground := Go.Ground.phase }, { on := 2, ground := Go.Ground.phase }, { on := 3, ground := Go.Ground.phase }, { on := 4, ground := Go.Ground.phase }, { on := 5, ground := Go.Ground.phase }, { on := 6, ground := Go.Ground.phase }, { on := 7, ground := Go.Ground.phase }], guard := none }) (by kernel_rfl) rfl (fun K hK => ?_)
  go_simp
  refine hK.out _ _ (fun hD => F10.out.2) ?_
  clear hK K
  try simp only [Act.put, List.setIfInBounds_toArray, List.set_cons_zero, List.set_cons_succ]
  refine wpAnyD_done (by kernel_rfl) ?_ _
  go_wp2_with fail
  go_ret
  exact ⟨rfl, F10.out.1⟩
end Go.Proofs.Ytdiecnacbkpceaa.Df

namespace Go.Proofs.Ytdiecnacbkpceaa.Df
open Go.RowKit Go.Sort
attribute [local go_sem ↓] Go.wp_at_zero Go.wp_at_succ

theorem nflaw_pp {a : Int} {n : Nod} (h : nflaw a n = 0) : pIn n.kind n.ins = true ∧ pOut n.kind n.outs = true := by
  unfold nflaw at h
  split at h
  · cases h
  · split at h
    · cases h
    · rename_i h1 h2
      exact Classical.not_not.1 h2
theorem acrL_one (k : Nat) : acrL 1 (k + 1) = acrL 1 k ++ [⟨(k : Int), 0, (0, 0, 0)⟩] := rfl
set_option maxRecDepth 100000 in
set_option maxHeartbeats 4000000 in
/-- The document's Conns. -/
theorem rConns_any {M : Nat} {nv ev : Value} {a : Int} {xs : List NV} {es : List Edg} (i : Int) (w : World) (hG : GR M w nv ev xs es) (hok : Gok (gof a xs es)) : Calls Try.prog 24 #[.agg (gvc a nv ev), .int .i64 i] w (Cp EC 64 w (connsAt (xs.map NV.n) i)) := by
  have hmx : Try.prog.follows .mixedOrders = true := by kernel_rfl
  obtain ⟨pn, cn, rfl⟩ := hG.nodes.form
  obtain ⟨pe, ce, rfl⟩ := hG.edges.form
  have hnl : xs.length ≤ 24 := by have := hok.nl; simpa using this
  have HG := hid hG
  have HOK := hid hok
  obtain ⟨W0, hW0⟩ : ∃ W, W = w.alloc (.cells (gvc a (.slice pn xs.length cn) (.slice pe es.length ce)) 25) := ⟨_, rfl⟩
  obtain ⟨gb, hgb⟩ : ∃ b, b = w.heap.size := ⟨_, rfl⟩
  have S0 : Hid (Below w.heap.size w W0 ∧ W0.heap[gb]? = some (.cells (gvc a (.slice pn xs.length cn) (.slice pe es.length ce)) 25 (0, 0))) := by
    rw [hW0, hgb]
    exact ⟨((Gr.refl w).alloc _).below, heap_new' _ _⟩
  have HW0 : Hid (w.alloc (.cells #[.int .i64 a, .slice pn xs.length cn, .slice pe es.length ce] 25) = W0 ∧ w.heap.size = gb) := ⟨hW0.symm, hgb.symm⟩
  have cx := (tk_store S0.out.2).1
  have lx := tk_lt S0.out.2
  generalize hxl : xs.length = nl at *
  generalize es.length = el at *
  have HXL := hid hxl
  clear hG hok hW0 hgb hxl
  go_enter Try.func24, Try.ntmps24
  go_upto_region 1 with fail
  rw [HW0.out.1, HW0.out.2]
  clear HW0
  by_cases hi0 : i < 0
  · have HC : Hid (connsAt (xs.map NV.n) i = []) := by show _ = _; unfold connsAt natN?; rw [if_neg (by omega)]
    go_wp2_with fail
    go_ret
    exact ⟨_, rfl, S0.out.1, by rw [HC.out]; exact World.ownsRow_nil _ _ _ _⟩
  · by_cases hil : (nl : Int) ≤ i
    · have HC : Hid (connsAt (xs.map NV.n) i = []) := by show _ = _; unfold connsAt natN?; rw [if_pos (by omega), List.getElem?_eq_none (by rw [List.length_map]; have := HXL.out; omega)]
      go_wp2_with fail
      go_ret
      exact ⟨_, rfl, S0.out.1, by rw [HC.out]; exact World.ownsRow_nil _ _ _ _⟩
    · obtain ⟨j, rfl⟩ : ∃ j : Nat, i = (j : Int) := ⟨i.toNat, by omega⟩
      have hjz : (j : Int) < (nl : Int) := by omega
      have hj0 : (0 : Int) ≤ (j : Int) := by omega
      obtain ⟨y, hy⟩ : ∃ y, xs[j]? = some y := ⟨xs[j]'(by have := HXL.out; omega), by simp⟩
      have HC : Hid (connsAt (xs.map NV.n) (j : Int) = connsN y.n) := by
        show _ = _
        unfold connsAt natN?
        rw [if_pos hj0, Int.toNat_natCast, List.getElem?_map, hy]
        rfl
      have hyj : (gof a xs es).nodes[j]? = some y.n := by show (xs.map NV.n)[j]? = _; rw [List.getElem?_map, hy]; rfl
      have hfl : nflaw a y.n = 0 := HOK.out.ng j _ (List.getElem?_eq_some_iff.1 hyj).1 hyj
      obtain ⟨b1, o1, q1, ev1, zz1, x0, x1, x2, x3, x4, x5, x6, x7, x8, x9⟩ := ls_atV ((HG.out.nodes.below S0.out.1).ls hy) hy
      simp only [Value.slice.injEq] at ev1
      obtain ⟨rfl, -, rfl⟩ := ev1
      have LC := hid ((HG.out.each y (List.mem_of_getElem? hy)).conns)
      obtain ⟨⟨yk, yi, yo, cd, via, bd, cnn, st⟩, cq, cm, cc, dq, dm, dc⟩ := y
      have hkd := nflaw_kind hfl
      have hpt := nflaw_ports hfl
      have hpp := nflaw_pp hfl
      have hls := (nflaw_lists hfl).2
      simp only [NV.cv, NV.dv] at x0 x1 x2 x3 x4 x5 x6 x7 x8 x9 hkd hpt hpp hls LC
      obtain ⟨nb, hnb⟩ : ∃ b, b = W0.heap.size := ⟨_, rfl⟩
      obtain ⟨W5, hW5⟩ : ∃ W, W = W0.alloc (.cells (ncells yk yi yo (.slice cq cm cc) via bd (.slice dq dm dc) st) 39) := ⟨_, rfl⟩
      have P5 : Hid (Below w.heap.size w W5 ∧ W5.heap[nb]? = some (.cells (ncells yk yi yo (.slice cq cm cc) via bd (.slice dq dm dc) st) 39 (0, 0))) := by
        rw [hW5, hnb]
        exact ⟨S0.out.1.trans (((Gr.refl W0).alloc _).below.mono S0.out.1.size), heap_new' _ _⟩
      have HW5 : Hid (W0.alloc (.cells #[.int .i64 yk, .int .i64 yi, .int .i64 yo, .slice cq cm cc, .int .u64 (via.1 : Nat), .int .u64 (via.2.1 : Nat), .int .u64 (via.2.2 : Nat), .int .u64 (bd : Nat), .slice dq dm dc, .bool st] 39) = W5 ∧ W0.heap.size = nb) := ⟨hW5.symm, hnb.symm⟩
      clear hW5 hnb hy hyj hfl
      go_upto_region 4 with fail
      rw [HW5.out.1, HW5.out.2]
      have cy := (tk_store P5.out.2).1
      have ly := tk_lt P5.out.2
      clear HW5 x0 x1 x2 x3 x4 x5 x6 x7 x8 x9 zz1 cx lx
      have hk8 : yk = 1 ∨ yk = 2 ∨ yk = 3 ∨ yk = 4 ∨ yk = 5 ∨ yk = 6 ∨ yk = 7 ∨ yk = 8 := by omega
      clear hkd
      rcases hk8 with hk | hk | hk | hk | hk | hk | hk | hk
      · subst hk
        have HL : Hid (connsAt (xs.map NV.n) (j : Int) = []) := by
          show _ = _
          rw [HC.out]
          simp [pIn, pOut] at hpp
          obtain ⟨rfl, rfl⟩ := hpp
          rfl
        go_wp2_with fail
        go_ret
        exact ⟨_, rfl, P5.out.1, by rw [HL.out]; exact World.ownsRow_nil _ _ _ _⟩
      · subst hk
        have HL : Hid (connsAt (xs.map NV.n) (j : Int) = [⟨0, 0, (0, 0, 0)⟩]) := by
          show _ = _
          rw [HC.out]
          simp [pIn, pOut] at hpp
          obtain ⟨rfl, rfl⟩ := hpp
          rfl
        go_wp2_with (at_builtin; refine wpApp1 EC Try.underlying37 infoC rfl (by decide) rfl _ _ rfl w.heap.size _ 0 [] rfl (World.ownsRow_nil _ _ _ _) ⟨0, 0, (0, 0, 0)⟩ rfl (by decide) (by unfold maxLen; decide) P5.out.1.size _ rfl _ ?_)
        intro g8 cap8 w8 h8 k8 _
        have FIN : Hid (Below w.heap.size w w8 ∧ w8.ownsRow w.heap.size 64 5 (.slice (some ⟨g8, 0, none⟩) (0 + 1) cap8) ([⟨0, 0, (0, 0, 0)⟩] : List Con).length (fl EC [⟨0, 0, (0, 0, 0)⟩])) := by
          have k2 := Kp.grownBy (S := fun _ => False) k8 (fun _ h => by cases h)
          exact ⟨P5.out.1.trans (k2.below P5.out.1.size (fun _ h => h.elim)), owns_re h8 rfl (by rw [fl_one])⟩
        clear h8 k8 cy ly
        go_wp2_with fail
        go_ret
        exact ⟨_, rfl, FIN.out.1, by rw [HL.out]; exact FIN.out.2⟩
      · subst hk
        have HL : Hid (connsAt (xs.map NV.n) (j : Int) = [⟨0, 0, (0, 0, 0)⟩]) := by
          show _ = _
          rw [HC.out]
          simp [pIn, pOut] at hpp
          obtain ⟨rfl, rfl⟩ := hpp
          rfl
        go_wp2_with (at_builtin; refine wpApp1 EC Try.underlying37 infoC rfl (by decide) rfl _ _ rfl w.heap.size _ 0 [] rfl (World.ownsRow_nil _ _ _ _) ⟨0, 0, (0, 0, 0)⟩ rfl (by decide) (by unfold maxLen; decide) P5.out.1.size _ rfl _ ?_)
        intro g8 cap8 w8 h8 k8 _
        have FIN : Hid (Below w.heap.size w w8 ∧ w8.ownsRow w.heap.size 64 5 (.slice (some ⟨g8, 0, none⟩) (0 + 1) cap8) ([⟨0, 0, (0, 0, 0)⟩] : List Con).length (fl EC [⟨0, 0, (0, 0, 0)⟩])) := by
          have k2 := Kp.grownBy (S := fun _ => False) k8 (fun _ h => by cases h)
          exact ⟨P5.out.1.trans (k2.below P5.out.1.size (fun _ h => h.elim)), owns_re h8 rfl (by rw [fl_one])⟩
        clear h8 k8 cy ly
        go_wp2_with fail
        go_ret
        exact ⟨_, rfl, FIN.out.1, by rw [HL.out]; exact FIN.out.2⟩
      · subst hk
        obtain ⟨ci, rfl⟩ : ∃ n : Nat, yi = (n : Int) := ⟨yi.toNat, by omega⟩
        have hci : ci ≤ 4 := by omega
        have HL : Hid (connsAt (xs.map NV.n) (j : Int) = acrL 1 ci) := by
          show _ = _
          rw [HC.out]
          simp [pIn, pOut] at hpp
          obtain ⟨-, rfl⟩ := hpp
          show acrL _ _ = _
          rw [Int.toNat_natCast]
          rfl
        go_wp2_with fail
        clear cy ly
        go_loopw [6, 7] (fun s6 s7 wr => ∃ (k : Nat) (v : Value), k ≤ ci ∧ s7 = .int .i64 (k : Nat) ∧ v = s6 ∧ Hid (Below w.heap.size w wr ∧ wr.heap[nb]? = some (.cells (ncells 4 (ci : Int) yo (.slice cq cm cc) via bd (.slice dq dm dc) st) 39 (0, 0)) ∧ wr.ownsRow w.heap.size 64 5 v (acrL 1 k).length (fl EC (acrL 1 k)))) (fun _ s7 _ => ci - (RowKit.intOf s7).toNat)
        case atStart => exact ⟨0, _, Nat.zero_le _, rfl, rfl, P5.out.1, P5.out.2, World.ownsRow_nil _ _ _ _⟩
        case round =>
          clear P5
          obtain ⟨k, v5, hk, rfl, rfl, HI⟩ := hrel
          have cy := (tk_store HI.out.2.1).1
          have ly := tk_lt HI.out.2.1
          by_cases hlk : k < ci
          · have hlkz : (k : Int) < (ci : Int) := by omega
            have HLN : Hid ((acrL 1 k).length ≤ 4) := by show _ ≤ _; rw [acrL_length]; omega
            go_wp2_with (at_builtin; refine wpApp1 EC Try.underlying37 infoC rfl (by decide) rfl _ _ rfl w.heap.size _ (acrL 1 k).length _ rfl HI.out.2.2 ⟨(k : Int), 0, (0, 0, 0)⟩ rfl (by have := HLN.out; omega) (by have := HLN.out; unfold maxLen; omega) HI.out.1.size _ rfl _ ?_)
            intro g8 cap8 w8 h8 k8 _
            have FIN : Hid (Below w.heap.size w w8 ∧ w8.heap[nb]? = some (.cells (ncells 4 (ci : Int) yo (.slice cq cm cc) via bd (.slice dq dm dc) st) 39 (0, 0)) ∧ w8.ownsRow w.heap.size 64 5 (.slice (some ⟨g8, 0, none⟩) ((acrL 1 k).length + 1) cap8) (acrL 1 (k + 1)).length (fl EC (acrL 1 (k + 1)))) := by
              have k2 := Kp.grownBy (S := fun q => v5.ownBlock = some q) k8 (fun _ h => h)
              refine ⟨HI.out.1.trans (k2.below HI.out.1.size (fun q e => (owns_rd HI.out.2.2 q e).1)), (k2.block _ (tk_lt HI.out.2.1) (fun e => owns_ne_blk HI.out.2.2 HI.out.2.1 (by decide) nb e rfl)).trans HI.out.2.1, ?_⟩
              rw [acrL_one]
              exact owns_re h8 (by simp) (by rw [fl_append, fl_one])
            clear h8 k8 cy ly
            generalize (acrL 1 k).length + 1 = ll at FIN ⊢
            go_wp2_with fail
            go_roundw
            case rel => exact ⟨k + 1, _, by omega, by go_num, rfl, FIN.out⟩
            case measure => simp [RowKit.intOf]; omega
          · have hlkz : ¬ (k : Int) < (ci : Int) := by omega
            obtain rfl : k = ci := by omega
            go_wp2_with fail
            go_ret
            exact ⟨_, rfl, HI.out.1, by rw [HL.out]; exact HI.out.2.2⟩
      · subst hk
        have HL : Hid (connsAt (xs.map NV.n) (j : Int) = [⟨0, 0, via⟩]) := by
          show _ = _
          rw [HC.out]
          rfl
        go_wp2_with (at_builtin; refine wpApp1 EC Try.underlying37 infoC rfl (by decide) rfl _ _ rfl w.heap.size _ 0 [] rfl (World.ownsRow_nil _ _ _ _) ⟨0, 0, via⟩ rfl (by decide) (by unfold maxLen; decide) P5.out.1.size _ rfl _ ?_)
        intro g8 cap8 w8 h8 k8 _
        have FIN : Hid (Below w.heap.size w w8 ∧ w8.ownsRow w.heap.size 64 5 (.slice (some ⟨g8, 0, none⟩) (0 + 1) cap8) ([⟨0, 0, via⟩] : List Con).length (fl EC [⟨0, 0, via⟩])) := by
          have k2 := Kp.grownBy (S := fun _ => False) k8 (fun _ h => by cases h)
          exact ⟨P5.out.1.trans (k2.below P5.out.1.size (fun _ h => h.elim)), owns_re h8 rfl (by rw [fl_one])⟩
        clear h8 k8 cy ly
        go_wp2_with fail
        go_ret
        exact ⟨_, rfl, FIN.out.1, by rw [HL.out]; exact FIN.out.2⟩
      · subst hk
        have HL : Hid (connsAt (xs.map NV.n) (j : Int) = [⟨0, 0, (0, 0, 0)⟩]) := by
          show _ = _
          rw [HC.out]
          simp [pIn, pOut] at hpp
          obtain ⟨rfl, rfl⟩ := hpp
          rfl
        go_wp2_with (at_builtin; refine wpApp1 EC Try.underlying37 infoC rfl (by decide) rfl _ _ rfl w.heap.size _ 0 [] rfl (World.ownsRow_nil _ _ _ _) ⟨0, 0, (0, 0, 0)⟩ rfl (by decide) (by unfold maxLen; decide) P5.out.1.size _ rfl _ ?_)
        intro g8 cap8 w8 h8 k8 _
        have FIN : Hid (Below w.heap.size w w8 ∧ w8.ownsRow w.heap.size 64 5 (.slice (some ⟨g8, 0, none⟩) (0 + 1) cap8) ([⟨0, 0, (0, 0, 0)⟩] : List Con).length (fl EC [⟨0, 0, (0, 0, 0)⟩])) := by
          have k2 := Kp.grownBy (S := fun _ => False) k8 (fun _ h => by cases h)
          exact ⟨P5.out.1.trans (k2.below P5.out.1.size (fun _ h => h.elim)), owns_re h8 rfl (by rw [fl_one])⟩
        clear h8 k8 cy ly
        go_wp2_with fail
        go_ret
        exact ⟨_, rfl, FIN.out.1, by rw [HL.out]; exact FIN.out.2⟩
      · subst hk
        have HL : Hid (connsAt (xs.map NV.n) (j : Int) = []) := by
          show _ = _
          rw [HC.out]
          simp [pIn, pOut] at hpp
          obtain ⟨rfl, rfl⟩ := hpp
          rfl
        go_wp2_with fail
        go_ret
        exact ⟨_, rfl, P5.out.1, by rw [HL.out]; exact World.ownsRow_nil _ _ _ _⟩
      · subst hk
        have HL : Hid (connsAt (xs.map NV.n) (j : Int) = cnn) := by
          show _ = _
          rw [HC.out]
          rfl
        have LC5 := hid (LC.out.below P5.out.1)
        go_wp2_with (at_builtin; refine wpAppZ EC Try.underlying37 infoC rfl (by decide) rfl _ _ rfl w.heap.size _ 0 [] rfl (World.ownsRow_nil _ _ _ _) M _ cnn rfl LC5.out (by omega) (by unfold maxLen; omega) P5.out.1.size ?_)
        intro v8 w8 h8 k8
        have FIN : Hid (Below w.heap.size w w8 ∧ w8.ownsRow w.heap.size 64 5 v8 cnn.length (fl EC cnn)) := by
          have k2 := Kp.grownBy (S := fun _ => False) k8.out (fun _ h => by cases h)
          exact ⟨P5.out.1.trans (k2.below P5.out.1.size (fun _ h => h.elim)), owns_re h8.out (by simp) (by simp)⟩
        obtain ⟨q8, m8, c8, hv8⟩ := owns_form FIN.out.2
        subst hv8
        clear h8 k8 cy ly
        go_wp2_with fail
        go_ret
        exact ⟨_, rfl, FIN.out.1, by rw [HL.out]; exact FIN.out.2⟩
end Go.Proofs.Ytdiecnacbkpceaa.Df

namespace Go.Proofs.Ytdiecnacbkpceaa.Df
open Go.RowKit Go.Sort
attribute [local go_sem ↓] Go.wp_at_zero Go.wp_at_succ

/-- What twin answers. -/
def Twin (w : World) (a : Int) (xs : List NV) (es : List Edg) (e : Ending) (w' : World) : Prop := ∃ nv ev ys, e = .returned (.agg (gvc a nv ev)) ∧ Below w.heap.size w w' ∧ ys.map NV.n = xs.map NV.n ∧ Mk EV 39 w' nv ys mV ∧ Mk ED 47 w' ev es mD ∧ (∀ y ∈ ys, Mk EO 72 w' y.cv y.n.code mO ∧ Mk EC 64 w' y.dv y.n.conns mC) ∧ (∀ k, nv.ownBlock = some k → w.heap.size ≤ k) ∧ (∀ k, ev.ownBlock = some k → w.heap.size ≤ k) ∧ ∀ y ∈ ys, (∀ k, y.cv.ownBlock = some k → w.heap.size ≤ k) ∧ ∀ k, y.dv.ownBlock = some k → w.heap.size ≤ k
set_option maxRecDepth 100000 in
set_option maxHeartbeats 8000000 in
theorem twin_any {nv ev : Value} {a : Int} {xs : List NV} {es : List Edg} (w : World) (hG : GR w.heap.size w nv ev xs es) (hbg : xs.length * 112 ≤ 140737488351232 ∧ es.length * 40 ≤ 140737488351232 ∧ ∀ x ∈ xs, x.n.code.length * 16 ≤ 140737488351232 ∧ x.n.conns.length * 40 ≤ 140737488351232) : Calls Try.prog 6 #[.agg (gvc a nv ev)] w (Twin w a xs es) := by
  have hmx : Try.prog.follows .mixedOrders = true := by kernel_rfl
  obtain ⟨pn, cn, hnv⟩ := hG.nodes.form
  obtain ⟨pe, ce, hev⟩ := hG.edges.form
  obtain ⟨nl, hnl⟩ : ∃ n, n = xs.length := ⟨_, rfl⟩
  obtain ⟨el, hel⟩ : ∃ n, n = es.length := ⟨_, rfl⟩
  rw [← hnl] at hnv
  rw [← hel] at hev
  subst hnv
  subst hev
  have HG := hid hG
  have HBG := hid hbg
  have HNL := hid hnl
  have HEL := hid hel
  obtain ⟨W0, hW0⟩ : ∃ W, W = ((w.alloc (.cells (gvc a (.slice pn nl cn) (.slice pe el ce)) 25)).alloc (.cells (gvc 0 (.slice none 0 0) (.slice none 0 0)) 25)).alloc (.cells (gvc a (.slice none 0 0) (.slice none 0 0)) 25) := ⟨_, rfl⟩
  have R0 : Hid (Rm w W0 (gvc a (.slice pn nl cn) (.slice pe el ce)) (gvc a (.slice none 0 0) (.slice none 0 0)) (.slice none 0 0) []) := by
    have h3 := new3 w (.cells (gvc a (.slice pn nl cn) (.slice pe el ce)) 25) (.cells (gvc 0 (.slice none 0 0) (.slice none 0 0)) 25) (.cells (gvc a (.slice none 0 0) (.slice none 0 0)) 25)
    have hg := (((Gr.refl w).alloc (.cells (gvc a (.slice pn nl cn) (.slice pe el ce)) 25)).alloc (.cells (gvc 0 (.slice none 0 0) (.slice none 0 0)) 25)).alloc (.cells (gvc a (.slice none 0 0) (.slice none 0 0)) 25)
    rw [hW0]
    exact ⟨hg.below, h3.1, h3.2.1, h3.2.2, World.ownsRow_nil _ _ _ _, fun _ h => (by cases h), fun _ h => (by cases h), fun _ h => (by cases h)⟩
  have HW : Hid (((w.alloc (.cells #[.int .i64 a, .slice pn nl cn, .slice pe el ce] 25)).alloc (.cells #[.int .i64 0, .slice none 0 0, .slice none 0 0] 25)).alloc (.cells #[.int .i64 a, .slice none 0 0, .slice none 0 0] 25) = W0) := hW0.symm
  have hz2 : ∀ (A B : Obj), ((w.alloc A).alloc B).heap.size = w.heap.size + 2 := fun A B => by simp
  clear hG hbg hnl hel hW0 hz2
  go_enter Try.func6, Try.ntmps6
  go_upto_region 2 with fail
  rw [HW.out]
  clear HW
  go_wp2_with fail
  go_loopw [4] (fun s13 wr => ∃ (j : Nat) (u : Value) (ys : List NV), j ≤ nl ∧ s13 = .int .i64 (j : Nat) ∧ Hid (Rm w wr (gvc a (.slice pn nl cn) (.slice pe el ce)) (gvc a u (.slice none 0 0)) u ys ∧ ys.length = j ∧ ys.map NV.n = (xs.take j).map NV.n)) (fun s13 _ => nl - (RowKit.intOf s13).toNat)
  case atStart => exact ⟨0, .slice none 0 0, [], Nat.zero_le _, rfl, R0.out, rfl, by simp⟩
  case round =>
    clear R0
    obtain ⟨j, u, ys, hj, rfl, HI⟩ := hrel
    obtain ⟨qu, mu, cu, rfl⟩ := owns_form HI.out.1.row
    obtain ⟨c0, -, l0, -, -⟩ := HI.out.1.facts
    by_cases hlt : j < nl
    · have hltz : (j : Int) < (nl : Int) := by omega
      obtain ⟨y, hy⟩ : ∃ y, xs[j]? = some y := ⟨xs[j]'(by have := HNL.out; omega), by simp⟩
      have hym := List.mem_of_getElem? hy
      obtain ⟨b1, o1, q1, ev1, zz1, x0, x1, x2, x3, x4, x5, x6, x7, x8, x9⟩ := ls_atV ((HG.out.nodes.below HI.out.1.bl).ls hy) hy
      simp only [Value.slice.injEq] at ev1
      obtain ⟨rfl, -, rfl⟩ := ev1
      have LC0 := hid (HG.out.each y hym)
      have HSZ := hid (HBG.out.2.2 y hym)
      have HY := hid hy
      clear hy hym
      obtain ⟨⟨yk, yi, yo, cd, via, bd, cnn, st⟩, cq, cm, cc, dq, dm, dc⟩ := y
      have HCM : Hid (cm = cd.length) := by
        obtain ⟨p, c, h⟩ := LC0.out.code.form
        simp only [Value.slice.injEq] at h
        exact h.2.1
      have HDM : Hid (dm = cnn.length) := by
        obtain ⟨p, c, h⟩ := LC0.out.conns.form
        simp only [Value.slice.injEq] at h
        exact h.2.1
      simp only [NV.cv, NV.dv] at x0 x1 x2 x3 x4 x5 x6 x7 x8 x9 HSZ
      have HXR : Hid (wr.cell? ⟨b1, o1 + j * 10 + 3, none⟩ = some (.slice cq cm cc) ∧ wr.cell? ⟨b1, o1 + j * 10 + 8, none⟩ = some (.slice dq dm dc) ∧ b1 < wr.heap.size) := ⟨x3, x8, zz1⟩
      obtain ⟨nb, hnb⟩ : ∃ b, b = wr.heap.size := ⟨_, rfl⟩
      obtain ⟨W5, hW5⟩ : ∃ W, W = wr.alloc (.cells (ncells yk yi yo (.slice cq cm cc) via bd (.slice dq dm dc) st) 39) := ⟨_, rfl⟩
      have P0 : Hid (Below nb wr W5 ∧ W5.heap[nb]? = some (.cells (ncells yk yi yo (.slice cq cm cc) via bd (.slice dq dm dc) st) 39 (0, 0)) ∧ W5.heap[w.heap.size]? = some (.cells (gvc a (.slice (some ⟨b1, o1, none⟩) nl cn) (.slice pe el ce)) 25 (0, 0))) := by
        have h1 := ((Gr.refl wr).alloc (.cells (ncells yk yi yo (.slice cq cm cc) via bd (.slice dq dm dc) st) 39)).below
        rw [hW5, hnb]
        exact ⟨h1, heap_new' _ _, (h1.block _ (tk_lt HI.out.1.h1)).trans HI.out.1.h1⟩
      have HW5 : Hid (wr.alloc (.cells #[.int .i64 yk, .int .i64 yi, .int .i64 yo, .slice cq cm cc, .int .u64 (via.1 : Nat), .int .u64 (via.2.1 : Nat), .int .u64 (via.2.2 : Nat), .int .u64 (bd : Nat), .slice dq dm dc, .bool st] 39) = W5) := hW5.symm
      have HNB := hid hnb
      clear hW5 hnb
      go_upto_region 6 with fail
      rw [HW5.out, ← HNB.out]
      clear HW5 x0 x1 x2 x3 x4 x5 x6 x7 x8 x9 zz1 c0 l0
      have XR : Hid (∀ W, Below nb wr W → W.cell? ⟨b1, o1 + j * 10 + 3, none⟩ = some (.slice cq cm cc) ∧ W.cell? ⟨b1, o1 + j * 10 + 8, none⟩ = some (.slice dq dm dc) ∧ b1 < W.heap.size) := fun W hb => by
        rw [HNB.out] at hb
        have h := HXR.out
        exact ⟨(World.cell?_of_block (a := ⟨b1, o1 + j * 10 + 3, none⟩) (hb.block b1 h.2.2)).trans h.1, (World.cell?_of_block (a := ⟨b1, o1 + j * 10 + 8, none⟩) (hb.block b1 h.2.2)).trans h.2.1, Nat.lt_of_lt_of_le h.2.2 hb.size⟩
      have LC : Hid (Lz EO w.heap.size W5 (.slice cq cm cc) cd) := by
        have h1 := HI.out.1.bl
        have h2 := P0.out.1
        rw [HNB.out] at h2
        exact LC0.out.code.below (h1.trans (h2.mono h1.size))
      go_cut [36] (fun _ w' => ∃ (g1 k1 : Nat), Hid (Below nb wr w' ∧ w'.heap[nb]? = some (.cells (ncells yk yi yo (.slice (some ⟨g1, 0, none⟩) cm k1) via bd (.slice dq dm dc) st) 39 (0, 0)) ∧ w'.heap[w.heap.size]? = some (.cells (gvc a (.slice (some ⟨b1, o1, none⟩) nl cn) (.slice pe el ce)) 25 (0, 0)) ∧ Mk EO 72 w' (.slice (some ⟨g1, 0, none⟩) cm k1) cd mO ∧ nb < g1))
      case first =>
        refine wp_regionD (S := fun W => Below W5.heap.size W5 W) (D := [16]) hmx ?_
        have BD : Hid (Below W5.heap.size W5 W5.drew) := (Gr.refl _).drew.below
        generalize W5.drew = Wd at BD ⊢
        have HZ5 : Hid (nb ≤ W5.heap.size) := by have := tk_lt P0.out.2.1; show nb ≤ _; omega
        have jz0 : (0 : Int) ≤ (j : Int) := by omega
        have jz1 : (j : Int) < (nl : Int) := by omega
        refine' wpAnyD_take (i := 1) (oi := { dst := some 22, op := Go.Op.fieldAddr 25 (Go.Operand.tmp 1) 1, type := 0, pos := "law.go:75", after := #[], guard := none }) (v := _) rfl (by kernel_rfl) (by kernel_rfl) (by kernel_rfl) (fun _ _ _ h => h) (by kernel_rfl) (Or.inl ⟨by rfl, ?hy1⟩) BD.out ?rest1
        case hy1 => (intro W hSw; go_simp; try (with_reducible rfl))
        try simp only [Act.put, List.setIfInBounds_toArray, List.set_cons_zero, List.set_cons_succ]
        refine' wpAnyD_take (i := 2) (oi := { dst := some 23, op := Go.Op.load 22 (Go.Operand.tmp 22), type := 22, pos := "law.go:75", after := #[{ on := 1, ground := Go.Ground.data }], guard := none }) (v := _) rfl (by kernel_rfl) (by kernel_rfl) (by kernel_rfl) (fun _ _ _ h => h) (by kernel_rfl) (Or.inl ⟨by rfl, ?hy2⟩) BD.out ?rest2
        case hy2 => (intro W hSw; have hb := (hSw.block _ (tk_lt P0.out.2.2)).trans P0.out.2.2; have hc := (tk_store hb).1 1; have hl := tk_lt hb; go_simp; try (with_reducible rfl))
        try simp only [Act.put, List.setIfInBounds_toArray, List.set_cons_zero, List.set_cons_succ]
        refine' wpAnyD_take (i := 3) (oi := { dst := some 24, op := Go.Op.move (Go.Operand.tmp 4), type := 3, pos := "law.go:75", after := #[], guard := none }) (v := _) rfl (by kernel_rfl) (by kernel_rfl) (by kernel_rfl) (fun _ _ _ h => h) (by kernel_rfl) (Or.inl ⟨by rfl, ?hy3⟩) BD.out ?rest3
        case hy3 => (intro W hSw; go_simp; try (with_reducible rfl))
        try simp only [Act.put, List.setIfInBounds_toArray, List.set_cons_zero, List.set_cons_succ]
        refine' wpAnyD_take (i := 4) (oi := { dst := some 25, op := Go.Op.indexAddr 22 (Go.Operand.tmp 23) (Go.Operand.tmp 24), type := 0, pos := "law.go:75", after := #[{ on := 2, ground := Go.Ground.data }, { on := 3, ground := Go.Ground.data }], guard := none }) (v := _) rfl (by kernel_rfl) (by kernel_rfl) (by kernel_rfl) (fun _ _ _ h => h) (by kernel_rfl) (Or.inl ⟨by rfl, ?hy4⟩) BD.out ?rest4
        case hy4 => (intro W hSw; go_simp; try (with_reducible rfl))
        try simp only [Act.put, List.setIfInBounds_toArray, List.set_cons_zero, List.set_cons_succ]
        refine' wpAnyD_take (i := 5) (oi := { dst := some 26, op := Go.Op.fieldAddr 39 (Go.Operand.tmp 25) 3, type := 0, pos := "law.go:75", after := #[{ on := 4, ground := Go.Ground.data }], guard := none }) (v := _) rfl (by kernel_rfl) (by kernel_rfl) (by kernel_rfl) (fun _ _ _ h => h) (by kernel_rfl) (Or.inl ⟨by rfl, ?hy5⟩) BD.out ?rest5
        case hy5 => (intro W hSw; go_simp; try (with_reducible rfl))
        try simp only [Act.put, List.setIfInBounds_toArray, List.set_cons_zero, List.set_cons_succ]
        refine' wpAnyD_take (i := 6) (oi := { dst := some 27, op := Go.Op.load 33 (Go.Operand.tmp 26), type := 33, pos := "law.go:75", after := #[{ on := 5, ground := Go.Ground.data }], guard := none }) (v := _) rfl (by kernel_rfl) (by kernel_rfl) (by kernel_rfl) (fun _ _ _ h => h) (by kernel_rfl) (Or.inl ⟨by rfl, ?hy6⟩) BD.out ?rest6
        case hy6 => (intro W hSw; obtain ⟨r3, r8, rl⟩ := XR.out W (P0.out.1.trans (hSw.mono HZ5.out)); go_simp; try (with_reducible rfl))
        try simp only [Act.put, List.setIfInBounds_toArray, List.set_cons_zero, List.set_cons_succ]
        refine' wpAnyD_take (i := 8) (oi := { dst := some 29, op := Go.Op.build 72 #[(0, Go.Operand.const (Go.Value.int Go.IntKind.i64 777))], type := 72, pos := "law.go:75", after := #[], guard := none }) (v := _) rfl (by kernel_rfl) (by kernel_rfl) (by kernel_rfl) (fun _ _ _ h => h) (by kernel_rfl) (Or.inl ⟨by rfl, ?hy7⟩) BD.out ?rest7
        case hy7 => (intro W hSw; go_simp; try (with_reducible rfl))
        try simp only [Act.put, List.setIfInBounds_toArray, List.set_cons_zero, List.set_cons_succ]
        refine' wpAnyD_take (i := 11) (oi := { dst := some 32, op := Go.Op.fieldAddr 39 (Go.Operand.tmp 5) 3, type := 0, pos := "law.go:75", after := #[], guard := none }) (v := _) rfl (by kernel_rfl) (by kernel_rfl) (by kernel_rfl) (fun _ _ _ h => h) (by kernel_rfl) (Or.inl ⟨by rfl, ?hy8⟩) BD.out ?rest8
        case hy8 => (intro W hSw; go_simp; try (with_reducible rfl))
        try simp only [Act.put, List.setIfInBounds_toArray, List.set_cons_zero, List.set_cons_succ]
        refine' wpAnyD_take (i := 12) (oi := { dst := some 33, op := Go.Op.load 33 (Go.Operand.tmp 32), type := 33, pos := "law.go:75", after := #[{ on := 11, ground := Go.Ground.data }], guard := none }) (v := _) rfl (by kernel_rfl) (by kernel_rfl) (by kernel_rfl) (fun _ _ _ h => h) (by kernel_rfl) (Or.inl ⟨by rfl, ?hy9⟩) BD.out ?rest9
        case hy9 => (intro W hSw; have hb := (hSw.block _ (tk_lt P0.out.2.1)).trans P0.out.2.1; have hc := (tk_store hb).1 3; have hl := tk_lt hb; go_simp; try (with_reducible rfl))
        try simp only [Act.put, List.setIfInBounds_toArray, List.set_cons_zero, List.set_cons_succ]
        refine' wpAnyD_take (i := 13) (oi := { dst := some 34, op := Go.Op.call { callee := Go.Callee.builtin Go.Builtin.len, args := #[Go.Operand.tmp 33], argTypes := #[33] }, type := 3, pos := "law.go:75", after := #[{ on := 12, ground := Go.Ground.data }], guard := none }) (v := _) rfl (by kernel_rfl) (by kernel_rfl) (by kernel_rfl) (fun _ _ _ h => h) (by kernel_rfl) (Or.inl ⟨by rfl, ?hy10⟩) BD.out ?rest10
        case hy10 => (intro W hSw; go_simp; try (with_reducible rfl))
        try simp only [Act.put, List.setIfInBounds_toArray, List.set_cons_zero, List.set_cons_succ]
        refine wpAnyD_two (i := 0) (j := 9) (oi := { dst := some 21, op := Go.Op.buildSlice 33 0 #[], type := 33, pos := "law.go:75", after := #[], guard := none }) (oj := { dst := some 30, op := Go.Op.buildSlice 33 1 #[(0, Go.Operand.tmp 29)], type := 33, pos := "law.go:75", after := #[{ on := 8, ground := Go.Ground.data }], guard := none }) (by kernel_rfl) rfl rfl (fun K hK => ?_) (fun K hK => ?_)
        · go_simp
          have g11 := (Gr.refl Wd).alloc (.cells #[] 72)
          have a11 := heap_new' Wd (.cells #[] 72)
          obtain ⟨b11, hb11⟩ : ∃ b, b = Wd.heap.size := ⟨_, rfl⟩
          obtain ⟨V11, hV11⟩ : ∃ V, V = Wd.alloc (.cells #[] 72) := ⟨_, rfl⟩
          rw [← hV11, ← hb11]
          rw [← hV11] at g11 a11
          have B11 := hid (BD.out.trans (g11.below.mono BD.out.size))
          have O11 : Hid (V11.ownsRow W5.heap.size 72 2 (.slice (some ⟨b11, 0, none⟩) 0 0) 0 []) := by
            rw [hV11, hb11]
            exact World.ownsRow_made Wd #[] 0 BD.out.size (Nat.zero_le _) rfl
          clear g11 a11 hV11 hb11
          refine hK.out _ _ (fun hD => B11.out) ?_
          clear hK K
          try simp only [Act.put, List.setIfInBounds_toArray, List.set_cons_zero, List.set_cons_succ]
          refine wpAnyD_two (i := 7) (j := 9) (oi := { dst := some 28, op := Go.Op.call { callee := Go.Callee.builtin Go.Builtin.append, args := #[Go.Operand.tmp 21, Go.Operand.tmp 27], argTypes := #[33, 33] }, type := 33, pos := "law.go:75", after := #[{ on := 0, ground := Go.Ground.data }, { on := 6, ground := Go.Ground.data }], guard := none }) (oj := { dst := some 30, op := Go.Op.buildSlice 33 1 #[(0, Go.Operand.tmp 29)], type := 33, pos := "law.go:75", after := #[{ on := 8, ground := Go.Ground.data }], guard := none }) (by kernel_rfl) rfl rfl (fun K hK => ?_) (fun K hK => ?_)
          · refine step_appZ EO Try.underlying33 infoO rfl (by decide) rfl _ _ rfl W5.heap.size (.slice (some ⟨b11, 0, none⟩) 0 0) 0 [] rfl O11.out B11.out.size w.heap.size (.slice cq cm cc) cd rfl (LC.out.below B11.out) (by have := HSZ.out; omega) (by have := HSZ.out; unfold maxLen; omega) ?_
            intro v12 w12 h12 k12
            have K12 := hid (Kp.grownBy (S := fun k => ((.slice (some ⟨b11, 0, none⟩) 0 0) : Value).ownBlock = some k) k12.out (fun _ h => h))
            have B12 := hid (B11.out.trans (K12.out.below B11.out.size (fun k hk => (owns_rd O11.out k hk).1)))
            have O12 : Hid (w12.ownsRow W5.heap.size 72 2 v12 cd.length (fl EO cd)) := owns_re h12.out (by simp) (by simp)
            clear h12 k12
            refine hK.out _ _ (fun hD => B12.out) ?_
            clear hK K
            try simp only [Act.put, List.setIfInBounds_toArray, List.set_cons_zero, List.set_cons_succ]
            refine wpAnyD_one (i := 9) (o := { dst := some 30, op := Go.Op.buildSlice 33 1 #[(0, Go.Operand.tmp 29)], type := 33, pos := "law.go:75", after := #[{ on := 8, ground := Go.Ground.data }], guard := none }) (by kernel_rfl) rfl (fun K hK => ?_)
            go_simp
            have g13 := (Gr.refl w12).alloc (.cells #[.int .i64 777, .int .u64 0] 72)
            have a13 := heap_new' w12 (.cells #[.int .i64 777, .int .u64 0] 72)
            obtain ⟨b13, hb13⟩ : ∃ b, b = w12.heap.size := ⟨_, rfl⟩
            obtain ⟨V13, hV13⟩ : ∃ V, V = w12.alloc (.cells #[.int .i64 777, .int .u64 0] 72) := ⟨_, rfl⟩
            rw [← hV13, ← hb13]
            rw [← hV13] at g13 a13
            have B13 := hid (B12.out.trans (g13.below.mono B12.out.size))
            have M13 : Hid (V13.heap[b13]? = some (.cells #[.int .i64 777, .int .u64 0] 72 (0, 0))) := by
              show _ = _
              rw [hb13]
              exact a13
            have O13 := hid (owns_below O12.out g13.below)
            have N13 : Hid (∀ k, (v12 : Value).ownBlock = some k → k ≠ b13) := fun k hk e => by
              have h1 := (owns_rd O12.out k hk).2
              omega
            clear g13 a13 hV13 hb13
            refine hK.out _ _ (fun hD => B13.out) ?_
            clear hK K
            try simp only [Act.put, List.setIfInBounds_toArray, List.set_cons_zero, List.set_cons_succ]
            refine wpAnyD_one (i := 10) (o := { dst := some 31, op := Go.Op.call { callee := Go.Callee.builtin Go.Builtin.append, args := #[Go.Operand.tmp 28, Go.Operand.tmp 30], argTypes := #[33, 33] }, type := 33, pos := "law.go:75", after := #[{ on := 7, ground := Go.Ground.data }, { on := 9, ground := Go.Ground.data }, { on := 7, ground := Go.Ground.chain }], guard := none }) (by kernel_rfl) rfl (fun K hK => ?_)
            refine step_appL EO Try.underlying33 infoO rfl (by decide) rfl _ _ rfl W5.heap.size v12 cd.length (fl EO cd) rfl O13.out B13.out.size (.slice (some ⟨b13, 0, none⟩) 1 1) [mO] rfl (one_ls M13.out rfl) (by have := HSZ.out; simp; omega) (by have := HSZ.out; unfold maxLen; simp; omega) ?_
            intro v14 w14 h14 k14
            have K14 := hid (Kp.grownBy (S := fun k => (v12 : Value).ownBlock = some k) k14.out (fun _ h => h))
            have B14 := hid (B13.out.trans (K14.out.below B13.out.size (fun k hk => (owns_rd O13.out k hk).1)))
            have O14 : Hid (w14.ownsRow W5.heap.size 72 2 v14 (cd.length + 1) (fl EO (cd ++ [mO]))) := owns_re h14.out (by simp) (by rw [fl_append])
            obtain ⟨g14, cap14, hv14, hc14, MK14⟩ := mk_of O14.out
            subst hv14
            have HM14 := hid MK14
            have GL14 := hid ((owns_rd O14.out g14 rfl).1)
            have q0 : (0 : Int) ≤ (cm : Int) := by omega
            have q1 : (cm : Int) ≤ (cap14 : Int) := by have := HCM.out; omega
            have q2 : cd.length + 1 = cm + 1 := by have := HCM.out; omega
            rw [q2]
            clear h14 k14 MK14 hc14 q2
            refine hK.out _ _ (fun hD => B14.out) ?_
            clear hK K
            try simp only [Act.put, List.setIfInBounds_toArray, List.set_cons_zero, List.set_cons_succ]
            refine' wpAnyD_take (i := 14) (oi := { dst := some 35, op := Go.Op.slice 33 (Go.Operand.tmp 31) none (some (Go.Operand.tmp 34)) none, type := 33, pos := "law.go:75", after := #[{ on := 10, ground := Go.Ground.data }, { on := 13, ground := Go.Ground.data }], guard := none }) (v := _) rfl (by kernel_rfl) (by kernel_rfl) (by kernel_rfl) (fun _ _ _ h => h) (by kernel_rfl) (Or.inl ⟨by rfl, ?hy15⟩) B14.out ?rest15
            case hy15 => (intro W hSw; go_simp; try (with_reducible rfl))
            try simp only [Act.put, List.setIfInBounds_toArray, List.set_cons_zero, List.set_cons_succ]
            refine' wpAnyD_take (i := 15) (oi := { dst := some 36, op := Go.Op.fieldAddr 39 (Go.Operand.tmp 5) 3, type := 0, pos := "law.go:75", after := #[{ on := 0, ground := Go.Ground.phase }, { on := 1, ground := Go.Ground.phase }, { on := 2, ground := Go.Ground.phase }, { on := 3, ground := Go.Ground.phase }, { on := 4, ground := Go.Ground.phase }, { on := 5, ground := Go.Ground.phase }, { on := 6, ground := Go.Ground.phase }, { on := 7, ground := Go.Ground.phase }, { on := 8, ground := Go.Ground.phase }, { on := 9, ground := Go.Ground.phase }, { on := 10, ground := Go.Ground.phase }, { on := 11, ground := Go.Ground.phase }, { on := 12, ground := Go.Ground.phase }, { on := 13, ground := Go.Ground.phase }, { on := 14, ground := Go.Ground.phase }], guard := none }) (v := _) rfl (by kernel_rfl) (by kernel_rfl) (by kernel_rfl) (fun _ _ _ h => h) (by kernel_rfl) (Or.inl ⟨by rfl, ?hy16⟩) B14.out ?rest16
            case hy16 => (intro W hSw; go_simp; try (with_reducible rfl))
            try simp only [Act.put, List.setIfInBounds_toArray, List.set_cons_zero, List.set_cons_succ]
            refine wpAnyD_one (i := 16) (o := { dst := none, op := Go.Op.store 33 (Go.Operand.tmp 36) (Go.Operand.tmp 35), type := 0, pos := "law.go:75", after := #[{ on := 15, ground := Go.Ground.data }, { on := 14, ground := Go.Ground.data }, { on := 10, ground := Go.Ground.chain }, { on := 0, ground := Go.Ground.phase }, { on := 1, ground := Go.Ground.phase }, { on := 2, ground := Go.Ground.phase }, { on := 3, ground := Go.Ground.phase }, { on := 4, ground := Go.Ground.phase }, { on := 5, ground := Go.Ground.phase }, { on := 6, ground := Go.Ground.phase }, { on := 7, ground := Go.Ground.phase }, { on := 8, ground := Go.Ground.phase }, { on := 9, ground := Go.Ground.phase }, { on := 10, ground := Go.Ground.phase }, { on := 11, ground := Go.Ground.phase }, { on := 12, ground := Go.Ground.phase }, { on := 13, ground := Go.Ground.phase }, { on := 14, ground := Go.Ground.phase }], guard := none }) (by kernel_rfl) rfl (fun K hK => ?_)
            have p6 := (B14.out.block _ (tk_lt P0.out.2.1)).trans P0.out.2.1
            have p5 := (B14.out.block _ (tk_lt P0.out.2.2)).trans P0.out.2.2
            have en := (tk_store p6).1
            have en2 := (tk_store p6).2
            have en3 := tk_lt p6
            have s12 := tk_set p6 3 (.slice (some ⟨g14, 0, none⟩) cm cap14)
            have hz5 := tk_lt P0.out.2.1
            have hzw := HI.out.1.bl.size
            have hzl := tk_lt HI.out.1.h1
            have FIN : Hid (Below nb wr (w14.setCell ⟨nb, 3, none⟩ (.slice (some ⟨g14, 0, none⟩) cm cap14)) ∧ (w14.setCell ⟨nb, 3, none⟩ (.slice (some ⟨g14, 0, none⟩) cm cap14)).heap[nb]? = some (.cells (ncells yk yi yo (.slice (some ⟨g14, 0, none⟩) cm cap14) via bd (.slice dq dm dc) st) 39 (0, 0)) ∧ (w14.setCell ⟨nb, 3, none⟩ (.slice (some ⟨g14, 0, none⟩) cm cap14)).heap[w.heap.size]? = some (.cells (gvc a (.slice (some ⟨b1, o1, none⟩) nl cn) (.slice pe el ce)) 25 (0, 0)) ∧ Mk EO 72 (w14.setCell ⟨nb, 3, none⟩ (.slice (some ⟨g14, 0, none⟩) cm cap14)) (.slice (some ⟨g14, 0, none⟩) cm cap14) cd mO ∧ nb < g14) := by
              have h1 := B14.out.mono (show nb ≤ W5.heap.size by omega)
              have h2 := h1.trans (s12.2.below (Nat.le_trans (by omega) h1.size) (fun k e => by omega))
              have hg := GL14.out
              have h3 := HM14.out
              have hn := HNB.out
              rw [← HCM.out] at h3
              exact ⟨P0.out.1.trans h2, s12.1, (s12.2.block _ (tk_lt p5) (by omega)).trans p5, h3.kp s12.2 (fun k e e2 => by simp [Value.ownBlock] at e; omega), by omega⟩
            clear p6 p5 s12 hz5 hzw hzl
            go_simp
            refine hK.out _ _ (fun hD => absurd (by decide) hD) ?_
            clear hK K
            try simp only [Act.put, List.setIfInBounds_toArray, List.set_cons_zero, List.set_cons_succ]
            refine wpAnyD_done (by kernel_rfl) ?_ _
            go_wp2_with fail
            go_meet
            exact ⟨g14, cap14, FIN.out⟩
          · go_simp
            have g17 := (Gr.refl V11).alloc (.cells #[.int .i64 777, .int .u64 0] 72)
            have a17 := heap_new' V11 (.cells #[.int .i64 777, .int .u64 0] 72)
            obtain ⟨b17, hb17⟩ : ∃ b, b = V11.heap.size := ⟨_, rfl⟩
            obtain ⟨V17, hV17⟩ : ∃ V, V = V11.alloc (.cells #[.int .i64 777, .int .u64 0] 72) := ⟨_, rfl⟩
            rw [← hV17, ← hb17]
            rw [← hV17] at g17 a17
            have B17 := hid (B11.out.trans (g17.below.mono B11.out.size))
            have M17 : Hid (V17.heap[b17]? = some (.cells #[.int .i64 777, .int .u64 0] 72 (0, 0))) := by
              show _ = _
              rw [hb17]
              exact a17
            have O17 := hid (owns_below O11.out g17.below)
            have N17 : Hid (∀ k, ((.slice (some ⟨b11, 0, none⟩) 0 0) : Value).ownBlock = some k → k ≠ b17) := fun k hk e => by
              have h1 := (owns_rd O11.out k hk).2
              omega
            clear g17 a17 hV17 hb17
            refine hK.out _ _ (fun hD => B17.out) ?_
            clear hK K
            try simp only [Act.put, List.setIfInBounds_toArray, List.set_cons_zero, List.set_cons_succ]
            refine wpAnyD_one (i := 7) (o := { dst := some 28, op := Go.Op.call { callee := Go.Callee.builtin Go.Builtin.append, args := #[Go.Operand.tmp 21, Go.Operand.tmp 27], argTypes := #[33, 33] }, type := 33, pos := "law.go:75", after := #[{ on := 0, ground := Go.Ground.data }, { on := 6, ground := Go.Ground.data }], guard := none }) (by kernel_rfl) rfl (fun K hK => ?_)
            refine step_appZ EO Try.underlying33 infoO rfl (by decide) rfl _ _ rfl W5.heap.size (.slice (some ⟨b11, 0, none⟩) 0 0) 0 [] rfl O17.out B17.out.size w.heap.size (.slice cq cm cc) cd rfl (LC.out.below B17.out) (by have := HSZ.out; omega) (by have := HSZ.out; unfold maxLen; omega) ?_
            intro v18 w18 h18 k18
            have K18 := hid (Kp.grownBy (S := fun k => ((.slice (some ⟨b11, 0, none⟩) 0 0) : Value).ownBlock = some k) k18.out (fun _ h => h))
            have B18 := hid (B17.out.trans (K18.out.below B17.out.size (fun k hk => (owns_rd O17.out k hk).1)))
            have O18 : Hid (w18.ownsRow W5.heap.size 72 2 v18 cd.length (fl EO cd)) := owns_re h18.out (by simp) (by simp)
            have M18 := hid ((K18.out.block _ (tk_lt M17.out) (fun e => N17.out _ e rfl)).trans M17.out)
            clear h18 k18
            refine hK.out _ _ (fun hD => B18.out) ?_
            clear hK K
            try simp only [Act.put, List.setIfInBounds_toArray, List.set_cons_zero, List.set_cons_succ]
            refine wpAnyD_one (i := 10) (o := { dst := some 31, op := Go.Op.call { callee := Go.Callee.builtin Go.Builtin.append, args := #[Go.Operand.tmp 28, Go.Operand.tmp 30], argTypes := #[33, 33] }, type := 33, pos := "law.go:75", after := #[{ on := 7, ground := Go.Ground.data }, { on := 9, ground := Go.Ground.data }, { on := 7, ground := Go.Ground.chain }], guard := none }) (by kernel_rfl) rfl (fun K hK => ?_)
            refine step_appL EO Try.underlying33 infoO rfl (by decide) rfl _ _ rfl W5.heap.size v18 cd.length (fl EO cd) rfl O18.out B18.out.size (.slice (some ⟨b17, 0, none⟩) 1 1) [mO] rfl (one_ls M18.out rfl) (by have := HSZ.out; simp; omega) (by have := HSZ.out; unfold maxLen; simp; omega) ?_
            intro v19 w19 h19 k19
            have K19 := hid (Kp.grownBy (S := fun k => (v18 : Value).ownBlock = some k) k19.out (fun _ h => h))
            have B19 := hid (B18.out.trans (K19.out.below B18.out.size (fun k hk => (owns_rd O18.out k hk).1)))
            have O19 : Hid (w19.ownsRow W5.heap.size 72 2 v19 (cd.length + 1) (fl EO (cd ++ [mO]))) := owns_re h19.out (by simp) (by rw [fl_append])
            obtain ⟨g19, cap19, hv19, hc19, MK19⟩ := mk_of O19.out
            subst hv19
            have HM19 := hid MK19
            have GL19 := hid ((owns_rd O19.out g19 rfl).1)
            have q0 : (0 : Int) ≤ (cm : Int) := by omega
            have q1 : (cm : Int) ≤ (cap19 : Int) := by have := HCM.out; omega
            have q2 : cd.length + 1 = cm + 1 := by have := HCM.out; omega
            rw [q2]
            clear h19 k19 MK19 hc19 q2
            refine hK.out _ _ (fun hD => B19.out) ?_
            clear hK K
            try simp only [Act.put, List.setIfInBounds_toArray, List.set_cons_zero, List.set_cons_succ]
            refine' wpAnyD_take (i := 14) (oi := { dst := some 35, op := Go.Op.slice 33 (Go.Operand.tmp 31) none (some (Go.Operand.tmp 34)) none, type := 33, pos := "law.go:75", after := #[{ on := 10, ground := Go.Ground.data }, { on := 13, ground := Go.Ground.data }], guard := none }) (v := _) rfl (by kernel_rfl) (by kernel_rfl) (by kernel_rfl) (fun _ _ _ h => h) (by kernel_rfl) (Or.inl ⟨by rfl, ?hy20⟩) B19.out ?rest20
            case hy20 => (intro W hSw; go_simp; try (with_reducible rfl))
            try simp only [Act.put, List.setIfInBounds_toArray, List.set_cons_zero, List.set_cons_succ]
            refine' wpAnyD_take (i := 15) (oi := { dst := some 36, op := Go.Op.fieldAddr 39 (Go.Operand.tmp 5) 3, type := 0, pos := "law.go:75", after := #[{ on := 0, ground := Go.Ground.phase }, { on := 1, ground := Go.Ground.phase }, { on := 2, ground := Go.Ground.phase }, { on := 3, ground := Go.Ground.phase }, { on := 4, ground := Go.Ground.phase }, { on := 5, ground := Go.Ground.phase }, { on := 6, ground := Go.Ground.phase }, { on := 7, ground := Go.Ground.phase }, { on := 8, ground := Go.Ground.phase }, { on := 9, ground := Go.Ground.phase }, { on := 10, ground := Go.Ground.phase }, { on := 11, ground := Go.Ground.phase }, { on := 12, ground := Go.Ground.phase }, { on := 13, ground := Go.Ground.phase }, { on := 14, ground := Go.Ground.phase }], guard := none }) (v := _) rfl (by kernel_rfl) (by kernel_rfl) (by kernel_rfl) (fun _ _ _ h => h) (by kernel_rfl) (Or.inl ⟨by rfl, ?hy21⟩) B19.out ?rest21
            case hy21 => (intro W hSw; go_simp; try (with_reducible rfl))
            try simp only [Act.put, List.setIfInBounds_toArray, List.set_cons_zero, List.set_cons_succ]
            refine wpAnyD_one (i := 16) (o := { dst := none, op := Go.Op.store 33 (Go.Operand.tmp 36) (Go.Operand.tmp 35), type := 0, pos := "law.go:75", after := #[{ on := 15, ground := Go.Ground.data }, { on := 14, ground := Go.Ground.data }, { on := 10, ground := Go.Ground.chain }, { on := 0, ground := Go.Ground.phase }, { on := 1, ground := Go.Ground.phase }, { on := 2, ground := Go.Ground.phase }, { on := 3, ground := Go.Ground.phase }, { on := 4, ground := Go.Ground.phase }, { on := 5, ground := Go.Ground.phase }, { on := 6, ground := Go.Ground.phase }, { on := 7, ground := Go.Ground.phase }, { on := 8, ground := Go.Ground.phase }, { on := 9, ground := Go.Ground.phase }, { on := 10, ground := Go.Ground.phase }, { on := 11, ground := Go.Ground.phase }, { on := 12, ground := Go.Ground.phase }, { on := 13, ground := Go.Ground.phase }, { on := 14, ground := Go.Ground.phase }], guard := none }) (by kernel_rfl) rfl (fun K hK => ?_)
            have p6 := (B19.out.block _ (tk_lt P0.out.2.1)).trans P0.out.2.1
            have p5 := (B19.out.block _ (tk_lt P0.out.2.2)).trans P0.out.2.2
            have en := (tk_store p6).1
            have en2 := (tk_store p6).2
            have en3 := tk_lt p6
            have s12 := tk_set p6 3 (.slice (some ⟨g19, 0, none⟩) cm cap19)
            have hz5 := tk_lt P0.out.2.1
            have hzw := HI.out.1.bl.size
            have hzl := tk_lt HI.out.1.h1
            have FIN : Hid (Below nb wr (w19.setCell ⟨nb, 3, none⟩ (.slice (some ⟨g19, 0, none⟩) cm cap19)) ∧ (w19.setCell ⟨nb, 3, none⟩ (.slice (some ⟨g19, 0, none⟩) cm cap19)).heap[nb]? = some (.cells (ncells yk yi yo (.slice (some ⟨g19, 0, none⟩) cm cap19) via bd (.slice dq dm dc) st) 39 (0, 0)) ∧ (w19.setCell ⟨nb, 3, none⟩ (.slice (some ⟨g19, 0, none⟩) cm cap19)).heap[w.heap.size]? = some (.cells (gvc a (.slice (some ⟨b1, o1, none⟩) nl cn) (.slice pe el ce)) 25 (0, 0)) ∧ Mk EO 72 (w19.setCell ⟨nb, 3, none⟩ (.slice (some ⟨g19, 0, none⟩) cm cap19)) (.slice (some ⟨g19, 0, none⟩) cm cap19) cd mO ∧ nb < g19) := by
              have h1 := B19.out.mono (show nb ≤ W5.heap.size by omega)
              have h2 := h1.trans (s12.2.below (Nat.le_trans (by omega) h1.size) (fun k e => by omega))
              have hg := GL19.out
              have h3 := HM19.out
              have hn := HNB.out
              rw [← HCM.out] at h3
              exact ⟨P0.out.1.trans h2, s12.1, (s12.2.block _ (tk_lt p5) (by omega)).trans p5, h3.kp s12.2 (fun k e e2 => by simp [Value.ownBlock] at e; omega), by omega⟩
            clear p6 p5 s12 hz5 hzw hzl
            go_simp
            refine hK.out _ _ (fun hD => absurd (by decide) hD) ?_
            clear hK K
            try simp only [Act.put, List.setIfInBounds_toArray, List.set_cons_zero, List.set_cons_succ]
            refine wpAnyD_done (by kernel_rfl) ?_ _
            go_wp2_with fail
            go_meet
            exact ⟨g19, cap19, FIN.out⟩
        · go_simp
          have g22 := (Gr.refl Wd).alloc (.cells #[.int .i64 777, .int .u64 0] 72)
          have a22 := heap_new' Wd (.cells #[.int .i64 777, .int .u64 0] 72)
          obtain ⟨b22, hb22⟩ : ∃ b, b = Wd.heap.size := ⟨_, rfl⟩
          obtain ⟨V22, hV22⟩ : ∃ V, V = Wd.alloc (.cells #[.int .i64 777, .int .u64 0] 72) := ⟨_, rfl⟩
          rw [← hV22, ← hb22]
          rw [← hV22] at g22 a22
          have B22 := hid (BD.out.trans (g22.below.mono BD.out.size))
          have M22 : Hid (V22.heap[b22]? = some (.cells #[.int .i64 777, .int .u64 0] 72 (0, 0))) := by
            show _ = _
            rw [hb22]
            exact a22
          clear g22 a22 hV22 hb22
          refine hK.out _ _ (fun hD => B22.out) ?_
          clear hK K
          try simp only [Act.put, List.setIfInBounds_toArray, List.set_cons_zero, List.set_cons_succ]
          refine wpAnyD_one (i := 0) (o := { dst := some 21, op := Go.Op.buildSlice 33 0 #[], type := 33, pos := "law.go:75", after := #[], guard := none }) (by kernel_rfl) rfl (fun K hK => ?_)
          go_simp
          have g23 := (Gr.refl V22).alloc (.cells #[] 72)
          have a23 := heap_new' V22 (.cells #[] 72)
          obtain ⟨b23, hb23⟩ : ∃ b, b = V22.heap.size := ⟨_, rfl⟩
          obtain ⟨V23, hV23⟩ : ∃ V, V = V22.alloc (.cells #[] 72) := ⟨_, rfl⟩
          rw [← hV23, ← hb23]
          rw [← hV23] at g23 a23
          have B23 := hid (B22.out.trans (g23.below.mono B22.out.size))
          have O23 : Hid (V23.ownsRow W5.heap.size 72 2 (.slice (some ⟨b23, 0, none⟩) 0 0) 0 []) := by
            rw [hV23, hb23]
            exact World.ownsRow_made V22 #[] 0 B22.out.size (Nat.zero_le _) rfl
          have M23 := hid ((g23.below.block _ (tk_lt M22.out)).trans M22.out)
          have N23 : Hid (∀ k, (Value.slice (some ⟨b23, 0, none⟩) 0 0).ownBlock = some k → k ≠ b22) := fun k hk e => by
            have h1 := tk_lt M22.out
            simp [Value.ownBlock] at hk
            omega
          clear g23 a23 hV23 hb23
          refine hK.out _ _ (fun hD => B23.out) ?_
          clear hK K
          try simp only [Act.put, List.setIfInBounds_toArray, List.set_cons_zero, List.set_cons_succ]
          refine wpAnyD_one (i := 7) (o := { dst := some 28, op := Go.Op.call { callee := Go.Callee.builtin Go.Builtin.append, args := #[Go.Operand.tmp 21, Go.Operand.tmp 27], argTypes := #[33, 33] }, type := 33, pos := "law.go:75", after := #[{ on := 0, ground := Go.Ground.data }, { on := 6, ground := Go.Ground.data }], guard := none }) (by kernel_rfl) rfl (fun K hK => ?_)
          refine step_appZ EO Try.underlying33 infoO rfl (by decide) rfl _ _ rfl W5.heap.size (.slice (some ⟨b23, 0, none⟩) 0 0) 0 [] rfl O23.out B23.out.size w.heap.size (.slice cq cm cc) cd rfl (LC.out.below B23.out) (by have := HSZ.out; omega) (by have := HSZ.out; unfold maxLen; omega) ?_
          intro v24 w24 h24 k24
          have K24 := hid (Kp.grownBy (S := fun k => ((.slice (some ⟨b23, 0, none⟩) 0 0) : Value).ownBlock = some k) k24.out (fun _ h => h))
          have B24 := hid (B23.out.trans (K24.out.below B23.out.size (fun k hk => (owns_rd O23.out k hk).1)))
          have O24 : Hid (w24.ownsRow W5.heap.size 72 2 v24 cd.length (fl EO cd)) := owns_re h24.out (by simp) (by simp)
          have M24 := hid ((K24.out.block _ (tk_lt M23.out) (fun e => N23.out _ e rfl)).trans M23.out)
          clear h24 k24
          refine hK.out _ _ (fun hD => B24.out) ?_
          clear hK K
          try simp only [Act.put, List.setIfInBounds_toArray, List.set_cons_zero, List.set_cons_succ]
          refine wpAnyD_one (i := 10) (o := { dst := some 31, op := Go.Op.call { callee := Go.Callee.builtin Go.Builtin.append, args := #[Go.Operand.tmp 28, Go.Operand.tmp 30], argTypes := #[33, 33] }, type := 33, pos := "law.go:75", after := #[{ on := 7, ground := Go.Ground.data }, { on := 9, ground := Go.Ground.data }, { on := 7, ground := Go.Ground.chain }], guard := none }) (by kernel_rfl) rfl (fun K hK => ?_)
          refine step_appL EO Try.underlying33 infoO rfl (by decide) rfl _ _ rfl W5.heap.size v24 cd.length (fl EO cd) rfl O24.out B24.out.size (.slice (some ⟨b22, 0, none⟩) 1 1) [mO] rfl (one_ls M24.out rfl) (by have := HSZ.out; simp; omega) (by have := HSZ.out; unfold maxLen; simp; omega) ?_
          intro v25 w25 h25 k25
          have K25 := hid (Kp.grownBy (S := fun k => (v24 : Value).ownBlock = some k) k25.out (fun _ h => h))
          have B25 := hid (B24.out.trans (K25.out.below B24.out.size (fun k hk => (owns_rd O24.out k hk).1)))
          have O25 : Hid (w25.ownsRow W5.heap.size 72 2 v25 (cd.length + 1) (fl EO (cd ++ [mO]))) := owns_re h25.out (by simp) (by rw [fl_append])
          obtain ⟨g25, cap25, hv25, hc25, MK25⟩ := mk_of O25.out
          subst hv25
          have HM25 := hid MK25
          have GL25 := hid ((owns_rd O25.out g25 rfl).1)
          have q0 : (0 : Int) ≤ (cm : Int) := by omega
          have q1 : (cm : Int) ≤ (cap25 : Int) := by have := HCM.out; omega
          have q2 : cd.length + 1 = cm + 1 := by have := HCM.out; omega
          rw [q2]
          clear h25 k25 MK25 hc25 q2
          refine hK.out _ _ (fun hD => B25.out) ?_
          clear hK K
          try simp only [Act.put, List.setIfInBounds_toArray, List.set_cons_zero, List.set_cons_succ]
          refine' wpAnyD_take (i := 14) (oi := { dst := some 35, op := Go.Op.slice 33 (Go.Operand.tmp 31) none (some (Go.Operand.tmp 34)) none, type := 33, pos := "law.go:75", after := #[{ on := 10, ground := Go.Ground.data }, { on := 13, ground := Go.Ground.data }], guard := none }) (v := _) rfl (by kernel_rfl) (by kernel_rfl) (by kernel_rfl) (fun _ _ _ h => h) (by kernel_rfl) (Or.inl ⟨by rfl, ?hy26⟩) B25.out ?rest26
          case hy26 => (intro W hSw; go_simp; try (with_reducible rfl))
          try simp only [Act.put, List.setIfInBounds_toArray, List.set_cons_zero, List.set_cons_succ]
          refine' wpAnyD_take (i := 15) (oi := { dst := some 36, op := Go.Op.fieldAddr 39 (Go.Operand.tmp 5) 3, type := 0, pos := "law.go:75", after := #[{ on := 0, ground := Go.Ground.phase }, { on := 1, ground := Go.Ground.phase }, { on := 2, ground := Go.Ground.phase }, { on := 3, ground := Go.Ground.phase }, { on := 4, ground := Go.Ground.phase }, { on := 5, ground := Go.Ground.phase }, { on := 6, ground := Go.Ground.phase }, { on := 7, ground := Go.Ground.phase }, { on := 8, ground := Go.Ground.phase }, { on := 9, ground := Go.Ground.phase }, { on := 10, ground := Go.Ground.phase }, { on := 11, ground := Go.Ground.phase }, { on := 12, ground := Go.Ground.phase }, { on := 13, ground := Go.Ground.phase }, { on := 14, ground := Go.Ground.phase }], guard := none }) (v := _) rfl (by kernel_rfl) (by kernel_rfl) (by kernel_rfl) (fun _ _ _ h => h) (by kernel_rfl) (Or.inl ⟨by rfl, ?hy27⟩) B25.out ?rest27
          case hy27 => (intro W hSw; go_simp; try (with_reducible rfl))
          try simp only [Act.put, List.setIfInBounds_toArray, List.set_cons_zero, List.set_cons_succ]
          refine wpAnyD_one (i := 16) (o := { dst := none, op := Go.Op.store 33 (Go.Operand.tmp 36) (Go.Operand.tmp 35), type := 0, pos := "law.go:75", after := #[{ on := 15, ground := Go.Ground.data }, { on := 14, ground := Go.Ground.data }, { on := 10, ground := Go.Ground.chain }, { on := 0, ground := Go.Ground.phase }, { on := 1, ground := Go.Ground.phase }, { on := 2, ground := Go.Ground.phase }, { on := 3, ground := Go.Ground.phase }, { on := 4, ground := Go.Ground.phase }, { on := 5, ground := Go.Ground.phase }, { on := 6, ground := Go.Ground.phase }, { on := 7, ground := Go.Ground.phase }, { on := 8, ground := Go.Ground.phase }, { on := 9, ground := Go.Ground.phase }, { on := 10, ground := Go.Ground.phase }, { on := 11, ground := Go.Ground.phase }, { on := 12, ground := Go.Ground.phase }, { on := 13, ground := Go.Ground.phase }, { on := 14, ground := Go.Ground.phase }], guard := none }) (by kernel_rfl) rfl (fun K hK => ?_)
          have p6 := (B25.out.block _ (tk_lt P0.out.2.1)).trans P0.out.2.1
          have p5 := (B25.out.block _ (tk_lt P0.out.2.2)).trans P0.out.2.2
          have en := (tk_store p6).1
          have en2 := (tk_store p6).2
          have en3 := tk_lt p6
          have s12 := tk_set p6 3 (.slice (some ⟨g25, 0, none⟩) cm cap25)
          have hz5 := tk_lt P0.out.2.1
          have hzw := HI.out.1.bl.size
          have hzl := tk_lt HI.out.1.h1
          have FIN : Hid (Below nb wr (w25.setCell ⟨nb, 3, none⟩ (.slice (some ⟨g25, 0, none⟩) cm cap25)) ∧ (w25.setCell ⟨nb, 3, none⟩ (.slice (some ⟨g25, 0, none⟩) cm cap25)).heap[nb]? = some (.cells (ncells yk yi yo (.slice (some ⟨g25, 0, none⟩) cm cap25) via bd (.slice dq dm dc) st) 39 (0, 0)) ∧ (w25.setCell ⟨nb, 3, none⟩ (.slice (some ⟨g25, 0, none⟩) cm cap25)).heap[w.heap.size]? = some (.cells (gvc a (.slice (some ⟨b1, o1, none⟩) nl cn) (.slice pe el ce)) 25 (0, 0)) ∧ Mk EO 72 (w25.setCell ⟨nb, 3, none⟩ (.slice (some ⟨g25, 0, none⟩) cm cap25)) (.slice (some ⟨g25, 0, none⟩) cm cap25) cd mO ∧ nb < g25) := by
            have h1 := B25.out.mono (show nb ≤ W5.heap.size by omega)
            have h2 := h1.trans (s12.2.below (Nat.le_trans (by omega) h1.size) (fun k e => by omega))
            have hg := GL25.out
            have h3 := HM25.out
            have hn := HNB.out
            rw [← HCM.out] at h3
            exact ⟨P0.out.1.trans h2, s12.1, (s12.2.block _ (tk_lt p5) (by omega)).trans p5, h3.kp s12.2 (fun k e e2 => by simp [Value.ownBlock] at e; omega), by omega⟩
          clear p6 p5 s12 hz5 hzw hzl
          go_simp
          refine hK.out _ _ (fun hD => absurd (by decide) hD) ?_
          clear hK K
          try simp only [Act.put, List.setIfInBounds_toArray, List.set_cons_zero, List.set_cons_succ]
          refine wpAnyD_done (by kernel_rfl) ?_ _
          go_wp2_with fail
          go_meet
          exact ⟨g25, cap25, FIN.out⟩
      case rest =>
        obtain ⟨g1, k1, HC⟩ := hcut
        have LC2 : Hid (Lz EC w.heap.size wc (.slice dq dm dc) cnn) := by
          have h1 := HI.out.1.bl
          have h2 := HC.out.1
          rw [HNB.out] at h2
          exact LC0.out.conns.below (h1.trans (h2.mono h1.size))
        clear LC
        go_upto_region 7 with fail
        go_cut [52] (fun _ w' => ∃ (g2 k2 : Nat), Hid (Below nb wr w' ∧ w'.heap[nb]? = some (.cells (ncells yk yi yo (.slice (some ⟨g1, 0, none⟩) cm k1) via bd (.slice (some ⟨g2, 0, none⟩) dm k2) st) 39 (0, 0)) ∧ Mk EO 72 w' (.slice (some ⟨g1, 0, none⟩) cm k1) cd mO ∧ Mk EC 64 w' (.slice (some ⟨g2, 0, none⟩) dm k2) cnn mC ∧ nb < g1 ∧ nb < g2))
        case first =>
          refine wp_regionD (S := fun W => Below wc.heap.size wc W) (D := [16]) hmx ?_
          have BD : Hid (Below wc.heap.size wc wc.drew) := (Gr.refl _).drew.below
          generalize wc.drew = Wd at BD ⊢
          have HZ6 : Hid (nb ≤ wc.heap.size) := by have := tk_lt HC.out.2.1; show nb ≤ _; omega
          have jz0 : (0 : Int) ≤ (j : Int) := by omega
          have jz1 : (j : Int) < (nl : Int) := by omega
          refine' wpAnyD_take (i := 1) (oi := { dst := some 38, op := Go.Op.fieldAddr 25 (Go.Operand.tmp 1) 1, type := 0, pos := "law.go:76", after := #[], guard := none }) (v := _) rfl (by kernel_rfl) (by kernel_rfl) (by kernel_rfl) (fun _ _ _ h => h) (by kernel_rfl) (Or.inl ⟨by rfl, ?hy28⟩) BD.out ?rest28
          case hy28 => (intro W hSw; go_simp; try (with_reducible rfl))
          try simp only [Act.put, List.setIfInBounds_toArray, List.set_cons_zero, List.set_cons_succ]
          refine' wpAnyD_take (i := 2) (oi := { dst := some 39, op := Go.Op.load 22 (Go.Operand.tmp 38), type := 22, pos := "law.go:76", after := #[{ on := 1, ground := Go.Ground.data }], guard := none }) (v := _) rfl (by kernel_rfl) (by kernel_rfl) (by kernel_rfl) (fun _ _ _ h => h) (by kernel_rfl) (Or.inl ⟨by rfl, ?hy29⟩) BD.out ?rest29
          case hy29 => (intro W hSw; have hb := (hSw.block _ (tk_lt HC.out.2.2.1)).trans HC.out.2.2.1; have hc := (tk_store hb).1 1; have hl := tk_lt hb; go_simp; try (with_reducible rfl))
          try simp only [Act.put, List.setIfInBounds_toArray, List.set_cons_zero, List.set_cons_succ]
          refine' wpAnyD_take (i := 3) (oi := { dst := some 40, op := Go.Op.move (Go.Operand.tmp 4), type := 3, pos := "law.go:76", after := #[], guard := none }) (v := _) rfl (by kernel_rfl) (by kernel_rfl) (by kernel_rfl) (fun _ _ _ h => h) (by kernel_rfl) (Or.inl ⟨by rfl, ?hy30⟩) BD.out ?rest30
          case hy30 => (intro W hSw; go_simp; try (with_reducible rfl))
          try simp only [Act.put, List.setIfInBounds_toArray, List.set_cons_zero, List.set_cons_succ]
          refine' wpAnyD_take (i := 4) (oi := { dst := some 41, op := Go.Op.indexAddr 22 (Go.Operand.tmp 39) (Go.Operand.tmp 40), type := 0, pos := "law.go:76", after := #[{ on := 2, ground := Go.Ground.data }, { on := 3, ground := Go.Ground.data }], guard := none }) (v := _) rfl (by kernel_rfl) (by kernel_rfl) (by kernel_rfl) (fun _ _ _ h => h) (by kernel_rfl) (Or.inl ⟨by rfl, ?hy31⟩) BD.out ?rest31
          case hy31 => (intro W hSw; go_simp; try (with_reducible rfl))
          try simp only [Act.put, List.setIfInBounds_toArray, List.set_cons_zero, List.set_cons_succ]
          refine' wpAnyD_take (i := 5) (oi := { dst := some 42, op := Go.Op.fieldAddr 39 (Go.Operand.tmp 41) 6, type := 0, pos := "law.go:76", after := #[{ on := 4, ground := Go.Ground.data }], guard := none }) (v := _) rfl (by kernel_rfl) (by kernel_rfl) (by kernel_rfl) (fun _ _ _ h => h) (by kernel_rfl) (Or.inl ⟨by rfl, ?hy32⟩) BD.out ?rest32
          case hy32 => (intro W hSw; go_simp; try (with_reducible rfl))
          try simp only [Act.put, List.setIfInBounds_toArray, List.set_cons_zero, List.set_cons_succ]
          refine' wpAnyD_take (i := 6) (oi := { dst := some 43, op := Go.Op.load 37 (Go.Operand.tmp 42), type := 37, pos := "law.go:76", after := #[{ on := 5, ground := Go.Ground.data }], guard := none }) (v := _) rfl (by kernel_rfl) (by kernel_rfl) (by kernel_rfl) (fun _ _ _ h => h) (by kernel_rfl) (Or.inl ⟨by rfl, ?hy33⟩) BD.out ?rest33
          case hy33 => (intro W hSw; obtain ⟨r3, r8, rl⟩ := XR.out W (HC.out.1.trans (hSw.mono HZ6.out)); go_simp; try (with_reducible rfl))
          try simp only [Act.put, List.setIfInBounds_toArray, List.set_cons_zero, List.set_cons_succ]
          refine' wpAnyD_take (i := 8) (oi := { dst := some 45, op := Go.Op.build 64 #[(0, Go.Operand.const (Go.Value.int Go.IntKind.i64 777))], type := 64, pos := "law.go:76", after := #[], guard := none }) (v := _) rfl (by kernel_rfl) (by kernel_rfl) (by kernel_rfl) (fun _ _ _ h => h) (by kernel_rfl) (Or.inl ⟨by rfl, ?hy34⟩) BD.out ?rest34
          case hy34 => (intro W hSw; go_simp; try (with_reducible rfl))
          try simp only [Act.put, List.setIfInBounds_toArray, List.set_cons_zero, List.set_cons_succ]
          refine' wpAnyD_take (i := 11) (oi := { dst := some 48, op := Go.Op.fieldAddr 39 (Go.Operand.tmp 5) 6, type := 0, pos := "law.go:76", after := #[], guard := none }) (v := _) rfl (by kernel_rfl) (by kernel_rfl) (by kernel_rfl) (fun _ _ _ h => h) (by kernel_rfl) (Or.inl ⟨by rfl, ?hy35⟩) BD.out ?rest35
          case hy35 => (intro W hSw; go_simp; try (with_reducible rfl))
          try simp only [Act.put, List.setIfInBounds_toArray, List.set_cons_zero, List.set_cons_succ]
          refine' wpAnyD_take (i := 12) (oi := { dst := some 49, op := Go.Op.load 37 (Go.Operand.tmp 48), type := 37, pos := "law.go:76", after := #[{ on := 11, ground := Go.Ground.data }], guard := none }) (v := _) rfl (by kernel_rfl) (by kernel_rfl) (by kernel_rfl) (fun _ _ _ h => h) (by kernel_rfl) (Or.inl ⟨by rfl, ?hy36⟩) BD.out ?rest36
          case hy36 => (intro W hSw; have hb := (hSw.block _ (tk_lt HC.out.2.1)).trans HC.out.2.1; have hc := (tk_store hb).1 8; have hl := tk_lt hb; go_simp; try (with_reducible rfl))
          try simp only [Act.put, List.setIfInBounds_toArray, List.set_cons_zero, List.set_cons_succ]
          refine' wpAnyD_take (i := 13) (oi := { dst := some 50, op := Go.Op.call { callee := Go.Callee.builtin Go.Builtin.len, args := #[Go.Operand.tmp 49], argTypes := #[37] }, type := 3, pos := "law.go:76", after := #[{ on := 12, ground := Go.Ground.data }], guard := none }) (v := _) rfl (by kernel_rfl) (by kernel_rfl) (by kernel_rfl) (fun _ _ _ h => h) (by kernel_rfl) (Or.inl ⟨by rfl, ?hy37⟩) BD.out ?rest37
          case hy37 => (intro W hSw; go_simp; try (with_reducible rfl))
          try simp only [Act.put, List.setIfInBounds_toArray, List.set_cons_zero, List.set_cons_succ]
          refine wpAnyD_two (i := 0) (j := 9) (oi := { dst := some 37, op := Go.Op.buildSlice 37 0 #[], type := 37, pos := "law.go:76", after := #[], guard := none }) (oj := { dst := some 46, op := Go.Op.buildSlice 37 1 #[(0, Go.Operand.tmp 45)], type := 37, pos := "law.go:76", after := #[{ on := 8, ground := Go.Ground.data }], guard := none }) (by kernel_rfl) rfl rfl (fun K hK => ?_) (fun K hK => ?_)
          · go_simp
            have g38 := (Gr.refl Wd).alloc (.cells #[] 64)
            have a38 := heap_new' Wd (.cells #[] 64)
            obtain ⟨b38, hb38⟩ : ∃ b, b = Wd.heap.size := ⟨_, rfl⟩
            obtain ⟨V38, hV38⟩ : ∃ V, V = Wd.alloc (.cells #[] 64) := ⟨_, rfl⟩
            rw [← hV38, ← hb38]
            rw [← hV38] at g38 a38
            have B38 := hid (BD.out.trans (g38.below.mono BD.out.size))
            have O38 : Hid (V38.ownsRow wc.heap.size 64 5 (.slice (some ⟨b38, 0, none⟩) 0 0) 0 []) := by
              rw [hV38, hb38]
              exact World.ownsRow_made Wd #[] 0 BD.out.size (Nat.zero_le _) rfl
            clear g38 a38 hV38 hb38
            refine hK.out _ _ (fun hD => B38.out) ?_
            clear hK K
            try simp only [Act.put, List.setIfInBounds_toArray, List.set_cons_zero, List.set_cons_succ]
            refine wpAnyD_two (i := 7) (j := 9) (oi := { dst := some 44, op := Go.Op.call { callee := Go.Callee.builtin Go.Builtin.append, args := #[Go.Operand.tmp 37, Go.Operand.tmp 43], argTypes := #[37, 37] }, type := 37, pos := "law.go:76", after := #[{ on := 0, ground := Go.Ground.data }, { on := 6, ground := Go.Ground.data }], guard := none }) (oj := { dst := some 46, op := Go.Op.buildSlice 37 1 #[(0, Go.Operand.tmp 45)], type := 37, pos := "law.go:76", after := #[{ on := 8, ground := Go.Ground.data }], guard := none }) (by kernel_rfl) rfl rfl (fun K hK => ?_) (fun K hK => ?_)
            · refine step_appZ EC Try.underlying37 infoC rfl (by decide) rfl _ _ rfl wc.heap.size (.slice (some ⟨b38, 0, none⟩) 0 0) 0 [] rfl O38.out B38.out.size w.heap.size (.slice dq dm dc) cnn rfl (LC2.out.below B38.out) (by have := HSZ.out; omega) (by have := HSZ.out; unfold maxLen; omega) ?_
              intro v39 w39 h39 k39
              have K39 := hid (Kp.grownBy (S := fun k => ((.slice (some ⟨b38, 0, none⟩) 0 0) : Value).ownBlock = some k) k39.out (fun _ h => h))
              have B39 := hid (B38.out.trans (K39.out.below B38.out.size (fun k hk => (owns_rd O38.out k hk).1)))
              have O39 : Hid (w39.ownsRow wc.heap.size 64 5 v39 cnn.length (fl EC cnn)) := owns_re h39.out (by simp) (by simp)
              clear h39 k39
              refine hK.out _ _ (fun hD => B39.out) ?_
              clear hK K
              try simp only [Act.put, List.setIfInBounds_toArray, List.set_cons_zero, List.set_cons_succ]
              refine wpAnyD_one (i := 9) (o := { dst := some 46, op := Go.Op.buildSlice 37 1 #[(0, Go.Operand.tmp 45)], type := 37, pos := "law.go:76", after := #[{ on := 8, ground := Go.Ground.data }], guard := none }) (by kernel_rfl) rfl (fun K hK => ?_)
              go_simp
              have g40 := (Gr.refl w39).alloc (.cells #[.int .i64 777, .int .i64 0, .int .u64 0, .int .u64 0, .int .u64 0] 64)
              have a40 := heap_new' w39 (.cells #[.int .i64 777, .int .i64 0, .int .u64 0, .int .u64 0, .int .u64 0] 64)
              obtain ⟨b40, hb40⟩ : ∃ b, b = w39.heap.size := ⟨_, rfl⟩
              obtain ⟨V40, hV40⟩ : ∃ V, V = w39.alloc (.cells #[.int .i64 777, .int .i64 0, .int .u64 0, .int .u64 0, .int .u64 0] 64) := ⟨_, rfl⟩
              rw [← hV40, ← hb40]
              rw [← hV40] at g40 a40
              have B40 := hid (B39.out.trans (g40.below.mono B39.out.size))
              have M40 : Hid (V40.heap[b40]? = some (.cells #[.int .i64 777, .int .i64 0, .int .u64 0, .int .u64 0, .int .u64 0] 64 (0, 0))) := by
                show _ = _
                rw [hb40]
                exact a40
              have O40 := hid (owns_below O39.out g40.below)
              have N40 : Hid (∀ k, (v39 : Value).ownBlock = some k → k ≠ b40) := fun k hk e => by
                have h1 := (owns_rd O39.out k hk).2
                omega
              clear g40 a40 hV40 hb40
              refine hK.out _ _ (fun hD => B40.out) ?_
              clear hK K
              try simp only [Act.put, List.setIfInBounds_toArray, List.set_cons_zero, List.set_cons_succ]
              refine wpAnyD_one (i := 10) (o := { dst := some 47, op := Go.Op.call { callee := Go.Callee.builtin Go.Builtin.append, args := #[Go.Operand.tmp 44, Go.Operand.tmp 46], argTypes := #[37, 37] }, type := 37, pos := "law.go:76", after := #[{ on := 7, ground := Go.Ground.data }, { on := 9, ground := Go.Ground.data }, { on := 7, ground := Go.Ground.chain }], guard := none }) (by kernel_rfl) rfl (fun K hK => ?_)
              refine step_appL EC Try.underlying37 infoC rfl (by decide) rfl _ _ rfl wc.heap.size v39 cnn.length (fl EC cnn) rfl O40.out B40.out.size (.slice (some ⟨b40, 0, none⟩) 1 1) [mC] rfl (one_ls M40.out rfl) (by have := HSZ.out; simp; omega) (by have := HSZ.out; unfold maxLen; simp; omega) ?_
              intro v41 w41 h41 k41
              have K41 := hid (Kp.grownBy (S := fun k => (v39 : Value).ownBlock = some k) k41.out (fun _ h => h))
              have B41 := hid (B40.out.trans (K41.out.below B40.out.size (fun k hk => (owns_rd O40.out k hk).1)))
              have O41 : Hid (w41.ownsRow wc.heap.size 64 5 v41 (cnn.length + 1) (fl EC (cnn ++ [mC]))) := owns_re h41.out (by simp) (by rw [fl_append])
              obtain ⟨g41, cap41, hv41, hc41, MK41⟩ := mk_of O41.out
              subst hv41
              have HM41 := hid MK41
              have GL41 := hid ((owns_rd O41.out g41 rfl).1)
              have q0 : (0 : Int) ≤ (dm : Int) := by omega
              have q1 : (dm : Int) ≤ (cap41 : Int) := by have := HDM.out; omega
              have q2 : cnn.length + 1 = dm + 1 := by have := HDM.out; omega
              rw [q2]
              clear h41 k41 MK41 hc41 q2
              refine hK.out _ _ (fun hD => B41.out) ?_
              clear hK K
              try simp only [Act.put, List.setIfInBounds_toArray, List.set_cons_zero, List.set_cons_succ]
              refine' wpAnyD_take (i := 14) (oi := { dst := some 51, op := Go.Op.slice 37 (Go.Operand.tmp 47) none (some (Go.Operand.tmp 50)) none, type := 37, pos := "law.go:76", after := #[{ on := 10, ground := Go.Ground.data }, { on := 13, ground := Go.Ground.data }], guard := none }) (v := _) rfl (by kernel_rfl) (by kernel_rfl) (by kernel_rfl) (fun _ _ _ h => h) (by kernel_rfl) (Or.inl ⟨by rfl, ?hy42⟩) B41.out ?rest42
              case hy42 => (intro W hSw; go_simp; try (with_reducible rfl))
              try simp only [Act.put, List.setIfInBounds_toArray, List.set_cons_zero, List.set_cons_succ]
              refine' wpAnyD_take (i := 15) (oi := { dst := some 52, op := Go.Op.fieldAddr 39 (Go.Operand.tmp 5) 6, type := 0, pos := "law.go:76", after := #[{ on := 0, ground := Go.Ground.phase }, { on := 1, ground := Go.Ground.phase }, { on := 2, ground := Go.Ground.phase }, { on := 3, ground := Go.Ground.phase }, { on := 4, ground := Go.Ground.phase }, { on := 5, ground := Go.Ground.phase }, { on := 6, ground := Go.Ground.phase }, { on := 7, ground := Go.Ground.phase }, { on := 8, ground := Go.Ground.phase }, { on := 9, ground := Go.Ground.phase }, { on := 10, ground := Go.Ground.phase }, { on := 11, ground := Go.Ground.phase }, { on := 12, ground := Go.Ground.phase }, { on := 13, ground := Go.Ground.phase }, { on := 14, ground := Go.Ground.phase }], guard := none }) (v := _) rfl (by kernel_rfl) (by kernel_rfl) (by kernel_rfl) (fun _ _ _ h => h) (by kernel_rfl) (Or.inl ⟨by rfl, ?hy43⟩) B41.out ?rest43
              case hy43 => (intro W hSw; go_simp; try (with_reducible rfl))
              try simp only [Act.put, List.setIfInBounds_toArray, List.set_cons_zero, List.set_cons_succ]
              refine wpAnyD_one (i := 16) (o := { dst := none, op := Go.Op.store 37 (Go.Operand.tmp 52) (Go.Operand.tmp 51), type := 0, pos := "law.go:76", after := #[{ on := 15, ground := Go.Ground.data }, { on := 14, ground := Go.Ground.data }, { on := 10, ground := Go.Ground.chain }, { on := 0, ground := Go.Ground.phase }, { on := 1, ground := Go.Ground.phase }, { on := 2, ground := Go.Ground.phase }, { on := 3, ground := Go.Ground.phase }, { on := 4, ground := Go.Ground.phase }, { on := 5, ground := Go.Ground.phase }, { on := 6, ground := Go.Ground.phase }, { on := 7, ground := Go.Ground.phase }, { on := 8, ground := Go.Ground.phase }, { on := 9, ground := Go.Ground.phase }, { on := 10, ground := Go.Ground.phase }, { on := 11, ground := Go.Ground.phase }, { on := 12, ground := Go.Ground.phase }, { on := 13, ground := Go.Ground.phase }, { on := 14, ground := Go.Ground.phase }], guard := none }) (by kernel_rfl) rfl (fun K hK => ?_)
              have p6 := (B41.out.block _ (tk_lt HC.out.2.1)).trans HC.out.2.1
              have en := (tk_store p6).1
              have en2 := (tk_store p6).2
              have en3 := tk_lt p6
              have s12 := tk_set p6 8 (.slice (some ⟨g41, 0, none⟩) dm cap41)
              have hz5 := tk_lt HC.out.2.1
              have FIN : Hid (Below nb wr (w41.setCell ⟨nb, 8, none⟩ (.slice (some ⟨g41, 0, none⟩) dm cap41)) ∧ (w41.setCell ⟨nb, 8, none⟩ (.slice (some ⟨g41, 0, none⟩) dm cap41)).heap[nb]? = some (.cells (ncells yk yi yo (.slice (some ⟨g1, 0, none⟩) cm k1) via bd (.slice (some ⟨g41, 0, none⟩) dm cap41) st) 39 (0, 0)) ∧ Mk EO 72 (w41.setCell ⟨nb, 8, none⟩ (.slice (some ⟨g41, 0, none⟩) dm cap41)) (.slice (some ⟨g1, 0, none⟩) cm k1) cd mO ∧ Mk EC 64 (w41.setCell ⟨nb, 8, none⟩ (.slice (some ⟨g41, 0, none⟩) dm cap41)) (.slice (some ⟨g41, 0, none⟩) dm cap41) cnn mC ∧ nb < g1 ∧ nb < g41) := by
                have h1 := B41.out.mono (show nb ≤ wc.heap.size by omega)
                have h2 := h1.trans (s12.2.below (Nat.le_trans (by omega) h1.size) (fun k e => by omega))
                have hg := GL41.out
                have h3 := HM41.out
                rw [← HDM.out] at h3
                have h4 := HC.out.2.2.2.2
                exact ⟨HC.out.1.trans h2, s12.1, (HC.out.2.2.2.1.below B41.out).kp s12.2 (fun k e e2 => by simp [Value.ownBlock] at e; omega), h3.kp s12.2 (fun k e e2 => by simp [Value.ownBlock] at e; omega), h4, by omega⟩
              clear p6 s12 hz5
              go_simp
              refine hK.out _ _ (fun hD => absurd (by decide) hD) ?_
              clear hK K
              try simp only [Act.put, List.setIfInBounds_toArray, List.set_cons_zero, List.set_cons_succ]
              refine wpAnyD_done (by kernel_rfl) ?_ _
              go_wp2_with fail
              go_meet
              exact ⟨g41, cap41, FIN.out⟩
            · go_simp
              have g44 := (Gr.refl V38).alloc (.cells #[.int .i64 777, .int .i64 0, .int .u64 0, .int .u64 0, .int .u64 0] 64)
              have a44 := heap_new' V38 (.cells #[.int .i64 777, .int .i64 0, .int .u64 0, .int .u64 0, .int .u64 0] 64)
              obtain ⟨b44, hb44⟩ : ∃ b, b = V38.heap.size := ⟨_, rfl⟩
              obtain ⟨V44, hV44⟩ : ∃ V, V = V38.alloc (.cells #[.int .i64 777, .int .i64 0, .int .u64 0, .int .u64 0, .int .u64 0] 64) := ⟨_, rfl⟩
              rw [← hV44, ← hb44]
              rw [← hV44] at g44 a44
              have B44 := hid (B38.out.trans (g44.below.mono B38.out.size))
              have M44 : Hid (V44.heap[b44]? = some (.cells #[.int .i64 777, .int .i64 0, .int .u64 0, .int .u64 0, .int .u64 0] 64 (0, 0))) := by
                show _ = _
                rw [hb44]
                exact a44
              have O44 := hid (owns_below O38.out g44.below)
              have N44 : Hid (∀ k, ((.slice (some ⟨b38, 0, none⟩) 0 0) : Value).ownBlock = some k → k ≠ b44) := fun k hk e => by
                have h1 := (owns_rd O38.out k hk).2
                omega
              clear g44 a44 hV44 hb44
              refine hK.out _ _ (fun hD => B44.out) ?_
              clear hK K
              try simp only [Act.put, List.setIfInBounds_toArray, List.set_cons_zero, List.set_cons_succ]
              refine wpAnyD_one (i := 7) (o := { dst := some 44, op := Go.Op.call { callee := Go.Callee.builtin Go.Builtin.append, args := #[Go.Operand.tmp 37, Go.Operand.tmp 43], argTypes := #[37, 37] }, type := 37, pos := "law.go:76", after := #[{ on := 0, ground := Go.Ground.data }, { on := 6, ground := Go.Ground.data }], guard := none }) (by kernel_rfl) rfl (fun K hK => ?_)
              refine step_appZ EC Try.underlying37 infoC rfl (by decide) rfl _ _ rfl wc.heap.size (.slice (some ⟨b38, 0, none⟩) 0 0) 0 [] rfl O44.out B44.out.size w.heap.size (.slice dq dm dc) cnn rfl (LC2.out.below B44.out) (by have := HSZ.out; omega) (by have := HSZ.out; unfold maxLen; omega) ?_
              intro v45 w45 h45 k45
              have K45 := hid (Kp.grownBy (S := fun k => ((.slice (some ⟨b38, 0, none⟩) 0 0) : Value).ownBlock = some k) k45.out (fun _ h => h))
              have B45 := hid (B44.out.trans (K45.out.below B44.out.size (fun k hk => (owns_rd O44.out k hk).1)))
              have O45 : Hid (w45.ownsRow wc.heap.size 64 5 v45 cnn.length (fl EC cnn)) := owns_re h45.out (by simp) (by simp)
              have M45 := hid ((K45.out.block _ (tk_lt M44.out) (fun e => N44.out _ e rfl)).trans M44.out)
              clear h45 k45
              refine hK.out _ _ (fun hD => B45.out) ?_
              clear hK K
              try simp only [Act.put, List.setIfInBounds_toArray, List.set_cons_zero, List.set_cons_succ]
              refine wpAnyD_one (i := 10) (o := { dst := some 47, op := Go.Op.call { callee := Go.Callee.builtin Go.Builtin.append, args := #[Go.Operand.tmp 44, Go.Operand.tmp 46], argTypes := #[37, 37] }, type := 37, pos := "law.go:76", after := #[{ on := 7, ground := Go.Ground.data }, { on := 9, ground := Go.Ground.data }, { on := 7, ground := Go.Ground.chain }], guard := none }) (by kernel_rfl) rfl (fun K hK => ?_)
              refine step_appL EC Try.underlying37 infoC rfl (by decide) rfl _ _ rfl wc.heap.size v45 cnn.length (fl EC cnn) rfl O45.out B45.out.size (.slice (some ⟨b44, 0, none⟩) 1 1) [mC] rfl (one_ls M45.out rfl) (by have := HSZ.out; simp; omega) (by have := HSZ.out; unfold maxLen; simp; omega) ?_
              intro v46 w46 h46 k46
              have K46 := hid (Kp.grownBy (S := fun k => (v45 : Value).ownBlock = some k) k46.out (fun _ h => h))
              have B46 := hid (B45.out.trans (K46.out.below B45.out.size (fun k hk => (owns_rd O45.out k hk).1)))
              have O46 : Hid (w46.ownsRow wc.heap.size 64 5 v46 (cnn.length + 1) (fl EC (cnn ++ [mC]))) := owns_re h46.out (by simp) (by rw [fl_append])
              obtain ⟨g46, cap46, hv46, hc46, MK46⟩ := mk_of O46.out
              subst hv46
              have HM46 := hid MK46
              have GL46 := hid ((owns_rd O46.out g46 rfl).1)
              have q0 : (0 : Int) ≤ (dm : Int) := by omega
              have q1 : (dm : Int) ≤ (cap46 : Int) := by have := HDM.out; omega
              have q2 : cnn.length + 1 = dm + 1 := by have := HDM.out; omega
              rw [q2]
              clear h46 k46 MK46 hc46 q2
              refine hK.out _ _ (fun hD => B46.out) ?_
              clear hK K
              try simp only [Act.put, List.setIfInBounds_toArray, List.set_cons_zero, List.set_cons_succ]
              refine' wpAnyD_take (i := 14) (oi := { dst := some 51, op := Go.Op.slice 37 (Go.Operand.tmp 47) none (some (Go.Operand.tmp 50)) none, type := 37, pos := "law.go:76", after := #[{ on := 10, ground := Go.Ground.data }, { on := 13, ground := Go.Ground.data }], guard := none }) (v := _) rfl (by kernel_rfl) (by kernel_rfl) (by kernel_rfl) (fun _ _ _ h => h) (by kernel_rfl) (Or.inl ⟨by rfl, ?hy47⟩) B46.out ?rest47
              case hy47 => (intro W hSw; go_simp; try (with_reducible rfl))
              try simp only [Act.put, List.setIfInBounds_toArray, List.set_cons_zero, List.set_cons_succ]
              refine' wpAnyD_take (i := 15) (oi := { dst := some 52, op := Go.Op.fieldAddr 39 (Go.Operand.tmp 5) 6, type := 0, pos := "law.go:76", after := #[{ on := 0, ground := Go.Ground.phase }, { on := 1, ground := Go.Ground.phase }, { on := 2, ground := Go.Ground.phase }, { on := 3, ground := Go.Ground.phase }, { on := 4, ground := Go.Ground.phase }, { on := 5, ground := Go.Ground.phase }, { on := 6, ground := Go.Ground.phase }, { on := 7, ground := Go.Ground.phase }, { on := 8, ground := Go.Ground.phase }, { on := 9, ground := Go.Ground.phase }, { on := 10, ground := Go.Ground.phase }, { on := 11, ground := Go.Ground.phase }, { on := 12, ground := Go.Ground.phase }, { on := 13, ground := Go.Ground.phase }, { on := 14, ground := Go.Ground.phase }], guard := none }) (v := _) rfl (by kernel_rfl) (by kernel_rfl) (by kernel_rfl) (fun _ _ _ h => h) (by kernel_rfl) (Or.inl ⟨by rfl, ?hy48⟩) B46.out ?rest48
              case hy48 => (intro W hSw; go_simp; try (with_reducible rfl))
              try simp only [Act.put, List.setIfInBounds_toArray, List.set_cons_zero, List.set_cons_succ]
              refine wpAnyD_one (i := 16) (o := { dst := none, op := Go.Op.store 37 (Go.Operand.tmp 52) (Go.Operand.tmp 51), type := 0, pos := "law.go:76", after := #[{ on := 15, ground := Go.Ground.data }, { on := 14, ground := Go.Ground.data }, { on := 10, ground := Go.Ground.chain }, { on := 0, ground := Go.Ground.phase }, { on := 1, ground := Go.Ground.phase }, { on := 2, ground := Go.Ground.phase }, { on := 3, ground := Go.Ground.phase }, { on := 4, ground := Go.Ground.phase }, { on := 5, ground := Go.Ground.phase }, { on := 6, ground := Go.Ground.phase }, { on := 7, ground := Go.Ground.phase }, { on := 8, ground := Go.Ground.phase }, { on := 9, ground := Go.Ground.phase }, { on := 10, ground := Go.Ground.phase }, { on := 11, ground := Go.Ground.phase }, { on := 12, ground := Go.Ground.phase }, { on := 13, ground := Go.Ground.phase }, { on := 14, ground := Go.Ground.phase }], guard := none }) (by kernel_rfl) rfl (fun K hK => ?_)
              have p6 := (B46.out.block _ (tk_lt HC.out.2.1)).trans HC.out.2.1
              have en := (tk_store p6).1
              have en2 := (tk_store p6).2
              have en3 := tk_lt p6
              have s12 := tk_set p6 8 (.slice (some ⟨g46, 0, none⟩) dm cap46)
              have hz5 := tk_lt HC.out.2.1
              have FIN : Hid (Below nb wr (w46.setCell ⟨nb, 8, none⟩ (.slice (some ⟨g46, 0, none⟩) dm cap46)) ∧ (w46.setCell ⟨nb, 8, none⟩ (.slice (some ⟨g46, 0, none⟩) dm cap46)).heap[nb]? = some (.cells (ncells yk yi yo (.slice (some ⟨g1, 0, none⟩) cm k1) via bd (.slice (some ⟨g46, 0, none⟩) dm cap46) st) 39 (0, 0)) ∧ Mk EO 72 (w46.setCell ⟨nb, 8, none⟩ (.slice (some ⟨g46, 0, none⟩) dm cap46)) (.slice (some ⟨g1, 0, none⟩) cm k1) cd mO ∧ Mk EC 64 (w46.setCell ⟨nb, 8, none⟩ (.slice (some ⟨g46, 0, none⟩) dm cap46)) (.slice (some ⟨g46, 0, none⟩) dm cap46) cnn mC ∧ nb < g1 ∧ nb < g46) := by
                have h1 := B46.out.mono (show nb ≤ wc.heap.size by omega)
                have h2 := h1.trans (s12.2.below (Nat.le_trans (by omega) h1.size) (fun k e => by omega))
                have hg := GL46.out
                have h3 := HM46.out
                rw [← HDM.out] at h3
                have h4 := HC.out.2.2.2.2
                exact ⟨HC.out.1.trans h2, s12.1, (HC.out.2.2.2.1.below B46.out).kp s12.2 (fun k e e2 => by simp [Value.ownBlock] at e; omega), h3.kp s12.2 (fun k e e2 => by simp [Value.ownBlock] at e; omega), h4, by omega⟩
              clear p6 s12 hz5
              go_simp
              refine hK.out _ _ (fun hD => absurd (by decide) hD) ?_
              clear hK K
              try simp only [Act.put, List.setIfInBounds_toArray, List.set_cons_zero, List.set_cons_succ]
              refine wpAnyD_done (by kernel_rfl) ?_ _
              go_wp2_with fail
              go_meet
              exact ⟨g46, cap46, FIN.out⟩
          · go_simp
            have g49 := (Gr.refl Wd).alloc (.cells #[.int .i64 777, .int .i64 0, .int .u64 0, .int .u64 0, .int .u64 0] 64)
            have a49 := heap_new' Wd (.cells #[.int .i64 777, .int .i64 0, .int .u64 0, .int .u64 0, .int .u64 0] 64)
            obtain ⟨b49, hb49⟩ : ∃ b, b = Wd.heap.size := ⟨_, rfl⟩
            obtain ⟨V49, hV49⟩ : ∃ V, V = Wd.alloc (.cells #[.int .i64 777, .int .i64 0, .int .u64 0, .int .u64 0, .int .u64 0] 64) := ⟨_, rfl⟩
            rw [← hV49, ← hb49]
            rw [← hV49] at g49 a49
            have B49 := hid (BD.out.trans (g49.below.mono BD.out.size))
            have M49 : Hid (V49.heap[b49]? = some (.cells #[.int .i64 777, .int .i64 0, .int .u64 0, .int .u64 0, .int .u64 0] 64 (0, 0))) := by
              show _ = _
              rw [hb49]
              exact a49
            clear g49 a49 hV49 hb49
            refine hK.out _ _ (fun hD => B49.out) ?_
            clear hK K
            try simp only [Act.put, List.setIfInBounds_toArray, List.set_cons_zero, List.set_cons_succ]
            refine wpAnyD_one (i := 0) (o := { dst := some 37, op := Go.Op.buildSlice 37 0 #[], type := 37, pos := "law.go:76", after := #[], guard := none }) (by kernel_rfl) rfl (fun K hK => ?_)
            go_simp
            have g50 := (Gr.refl V49).alloc (.cells #[] 64)
            have a50 := heap_new' V49 (.cells #[] 64)
            obtain ⟨b50, hb50⟩ : ∃ b, b = V49.heap.size := ⟨_, rfl⟩
            obtain ⟨V50, hV50⟩ : ∃ V, V = V49.alloc (.cells #[] 64) := ⟨_, rfl⟩
            rw [← hV50, ← hb50]
            rw [← hV50] at g50 a50
            have B50 := hid (B49.out.trans (g50.below.mono B49.out.size))
            have O50 : Hid (V50.ownsRow wc.heap.size 64 5 (.slice (some ⟨b50, 0, none⟩) 0 0) 0 []) := by
              rw [hV50, hb50]
              exact World.ownsRow_made V49 #[] 0 B49.out.size (Nat.zero_le _) rfl
            have M50 := hid ((g50.below.block _ (tk_lt M49.out)).trans M49.out)
            have N50 : Hid (∀ k, (Value.slice (some ⟨b50, 0, none⟩) 0 0).ownBlock = some k → k ≠ b49) := fun k hk e => by
              have h1 := tk_lt M49.out
              simp [Value.ownBlock] at hk
              omega
            clear g50 a50 hV50 hb50
            refine hK.out _ _ (fun hD => B50.out) ?_
            clear hK K
            try simp only [Act.put, List.setIfInBounds_toArray, List.set_cons_zero, List.set_cons_succ]
            refine wpAnyD_one (i := 7) (o := { dst := some 44, op := Go.Op.call { callee := Go.Callee.builtin Go.Builtin.append, args := #[Go.Operand.tmp 37, Go.Operand.tmp 43], argTypes := #[37, 37] }, type := 37, pos := "law.go:76", after := #[{ on := 0, ground := Go.Ground.data }, { on := 6, ground := Go.Ground.data }], guard := none }) (by kernel_rfl) rfl (fun K hK => ?_)
            refine step_appZ EC Try.underlying37 infoC rfl (by decide) rfl _ _ rfl wc.heap.size (.slice (some ⟨b50, 0, none⟩) 0 0) 0 [] rfl O50.out B50.out.size w.heap.size (.slice dq dm dc) cnn rfl (LC2.out.below B50.out) (by have := HSZ.out; omega) (by have := HSZ.out; unfold maxLen; omega) ?_
            intro v51 w51 h51 k51
            have K51 := hid (Kp.grownBy (S := fun k => ((.slice (some ⟨b50, 0, none⟩) 0 0) : Value).ownBlock = some k) k51.out (fun _ h => h))
            have B51 := hid (B50.out.trans (K51.out.below B50.out.size (fun k hk => (owns_rd O50.out k hk).1)))
            have O51 : Hid (w51.ownsRow wc.heap.size 64 5 v51 cnn.length (fl EC cnn)) := owns_re h51.out (by simp) (by simp)
            have M51 := hid ((K51.out.block _ (tk_lt M50.out) (fun e => N50.out _ e rfl)).trans M50.out)
            clear h51 k51
            refine hK.out _ _ (fun hD => B51.out) ?_
            clear hK K
            try simp only [Act.put, List.setIfInBounds_toArray, List.set_cons_zero, List.set_cons_succ]
            refine wpAnyD_one (i := 10) (o := { dst := some 47, op := Go.Op.call { callee := Go.Callee.builtin Go.Builtin.append, args := #[Go.Operand.tmp 44, Go.Operand.tmp 46], argTypes := #[37, 37] }, type := 37, pos := "law.go:76", after := #[{ on := 7, ground := Go.Ground.data }, { on := 9, ground := Go.Ground.data }, { on := 7, ground := Go.Ground.chain }], guard := none }) (by kernel_rfl) rfl (fun K hK => ?_)
            refine step_appL EC Try.underlying37 infoC rfl (by decide) rfl _ _ rfl wc.heap.size v51 cnn.length (fl EC cnn) rfl O51.out B51.out.size (.slice (some ⟨b49, 0, none⟩) 1 1) [mC] rfl (one_ls M51.out rfl) (by have := HSZ.out; simp; omega) (by have := HSZ.out; unfold maxLen; simp; omega) ?_
            intro v52 w52 h52 k52
            have K52 := hid (Kp.grownBy (S := fun k => (v51 : Value).ownBlock = some k) k52.out (fun _ h => h))
            have B52 := hid (B51.out.trans (K52.out.below B51.out.size (fun k hk => (owns_rd O51.out k hk).1)))
            have O52 : Hid (w52.ownsRow wc.heap.size 64 5 v52 (cnn.length + 1) (fl EC (cnn ++ [mC]))) := owns_re h52.out (by simp) (by rw [fl_append])
            obtain ⟨g52, cap52, hv52, hc52, MK52⟩ := mk_of O52.out
            subst hv52
            have HM52 := hid MK52
            have GL52 := hid ((owns_rd O52.out g52 rfl).1)
            have q0 : (0 : Int) ≤ (dm : Int) := by omega
            have q1 : (dm : Int) ≤ (cap52 : Int) := by have := HDM.out; omega
            have q2 : cnn.length + 1 = dm + 1 := by have := HDM.out; omega
            rw [q2]
            clear h52 k52 MK52 hc52 q2
            refine hK.out _ _ (fun hD => B52.out) ?_
            clear hK K
            try simp only [Act.put, List.setIfInBounds_toArray, List.set_cons_zero, List.set_cons_succ]
            refine' wpAnyD_take (i := 14) (oi := { dst := some 51, op := Go.Op.slice 37 (Go.Operand.tmp 47) none (some (Go.Operand.tmp 50)) none, type := 37, pos := "law.go:76", after := #[{ on := 10, ground := Go.Ground.data }, { on := 13, ground := Go.Ground.data }], guard := none }) (v := _) rfl (by kernel_rfl) (by kernel_rfl) (by kernel_rfl) (fun _ _ _ h => h) (by kernel_rfl) (Or.inl ⟨by rfl, ?hy53⟩) B52.out ?rest53
            case hy53 => (intro W hSw; go_simp; try (with_reducible rfl))
            try simp only [Act.put, List.setIfInBounds_toArray, List.set_cons_zero, List.set_cons_succ]
            refine' wpAnyD_take (i := 15) (oi := { dst := some 52, op := Go.Op.fieldAddr 39 (Go.Operand.tmp 5) 6, type := 0, pos := "law.go:76", after := #[{ on := 0, ground := Go.Ground.phase }, { on := 1, ground := Go.Ground.phase }, { on := 2, ground := Go.Ground.phase }, { on := 3, ground := Go.Ground.phase }, { on := 4, ground := Go.Ground.phase }, { on := 5, ground := Go.Ground.phase }, { on := 6, ground := Go.Ground.phase }, { on := 7, ground := Go.Ground.phase }, { on := 8, ground := Go.Ground.phase }, { on := 9, ground := Go.Ground.phase }, { on := 10, ground := Go.Ground.phase }, { on := 11, ground := Go.Ground.phase }, { on := 12, ground := Go.Ground.phase }, { on := 13, ground := Go.Ground.phase }, { on := 14, ground := Go.Ground.phase }], guard := none }) (v := _) rfl (by kernel_rfl) (by kernel_rfl) (by kernel_rfl) (fun _ _ _ h => h) (by kernel_rfl) (Or.inl ⟨by rfl, ?hy54⟩) B52.out ?rest54
            case hy54 => (intro W hSw; go_simp; try (with_reducible rfl))
            try simp only [Act.put, List.setIfInBounds_toArray, List.set_cons_zero, List.set_cons_succ]
            refine wpAnyD_one (i := 16) (o := { dst := none, op := Go.Op.store 37 (Go.Operand.tmp 52) (Go.Operand.tmp 51), type := 0, pos := "law.go:76", after := #[{ on := 15, ground := Go.Ground.data }, { on := 14, ground := Go.Ground.data }, { on := 10, ground := Go.Ground.chain }, { on := 0, ground := Go.Ground.phase }, { on := 1, ground := Go.Ground.phase }, { on := 2, ground := Go.Ground.phase }, { on := 3, ground := Go.Ground.phase }, { on := 4, ground := Go.Ground.phase }, { on := 5, ground := Go.Ground.phase }, { on := 6, ground := Go.Ground.phase }, { on := 7, ground := Go.Ground.phase }, { on := 8, ground := Go.Ground.phase }, { on := 9, ground := Go.Ground.phase }, { on := 10, ground := Go.Ground.phase }, { on := 11, ground := Go.Ground.phase }, { on := 12, ground := Go.Ground.phase }, { on := 13, ground := Go.Ground.phase }, { on := 14, ground := Go.Ground.phase }], guard := none }) (by kernel_rfl) rfl (fun K hK => ?_)
            have p6 := (B52.out.block _ (tk_lt HC.out.2.1)).trans HC.out.2.1
            have en := (tk_store p6).1
            have en2 := (tk_store p6).2
            have en3 := tk_lt p6
            have s12 := tk_set p6 8 (.slice (some ⟨g52, 0, none⟩) dm cap52)
            have hz5 := tk_lt HC.out.2.1
            have FIN : Hid (Below nb wr (w52.setCell ⟨nb, 8, none⟩ (.slice (some ⟨g52, 0, none⟩) dm cap52)) ∧ (w52.setCell ⟨nb, 8, none⟩ (.slice (some ⟨g52, 0, none⟩) dm cap52)).heap[nb]? = some (.cells (ncells yk yi yo (.slice (some ⟨g1, 0, none⟩) cm k1) via bd (.slice (some ⟨g52, 0, none⟩) dm cap52) st) 39 (0, 0)) ∧ Mk EO 72 (w52.setCell ⟨nb, 8, none⟩ (.slice (some ⟨g52, 0, none⟩) dm cap52)) (.slice (some ⟨g1, 0, none⟩) cm k1) cd mO ∧ Mk EC 64 (w52.setCell ⟨nb, 8, none⟩ (.slice (some ⟨g52, 0, none⟩) dm cap52)) (.slice (some ⟨g52, 0, none⟩) dm cap52) cnn mC ∧ nb < g1 ∧ nb < g52) := by
              have h1 := B52.out.mono (show nb ≤ wc.heap.size by omega)
              have h2 := h1.trans (s12.2.below (Nat.le_trans (by omega) h1.size) (fun k e => by omega))
              have hg := GL52.out
              have h3 := HM52.out
              rw [← HDM.out] at h3
              have h4 := HC.out.2.2.2.2
              exact ⟨HC.out.1.trans h2, s12.1, (HC.out.2.2.2.1.below B52.out).kp s12.2 (fun k e e2 => by simp [Value.ownBlock] at e; omega), h3.kp s12.2 (fun k e e2 => by simp [Value.ownBlock] at e; omega), h4, by omega⟩
            clear p6 s12 hz5
            go_simp
            refine hK.out _ _ (fun hD => absurd (by decide) hD) ?_
            clear hK K
            try simp only [Act.put, List.setIfInBounds_toArray, List.set_cons_zero, List.set_cons_succ]
            refine wpAnyD_done (by kernel_rfl) ?_ _
            go_wp2_with fail
            go_meet
            exact ⟨g52, cap52, FIN.out⟩
        case rest =>
          obtain ⟨g2, k2, HD⟩ := hcut
          clear HC LC2
          have HBW : Hid (Below wr.heap.size wr wc) := by
            have h := HD.out.1
            rw [HNB.out] at h
            exact h
          have R8 := hid (HI.out.1.below HBW.out)
          obtain ⟨-, ⟨c2, f2⟩, -, -, l2⟩ := R8.out.facts
          have cm2 := (tk_store HD.out.2.1).1
          have lm2 := tk_lt HD.out.2.1
          have hyl : Hid (ys.length ≤ nl ∧ (ys.length + 1) * 112 ≤ 140737488355328 ∧ ys.length + 1 ≤ maxLen) := by
            have h1 := HI.out.2.1
            have h2 := HBG.out.1
            have h3 := HNL.out
            refine ⟨by omega, by omega, by unfold maxLen; omega⟩
          have hb3 : Hid (w.heap.size + 3 ≤ wc.heap.size) := by show _ ≤ _; omega
          go_wp2_with (at_builtin; refine wpApp1 EV Try.underlying22 infoV rfl (by decide) rfl _ _ rfl (w.heap.size + 3) _ ys.length _ rfl R8.out.row ⟨⟨yk, yi, yo, cd, via, bd, cnn, st⟩, some ⟨g1, 0, none⟩, cm, k1, some ⟨g2, 0, none⟩, dm, k2⟩ (by first | rfl | (go_simp; done)) hyl.out.2.1 hyl.out.2.2 hb3.out _ rfl _ ?_)
          intro g cap w9 h1 h2 h3
          have R9 := hid (HI.out.1.more (x := ⟨⟨yk, yi, yo, cd, via, bd, cnn, st⟩, some ⟨g1, 0, none⟩, cm, k1, some ⟨g2, 0, none⟩, dm, k2⟩) HBW.out ⟨HD.out.2.2.1, HD.out.2.2.2.1⟩ ⟨fun k e => by have h5 := HD.out.2.2.2.2.1; have h6 := HNB.out; simp [Value.ownBlock] at e; omega, fun k e => by have h5 := HD.out.2.2.2.2.2; have h6 := HNB.out; simp [Value.ownBlock] at e; omega⟩ h1 h2 h3)
          clear h1 h2 h3 c2 f2 l2 cm2 lm2 R8
          obtain ⟨-, ⟨c2, f2⟩, -, -, l2⟩ := R9.out.facts
          have hnl9 : nl ≤ 140737488351232 := by have h1 := HBG.out.1; have h2 := HNL.out; omega
          go_wp2_with fail
          go_roundw
          case rel =>
            refine ⟨j + 1, .slice (some ⟨g, 0, none⟩) (ys.length + 1) cap, _, by omega, by go_num, R9.out.set 1 _, by rw [List.length_append, List.length_singleton, HI.out.2.1], ?_⟩
            rw [List.take_add_one, HY.out, List.map_append, List.map_append, HI.out.2.2]
            rfl
          case measure => simp [RowKit.intOf]; omega
    · have hltz : ¬ (j : Int) < (nl : Int) := by omega
      have hyx : Hid (ys.length = nl ∧ ys.map NV.n = xs.map NV.n ∧ ys.length = xs.length) := by
        have h1 := HI.out.2.1
        have h2 := HI.out.2.2
        have h3 := HNL.out
        have hjl : j = xs.length := by omega
        rw [hjl, List.take_length] at h2
        exact ⟨by omega, h2, by omega⟩
      have R10 := hid HI.out.1
      go_upto_region 9 with fail
      clear c0 l0
      refine wp_regionD (S := fun W => W.heap[w.heap.size + 2]? = some (.cells (gvc a (.slice qu mu cu) (.slice none 0 0)) 25 (0, 0)) ∧ W.heap[w.heap.size]? = some (.cells (gvc a (.slice pn nl cn) (.slice pe el ce)) 25 (0, 0))) (D := [10]) hmx ?_
      have BD : Hid (Below wr.heap.size wr wr.drew) := (Gr.refl _).drew.below
      generalize wr.drew = Wd at BD ⊢
      have S0 : Hid (Wd.heap[w.heap.size + 2]? = some (.cells (gvc a (.slice qu mu cu) (.slice none 0 0)) 25 (0, 0)) ∧ Wd.heap[w.heap.size]? = some (.cells (gvc a (.slice pn nl cn) (.slice pe el ce)) 25 (0, 0))) := ⟨(BD.out.block _ (tk_lt R10.out.h3)).trans R10.out.h3, (BD.out.block _ (tk_lt R10.out.h1)).trans R10.out.h1⟩
      refine' wpAnyD_take (i := 0) (oi := { dst := some 59, op := Go.Op.fieldAddr 25 (Go.Operand.tmp 3) 1, type := 0, pos := "law.go:79", after := #[], guard := none }) (v := _) rfl (by kernel_rfl) (by kernel_rfl) (by kernel_rfl) (fun _ _ _ h => h) (by kernel_rfl) (Or.inl ⟨by rfl, ?hy55⟩) S0.out ?rest55
      case hy55 => (intro W hSw; go_simp; try (with_reducible rfl))
      try simp only [Act.put, List.setIfInBounds_toArray, List.set_cons_zero, List.set_cons_succ]
      refine' wpAnyD_take (i := 1) (oi := { dst := some 60, op := Go.Op.load 22 (Go.Operand.tmp 59), type := 22, pos := "law.go:79", after := #[{ on := 0, ground := Go.Ground.data }], guard := none }) (v := _) rfl (by kernel_rfl) (by kernel_rfl) (by kernel_rfl) (fun _ _ _ h => h) (by kernel_rfl) (Or.inl ⟨by rfl, ?hy56⟩) S0.out ?rest56
      case hy56 => (intro W hSw; have hc := (tk_store hSw.1).1 1; have hl := tk_lt hSw.1; go_simp; try (with_reducible rfl))
      try simp only [Act.put, List.setIfInBounds_toArray, List.set_cons_zero, List.set_cons_succ]
      refine' wpAnyD_take (i := 2) (oi := { dst := some 61, op := Go.Op.build 39 #[(0, Go.Operand.const (Go.Value.int Go.IntKind.i64 777))], type := 39, pos := "law.go:79", after := #[], guard := none }) (v := _) rfl (by kernel_rfl) (by kernel_rfl) (by kernel_rfl) (fun _ _ _ h => h) (by kernel_rfl) (Or.inl ⟨by rfl, ?hy57⟩) S0.out ?rest57
      case hy57 => (intro W hSw; go_simp; try (with_reducible rfl))
      try simp only [Act.put, List.setIfInBounds_toArray, List.set_cons_zero, List.set_cons_succ]
      refine' wpAnyD_take (i := 5) (oi := { dst := some 64, op := Go.Op.fieldAddr 25 (Go.Operand.tmp 1) 1, type := 0, pos := "law.go:79", after := #[], guard := none }) (v := _) rfl (by kernel_rfl) (by kernel_rfl) (by kernel_rfl) (fun _ _ _ h => h) (by kernel_rfl) (Or.inl ⟨by rfl, ?hy58⟩) S0.out ?rest58
      case hy58 => (intro W hSw; go_simp; try (with_reducible rfl))
      try simp only [Act.put, List.setIfInBounds_toArray, List.set_cons_zero, List.set_cons_succ]
      refine' wpAnyD_take (i := 6) (oi := { dst := some 65, op := Go.Op.load 22 (Go.Operand.tmp 64), type := 22, pos := "law.go:79", after := #[{ on := 5, ground := Go.Ground.data }], guard := none }) (v := _) rfl (by kernel_rfl) (by kernel_rfl) (by kernel_rfl) (fun _ _ _ h => h) (by kernel_rfl) (Or.inl ⟨by rfl, ?hy59⟩) S0.out ?rest59
      case hy59 => (intro W hSw; have hc := (tk_store hSw.2).1 1; have hl := tk_lt hSw.2; go_simp; try (with_reducible rfl))
      try simp only [Act.put, List.setIfInBounds_toArray, List.set_cons_zero, List.set_cons_succ]
      refine' wpAnyD_take (i := 7) (oi := { dst := some 66, op := Go.Op.call { callee := Go.Callee.builtin Go.Builtin.len, args := #[Go.Operand.tmp 65], argTypes := #[22] }, type := 3, pos := "law.go:79", after := #[{ on := 6, ground := Go.Ground.data }], guard := none }) (v := _) rfl (by kernel_rfl) (by kernel_rfl) (by kernel_rfl) (fun _ _ _ h => h) (by kernel_rfl) (Or.inl ⟨by rfl, ?hy60⟩) S0.out ?rest60
      case hy60 => (intro W hSw; go_simp; try (with_reducible rfl))
      try simp only [Act.put, List.setIfInBounds_toArray, List.set_cons_zero, List.set_cons_succ]
      refine wpAnyD_one (i := 3) (o := { dst := some 62, op := Go.Op.buildSlice 22 1 #[(0, Go.Operand.tmp 61)], type := 22, pos := "law.go:79", after := #[{ on := 2, ground := Go.Ground.data }], guard := none }) (by kernel_rfl) rfl (fun K hK => ?_)
      go_simp
      have g900 := (Gr.refl Wd).alloc (.cells #[.int .i64 777, .int .i64 0, .int .i64 0, .slice none 0 0, .int .u64 0, .int .u64 0, .int .u64 0, .int .u64 0, .slice none 0 0, .bool false] 39)
      have a900 := heap_new' Wd (.cells #[.int .i64 777, .int .i64 0, .int .i64 0, .slice none 0 0, .int .u64 0, .int .u64 0, .int .u64 0, .int .u64 0, .slice none 0 0, .bool false] 39)
      obtain ⟨b900, hb900⟩ : ∃ b, b = Wd.heap.size := ⟨_, rfl⟩
      obtain ⟨V900, hV900⟩ : ∃ V, V = Wd.alloc (.cells #[.int .i64 777, .int .i64 0, .int .i64 0, .slice none 0 0, .int .u64 0, .int .u64 0, .int .u64 0, .int .u64 0, .slice none 0 0, .bool false] 39) := ⟨_, rfl⟩
      rw [← hV900, ← hb900]
      rw [← hV900] at g900 a900
      have B900 := hid (BD.out.trans (g900.below.mono BD.out.size))
      have M900 : Hid (V900.heap[b900]? = some (.cells #[.int .i64 777, .int .i64 0, .int .i64 0, .slice none 0 0, .int .u64 0, .int .u64 0, .int .u64 0, .int .u64 0, .slice none 0 0, .bool false] 39 (0, 0))) := by
        show _ = _
        rw [hb900]
        exact a900
      have S900 := hid (And.intro ((g900.below.block _ (tk_lt S0.out.1)).trans S0.out.1) ((g900.below.block _ (tk_lt S0.out.2)).trans S0.out.2))
      clear g900 a900 hV900 hb900
      refine hK.out _ _ (fun hD => S900.out) ?_
      clear hK K
      try simp only [Act.put, List.setIfInBounds_toArray, List.set_cons_zero, List.set_cons_succ]
      refine wpAnyD_one (i := 4) (o := { dst := some 63, op := Go.Op.call { callee := Go.Callee.builtin Go.Builtin.append, args := #[Go.Operand.tmp 60, Go.Operand.tmp 62], argTypes := #[22, 22] }, type := 22, pos := "law.go:79", after := #[{ on := 1, ground := Go.Ground.data }, { on := 3, ground := Go.Ground.data }], guard := none }) (by kernel_rfl) rfl (fun K hK => ?_)
      have hb4 : Hid (w.heap.size + 3 ≤ V900.heap.size ∧ (ys.length + 1) * 112 ≤ 140737488355328 ∧ ys.length + 1 ≤ maxLen) := by
        have h1 := tk_lt R10.out.h3
        have h2 := B900.out.size
        have h4 := HBG.out.1
        have h5 := hyx.out.2.2
        refine ⟨by omega, by omega, by unfold maxLen; omega⟩
      refine step_appL EV Try.underlying22 infoV rfl (by decide) rfl _ _ rfl (w.heap.size + 3) (.slice qu mu cu) ys.length (fl EV ys) rfl (owns_below R10.out.row B900.out) hb4.out.1 (.slice (some ⟨b900, 0, none⟩) 1 1) [mV] rfl (one_ls M900.out rfl) (by have := hb4.out.2.1; simp; omega) (by have := hb4.out.2.2; simp; omega) ?_
      intro v11 w11 h11 k11
      obtain ⟨g, cap, hv, hc, RZ⟩ := R10.out.mark B900.out (owns_re h11.out (by simp) (by rw [fl_append])) k11.out
      subst hv
      rw [hyx.out.1] at RZ
      have RH := hid RZ
      have q0 : (0 : Int) ≤ (nl : Int) := by omega
      have q1 : (nl : Int) ≤ (cap : Int) := by have := hyx.out.1; omega
      have q2 : ys.length + 1 = nl + 1 := by have := hyx.out.1; omega
      rw [q2]
      clear h11 k11 RZ hc q2 hb4 M900
      refine hK.out _ _ (fun hD => ⟨RH.out.h3, RH.out.h1⟩) ?_
      clear hK K
      try simp only [Act.put, List.setIfInBounds_toArray, List.set_cons_zero, List.set_cons_succ]
      have S11 := hid (And.intro RH.out.h3 RH.out.h1)
      refine' wpAnyD_take (i := 8) (oi := { dst := some 67, op := Go.Op.slice 22 (Go.Operand.tmp 63) none (some (Go.Operand.tmp 66)) none, type := 22, pos := "law.go:79", after := #[{ on := 4, ground := Go.Ground.data }, { on := 7, ground := Go.Ground.data }], guard := none }) (v := _) rfl (by kernel_rfl) (by kernel_rfl) (by kernel_rfl) (fun _ _ _ h => h) (by kernel_rfl) (Or.inl ⟨by rfl, ?hy61⟩) S11.out ?rest61
      case hy61 => (intro W hSw; go_simp; try (with_reducible rfl))
      try simp only [Act.put, List.setIfInBounds_toArray, List.set_cons_zero, List.set_cons_succ]
      refine' wpAnyD_take (i := 9) (oi := { dst := some 68, op := Go.Op.fieldAddr 25 (Go.Operand.tmp 3) 1, type := 0, pos := "law.go:79", after := #[{ on := 0, ground := Go.Ground.phase }, { on := 1, ground := Go.Ground.phase }, { on := 2, ground := Go.Ground.phase }, { on := 3, ground := Go.Ground.phase }, { on := 4, ground := Go.Ground.phase }, { on := 5, ground := Go.Ground.phase }, { on := 6, ground := Go.Ground.phase }, { on := 7, ground := Go.Ground.phase }, { on := 8, ground := Go.Ground.phase }], guard := none }) (v := _) rfl (by kernel_rfl) (by kernel_rfl) (by kernel_rfl) (fun _ _ _ h => h) (by kernel_rfl) (Or.inl ⟨by rfl, ?hy62⟩) S11.out ?rest62
      case hy62 => (intro W hSw; go_simp; try (with_reducible rfl))
      try simp only [Act.put, List.setIfInBounds_toArray, List.set_cons_zero, List.set_cons_succ]
      refine wpAnyD_one (i := 10) (o := { dst := none, op := Go.Op.store 22 (Go.Operand.tmp 68) (Go.Operand.tmp 67), type := 0, pos := "law.go:79", after := #[{ on := 9, ground := Go.Ground.data }, { on := 8, ground := Go.Ground.data }, { on := 4, ground := Go.Ground.chain }, { on := 0, ground := Go.Ground.phase }, { on := 1, ground := Go.Ground.phase }, { on := 2, ground := Go.Ground.phase }, { on := 3, ground := Go.Ground.phase }, { on := 4, ground := Go.Ground.phase }, { on := 5, ground := Go.Ground.phase }, { on := 6, ground := Go.Ground.phase }, { on := 7, ground := Go.Ground.phase }, { on := 8, ground := Go.Ground.phase }], guard := none }) (by kernel_rfl) rfl (fun K hK => ?_)
      have en := (tk_store RH.out.h3).1
      have en2 := (tk_store RH.out.h3).2
      have en3 := tk_lt RH.out.h3
      go_simp
      refine hK.out _ _ (fun hD => absurd (by decide) hD) ?_
      clear hK K en en2 en3
      try simp only [Act.put, List.setIfInBounds_toArray, List.set_cons_zero, List.set_cons_succ]
      refine wpAnyD_done (by kernel_rfl) ?_ _
      have RQ : Hid (Rz w (w11.setCell ⟨w.heap.size + 2, 1, none⟩ (.slice (some ⟨g, 0, none⟩) nl cap)) (gvc a (.slice pn nl cn) (.slice pe el ce)) (gvc a (.slice (some ⟨g, 0, none⟩) nl cap) (.slice none 0 0)) (.slice (some ⟨g, 0, none⟩) nl cap) ys) := RH.out.set 1 _
      clear RH S11 S900 S0 BD B900 R10 HI
      go_upto_region 10 with fail
      generalize w11.setCell ⟨w.heap.size + 2, 1, none⟩ (.slice (some ⟨g, 0, none⟩) nl cap) = W12 at RQ ⊢
      have LC : Hid (Lz ED w.heap.size W12 (.slice pe el ce) es) := HG.out.edges.below RQ.out.bl
      have HSZ : Hid (es.length * 40 ≤ 140737488351232) := HBG.out.2.1
      refine wp_regionD (S := fun W => Below W12.heap.size W12 W) (D := [12]) hmx ?_
      have BD : Hid (Below W12.heap.size W12 W12.drew) := (Gr.refl _).drew.below
      generalize W12.drew = Wd at BD ⊢
      refine' wpAnyD_take (i := 1) (oi := { dst := some 70, op := Go.Op.fieldAddr 25 (Go.Operand.tmp 1) 2, type := 0, pos := "law.go:80", after := #[], guard := none }) (v := _) rfl (by kernel_rfl) (by kernel_rfl) (by kernel_rfl) (fun _ _ _ h => h) (by kernel_rfl) (Or.inl ⟨by rfl, ?hy63⟩) BD.out ?rest63
      case hy63 => (intro W hSw; go_simp; try (with_reducible rfl))
      try simp only [Act.put, List.setIfInBounds_toArray, List.set_cons_zero, List.set_cons_succ]
      refine' wpAnyD_take (i := 2) (oi := { dst := some 71, op := Go.Op.load 23 (Go.Operand.tmp 70), type := 23, pos := "law.go:80", after := #[{ on := 1, ground := Go.Ground.data }], guard := none }) (v := _) rfl (by kernel_rfl) (by kernel_rfl) (by kernel_rfl) (fun _ _ _ h => h) (by kernel_rfl) (Or.inl ⟨by rfl, ?hy64⟩) BD.out ?rest64
      case hy64 => (intro W hSw; have hb := (hSw.block _ (tk_lt RQ.out.h1)).trans RQ.out.h1; have hc := (tk_store hb).1 2; have hl := tk_lt hb; go_simp; try (with_reducible rfl))
      try simp only [Act.put, List.setIfInBounds_toArray, List.set_cons_zero, List.set_cons_succ]
      refine' wpAnyD_take (i := 4) (oi := { dst := some 73, op := Go.Op.build 47 #[(0, Go.Operand.const (Go.Value.int Go.IntKind.i64 777))], type := 47, pos := "law.go:80", after := #[], guard := none }) (v := _) rfl (by kernel_rfl) (by kernel_rfl) (by kernel_rfl) (fun _ _ _ h => h) (by kernel_rfl) (Or.inl ⟨by rfl, ?hy65⟩) BD.out ?rest65
      case hy65 => (intro W hSw; go_simp; try (with_reducible rfl))
      try simp only [Act.put, List.setIfInBounds_toArray, List.set_cons_zero, List.set_cons_succ]
      refine' wpAnyD_take (i := 7) (oi := { dst := some 76, op := Go.Op.fieldAddr 25 (Go.Operand.tmp 1) 2, type := 0, pos := "law.go:80", after := #[], guard := none }) (v := _) rfl (by kernel_rfl) (by kernel_rfl) (by kernel_rfl) (fun _ _ _ h => h) (by kernel_rfl) (Or.inl ⟨by rfl, ?hy66⟩) BD.out ?rest66
      case hy66 => (intro W hSw; go_simp; try (with_reducible rfl))
      try simp only [Act.put, List.setIfInBounds_toArray, List.set_cons_zero, List.set_cons_succ]
      refine' wpAnyD_take (i := 8) (oi := { dst := some 77, op := Go.Op.load 23 (Go.Operand.tmp 76), type := 23, pos := "law.go:80", after := #[{ on := 7, ground := Go.Ground.data }], guard := none }) (v := _) rfl (by kernel_rfl) (by kernel_rfl) (by kernel_rfl) (fun _ _ _ h => h) (by kernel_rfl) (Or.inl ⟨by rfl, ?hy67⟩) BD.out ?rest67
      case hy67 => (intro W hSw; have hb := (hSw.block _ (tk_lt RQ.out.h1)).trans RQ.out.h1; have hc := (tk_store hb).1 2; have hl := tk_lt hb; go_simp; try (with_reducible rfl))
      try simp only [Act.put, List.setIfInBounds_toArray, List.set_cons_zero, List.set_cons_succ]
      refine' wpAnyD_take (i := 9) (oi := { dst := some 78, op := Go.Op.call { callee := Go.Callee.builtin Go.Builtin.len, args := #[Go.Operand.tmp 77], argTypes := #[23] }, type := 3, pos := "law.go:80", after := #[{ on := 8, ground := Go.Ground.data }], guard := none }) (v := _) rfl (by kernel_rfl) (by kernel_rfl) (by kernel_rfl) (fun _ _ _ h => h) (by kernel_rfl) (Or.inl ⟨by rfl, ?hy68⟩) BD.out ?rest68
      case hy68 => (intro W hSw; go_simp; try (with_reducible rfl))
      try simp only [Act.put, List.setIfInBounds_toArray, List.set_cons_zero, List.set_cons_succ]
      refine wpAnyD_two (i := 0) (j := 5) (oi := { dst := some 69, op := Go.Op.buildSlice 23 0 #[], type := 23, pos := "law.go:80", after := #[], guard := none }) (oj := { dst := some 74, op := Go.Op.buildSlice 23 1 #[(0, Go.Operand.tmp 73)], type := 23, pos := "law.go:80", after := #[{ on := 4, ground := Go.Ground.data }], guard := none }) (by kernel_rfl) rfl rfl (fun K hK => ?_) (fun K hK => ?_)
      · go_simp
        have g69 := (Gr.refl Wd).alloc (.cells #[] 47)
        have a69 := heap_new' Wd (.cells #[] 47)
        obtain ⟨b69, hb69⟩ : ∃ b, b = Wd.heap.size := ⟨_, rfl⟩
        obtain ⟨V69, hV69⟩ : ∃ V, V = Wd.alloc (.cells #[] 47) := ⟨_, rfl⟩
        rw [← hV69, ← hb69]
        rw [← hV69] at g69 a69
        have B69 := hid (BD.out.trans (g69.below.mono BD.out.size))
        have O69 : Hid (V69.ownsRow W12.heap.size 47 5 (.slice (some ⟨b69, 0, none⟩) 0 0) 0 []) := by
          rw [hV69, hb69]
          exact World.ownsRow_made Wd #[] 0 BD.out.size (Nat.zero_le _) rfl
        clear g69 a69 hV69 hb69
        refine hK.out _ _ (fun hD => B69.out) ?_
        clear hK K
        try simp only [Act.put, List.setIfInBounds_toArray, List.set_cons_zero, List.set_cons_succ]
        refine wpAnyD_two (i := 3) (j := 5) (oi := { dst := some 72, op := Go.Op.call { callee := Go.Callee.builtin Go.Builtin.append, args := #[Go.Operand.tmp 69, Go.Operand.tmp 71], argTypes := #[23, 23] }, type := 23, pos := "law.go:80", after := #[{ on := 0, ground := Go.Ground.data }, { on := 2, ground := Go.Ground.data }], guard := none }) (oj := { dst := some 74, op := Go.Op.buildSlice 23 1 #[(0, Go.Operand.tmp 73)], type := 23, pos := "law.go:80", after := #[{ on := 4, ground := Go.Ground.data }], guard := none }) (by kernel_rfl) rfl rfl (fun K hK => ?_) (fun K hK => ?_)
        · refine step_appZ ED Try.underlying23 infoD rfl (by decide) rfl _ _ rfl W12.heap.size (.slice (some ⟨b69, 0, none⟩) 0 0) 0 [] rfl O69.out B69.out.size w.heap.size (.slice pe el ce) es rfl (LC.out.below B69.out) (by have := HSZ.out; omega) (by have := HSZ.out; unfold maxLen; omega) ?_
          intro v70 w70 h70 k70
          have K70 := hid (Kp.grownBy (S := fun k => ((.slice (some ⟨b69, 0, none⟩) 0 0) : Value).ownBlock = some k) k70.out (fun _ h => h))
          have B70 := hid (B69.out.trans (K70.out.below B69.out.size (fun k hk => (owns_rd O69.out k hk).1)))
          have O70 : Hid (w70.ownsRow W12.heap.size 47 5 v70 es.length (fl ED es)) := owns_re h70.out (by simp) (by simp)
          clear h70 k70
          refine hK.out _ _ (fun hD => B70.out) ?_
          clear hK K
          try simp only [Act.put, List.setIfInBounds_toArray, List.set_cons_zero, List.set_cons_succ]
          refine wpAnyD_one (i := 5) (o := { dst := some 74, op := Go.Op.buildSlice 23 1 #[(0, Go.Operand.tmp 73)], type := 23, pos := "law.go:80", after := #[{ on := 4, ground := Go.Ground.data }], guard := none }) (by kernel_rfl) rfl (fun K hK => ?_)
          go_simp
          have g71 := (Gr.refl w70).alloc (.cells #[.int .i64 777, .int .i64 0, .int .i64 0, .int .i64 0, .bool false] 47)
          have a71 := heap_new' w70 (.cells #[.int .i64 777, .int .i64 0, .int .i64 0, .int .i64 0, .bool false] 47)
          obtain ⟨b71, hb71⟩ : ∃ b, b = w70.heap.size := ⟨_, rfl⟩
          obtain ⟨V71, hV71⟩ : ∃ V, V = w70.alloc (.cells #[.int .i64 777, .int .i64 0, .int .i64 0, .int .i64 0, .bool false] 47) := ⟨_, rfl⟩
          rw [← hV71, ← hb71]
          rw [← hV71] at g71 a71
          have B71 := hid (B70.out.trans (g71.below.mono B70.out.size))
          have M71 : Hid (V71.heap[b71]? = some (.cells #[.int .i64 777, .int .i64 0, .int .i64 0, .int .i64 0, .bool false] 47 (0, 0))) := by
            show _ = _
            rw [hb71]
            exact a71
          have O71 := hid (owns_below O70.out g71.below)
          have N71 : Hid (∀ k, (v70 : Value).ownBlock = some k → k ≠ b71) := fun k hk e => by
            have h1 := (owns_rd O70.out k hk).2
            omega
          clear g71 a71 hV71 hb71
          refine hK.out _ _ (fun hD => B71.out) ?_
          clear hK K
          try simp only [Act.put, List.setIfInBounds_toArray, List.set_cons_zero, List.set_cons_succ]
          refine wpAnyD_one (i := 6) (o := { dst := some 75, op := Go.Op.call { callee := Go.Callee.builtin Go.Builtin.append, args := #[Go.Operand.tmp 72, Go.Operand.tmp 74], argTypes := #[23, 23] }, type := 23, pos := "law.go:80", after := #[{ on := 3, ground := Go.Ground.data }, { on := 5, ground := Go.Ground.data }, { on := 3, ground := Go.Ground.chain }], guard := none }) (by kernel_rfl) rfl (fun K hK => ?_)
          refine step_appL ED Try.underlying23 infoD rfl (by decide) rfl _ _ rfl W12.heap.size v70 es.length (fl ED es) rfl O71.out B71.out.size (.slice (some ⟨b71, 0, none⟩) 1 1) [mD] rfl (one_ls M71.out rfl) (by have := HSZ.out; simp; omega) (by have := HSZ.out; unfold maxLen; simp; omega) ?_
          intro v72 w72 h72 k72
          have K72 := hid (Kp.grownBy (S := fun k => (v70 : Value).ownBlock = some k) k72.out (fun _ h => h))
          have B72 := hid (B71.out.trans (K72.out.below B71.out.size (fun k hk => (owns_rd O71.out k hk).1)))
          have O72 : Hid (w72.ownsRow W12.heap.size 47 5 v72 (es.length + 1) (fl ED (es ++ [mD]))) := owns_re h72.out (by simp) (by rw [fl_append])
          obtain ⟨g72, cap72, hv72, hc72, MK72⟩ := mk_of O72.out
          subst hv72
          have HM72 := hid MK72
          have GL72 := hid ((owns_rd O72.out g72 rfl).1)
          have q0 : (0 : Int) ≤ (el : Int) := by omega
          have q1 : (el : Int) ≤ (cap72 : Int) := by have := HEL.out; omega
          have q2 : es.length + 1 = el + 1 := by have := HEL.out; omega
          rw [q2]
          clear h72 k72 MK72 hc72 q2
          refine hK.out _ _ (fun hD => B72.out) ?_
          clear hK K
          try simp only [Act.put, List.setIfInBounds_toArray, List.set_cons_zero, List.set_cons_succ]
          refine' wpAnyD_take (i := 10) (oi := { dst := some 79, op := Go.Op.slice 23 (Go.Operand.tmp 75) none (some (Go.Operand.tmp 78)) none, type := 23, pos := "law.go:80", after := #[{ on := 6, ground := Go.Ground.data }, { on := 9, ground := Go.Ground.data }], guard := none }) (v := _) rfl (by kernel_rfl) (by kernel_rfl) (by kernel_rfl) (fun _ _ _ h => h) (by kernel_rfl) (Or.inl ⟨by rfl, ?hy73⟩) B72.out ?rest73
          case hy73 => (intro W hSw; go_simp; try (with_reducible rfl))
          try simp only [Act.put, List.setIfInBounds_toArray, List.set_cons_zero, List.set_cons_succ]
          refine' wpAnyD_take (i := 11) (oi := { dst := some 80, op := Go.Op.fieldAddr 25 (Go.Operand.tmp 3) 2, type := 0, pos := "law.go:80", after := #[{ on := 0, ground := Go.Ground.phase }, { on := 1, ground := Go.Ground.phase }, { on := 2, ground := Go.Ground.phase }, { on := 3, ground := Go.Ground.phase }, { on := 4, ground := Go.Ground.phase }, { on := 5, ground := Go.Ground.phase }, { on := 6, ground := Go.Ground.phase }, { on := 7, ground := Go.Ground.phase }, { on := 8, ground := Go.Ground.phase }, { on := 9, ground := Go.Ground.phase }, { on := 10, ground := Go.Ground.phase }], guard := none }) (v := _) rfl (by kernel_rfl) (by kernel_rfl) (by kernel_rfl) (fun _ _ _ h => h) (by kernel_rfl) (Or.inl ⟨by rfl, ?hy74⟩) B72.out ?rest74
          case hy74 => (intro W hSw; go_simp; try (with_reducible rfl))
          try simp only [Act.put, List.setIfInBounds_toArray, List.set_cons_zero, List.set_cons_succ]
          refine wpAnyD_one (i := 12) (o := { dst := none, op := Go.Op.store 23 (Go.Operand.tmp 80) (Go.Operand.tmp 79), type := 0, pos := "law.go:80", after := #[{ on := 11, ground := Go.Ground.data }, { on := 10, ground := Go.Ground.data }, { on := 6, ground := Go.Ground.chain }, { on := 0, ground := Go.Ground.phase }, { on := 1, ground := Go.Ground.phase }, { on := 2, ground := Go.Ground.phase }, { on := 3, ground := Go.Ground.phase }, { on := 4, ground := Go.Ground.phase }, { on := 5, ground := Go.Ground.phase }, { on := 6, ground := Go.Ground.phase }, { on := 7, ground := Go.Ground.phase }, { on := 8, ground := Go.Ground.phase }, { on := 9, ground := Go.Ground.phase }, { on := 10, ground := Go.Ground.phase }], guard := none }) (by kernel_rfl) rfl (fun K hK => ?_)
          have RA := hid (RQ.out.below B72.out)
          have en := (tk_store RA.out.h3).1
          have en2 := (tk_store RA.out.h3).2
          have en3 := tk_lt RA.out.h3
          have RB : Hid (Rz w (w72.setCell ⟨w.heap.size + 2, 2, none⟩ (.slice (some ⟨g72, 0, none⟩) el cap72)) (gvc a (.slice pn nl cn) (.slice pe el ce)) (gvc a (.slice (some ⟨g, 0, none⟩) nl cap) (.slice (some ⟨g72, 0, none⟩) el cap72)) (.slice (some ⟨g, 0, none⟩) nl cap) ys ∧ Mk ED 47 (w72.setCell ⟨w.heap.size + 2, 2, none⟩ (.slice (some ⟨g72, 0, none⟩) el cap72)) (.slice (some ⟨g72, 0, none⟩) el cap72) es mD ∧ w.heap.size + 3 ≤ g72) := by
            have s13 := tk_set RA.out.h3 2 (.slice (some ⟨g72, 0, none⟩) el cap72)
            have hg := GL72.out
            have hl := tk_lt RQ.out.h3
            have h3 := HM72.out
            rw [← HEL.out] at h3
            exact ⟨RA.out.set 2 _, h3.kp s13.2 (fun k e e2 => by simp [Value.ownBlock] at e; omega), by omega⟩
          go_simp
          refine hK.out _ _ (fun hD => absurd (by decide) hD) ?_
          clear hK K en en2 en3
          try simp only [Act.put, List.setIfInBounds_toArray, List.set_cons_zero, List.set_cons_succ]
          refine wpAnyD_done (by kernel_rfl) ?_ _
          generalize (w72.setCell ⟨w.heap.size + 2, 2, none⟩ (.slice (some ⟨g72, 0, none⟩) el cap72)) = W14 at RB ⊢
          have e1 := (tk_store RB.out.1.h3).1
          have e2 := tk_lt RB.out.1.h3
          have e3 := (tk_store RB.out.1.h2).1
          have e4 := (tk_store RB.out.1.h2).2
          have e5 := tk_lt RB.out.1.h2
          go_wp2_with fail
          obtain ⟨wf, hwf⟩ : ∃ wf, wf = ((W14.setCell ⟨w.heap.size + 1, 0, none⟩ (.int .i64 a)).setCell ⟨w.heap.size + 1, 1, none⟩ (.slice (some ⟨g, 0, none⟩) nl cap)).setCell ⟨w.heap.size + 1, 2, none⟩ (.slice (some ⟨g72, 0, none⟩) el cap72) := ⟨_, rfl⟩
          rw [← hwf]
          obtain ⟨hbf, hkf⟩ : wf.heap[w.heap.size + 1]? = some (.cells #[.int .i64 a, .slice (some ⟨g, 0, none⟩) nl cap, (.slice (some ⟨g72, 0, none⟩) el cap72)] 25 (0, 0)) ∧ Kp (fun k => k = w.heap.size + 1) W14 wf := by
            rw [hwf]
            exact fill3 RB.out.1.h2 _ _ _
          clear hwf e1 e2 e3 e4 e5
          obtain ⟨qf, -⟩ := tk_store hbf
          have hlf := tk_lt hbf
          refine bodyPost_ret (v := .agg #[.int .i64 a, .slice (some ⟨g, 0, none⟩) nl cap, (.slice (some ⟨g72, 0, none⟩) el cap72)]) (by simp [results, Try.results6, go_sem, qf]) rfl ?_
          have hlo := RB.out.1.lo
          exact ⟨_, _, ys, rfl, RB.out.1.bl.trans (hkf.below RB.out.1.bl.size (fun k e => by omega)), hyx.out.2.1, RB.out.1.nds.kp hkf (fun k e e2 => by have := hlo.1 k e; omega), RB.out.2.1.kp hkf (fun k e e2 => by have := RB.out.2.2; simp [Value.ownBlock] at e; omega), fun y hy => ⟨(RB.out.1.each y hy).1.kp hkf (fun k e e2 => by have := (hlo.2 y hy).1 k e; omega), (RB.out.1.each y hy).2.kp hkf (fun k e e2 => by have := (hlo.2 y hy).2 k e; omega)⟩, fun k e => by have := hlo.1 k e; omega, fun k e => by have := RB.out.2.2; simp [Value.ownBlock] at e; omega, fun y hy => ⟨fun k e => by have := (hlo.2 y hy).1 k e; omega, fun k e => by have := (hlo.2 y hy).2 k e; omega⟩⟩
        · go_simp
          have g75 := (Gr.refl V69).alloc (.cells #[.int .i64 777, .int .i64 0, .int .i64 0, .int .i64 0, .bool false] 47)
          have a75 := heap_new' V69 (.cells #[.int .i64 777, .int .i64 0, .int .i64 0, .int .i64 0, .bool false] 47)
          obtain ⟨b75, hb75⟩ : ∃ b, b = V69.heap.size := ⟨_, rfl⟩
          obtain ⟨V75, hV75⟩ : ∃ V, V = V69.alloc (.cells #[.int .i64 777, .int .i64 0, .int .i64 0, .int .i64 0, .bool false] 47) := ⟨_, rfl⟩
          rw [← hV75, ← hb75]
          rw [← hV75] at g75 a75
          have B75 := hid (B69.out.trans (g75.below.mono B69.out.size))
          have M75 : Hid (V75.heap[b75]? = some (.cells #[.int .i64 777, .int .i64 0, .int .i64 0, .int .i64 0, .bool false] 47 (0, 0))) := by
            show _ = _
            rw [hb75]
            exact a75
          have O75 := hid (owns_below O69.out g75.below)
          have N75 : Hid (∀ k, ((.slice (some ⟨b69, 0, none⟩) 0 0) : Value).ownBlock = some k → k ≠ b75) := fun k hk e => by
            have h1 := (owns_rd O69.out k hk).2
            omega
          clear g75 a75 hV75 hb75
          refine hK.out _ _ (fun hD => B75.out) ?_
          clear hK K
          try simp only [Act.put, List.setIfInBounds_toArray, List.set_cons_zero, List.set_cons_succ]
          refine wpAnyD_one (i := 3) (o := { dst := some 72, op := Go.Op.call { callee := Go.Callee.builtin Go.Builtin.append, args := #[Go.Operand.tmp 69, Go.Operand.tmp 71], argTypes := #[23, 23] }, type := 23, pos := "law.go:80", after := #[{ on := 0, ground := Go.Ground.data }, { on := 2, ground := Go.Ground.data }], guard := none }) (by kernel_rfl) rfl (fun K hK => ?_)
          refine step_appZ ED Try.underlying23 infoD rfl (by decide) rfl _ _ rfl W12.heap.size (.slice (some ⟨b69, 0, none⟩) 0 0) 0 [] rfl O75.out B75.out.size w.heap.size (.slice pe el ce) es rfl (LC.out.below B75.out) (by have := HSZ.out; omega) (by have := HSZ.out; unfold maxLen; omega) ?_
          intro v76 w76 h76 k76
          have K76 := hid (Kp.grownBy (S := fun k => ((.slice (some ⟨b69, 0, none⟩) 0 0) : Value).ownBlock = some k) k76.out (fun _ h => h))
          have B76 := hid (B75.out.trans (K76.out.below B75.out.size (fun k hk => (owns_rd O75.out k hk).1)))
          have O76 : Hid (w76.ownsRow W12.heap.size 47 5 v76 es.length (fl ED es)) := owns_re h76.out (by simp) (by simp)
          have M76 := hid ((K76.out.block _ (tk_lt M75.out) (fun e => N75.out _ e rfl)).trans M75.out)
          clear h76 k76
          refine hK.out _ _ (fun hD => B76.out) ?_
          clear hK K
          try simp only [Act.put, List.setIfInBounds_toArray, List.set_cons_zero, List.set_cons_succ]
          refine wpAnyD_one (i := 6) (o := { dst := some 75, op := Go.Op.call { callee := Go.Callee.builtin Go.Builtin.append, args := #[Go.Operand.tmp 72, Go.Operand.tmp 74], argTypes := #[23, 23] }, type := 23, pos := "law.go:80", after := #[{ on := 3, ground := Go.Ground.data }, { on := 5, ground := Go.Ground.data }, { on := 3, ground := Go.Ground.chain }], guard := none }) (by kernel_rfl) rfl (fun K hK => ?_)
          refine step_appL ED Try.underlying23 infoD rfl (by decide) rfl _ _ rfl W12.heap.size v76 es.length (fl ED es) rfl O76.out B76.out.size (.slice (some ⟨b75, 0, none⟩) 1 1) [mD] rfl (one_ls M76.out rfl) (by have := HSZ.out; simp; omega) (by have := HSZ.out; unfold maxLen; simp; omega) ?_
          intro v77 w77 h77 k77
          have K77 := hid (Kp.grownBy (S := fun k => (v76 : Value).ownBlock = some k) k77.out (fun _ h => h))
          have B77 := hid (B76.out.trans (K77.out.below B76.out.size (fun k hk => (owns_rd O76.out k hk).1)))
          have O77 : Hid (w77.ownsRow W12.heap.size 47 5 v77 (es.length + 1) (fl ED (es ++ [mD]))) := owns_re h77.out (by simp) (by rw [fl_append])
          obtain ⟨g77, cap77, hv77, hc77, MK77⟩ := mk_of O77.out
          subst hv77
          have HM77 := hid MK77
          have GL77 := hid ((owns_rd O77.out g77 rfl).1)
          have q0 : (0 : Int) ≤ (el : Int) := by omega
          have q1 : (el : Int) ≤ (cap77 : Int) := by have := HEL.out; omega
          have q2 : es.length + 1 = el + 1 := by have := HEL.out; omega
          rw [q2]
          clear h77 k77 MK77 hc77 q2
          refine hK.out _ _ (fun hD => B77.out) ?_
          clear hK K
          try simp only [Act.put, List.setIfInBounds_toArray, List.set_cons_zero, List.set_cons_succ]
          refine' wpAnyD_take (i := 10) (oi := { dst := some 79, op := Go.Op.slice 23 (Go.Operand.tmp 75) none (some (Go.Operand.tmp 78)) none, type := 23, pos := "law.go:80", after := #[{ on := 6, ground := Go.Ground.data }, { on := 9, ground := Go.Ground.data }], guard := none }) (v := _) rfl (by kernel_rfl) (by kernel_rfl) (by kernel_rfl) (fun _ _ _ h => h) (by kernel_rfl) (Or.inl ⟨by rfl, ?hy78⟩) B77.out ?rest78
          case hy78 => (intro W hSw; go_simp; try (with_reducible rfl))
          try simp only [Act.put, List.setIfInBounds_toArray, List.set_cons_zero, List.set_cons_succ]
          refine' wpAnyD_take (i := 11) (oi := { dst := some 80, op := Go.Op.fieldAddr 25 (Go.Operand.tmp 3) 2, type := 0, pos := "law.go:80", after := #[{ on := 0, ground := Go.Ground.phase }, { on := 1, ground := Go.Ground.phase }, { on := 2, ground := Go.Ground.phase }, { on := 3, ground := Go.Ground.phase }, { on := 4, ground := Go.Ground.phase }, { on := 5, ground := Go.Ground.phase }, { on := 6, ground := Go.Ground.phase }, { on := 7, ground := Go.Ground.phase }, { on := 8, ground := Go.Ground.phase }, { on := 9, ground := Go.Ground.phase }, { on := 10, ground := Go.Ground.phase }], guard := none }) (v := _) rfl (by kernel_rfl) (by kernel_rfl) (by kernel_rfl) (fun _ _ _ h => h) (by kernel_rfl) (Or.inl ⟨by rfl, ?hy79⟩) B77.out ?rest79
          case hy79 => (intro W hSw; go_simp; try (with_reducible rfl))
          try simp only [Act.put, List.setIfInBounds_toArray, List.set_cons_zero, List.set_cons_succ]
          refine wpAnyD_one (i := 12) (o := { dst := none, op := Go.Op.store 23 (Go.Operand.tmp 80) (Go.Operand.tmp 79), type := 0, pos := "law.go:80", after := #[{ on := 11, ground := Go.Ground.data }, { on := 10, ground := Go.Ground.data }, { on := 6, ground := Go.Ground.chain }, { on := 0, ground := Go.Ground.phase }, { on := 1, ground := Go.Ground.phase }, { on := 2, ground := Go.Ground.phase }, { on := 3, ground := Go.Ground.phase }, { on := 4, ground := Go.Ground.phase }, { on := 5, ground := Go.Ground.phase }, { on := 6, ground := Go.Ground.phase }, { on := 7, ground := Go.Ground.phase }, { on := 8, ground := Go.Ground.phase }, { on := 9, ground := Go.Ground.phase }, { on := 10, ground := Go.Ground.phase }], guard := none }) (by kernel_rfl) rfl (fun K hK => ?_)
          have RA := hid (RQ.out.below B77.out)
          have en := (tk_store RA.out.h3).1
          have en2 := (tk_store RA.out.h3).2
          have en3 := tk_lt RA.out.h3
          have RB : Hid (Rz w (w77.setCell ⟨w.heap.size + 2, 2, none⟩ (.slice (some ⟨g77, 0, none⟩) el cap77)) (gvc a (.slice pn nl cn) (.slice pe el ce)) (gvc a (.slice (some ⟨g, 0, none⟩) nl cap) (.slice (some ⟨g77, 0, none⟩) el cap77)) (.slice (some ⟨g, 0, none⟩) nl cap) ys ∧ Mk ED 47 (w77.setCell ⟨w.heap.size + 2, 2, none⟩ (.slice (some ⟨g77, 0, none⟩) el cap77)) (.slice (some ⟨g77, 0, none⟩) el cap77) es mD ∧ w.heap.size + 3 ≤ g77) := by
            have s13 := tk_set RA.out.h3 2 (.slice (some ⟨g77, 0, none⟩) el cap77)
            have hg := GL77.out
            have hl := tk_lt RQ.out.h3
            have h3 := HM77.out
            rw [← HEL.out] at h3
            exact ⟨RA.out.set 2 _, h3.kp s13.2 (fun k e e2 => by simp [Value.ownBlock] at e; omega), by omega⟩
          go_simp
          refine hK.out _ _ (fun hD => absurd (by decide) hD) ?_
          clear hK K en en2 en3
          try simp only [Act.put, List.setIfInBounds_toArray, List.set_cons_zero, List.set_cons_succ]
          refine wpAnyD_done (by kernel_rfl) ?_ _
          generalize (w77.setCell ⟨w.heap.size + 2, 2, none⟩ (.slice (some ⟨g77, 0, none⟩) el cap77)) = W14 at RB ⊢
          have e1 := (tk_store RB.out.1.h3).1
          have e2 := tk_lt RB.out.1.h3
          have e3 := (tk_store RB.out.1.h2).1
          have e4 := (tk_store RB.out.1.h2).2
          have e5 := tk_lt RB.out.1.h2
          go_wp2_with fail
          obtain ⟨wf, hwf⟩ : ∃ wf, wf = ((W14.setCell ⟨w.heap.size + 1, 0, none⟩ (.int .i64 a)).setCell ⟨w.heap.size + 1, 1, none⟩ (.slice (some ⟨g, 0, none⟩) nl cap)).setCell ⟨w.heap.size + 1, 2, none⟩ (.slice (some ⟨g77, 0, none⟩) el cap77) := ⟨_, rfl⟩
          rw [← hwf]
          obtain ⟨hbf, hkf⟩ : wf.heap[w.heap.size + 1]? = some (.cells #[.int .i64 a, .slice (some ⟨g, 0, none⟩) nl cap, (.slice (some ⟨g77, 0, none⟩) el cap77)] 25 (0, 0)) ∧ Kp (fun k => k = w.heap.size + 1) W14 wf := by
            rw [hwf]
            exact fill3 RB.out.1.h2 _ _ _
          clear hwf e1 e2 e3 e4 e5
          obtain ⟨qf, -⟩ := tk_store hbf
          have hlf := tk_lt hbf
          refine bodyPost_ret (v := .agg #[.int .i64 a, .slice (some ⟨g, 0, none⟩) nl cap, (.slice (some ⟨g77, 0, none⟩) el cap77)]) (by simp [results, Try.results6, go_sem, qf]) rfl ?_
          have hlo := RB.out.1.lo
          exact ⟨_, _, ys, rfl, RB.out.1.bl.trans (hkf.below RB.out.1.bl.size (fun k e => by omega)), hyx.out.2.1, RB.out.1.nds.kp hkf (fun k e e2 => by have := hlo.1 k e; omega), RB.out.2.1.kp hkf (fun k e e2 => by have := RB.out.2.2; simp [Value.ownBlock] at e; omega), fun y hy => ⟨(RB.out.1.each y hy).1.kp hkf (fun k e e2 => by have := (hlo.2 y hy).1 k e; omega), (RB.out.1.each y hy).2.kp hkf (fun k e e2 => by have := (hlo.2 y hy).2 k e; omega)⟩, fun k e => by have := hlo.1 k e; omega, fun k e => by have := RB.out.2.2; simp [Value.ownBlock] at e; omega, fun y hy => ⟨fun k e => by have := (hlo.2 y hy).1 k e; omega, fun k e => by have := (hlo.2 y hy).2 k e; omega⟩⟩
      · go_simp
        have g80 := (Gr.refl Wd).alloc (.cells #[.int .i64 777, .int .i64 0, .int .i64 0, .int .i64 0, .bool false] 47)
        have a80 := heap_new' Wd (.cells #[.int .i64 777, .int .i64 0, .int .i64 0, .int .i64 0, .bool false] 47)
        obtain ⟨b80, hb80⟩ : ∃ b, b = Wd.heap.size := ⟨_, rfl⟩
        obtain ⟨V80, hV80⟩ : ∃ V, V = Wd.alloc (.cells #[.int .i64 777, .int .i64 0, .int .i64 0, .int .i64 0, .bool false] 47) := ⟨_, rfl⟩
        rw [← hV80, ← hb80]
        rw [← hV80] at g80 a80
        have B80 := hid (BD.out.trans (g80.below.mono BD.out.size))
        have M80 : Hid (V80.heap[b80]? = some (.cells #[.int .i64 777, .int .i64 0, .int .i64 0, .int .i64 0, .bool false] 47 (0, 0))) := by
          show _ = _
          rw [hb80]
          exact a80
        clear g80 a80 hV80 hb80
        refine hK.out _ _ (fun hD => B80.out) ?_
        clear hK K
        try simp only [Act.put, List.setIfInBounds_toArray, List.set_cons_zero, List.set_cons_succ]
        refine wpAnyD_one (i := 0) (o := { dst := some 69, op := Go.Op.buildSlice 23 0 #[], type := 23, pos := "law.go:80", after := #[], guard := none }) (by kernel_rfl) rfl (fun K hK => ?_)
        go_simp
        have g81 := (Gr.refl V80).alloc (.cells #[] 47)
        have a81 := heap_new' V80 (.cells #[] 47)
        obtain ⟨b81, hb81⟩ : ∃ b, b = V80.heap.size := ⟨_, rfl⟩
        obtain ⟨V81, hV81⟩ : ∃ V, V = V80.alloc (.cells #[] 47) := ⟨_, rfl⟩
        rw [← hV81, ← hb81]
        rw [← hV81] at g81 a81
        have B81 := hid (B80.out.trans (g81.below.mono B80.out.size))
        have O81 : Hid (V81.ownsRow W12.heap.size 47 5 (.slice (some ⟨b81, 0, none⟩) 0 0) 0 []) := by
          rw [hV81, hb81]
          exact World.ownsRow_made V80 #[] 0 B80.out.size (Nat.zero_le _) rfl
        have M81 := hid ((g81.below.block _ (tk_lt M80.out)).trans M80.out)
        have N81 : Hid (∀ k, (Value.slice (some ⟨b81, 0, none⟩) 0 0).ownBlock = some k → k ≠ b80) := fun k hk e => by
          have h1 := tk_lt M80.out
          simp [Value.ownBlock] at hk
          omega
        clear g81 a81 hV81 hb81
        refine hK.out _ _ (fun hD => B81.out) ?_
        clear hK K
        try simp only [Act.put, List.setIfInBounds_toArray, List.set_cons_zero, List.set_cons_succ]
        refine wpAnyD_one (i := 3) (o := { dst := some 72, op := Go.Op.call { callee := Go.Callee.builtin Go.Builtin.append, args := #[Go.Operand.tmp 69, Go.Operand.tmp 71], argTypes := #[23, 23] }, type := 23, pos := "law.go:80", after := #[{ on := 0, ground := Go.Ground.data }, { on := 2, ground := Go.Ground.data }], guard := none }) (by kernel_rfl) rfl (fun K hK => ?_)
        refine step_appZ ED Try.underlying23 infoD rfl (by decide) rfl _ _ rfl W12.heap.size (.slice (some ⟨b81, 0, none⟩) 0 0) 0 [] rfl O81.out B81.out.size w.heap.size (.slice pe el ce) es rfl (LC.out.below B81.out) (by have := HSZ.out; omega) (by have := HSZ.out; unfold maxLen; omega) ?_
        intro v82 w82 h82 k82
        have K82 := hid (Kp.grownBy (S := fun k => ((.slice (some ⟨b81, 0, none⟩) 0 0) : Value).ownBlock = some k) k82.out (fun _ h => h))
        have B82 := hid (B81.out.trans (K82.out.below B81.out.size (fun k hk => (owns_rd O81.out k hk).1)))
        have O82 : Hid (w82.ownsRow W12.heap.size 47 5 v82 es.length (fl ED es)) := owns_re h82.out (by simp) (by simp)
        have M82 := hid ((K82.out.block _ (tk_lt M81.out) (fun e => N81.out _ e rfl)).trans M81.out)
        clear h82 k82
        refine hK.out _ _ (fun hD => B82.out) ?_
        clear hK K
        try simp only [Act.put, List.setIfInBounds_toArray, List.set_cons_zero, List.set_cons_succ]
        refine wpAnyD_one (i := 6) (o := { dst := some 75, op := Go.Op.call { callee := Go.Callee.builtin Go.Builtin.append, args := #[Go.Operand.tmp 72, Go.Operand.tmp 74], argTypes := #[23, 23] }, type := 23, pos := "law.go:80", after := #[{ on := 3, ground := Go.Ground.data }, { on := 5, ground := Go.Ground.data }, { on := 3, ground := Go.Ground.chain }], guard := none }) (by kernel_rfl) rfl (fun K hK => ?_)
        refine step_appL ED Try.underlying23 infoD rfl (by decide) rfl _ _ rfl W12.heap.size v82 es.length (fl ED es) rfl O82.out B82.out.size (.slice (some ⟨b80, 0, none⟩) 1 1) [mD] rfl (one_ls M82.out rfl) (by have := HSZ.out; simp; omega) (by have := HSZ.out; unfold maxLen; simp; omega) ?_
        intro v83 w83 h83 k83
        have K83 := hid (Kp.grownBy (S := fun k => (v82 : Value).ownBlock = some k) k83.out (fun _ h => h))
        have B83 := hid (B82.out.trans (K83.out.below B82.out.size (fun k hk => (owns_rd O82.out k hk).1)))
        have O83 : Hid (w83.ownsRow W12.heap.size 47 5 v83 (es.length + 1) (fl ED (es ++ [mD]))) := owns_re h83.out (by simp) (by rw [fl_append])
        obtain ⟨g83, cap83, hv83, hc83, MK83⟩ := mk_of O83.out
        subst hv83
        have HM83 := hid MK83
        have GL83 := hid ((owns_rd O83.out g83 rfl).1)
        have q0 : (0 : Int) ≤ (el : Int) := by omega
        have q1 : (el : Int) ≤ (cap83 : Int) := by have := HEL.out; omega
        have q2 : es.length + 1 = el + 1 := by have := HEL.out; omega
        rw [q2]
        clear h83 k83 MK83 hc83 q2
        refine hK.out _ _ (fun hD => B83.out) ?_
        clear hK K
        try simp only [Act.put, List.setIfInBounds_toArray, List.set_cons_zero, List.set_cons_succ]
        refine' wpAnyD_take (i := 10) (oi := { dst := some 79, op := Go.Op.slice 23 (Go.Operand.tmp 75) none (some (Go.Operand.tmp 78)) none, type := 23, pos := "law.go:80", after := #[{ on := 6, ground := Go.Ground.data }, { on := 9, ground := Go.Ground.data }], guard := none }) (v := _) rfl (by kernel_rfl) (by kernel_rfl) (by kernel_rfl) (fun _ _ _ h => h) (by kernel_rfl) (Or.inl ⟨by rfl, ?hy84⟩) B83.out ?rest84
        case hy84 => (intro W hSw; go_simp; try (with_reducible rfl))
        try simp only [Act.put, List.setIfInBounds_toArray, List.set_cons_zero, List.set_cons_succ]
        refine' wpAnyD_take (i := 11) (oi := { dst := some 80, op := Go.Op.fieldAddr 25 (Go.Operand.tmp 3) 2, type := 0, pos := "law.go:80", after := #[{ on := 0, ground := Go.Ground.phase }, { on := 1, ground := Go.Ground.phase }, { on := 2, ground := Go.Ground.phase }, { on := 3, ground := Go.Ground.phase }, { on := 4, ground := Go.Ground.phase }, { on := 5, ground := Go.Ground.phase }, { on := 6, ground := Go.Ground.phase }, { on := 7, ground := Go.Ground.phase }, { on := 8, ground := Go.Ground.phase }, { on := 9, ground := Go.Ground.phase }, { on := 10, ground := Go.Ground.phase }], guard := none }) (v := _) rfl (by kernel_rfl) (by kernel_rfl) (by kernel_rfl) (fun _ _ _ h => h) (by kernel_rfl) (Or.inl ⟨by rfl, ?hy85⟩) B83.out ?rest85
        case hy85 => (intro W hSw; go_simp; try (with_reducible rfl))
        try simp only [Act.put, List.setIfInBounds_toArray, List.set_cons_zero, List.set_cons_succ]
        refine wpAnyD_one (i := 12) (o := { dst := none, op := Go.Op.store 23 (Go.Operand.tmp 80) (Go.Operand.tmp 79), type := 0, pos := "law.go:80", after := #[{ on := 11, ground := Go.Ground.data }, { on := 10, ground := Go.Ground.data }, { on := 6, ground := Go.Ground.chain }, { on := 0, ground := Go.Ground.phase }, { on := 1, ground := Go.Ground.phase }, { on := 2, ground := Go.Ground.phase }, { on := 3, ground := Go.Ground.phase }, { on := 4, ground := Go.Ground.phase }, { on := 5, ground := Go.Ground.phase }, { on := 6, ground := Go.Ground.phase }, { on := 7, ground := Go.Ground.phase }, { on := 8, ground := Go.Ground.phase }, { on := 9, ground := Go.Ground.phase }, { on := 10, ground := Go.Ground.phase }], guard := none }) (by kernel_rfl) rfl (fun K hK => ?_)
        have RA := hid (RQ.out.below B83.out)
        have en := (tk_store RA.out.h3).1
        have en2 := (tk_store RA.out.h3).2
        have en3 := tk_lt RA.out.h3
        have RB : Hid (Rz w (w83.setCell ⟨w.heap.size + 2, 2, none⟩ (.slice (some ⟨g83, 0, none⟩) el cap83)) (gvc a (.slice pn nl cn) (.slice pe el ce)) (gvc a (.slice (some ⟨g, 0, none⟩) nl cap) (.slice (some ⟨g83, 0, none⟩) el cap83)) (.slice (some ⟨g, 0, none⟩) nl cap) ys ∧ Mk ED 47 (w83.setCell ⟨w.heap.size + 2, 2, none⟩ (.slice (some ⟨g83, 0, none⟩) el cap83)) (.slice (some ⟨g83, 0, none⟩) el cap83) es mD ∧ w.heap.size + 3 ≤ g83) := by
          have s13 := tk_set RA.out.h3 2 (.slice (some ⟨g83, 0, none⟩) el cap83)
          have hg := GL83.out
          have hl := tk_lt RQ.out.h3
          have h3 := HM83.out
          rw [← HEL.out] at h3
          exact ⟨RA.out.set 2 _, h3.kp s13.2 (fun k e e2 => by simp [Value.ownBlock] at e; omega), by omega⟩
        go_simp
        refine hK.out _ _ (fun hD => absurd (by decide) hD) ?_
        clear hK K en en2 en3
        try simp only [Act.put, List.setIfInBounds_toArray, List.set_cons_zero, List.set_cons_succ]
        refine wpAnyD_done (by kernel_rfl) ?_ _
        generalize (w83.setCell ⟨w.heap.size + 2, 2, none⟩ (.slice (some ⟨g83, 0, none⟩) el cap83)) = W14 at RB ⊢
        have e1 := (tk_store RB.out.1.h3).1
        have e2 := tk_lt RB.out.1.h3
        have e3 := (tk_store RB.out.1.h2).1
        have e4 := (tk_store RB.out.1.h2).2
        have e5 := tk_lt RB.out.1.h2
        go_wp2_with fail
        obtain ⟨wf, hwf⟩ : ∃ wf, wf = ((W14.setCell ⟨w.heap.size + 1, 0, none⟩ (.int .i64 a)).setCell ⟨w.heap.size + 1, 1, none⟩ (.slice (some ⟨g, 0, none⟩) nl cap)).setCell ⟨w.heap.size + 1, 2, none⟩ (.slice (some ⟨g83, 0, none⟩) el cap83) := ⟨_, rfl⟩
        rw [← hwf]
        obtain ⟨hbf, hkf⟩ : wf.heap[w.heap.size + 1]? = some (.cells #[.int .i64 a, .slice (some ⟨g, 0, none⟩) nl cap, (.slice (some ⟨g83, 0, none⟩) el cap83)] 25 (0, 0)) ∧ Kp (fun k => k = w.heap.size + 1) W14 wf := by
          rw [hwf]
          exact fill3 RB.out.1.h2 _ _ _
        clear hwf e1 e2 e3 e4 e5
        obtain ⟨qf, -⟩ := tk_store hbf
        have hlf := tk_lt hbf
        refine bodyPost_ret (v := .agg #[.int .i64 a, .slice (some ⟨g, 0, none⟩) nl cap, (.slice (some ⟨g83, 0, none⟩) el cap83)]) (by simp [results, Try.results6, go_sem, qf]) rfl ?_
        have hlo := RB.out.1.lo
        exact ⟨_, _, ys, rfl, RB.out.1.bl.trans (hkf.below RB.out.1.bl.size (fun k e => by omega)), hyx.out.2.1, RB.out.1.nds.kp hkf (fun k e e2 => by have := hlo.1 k e; omega), RB.out.2.1.kp hkf (fun k e e2 => by have := RB.out.2.2; simp [Value.ownBlock] at e; omega), fun y hy => ⟨(RB.out.1.each y hy).1.kp hkf (fun k e e2 => by have := (hlo.2 y hy).1 k e; omega), (RB.out.1.each y hy).2.kp hkf (fun k e e2 => by have := (hlo.2 y hy).2 k e; omega)⟩, fun k e => by have := hlo.1 k e; omega, fun k e => by have := RB.out.2.2; simp [Value.ownBlock] at e; omega, fun y hy => ⟨fun k e => by have := (hlo.2 y hy).1 k e; omega, fun k e => by have := (hlo.2 y hy).2 k e; omega⟩⟩
end Go.Proofs.Ytdiecnacbkpceaa.Df

namespace Go.Proofs.Ytdiecnacbkpceaa.Df
open Go.RowKit Go.Sort
attribute [local go_sem ↓] Go.wp_at_zero Go.wp_at_succ

theorem wrapi {n : Nat} (h : n ≤ 140737488355328) : IntKind.i64.wrap ((n : Int) + 1) = (n : Int) + 1 := by
  rw [IntKind.wrap_i64]
  omega
/-- The first cell of a mark. -/
theorem mk_atV {w : World} {v : Value} {l : List NV} {m : NV} {T : TypeId} (h : Mk EV T w v l m) : ∃ g cap, v = .slice (some ⟨g, 0, none⟩) l.length cap ∧ l.length + 1 ≤ cap ∧ g < w.heap.size ∧ w.cell? ⟨g, l.length * 10, none⟩ = some (.int .i64 m.n.kind) := by
  obtain ⟨g, cap, hv, hc, hl⟩ := h.more
  obtain ⟨b1, o1, c1, e1, z1, x0, -⟩ := ls_atV hl (show (l ++ [m])[l.length]? = some m by simp)
  simp only [Value.slice.injEq, Option.some.injEq, Addr.mk.injEq] at e1
  obtain ⟨⟨rfl, rfl, -⟩, -, rfl⟩ := e1
  rw [Nat.zero_add] at x0
  exact ⟨g, cap, hv, hc, z1, x0⟩
theorem mk_atD {w : World} {v : Value} {l : List Edg} {m : Edg} {T : TypeId} (h : Mk ED T w v l m) : ∃ g cap, v = .slice (some ⟨g, 0, none⟩) l.length cap ∧ l.length + 1 ≤ cap ∧ g < w.heap.size ∧ w.cell? ⟨g, l.length * 5, none⟩ = some (.int .i64 m.src) := by
  obtain ⟨g, cap, hv, hc, hl⟩ := h.more
  obtain ⟨b1, o1, c1, e1, z1, x0, -⟩ := ls_atD hl (show (l ++ [m])[l.length]? = some m by simp)
  simp only [Value.slice.injEq, Option.some.injEq, Addr.mk.injEq] at e1
  obtain ⟨⟨rfl, rfl, -⟩, -, rfl⟩ := e1
  rw [Nat.zero_add] at x0
  exact ⟨g, cap, hv, hc, z1, x0⟩
theorem mk_atO {w : World} {v : Value} {l : List Opd} {m : Opd} {T : TypeId} (h : Mk EO T w v l m) : ∃ g cap, v = .slice (some ⟨g, 0, none⟩) l.length cap ∧ l.length + 1 ≤ cap ∧ g < w.heap.size ∧ w.cell? ⟨g, l.length * 2, none⟩ = some (.int .i64 m.kind) := by
  obtain ⟨g, cap, hv, hc, hl⟩ := h.more
  obtain ⟨b1, o1, c1, e1, z1, hx⟩ := hl.get (show (l ++ [m])[l.length]? = some m by simp)
  simp only [Value.slice.injEq, Option.some.injEq, Addr.mk.injEq] at e1
  obtain ⟨⟨rfl, rfl, -⟩, -, rfl⟩ := e1
  have x0 := hx 0 _ (by decide) rfl
  rw [Nat.zero_add] at x0
  exact ⟨g, cap, hv, hc, z1, x0⟩
theorem mk_atC {w : World} {v : Value} {l : List Con} {m : Con} {T : TypeId} (h : Mk EC T w v l m) : ∃ g cap, v = .slice (some ⟨g, 0, none⟩) l.length cap ∧ l.length + 1 ≤ cap ∧ g < w.heap.size ∧ w.cell? ⟨g, l.length * 5, none⟩ = some (.int .i64 m.inn) := by
  obtain ⟨g, cap, hv, hc, hl⟩ := h.more
  obtain ⟨b1, o1, c1, e1, z1, hx⟩ := hl.get (show (l ++ [m])[l.length]? = some m by simp)
  simp only [Value.slice.injEq, Option.some.injEq, Addr.mk.injEq] at e1
  obtain ⟨⟨rfl, rfl, -⟩, -, rfl⟩ := e1
  have x0 := hx 0 _ (by decide) rfl
  rw [Nat.zero_add] at x0
  exact ⟨g, cap, hv, hc, z1, x0⟩
/-- A twin: each list with its mark. -/
structure Tw (w : World) (nv ev : Value) (ys : List NV) (es : List Edg) : Prop where
  nds : Mk EV 39 w nv ys mV
  eds : Mk ED 47 w ev es mD
  each : ∀ y ∈ ys, Mk EO 72 w y.cv y.n.code mO ∧ Mk EC 64 w y.dv y.n.conns mC
theorem Tw.below {w w' : World} {nv ev : Value} {ys : List NV} {es : List Edg} (h : Tw w nv ev ys es) (hb : Below w.heap.size w w') : Tw w' nv ev ys es :=
  ⟨h.nds.below hb, h.eds.below hb, fun y hy => ⟨(h.each y hy).1.below hb, (h.each y hy).2.below hb⟩⟩
theorem Tw.gr {w : World} {nv ev : Value} {ys : List NV} {es : List Edg} (h : Tw w nv ev ys es) (hb : (∀ x ∈ ys, x.n.code.length ≤ 140737488355328 ∧ x.n.conns.length ≤ 140737488355328) ∧ ys.length ≤ 140737488355328 ∧ es.length ≤ 140737488355328) : GR w.heap.size w nv ev ys es :=
  ⟨h.nds.lz, h.eds.lz, fun x hx => ⟨(h.each x hx).1.lz, (h.each x hx).2.lz⟩, hb.1, hb.2⟩
set_option maxRecDepth 100000 in
set_option maxHeartbeats 8000000 in
theorem kept_any {M : Nat} {nv ev nv' ev' : Value} {a : Int} {xs ys : List NV} {es : List Edg} (hxy : ys.map NV.n = xs.map NV.n) (w : World) (hT : Tw w nv ev ys es) (hx : GR M w nv' ev' xs es) : Calls Try.prog 15 #[.agg (gvc a nv ev), .agg (gvc a nv' ev')] w fun e w' => e = .returned (.bool true) ∧ Gr w w' := by
  have hmx : Try.prog.follows .mixedOrders = true := by kernel_rfl
  have hlen : ys.length = xs.length := by simpa using congrArg List.length hxy
  have hbig : (∀ x ∈ ys, x.n.code.length ≤ 140737488355328 ∧ x.n.conns.length ≤ 140737488355328) ∧ ys.length ≤ 140737488355328 ∧ es.length ≤ 140737488355328 := by
    refine ⟨fun y hy => ?_, by rw [hlen]; exact hx.wide.1, hx.wide.2⟩
    obtain ⟨i, hi⟩ := List.mem_iff_getElem?.1 hy
    obtain ⟨x, hxi⟩ : ∃ x, xs[i]? = some x := ⟨xs[i]'(by rw [← hlen]; exact (List.getElem?_eq_some_iff.1 hi).1), by simp⟩
    rw [n_at hxy hi hxi]
    exact hx.big x (List.mem_of_getElem? hxi)
  have hwide := hbig.2
  have HSM := hid (fun (W : World) (hg : Gr w W) => same_eq (M := max M w.heap.size) (a := a) hxy W (((hT.gr hbig).up (Nat.le_max_right _ _)).below hg.below) ((hx.up (Nat.le_max_left _ _)).below hg.below))
  have HTW := hid hT
  have HBG := hid hbig.1
  obtain ⟨gn, cn, hnv, hcn, z1, x1⟩ := mk_atV hT.nds
  obtain ⟨ge, ce, hev, hce, z2, x2⟩ := mk_atD hT.eds
  subst hnv
  subst hev
  obtain ⟨pn', cn', rfl⟩ := hx.nodes.form
  obtain ⟨pe', ce', rfl⟩ := hx.edges.form
  rw [← hlen] at HSM ⊢
  generalize hyl : ys.length = nl at *
  generalize hel : es.length = el at *
  have HYL := hid hyl
  clear hx hT hxy hlen hbig hyl hel
  obtain ⟨W1, hW1⟩ : ∃ W1, W1 = (w.alloc (.cells (gvc a (.slice (some ⟨gn, 0, none⟩) nl cn) (.slice (some ⟨ge, 0, none⟩) el ce)) 25)).alloc (.cells (gvc a (.slice pn' nl cn') (.slice pe' el ce')) 25) := ⟨_, rfl⟩
  obtain ⟨B0, B1, G1⟩ : Hid (W1.heap[w.heap.size]? = some (.cells (gvc a (.slice (some ⟨gn, 0, none⟩) nl cn) (.slice (some ⟨ge, 0, none⟩) el ce)) 25 (0, 0))) ∧ Hid (W1.heap[w.heap.size + 1]? = some (.cells (gvc a (.slice pn' nl cn') (.slice pe' el ce')) 25 (0, 0))) ∧ Hid (Gr w W1) := by
    rw [hW1]
    exact ⟨new1 w _ _, new2 w _ _, ((Gr.refl w).alloc _).alloc _⟩
  have HW1 : Hid ((w.alloc (.cells #[.int .i64 a, .slice (some ⟨gn, 0, none⟩) nl cn, .slice (some ⟨ge, 0, none⟩) el ce] 25)).alloc (.cells #[.int .i64 a, .slice pn' nl cn', .slice pe' el ce'] 25) = W1) := hW1.symm
  clear hW1
  have y1 := (G1.out.cell (o := nl * 10) z1).trans x1
  have y2 := (G1.out.cell (o := el * 5) z2).trans x2
  have u1 := Nat.lt_of_lt_of_le z1 G1.out.size
  have u2 := Nat.lt_of_lt_of_le z2 G1.out.size
  have q0 := (tk_store B0.out).1
  have q1 := (tk_store B1.out).1
  have l0 := tk_lt B0.out
  have l1 := tk_lt B1.out
  have hsm : ∀ (n : Nat) (os : Array Obj), Calls Try.prog 22 #[.agg (gvc a (.slice (some ⟨gn, 0, none⟩) nl cn) (.slice (some ⟨ge, 0, none⟩) el ce)), .agg (gvc a (.slice pn' nl cn') (.slice pe' el ce'))] (grow (W1.drewN n) os) fun e w' => e = .returned (.bool true) ∧ Gr (grow (W1.drewN n) os) w' := fun n os => HSM.out _ (G1.out.trans ⟨n, os, rfl⟩)
  have hgc : ∀ (n : Nat) (os : Array Obj) (b o : Nat), b < W1.heap.size → (grow (W1.drewN n) os).cell? ⟨b, o, none⟩ = W1.cell? ⟨b, o, none⟩ := fun n os b o hb => Gr.cell (w := W1) (v := grow (W1.drewN n) os) ⟨n, os, rfl⟩ hb
  have hn1 : (nl : Int) < (nl : Int) + 1 := by omega
  have he1 : (el : Int) < (el : Int) + 1 := by omega
  have hwn := wrapi hwide.1
  have hwe := wrapi hwide.2
  have htn : ((nl : Int) + 1).toNat = nl + 1 := by omega
  have hte : ((el : Int) + 1).toNat = el + 1 := by omega
  have hcn1 : (nl : Int) + 1 ≤ (cn : Int) := by omega
  have hce1 : (el : Int) + 1 ≤ (ce : Int) := by omega
  have hn0 : (0 : Int) ≤ (nl : Int) + 1 := by omega
  have he0 : (0 : Int) ≤ (el : Int) + 1 := by omega
  clear x1 x2 z1 z2 HSM
  go_enter Try.func15, Try.ntmps15
  go_upto_region 1 with fail
  rw [HW1.out]
  clear HW1
  go_quiet_grown (first | (go_at_call 22; refine Calls.grown_of (hsm _ _)))
  have G2 : Hid (Gr W1 (grow (W1.drewN nq) osq)) := ⟨nq, osq, rfl⟩
  generalize grow (W1.drewN nq) osq = W2 at G2 ⊢
  clear hsm hgc y1 y2 u1 u2 q0 q1 hwn hwe htn hte hcn1 hce1 hn0 he0 hn1 he1
  go_wp2_with fail
  go_loopw [5] (fun s5 wr => ∃ k : Nat, k ≤ nl ∧ s5 = .int .i64 (k : Nat) ∧ Hid (Gr W1 wr)) (fun s5 _ => nl - (RowKit.intOf s5).toNat)
  case atStart => exact ⟨0, Nat.zero_le _, rfl, G2.out⟩
  case round =>
    clear G2
    obtain ⟨k, hk, rfl, HR⟩ := hrel
    have hb0 := (HR.out.below.block _ (tk_lt B0.out)).trans B0.out
    have hb1 := (HR.out.below.block _ (tk_lt B1.out)).trans B1.out
    have c0 := (tk_store hb0).1
    have c1 := (tk_store hb1).1
    have m0 := tk_lt hb0
    have m1 := tk_lt hb1
    clear hb0 hb1
    have GW := hid (G1.out.trans HR.out)
    by_cases hlt : k < nl
    · have hltz : (k : Int) < (nl : Int) := by omega
      have hk0 : (0 : Int) ≤ (k : Int) := by omega
      obtain ⟨y, hy⟩ : ∃ y, ys[k]? = some y := ⟨ys[k]'(by have := HYL.out; omega), by simp⟩
      have HT := hid (HTW.out.below GW.out.below)
      obtain ⟨b1, o1, c1', e1, z1, x0, x1, x2, x3, x4, x5, x6, x7, x8, x9⟩ := ls_atV HT.out.nds.ls hy
      simp only [Value.slice.injEq, Option.some.injEq, Addr.mk.injEq] at e1
      obtain ⟨⟨rfl, rfl, -⟩, -, rfl⟩ := e1
      simp only [Nat.zero_add] at x0 x1 x2 x3 x4 x5 x6 x7 x8 x9
      have hym := List.mem_of_getElem? hy
      have hbg := HBG.out y hym
      obtain ⟨gc, cc1, hcv, hcc, zc, xc⟩ := mk_atO (HT.out.each y hym).1
      obtain ⟨gd, dc1, hdv, hdc, zd, xd⟩ := mk_atC (HT.out.each y hym).2
      rw [hcv] at x3
      rw [hdv] at x8
      generalize hcl : y.n.code.length = cl at *
      generalize hdl : y.n.conns.length = dl at *
      clear hcv hdv hy hym
      obtain ⟨nb, hnb⟩ : ∃ b, b = wr.heap.size := ⟨_, rfl⟩
      obtain ⟨W5, hW5⟩ : ∃ W, W = wr.alloc (.cells #[.int .i64 y.n.kind, .int .i64 y.n.ins, .int .i64 y.n.outs, .slice (some ⟨gc, 0, none⟩) cl cc1, .int .u64 (y.n.via.1 : Nat), .int .u64 (y.n.via.2.1 : Nat), .int .u64 (y.n.via.2.2 : Nat), .int .u64 (y.n.bound : Nat), .slice (some ⟨gd, 0, none⟩) dl dc1, .bool y.n.start] 39) := ⟨_, rfl⟩
      have P5 : Hid (Gr wr W5 ∧ W5.heap[nb]? = some (.cells #[.int .i64 y.n.kind, .int .i64 y.n.ins, .int .i64 y.n.outs, .slice (some ⟨gc, 0, none⟩) cl cc1, .int .u64 (y.n.via.1 : Nat), .int .u64 (y.n.via.2.1 : Nat), .int .u64 (y.n.via.2.2 : Nat), .int .u64 (y.n.bound : Nat), .slice (some ⟨gd, 0, none⟩) dl dc1, .bool y.n.start] 39 (0, 0))) := by
        rw [hW5, hnb]
        exact ⟨(Gr.refl wr).alloc _, heap_new' _ _⟩
      have HW5 : Hid (wr.alloc (.cells #[.int .i64 y.n.kind, .int .i64 y.n.ins, .int .i64 y.n.outs, .slice (some ⟨gc, 0, none⟩) cl cc1, .int .u64 (y.n.via.1 : Nat), .int .u64 (y.n.via.2.1 : Nat), .int .u64 (y.n.via.2.2 : Nat), .int .u64 (y.n.bound : Nat), .slice (some ⟨gd, 0, none⟩) dl dc1, .bool y.n.start] 39) = W5 ∧ wr.heap.size = nb) := ⟨hW5.symm, hnb.symm⟩
      clear hW5 hnb
      go_upto_region 7 with fail
      rw [HW5.out.1, HW5.out.2]
      have yc := (P5.out.1.cell (o := cl * 2) zc).trans xc
      have yd := (P5.out.1.cell (o := dl * 5) zd).trans xd
      have uc := Nat.lt_of_lt_of_le zc P5.out.1.size
      have ud := Nat.lt_of_lt_of_le zd P5.out.1.size
      have c5 := (tk_store P5.out.2).1
      have l5 := tk_lt P5.out.2
      clear HW5 x0 x1 x2 x3 x4 x5 x6 x7 x8 x9 z1 xc xd zc zd c0 c1 m0 m1 HT
      have hwc := wrapi hbg.1
      have hwd := wrapi hbg.2
      have htc : ((cl : Int) + 1).toNat = cl + 1 := by omega
      have htd : ((dl : Int) + 1).toNat = dl + 1 := by omega
      have hc1 : (cl : Int) + 1 ≤ (cc1 : Int) := by omega
      have hd1 : (dl : Int) + 1 ≤ (dc1 : Int) := by omega
      have hc0 : (0 : Int) ≤ (cl : Int) + 1 := by omega
      have hd0 : (0 : Int) ≤ (dl : Int) + 1 := by omega
      have hc2 : (cl : Int) < (cl : Int) + 1 := by omega
      have hd2 : (dl : Int) < (dl : Int) + 1 := by omega
      have FIN := hid (HR.out.trans P5.out.1)
      have hnl := hwide.1
      go_quiet (fail)
      go_wp2_with fail
      go_roundw
      case rel => exact ⟨k + 1, by omega, by go_num, FIN.out.drewN _⟩
      case measure => simp [RowKit.intOf]; omega
    · have hltz : ¬ (k : Int) < (nl : Int) := by omega
      go_wp2_with fail
      go_ret
      exact ⟨rfl, GW.out⟩
end Go.Proofs.Ytdiecnacbkpceaa.Df
