import Derived.Test.YtifjjnnpoleinaaJ3
import Derived.Test.YtifjjnnpoleinaaGChk5
namespace Go.Proofs.Ytifjjnnpoleinaa.Df
open Go.RowKit Go.Sort
attribute [local go_sem ↓] Go.wp_at_zero Go.wp_at_succ
theorem infoRo : (Try.prog.info? 87).map (fun i => (i.zero, i.size, i.bytes)) = some (some (.agg #[.int .i64 0, .int .i64 0, .int .u64 0, .int .u64 0, .int .u64 0, .int .u64 0, .int .u64 0]), 7, 56) := by kernel_rfl
/-- What the document's Send answers. -/
def docS (g : Gph) (k : Int) (x : Rx) (own m : Int) : List Ot := if (1 ≤ m ∧ m ≤ 8) ∧ 0 ≤ own ∧ own < m then docL g k x own m g.edges.length else []
theorem docL_snoc {g : Gph} {k : Int} {x : Rx} {own m : Int} {j : Nat} {d : Edg} (h : g.edges[j]? = some d) : docL g k x own m (j + 1) = docL g k x own m j ++ if outN g.nodes d.src d.out = k then [⟨alg d.keyed x.key own m, inN g.nodes d.dst d.inn, x⟩] else [] := by
  rw [docL, h]
set_option maxRecDepth 100000 in
set_option maxHeartbeats 8000000 in
theorem rsend_any {nv : Value} {qe : Option Addr} {ce : Nat} {a : Int} {xs : List NV} {es : List Edg} (k own m : Int) (x : Rx) (hk : x.key < 18446744073709551616) (w : World) (hN : Nr w nv xs) (hE : Lz ED w.heap.size w (.slice qe es.length ce) es) (hel : es.length ≤ 48) : Calls Try.prog 17 #[.agg (gvc a nv (.slice qe es.length ce)), .int .i64 k, .agg #[.int .u64 x.a, .int .u64 x.b, .int .u64 x.c], .agg #[.int .u64 (x.key : Nat), .int .u64 x.val], .int .i64 own, .int .i64 m] w fun r w' => ∃ v, r = .returned v ∧ Hid (w'.ownsRow w.heap.size 87 7 v (docS (gof a xs es) k x own m).length (fl EOt (docS (gof a xs es) k x own m)) ∧ Below w.heap.size w w') := by
  have hmx : Try.prog.follows .mixedOrders = true := by kernel_rfl
  obtain ⟨qn, cn, rfl⟩ := hN.nodes.form
  obtain ⟨nl, hnl⟩ : ∃ n, n = xs.length := ⟨_, rfl⟩
  obtain ⟨el, hel0⟩ : ∃ n, n = es.length := ⟨_, rfl⟩
  rw [← hnl] at hN ⊢
  rw [← hel0] at hE hel ⊢
  obtain ⟨gx, hgx⟩ : ∃ b, b = w.heap.size := ⟨_, rfl⟩
  obtain ⟨tx, htx⟩ : ∃ b, b = w.heap.size + 1 := ⟨_, rfl⟩
  obtain ⟨rx, hrx⟩ : ∃ b, b = w.heap.size + 1 + 1 := ⟨_, rfl⟩
  obtain ⟨W0, hW0⟩ : ∃ W, W = ((w.alloc (.cells #[.int .i64 a, .slice qn nl cn, .slice qe el ce] 25)).alloc (.cells #[.int .u64 x.a, .int .u64 x.b, .int .u64 x.c] 28)).alloc (.cells #[.int .u64 (x.key : Nat), .int .u64 x.val] 30) := ⟨_, rfl⟩
  have P0 : Hid (Below w.heap.size w W0 ∧ ∀ W, Below W0.heap.size W0 W → W.heap[gx]? = some (.cells #[.int .i64 a, .slice qn nl cn, .slice qe el ce] 25 (0, 0)) ∧ W.heap[tx]? = some (.cells #[.int .u64 x.a, .int .u64 x.b, .int .u64 x.c] 28 (0, 0)) ∧ W.heap[rx]? = some (.cells #[.int .u64 (x.key : Nat), .int .u64 x.val] 30 (0, 0)) ∧ Nr W (.slice qn nl cn) xs ∧ Lz ED W.heap.size W (.slice qe el ce) es) := by
    have b0 : Below w.heap.size w W0 := by rw [hW0]; exact ((((Gr.refl w).alloc _).alloc _).alloc _).below
    have n1 : W0.heap[gx]? = some (.cells #[.int .i64 a, .slice qn nl cn, .slice qe el ce] 25 (0, 0)) := by rw [hW0, hgx]; exact (new3 w _ _ _).1
    have n2 : W0.heap[tx]? = some (.cells #[.int .u64 x.a, .int .u64 x.b, .int .u64 x.c] 28 (0, 0)) := by rw [hW0, htx]; exact (new3 w _ _ _).2.1
    have n3 : W0.heap[rx]? = some (.cells #[.int .u64 (x.key : Nat), .int .u64 x.val] 30 (0, 0)) := by rw [hW0, hrx]; exact (new3 w _ _ _).2.2
    refine ⟨b0, fun W hb => ?_⟩
    have b1 := b0.trans (hb.mono b0.size)
    exact ⟨(hb.block _ (tk_lt n1)).trans n1, (hb.block _ (tk_lt n2)).trans n2, (hb.block _ (tk_lt n3)).trans n3, hN.below b1, (hE.below b1).up b1.size⟩
  have HW0 : Hid (((w.alloc (.cells #[.int .i64 a, .slice qn nl cn, .slice qe el ce] 25)).alloc (.cells #[.int .u64 x.a, .int .u64 x.b, .int .u64 x.c] 28)).alloc (.cells #[.int .u64 (x.key : Nat), .int .u64 x.val] 30) = W0 ∧ w.heap.size = gx ∧ w.heap.size + 1 = tx ∧ w.heap.size + 1 + 1 = rx) := ⟨hW0.symm, hgx.symm, htx.symm, hrx.symm⟩
  have HEL := hid hel0
  have HK := hid hk
  clear hW0 hgx htx hrx hN hE hk hel0 hnl
  unfold gvc
  go_enter Try.func17, Try.ntmps17
  go_upto_region 1 with fail
  rw [HW0.out.1, HW0.out.2.2.2, HW0.out.2.2.1, HW0.out.2.1]
  clear HW0
  by_cases h1 : m < 1
  · skip
    go_wp2_with fail
    go_ret
    refine ⟨_, rfl, ?_⟩
    unfold docS
    rw [if_neg (fun h => by omega)]
    exact ⟨World.ownsRow_nil _ _ _ _, P0.out.1⟩
  · by_cases h2 : 8 < m
    · skip
      go_wp2_with fail
      go_ret
      refine ⟨_, rfl, ?_⟩
      unfold docS
      rw [if_neg (fun h => by omega)]
      exact ⟨World.ownsRow_nil _ _ _ _, P0.out.1⟩
    · by_cases h3 : own < 0
      · skip
        go_wp2_with fail
        go_ret
        refine ⟨_, rfl, ?_⟩
        unfold docS
        rw [if_neg (fun h => by omega)]
        exact ⟨World.ownsRow_nil _ _ _ _, P0.out.1⟩
      · by_cases h4 : m ≤ own
        · skip
          go_wp2_with fail
          go_ret
          refine ⟨_, rfl, ?_⟩
          unfold docS
          rw [if_neg (fun h => by omega)]
          exact ⟨World.ownsRow_nil _ _ _ _, P0.out.1⟩
        · have HG : Hid (docS (gof a xs es) k x own m = docL (gof a xs es) k x own m el) := by
            show _ = _
            unfold docS
            rw [if_pos ⟨⟨by omega, by omega⟩, by omega, by omega⟩, HEL.out]
          have HM : Hid (1 ≤ m ∧ m ≤ 8) := ⟨by omega, by omega⟩
          go_upto_region 4 with fail
          clear h1 h2 h3 h4
          go_wp2_with fail
          go_loopw [13, 14, 15, 16] (fun s13 s14 _ _ wr => ∃ i : Nat, i ≤ el ∧ s14 = .int .i64 i ∧ Hid (wr.ownsRow W0.heap.size 87 7 s13 (docL (gof a xs es) k x own m i).length (fl EOt (docL (gof a xs es) k x own m i)) ∧ Below W0.heap.size W0 wr)) (fun _ s14 _ _ _ => el - (RowKit.intOf s14).toNat)
          case atStart => exact ⟨0, Nat.zero_le _, rfl, World.ownsRow_nil _ _ _ _, Below.refl _ _⟩
          case round =>
            obtain ⟨i, hi, rfl, HL⟩ := hrel
            have cg := (tk_store (P0.out.2 _ HL.out.2).1).1
            have lg := tk_lt (P0.out.2 _ HL.out.2).1
            obtain ⟨pa, ca, hpa⟩ := (owns_ls (E := EOt) HL.out.1).form
            subst hpa
            have hdl := docL_len (gof a xs es) k x own m i
            by_cases hil : i < el
            · have hilz : (i : Int) < (el : Int) := by omega
              have hi0 : (0 : Int) ≤ (i : Int) := by omega
              obtain ⟨d, hd⟩ : ∃ d, es[i]? = some d := ⟨es[i]'(by have := HEL.out; omega), by simp⟩
              have HSN := hid (docL_snoc (g := gof a xs es) (k := k) (x := x) (own := own) (m := m) hd)
              obtain ⟨b2, o2, c2, e2, z2, y0, y1, y2, y3, y4⟩ := ls_atD ((P0.out.2 _ HL.out.2).2.2.2.2.ls hd) hd
              simp only [Value.slice.injEq] at e2
              obtain ⟨rfl, -, rfl⟩ := e2
              generalize docL (gof a xs es) k x own m i = dl at *
              obtain ⟨db, hdb⟩ : ∃ b, b = wr.heap.size := ⟨_, rfl⟩
              obtain ⟨W1, hW1⟩ : ∃ W, W = wr.alloc (.cells #[.int .i64 d.src, .int .i64 d.out, .int .i64 d.dst, .int .i64 d.inn, .bool d.keyed] 47) := ⟨_, rfl⟩
              have H1 : Hid (W1.heap[db]? = some (.cells #[.int .i64 d.src, .int .i64 d.out, .int .i64 d.dst, .int .i64 d.inn, .bool d.keyed] 47 (0, 0)) ∧ W1.ownsRow W0.heap.size 87 7 (.slice pa dl.length ca) dl.length (fl EOt dl) ∧ Below W0.heap.size W0 W1) := by
                have g := ((Gr.refl wr).alloc (.cells #[.int .i64 d.src, .int .i64 d.out, .int .i64 d.dst, .int .i64 d.inn, .bool d.keyed] 47)).below
                rw [hW1, hdb]
                exact ⟨heap_new' _ _, owns_below HL.out.1 g, HL.out.2.trans (g.mono HL.out.2.size)⟩
              have HW1 : Hid (wr.alloc (.cells #[.int .i64 d.src, .int .i64 d.out, .int .i64 d.dst, .int .i64 d.inn, .bool d.keyed] 47) = W1 ∧ wr.heap.size = db) := ⟨hW1.symm, hdb.symm⟩
              clear hW1 hdb hd
              go_upto_region 8 with fail
              rw [HW1.out.1, HW1.out.2]
              clear HW1 y0 y1 y2 y3 y4 z2 cg lg HL
              have cg := (tk_store (P0.out.2 _ H1.out.2.2).1).1
              have lg := tk_lt (P0.out.2 _ H1.out.2.2).1
              have cd := (tk_store H1.out.1).1
              have ld := tk_lt H1.out.1
              have hout := rout_any (a := a) (qe := some ⟨b2, o2, none⟩) (me := el) (ce := ce) d.src d.out W1 (P0.out.2 _ H1.out.2.2).2.2.2.1
              obtain ⟨oi, hoi⟩ : ∃ z, z = outN (xs.map NV.n) d.src d.out := ⟨_, rfl⟩
              rw [← hoi] at hout
              have HOI : Hid (outN (gof a xs es).nodes d.src d.out = oi) := hoi.symm
              clear hoi
              unfold gvc at hout
              go_wp2_with fail
              refine hout.mono ?_
              rintro r W2 ⟨rfl, g2⟩
              have H2 : Hid (W2.ownsRow W0.heap.size 87 7 (.slice pa dl.length ca) dl.length (fl EOt dl) ∧ ∀ X, Below W2.heap.size W2 X → X.heap[db]? = some (.cells #[.int .i64 d.src, .int .i64 d.out, .int .i64 d.dst, .int .i64 d.inn, .bool d.keyed] 47 (0, 0)) ∧ Below W0.heap.size W0 X ∧ X.heap[gx]? = some (.cells #[.int .i64 a, .slice qn nl cn, .slice (some ⟨b2, o2, none⟩) el ce] 25 (0, 0)) ∧ X.heap[tx]? = some (.cells #[.int .u64 x.a, .int .u64 x.b, .int .u64 x.c] 28 (0, 0)) ∧ X.heap[rx]? = some (.cells #[.int .u64 (x.key : Nat), .int .u64 x.val] 30 (0, 0))) := by
                refine ⟨owns_below H1.out.2.1 g2.below, fun X hb => ?_⟩
                have h1 := g2.below.trans (hb.mono g2.below.size)
                have h2 := H1.out.2.2.trans (h1.mono H1.out.2.2.size)
                exact ⟨(h1.block _ ld).trans H1.out.1, h2, (P0.out.2 X h2).1, (P0.out.2 X h2).2.1, (P0.out.2 X h2).2.2.1⟩
              clear hout g2 cg lg cd ld H1
              by_cases hok : oi = k
              · have HE : Hid (docL (gof a xs es) k x own m (i + 1) = dl ++ [⟨alg d.keyed x.key own m, inN (xs.map NV.n) d.dst d.inn, x⟩]) := by
                  show _ = _
                  rw [HSN.out, HOI.out, if_pos hok]
                obtain ⟨ai, hai⟩ : ∃ z, z = inN (xs.map NV.n) d.dst d.inn := ⟨_, rfl⟩
                rw [← hai] at HE
                have hin := fun W (hb : Below W2.heap.size W2 W) => rin_any (a := a) (qe := some ⟨b2, o2, none⟩) (me := el) (ce := ce) d.dst d.inn W (P0.out.2 _ (H2.out.2 W hb).2.1).2.2.2.1
                rw [← hai] at hin
                unfold gvc at hin
                clear hai HSN HOI
                have hB0 : Below W2.heap.size W2 W2.drew := (Gr.refl W2).drew.below
                have HS0 := hid (H2.out.2 _ hB0)
                go_upto_region 9 with fail
                go_cut [16] from 52 to 62 (fun s16 wq => ∃ pb, s16 = .pointer (some ⟨pb, 0, none⟩) ∧ Hid (Below W2.heap.size W2 wq ∧ wq.heap[pb]? = some (.cells #[.int .i64 own, .int .i64 ai, .int .u64 x.a, .int .u64 x.b, .int .u64 x.c, .int .u64 (x.key : Nat), .int .u64 x.val] 87 (0, 0)) ∧ W2.heap.size ≤ pb))
                case first =>
                  clear hok HE
                  refine wp_regionD (S := fun X => X.heap[db]? = some (.cells #[.int .i64 d.src, .int .i64 d.out, .int .i64 d.dst, .int .i64 d.inn, .bool d.keyed] 47 (0, 0)) ∧ Below W0.heap.size W0 X ∧ X.heap[gx]? = some (.cells #[.int .i64 a, .slice qn nl cn, .slice (some ⟨b2, o2, none⟩) el ce] 25 (0, 0)) ∧ X.heap[tx]? = some (.cells #[.int .u64 x.a, .int .u64 x.b, .int .u64 x.c] 28 (0, 0)) ∧ X.heap[rx]? = some (.cells #[.int .u64 (x.key : Nat), .int .u64 x.val] 30 (0, 0))) (D := []) hmx ?_
                  refine' wpAnyD_take (i := 0) (oi := { dst := some 52, op := Go.Op.move (Go.Operand.tmp 4), type := 3, pos := "ref.go:54", after := #[], guard := none }) (v := _) rfl (by kernel_rfl) (by kernel_rfl) (by kernel_rfl) (fun _ _ _ h => h) (by kernel_rfl) (Or.inl ⟨by rfl, ?hy3001⟩) HS0.out ?rest3001
                  case hy3001 => (intro W hSw; go_simp; try (with_reducible rfl))
                  try simp only [Act.put, List.setIfInBounds_toArray, List.set_cons_zero, List.set_cons_succ]
                  refine' wpAnyD_take (i := 1) (oi := { dst := some 53, op := Go.Op.load 25 (Go.Operand.tmp 6), type := 25, pos := "ref.go:54", after := #[], guard := none }) (v := _) rfl (by kernel_rfl) (by kernel_rfl) (by kernel_rfl) (fun _ _ _ h => h) (by kernel_rfl) (Or.inl ⟨by rfl, ?hy3002⟩) HS0.out ?rest3002
                  case hy3002 => (intro W hSw; have hc := (tk_store hSw.2.2.1).1; have hl := tk_lt hSw.2.2.1; go_simp; try (with_reducible rfl))
                  try simp only [Act.put, List.setIfInBounds_toArray, List.set_cons_zero, List.set_cons_succ]
                  refine' wpAnyD_take (i := 2) (oi := { dst := some 54, op := Go.Op.fieldAddr 47 (Go.Operand.tmp 15) 2, type := 0, pos := "ref.go:54", after := #[], guard := none }) (v := _) rfl (by kernel_rfl) (by kernel_rfl) (by kernel_rfl) (fun _ _ _ h => h) (by kernel_rfl) (Or.inl ⟨by rfl, ?hy3003⟩) HS0.out ?rest3003
                  case hy3003 => (intro W hSw; go_simp; try (with_reducible rfl))
                  try simp only [Act.put, List.setIfInBounds_toArray, List.set_cons_zero, List.set_cons_succ]
                  refine' wpAnyD_take (i := 3) (oi := { dst := some 55, op := Go.Op.load 3 (Go.Operand.tmp 54), type := 3, pos := "ref.go:54", after := #[{ on := 2, ground := Go.Ground.data }], guard := none }) (v := _) rfl (by kernel_rfl) (by kernel_rfl) (by kernel_rfl) (fun _ _ _ h => h) (by kernel_rfl) (Or.inl ⟨by rfl, ?hy3004⟩) HS0.out ?rest3004
                  case hy3004 => (intro W hSw; have hc := (tk_store hSw.1).1; have hl := tk_lt hSw.1; go_simp; try (with_reducible rfl))
                  try simp only [Act.put, List.setIfInBounds_toArray, List.set_cons_zero, List.set_cons_succ]
                  refine' wpAnyD_take (i := 4) (oi := { dst := some 56, op := Go.Op.fieldAddr 47 (Go.Operand.tmp 15) 3, type := 0, pos := "ref.go:54", after := #[], guard := none }) (v := _) rfl (by kernel_rfl) (by kernel_rfl) (by kernel_rfl) (fun _ _ _ h => h) (by kernel_rfl) (Or.inl ⟨by rfl, ?hy3005⟩) HS0.out ?rest3005
                  case hy3005 => (intro W hSw; go_simp; try (with_reducible rfl))
                  try simp only [Act.put, List.setIfInBounds_toArray, List.set_cons_zero, List.set_cons_succ]
                  refine' wpAnyD_take (i := 5) (oi := { dst := some 57, op := Go.Op.load 3 (Go.Operand.tmp 56), type := 3, pos := "ref.go:54", after := #[{ on := 4, ground := Go.Ground.data }], guard := none }) (v := _) rfl (by kernel_rfl) (by kernel_rfl) (by kernel_rfl) (fun _ _ _ h => h) (by kernel_rfl) (Or.inl ⟨by rfl, ?hy3006⟩) HS0.out ?rest3006
                  case hy3006 => (intro W hSw; have hc := (tk_store hSw.1).1; have hl := tk_lt hSw.1; go_simp; try (with_reducible rfl))
                  try simp only [Act.put, List.setIfInBounds_toArray, List.set_cons_zero, List.set_cons_succ]
                  refine' wpAnyD_take (i := 7) (oi := { dst := some 59, op := Go.Op.load 28 (Go.Operand.tmp 8), type := 28, pos := "ref.go:54", after := #[], guard := none }) (v := _) rfl (by kernel_rfl) (by kernel_rfl) (by kernel_rfl) (fun _ _ _ h => h) (by kernel_rfl) (Or.inl ⟨by rfl, ?hy3007⟩) HS0.out ?rest3007
                  case hy3007 => (intro W hSw; have hc := (tk_store hSw.2.2.2.1).1; have hl := tk_lt hSw.2.2.2.1; go_simp; try (with_reducible rfl))
                  try simp only [Act.put, List.setIfInBounds_toArray, List.set_cons_zero, List.set_cons_succ]
                  refine' wpAnyD_take (i := 8) (oi := { dst := some 60, op := Go.Op.load 30 (Go.Operand.tmp 9), type := 30, pos := "ref.go:54", after := #[], guard := none }) (v := _) rfl (by kernel_rfl) (by kernel_rfl) (by kernel_rfl) (fun _ _ _ h => h) (by kernel_rfl) (Or.inl ⟨by rfl, ?hy3008⟩) HS0.out ?rest3008
                  case hy3008 => (intro W hSw; have hc := (tk_store hSw.2.2.2.2).1; have hl := tk_lt hSw.2.2.2.2; go_simp; try (with_reducible rfl))
                  try simp only [Act.put, List.setIfInBounds_toArray, List.set_cons_zero, List.set_cons_succ]
                  refine wpAnyD_two (i := 6) (j := 11) (oi := { dst := some 58, op := Go.Op.call { callee := Go.Callee.value (Go.Operand.func 32), args := #[Go.Operand.tmp 53, Go.Operand.tmp 55, Go.Operand.tmp 57], argTypes := #[25, 3, 3] }, type := 3, pos := "ref.go:54", after := #[{ on := 1, ground := Go.Ground.data }, { on := 3, ground := Go.Ground.data }, { on := 5, ground := Go.Ground.data }], guard := none }) (oj := { dst := some 16, op := Go.Op.alloc 87, type := 0, pos := "ref.go:54", after := #[], guard := none }) (by kernel_rfl) rfl rfl (fun K hK => ?tA) (fun K hK => ?tB)
                  case tA =>
                    go_simp
                    refine (hin _ hB0).mono ?_
                    rintro r w14 ⟨rfl, g14⟩
                    have hS14 : Below W2.heap.size W2 w14 := hB0.trans (g14.below.mono hB0.size)
                    clear g14
                    go_wp2_with fail
                    refine hK.out _ _ (fun hD => H2.out.2 _ hS14) ?_
                    clear hK K
                    try simp only [Act.put, List.setIfInBounds_toArray, List.set_cons_zero, List.set_cons_succ]
                    refine' wpAnyD_take (i := 9) (oi := { dst := some 61, op := Go.Op.build 49 #[(0, Go.Operand.tmp 58), (1, Go.Operand.tmp 59), (2, Go.Operand.tmp 60)], type := 49, pos := "ref.go:54", after := #[{ on := 6, ground := Go.Ground.data }, { on := 7, ground := Go.Ground.data }, { on := 8, ground := Go.Ground.data }], guard := none }) (v := _) rfl (by kernel_rfl) (by kernel_rfl) (by kernel_rfl) (fun _ _ _ h => h) (by kernel_rfl) (Or.inl ⟨by rfl, ?hy3009⟩) (H2.out.2 _ hS14) ?rest3009
                    case hy3009 => (intro W hSw; go_simp; try (with_reducible rfl))
                    try simp only [Act.put, List.setIfInBounds_toArray, List.set_cons_zero, List.set_cons_succ]
                    refine' wpAnyD_take (i := 10) (oi := { dst := some 62, op := Go.Op.build 87 #[(0, Go.Operand.tmp 52), (1, Go.Operand.tmp 61)], type := 87, pos := "ref.go:54", after := #[{ on := 0, ground := Go.Ground.data }, { on := 9, ground := Go.Ground.data }], guard := none }) (v := _) rfl (by kernel_rfl) (by kernel_rfl) (by kernel_rfl) (fun _ _ _ h => h) (by kernel_rfl) (Or.inl ⟨by rfl, ?hy3010⟩) (H2.out.2 _ hS14) ?rest3010
                    case hy3010 => (intro W hSw; go_simp; try (with_reducible rfl))
                    try simp only [Act.put, List.setIfInBounds_toArray, List.set_cons_zero, List.set_cons_succ]
                    refine wpAnyD_one (i := 11) (o := { dst := some 16, op := Go.Op.alloc 87, type := 0, pos := "ref.go:54", after := #[], guard := none }) (by kernel_rfl) rfl (fun K hK => ?_)
                    go_simp
                    have hS15 : Below W2.heap.size W2 (w14.alloc (.cells #[.int .i64 0, .int .i64 0, .int .u64 0, .int .u64 0, .int .u64 0, .int .u64 0, .int .u64 0] 87)) := hS14.trans (((Gr.refl w14).alloc _).below.mono hS14.size)
                    refine hK.out _ _ (fun hD => H2.out.2 _ hS15) ?_
                    clear hK K
                    try simp only [Act.put, List.setIfInBounds_toArray, List.set_cons_zero, List.set_cons_succ]
                    refine wpAnyD_one (i := 12) (o := { dst := none, op := Go.Op.store 87 (Go.Operand.tmp 16) (Go.Operand.tmp 62), type := 0, pos := "ref.go:54", after := #[{ on := 11, ground := Go.Ground.data }, { on := 10, ground := Go.Ground.data }, { on := 6, ground := Go.Ground.chain }, { on := 0, ground := Go.Ground.phase }, { on := 1, ground := Go.Ground.phase }, { on := 2, ground := Go.Ground.phase }, { on := 3, ground := Go.Ground.phase }, { on := 4, ground := Go.Ground.phase }, { on := 5, ground := Go.Ground.phase }, { on := 6, ground := Go.Ground.phase }, { on := 7, ground := Go.Ground.phase }, { on := 8, ground := Go.Ground.phase }, { on := 9, ground := Go.Ground.phase }, { on := 10, ground := Go.Ground.phase }, { on := 11, ground := Go.Ground.phase }], guard := none }) (by kernel_rfl) rfl (fun K hK => ?_)
                    go_simp
                    have hS16 : Below W2.heap.size W2 (w14.alloc (.cells #[.int .i64 own, .int .i64 ai, .int .u64 x.a, .int .u64 x.b, .int .u64 x.c, .int .u64 (x.key : Nat), .int .u64 x.val] 87)) := hS14.trans (((Gr.refl w14).alloc _).below.mono hS14.size)
                    refine hK.out _ _ (fun hD => H2.out.2 _ hS16) ?_
                    clear hK K
                    try simp only [Act.put, List.setIfInBounds_toArray, List.set_cons_zero, List.set_cons_succ]
                    refine wpAnyD_done (by kernel_rfl) ?_ _
                    go_wp2_with fail
                    go_meet
                    exact ⟨_, rfl, hS14.trans (((Gr.refl w14).alloc _).below.mono hS14.size), heap_new' _ _, hS14.size⟩
                  case tB =>
                    go_simp
                    have hSa : Below W2.heap.size W2 (W2.drew.alloc (.cells #[.int .i64 0, .int .i64 0, .int .u64 0, .int .u64 0, .int .u64 0, .int .u64 0, .int .u64 0] 87)) := hB0.trans (((Gr.refl W2.drew).alloc _).below.mono hB0.size)
                    have hna := heap_new' W2.drew (.cells #[.int .i64 0, .int .i64 0, .int .u64 0, .int .u64 0, .int .u64 0, .int .u64 0, .int .u64 0] 87)
                    refine hK.out _ _ (fun hD => H2.out.2 _ hSa) ?_
                    clear hK K
                    try simp only [Act.put, List.setIfInBounds_toArray, List.set_cons_zero, List.set_cons_succ]
                    refine wpAnyD_one (i := 6) (o := { dst := some 58, op := Go.Op.call { callee := Go.Callee.value (Go.Operand.func 32), args := #[Go.Operand.tmp 53, Go.Operand.tmp 55, Go.Operand.tmp 57], argTypes := #[25, 3, 3] }, type := 3, pos := "ref.go:54", after := #[{ on := 1, ground := Go.Ground.data }, { on := 3, ground := Go.Ground.data }, { on := 5, ground := Go.Ground.data }], guard := none }) (by kernel_rfl) rfl (fun K hK => ?_)
                    go_simp
                    refine (hin _ hSa).mono ?_
                    rintro r w14 ⟨rfl, g14⟩
                    have hS14 : Below W2.heap.size W2 w14 := hSa.trans (g14.below.mono hSa.size)
                    have hbk : w14.heap[W2.heap.size]? = some (.cells #[.int .i64 0, .int .i64 0, .int .u64 0, .int .u64 0, .int .u64 0, .int .u64 0, .int .u64 0] 87 (0, 0)) := (g14.below.block _ (tk_lt hna)).trans hna
                    clear g14 hna hSa
                    go_wp2_with fail
                    refine hK.out _ _ (fun hD => H2.out.2 _ hS14) ?_
                    clear hK K
                    try simp only [Act.put, List.setIfInBounds_toArray, List.set_cons_zero, List.set_cons_succ]
                    refine' wpAnyD_take (i := 9) (oi := { dst := some 61, op := Go.Op.build 49 #[(0, Go.Operand.tmp 58), (1, Go.Operand.tmp 59), (2, Go.Operand.tmp 60)], type := 49, pos := "ref.go:54", after := #[{ on := 6, ground := Go.Ground.data }, { on := 7, ground := Go.Ground.data }, { on := 8, ground := Go.Ground.data }], guard := none }) (v := _) rfl (by kernel_rfl) (by kernel_rfl) (by kernel_rfl) (fun _ _ _ h => h) (by kernel_rfl) (Or.inl ⟨by rfl, ?hy3011⟩) (H2.out.2 _ hS14) ?rest3011
                    case hy3011 => (intro W hSw; go_simp; try (with_reducible rfl))
                    try simp only [Act.put, List.setIfInBounds_toArray, List.set_cons_zero, List.set_cons_succ]
                    refine' wpAnyD_take (i := 10) (oi := { dst := some 62, op := Go.Op.build 87 #[(0, Go.Operand.tmp 52), (1, Go.Operand.tmp 61)], type := 87, pos := "ref.go:54", after := #[{ on := 0, ground := Go.Ground.data }, { on := 9, ground := Go.Ground.data }], guard := none }) (v := _) rfl (by kernel_rfl) (by kernel_rfl) (by kernel_rfl) (fun _ _ _ h => h) (by kernel_rfl) (Or.inl ⟨by rfl, ?hy3012⟩) (H2.out.2 _ hS14) ?rest3012
                    case hy3012 => (intro W hSw; go_simp; try (with_reducible rfl))
                    try simp only [Act.put, List.setIfInBounds_toArray, List.set_cons_zero, List.set_cons_succ]
                    have cb := (tk_store hbk).1
                    have fb := (tk_store hbk).2
                    have lb := tk_lt hbk
                    refine wpAnyD_one (i := 12) (o := { dst := none, op := Go.Op.store 87 (Go.Operand.tmp 16) (Go.Operand.tmp 62), type := 0, pos := "ref.go:54", after := #[{ on := 11, ground := Go.Ground.data }, { on := 10, ground := Go.Ground.data }, { on := 6, ground := Go.Ground.chain }, { on := 0, ground := Go.Ground.phase }, { on := 1, ground := Go.Ground.phase }, { on := 2, ground := Go.Ground.phase }, { on := 3, ground := Go.Ground.phase }, { on := 4, ground := Go.Ground.phase }, { on := 5, ground := Go.Ground.phase }, { on := 6, ground := Go.Ground.phase }, { on := 7, ground := Go.Ground.phase }, { on := 8, ground := Go.Ground.phase }, { on := 9, ground := Go.Ground.phase }, { on := 10, ground := Go.Ground.phase }, { on := 11, ground := Go.Ground.phase }], guard := none }) (by kernel_rfl) rfl (fun K hK => ?_)
                    go_simp
                    obtain ⟨b0, k0⟩ := tk_set hbk 0 (.int .i64 own)
                    obtain ⟨b1, k1⟩ := tk_set b0 1 (.int .i64 ai)
                    obtain ⟨b2, k2⟩ := tk_set b1 2 (.int .u64 x.a)
                    obtain ⟨b3, k3⟩ := tk_set b2 3 (.int .u64 x.b)
                    obtain ⟨b4, k4⟩ := tk_set b3 4 (.int .u64 x.c)
                    obtain ⟨b5, k5⟩ := tk_set b4 5 (.int .u64 (x.key : Nat))
                    obtain ⟨b6, k6⟩ := tk_set b5 6 (.int .u64 x.val)
                    have kk : Below W2.heap.size W2 (((((((w14.setCell ⟨W2.heap.size, 0, none⟩ (.int .i64 own)).setCell ⟨W2.heap.size, 1, none⟩ (.int .i64 ai)).setCell ⟨W2.heap.size, 2, none⟩ (.int .u64 x.a)).setCell ⟨W2.heap.size, 3, none⟩ (.int .u64 x.b)).setCell ⟨W2.heap.size, 4, none⟩ (.int .u64 x.c)).setCell ⟨W2.heap.size, 5, none⟩ (.int .u64 (x.key : Nat))).setCell ⟨W2.heap.size, 6, none⟩ (.int .u64 x.val)) := hS14.trans (((((((k0.trans k1 (fun _ _ h => h)).trans k2 (fun _ _ h => h)).trans k3 (fun _ _ h => h)).trans k4 (fun _ _ h => h)).trans k5 (fun _ _ h => h)).trans k6 (fun _ _ h => h)).below hS14.size (fun k h => by rw [h]; exact Nat.le_refl _))
                    clear k0 k1 k2 k3 k4 k5 k6 b0 b1 b2 b3 b4 b5 cb fb lb hbk
                    generalize (((((((w14.setCell ⟨W2.heap.size, 0, none⟩ (.int .i64 own)).setCell ⟨W2.heap.size, 1, none⟩ (.int .i64 ai)).setCell ⟨W2.heap.size, 2, none⟩ (.int .u64 x.a)).setCell ⟨W2.heap.size, 3, none⟩ (.int .u64 x.b)).setCell ⟨W2.heap.size, 4, none⟩ (.int .u64 x.c)).setCell ⟨W2.heap.size, 5, none⟩ (.int .u64 (x.key : Nat))).setCell ⟨W2.heap.size, 6, none⟩ (.int .u64 x.val)) = w16 at kk b6 ⊢
                    refine hK.out _ _ (fun hD => H2.out.2 _ kk) ?_
                    clear hK K
                    try simp only [Act.put, List.setIfInBounds_toArray, List.set_cons_zero, List.set_cons_succ]
                    refine wpAnyD_done (by kernel_rfl) ?_ _
                    go_wp2_with fail
                    go_meet
                    exact ⟨_, rfl, kk, b6, Nat.le_refl _⟩
                case rest =>
                  obtain ⟨pb, rfl, HP⟩ := hcut
                  have cd := (tk_store (H2.out.2 _ HP.out.1).1).1
                  have ld := tk_lt (H2.out.2 _ HP.out.1).1
                  obtain ⟨kd, hkd⟩ : ∃ b, b = d.keyed := ⟨_, rfl⟩
                  rw [← hkd] at cd HE
                  clear hkd
                  cases kd with
                  | true =>
                    have hto := rwho_any HK.out m wc
                    obtain ⟨tw, htw⟩ : ∃ z, z = tow x.key m := ⟨_, rfl⟩
                    rw [← htw] at hto
                    have hal : alg true x.key own m = tw := htw.symm
                    rw [hal] at HE
                    clear hal htw
                    have cr := (tk_store (H2.out.2 _ HP.out.1).2.2.2.2).1
                    have lr := tk_lt (H2.out.2 _ HP.out.1).2.2.2.2
                    have cp := (tk_store HP.out.2.1).1
                    have fp := (tk_store HP.out.2.1).2
                    have lp := tk_lt HP.out.2.1
                    go_wp2_with fail
                    refine hto.mono ?_
                    rintro r wd ⟨rfl, hwd⟩
                    subst hwd
                    go_upto_region 12 with fail
                    obtain ⟨n5, k5⟩ := tk_set HP.out.2.1 0 (.int .i64 tw)
                    have B5 : Below W2.heap.size W2 (wd.setCell ⟨pb, 0, none⟩ (.int .i64 tw)) := HP.out.1.trans (k5.below HP.out.1.size (fun j h => by rw [h]; exact HP.out.2.2))
                    clear k5 hto cr lr cp fp lp cd ld
                    generalize wd.setCell ⟨pb, 0, none⟩ (.int .i64 tw) = W5 at n5 B5 ⊢
                    have HN7 : Hid (Below W2.heap.size W2 W5 ∧ W5.heap[pb]? = some (.cells #[.int .i64 tw, .int .i64 ai, .int .u64 x.a, .int .u64 x.b, .int .u64 x.c, .int .u64 (x.key : Nat), .int .u64 x.val] 87 (0, 0)) ∧ W5.ownsRow W0.heap.size 87 7 (.slice pa dl.length ca) dl.length (fl EOt dl) ∧ Below W0.heap.size W0 W5) := ⟨B5, n5, owns_below H2.out.1 B5, (H2.out.2 _ B5).2.1⟩
                    clear B5 n5
                    have hpc := (tk_store HN7.out.2.1).1
                    have hpl := tk_lt HN7.out.2.1
                    have hn7 := heap_new' W5 (.cells #[.int .i64 tw, .int .i64 ai, .int .u64 x.a, .int .u64 x.b, .int .u64 x.c, .int .u64 (x.key : Nat), .int .u64 x.val] 87)
                    have HW7 : Hid (Below W5.heap.size W5 (W5.alloc (.cells #[.int .i64 tw, .int .i64 ai, .int .u64 x.a, .int .u64 x.b, .int .u64 x.c, .int .u64 (x.key : Nat), .int .u64 x.val] 87))) := ((Gr.refl W5).alloc _).below
                    have HO7 := hid (owns_below HN7.out.2.2.1 HW7.out)
                    have HL7 := hid (one_ls (E := EOt) (x := ⟨tw, ai, x⟩) hn7 rfl)
                    have hwz : W0.heap.size ≤ (W5.alloc (.cells #[.int .i64 tw, .int .i64 ai, .int .u64 x.a, .int .u64 x.b, .int .u64 x.c, .int .u64 (x.key : Nat), .int .u64 x.val] 87)).heap.size := Nat.le_trans HN7.out.2.2.2.size HW7.out.size
                    clear hn7
                    go_wp2_with (at_builtin; refine wpAppL EOt Try.underlying60 infoRo rfl (by decide) rfl _ _ rfl W0.heap.size _ dl.length _ rfl HO7.out (.slice (some ⟨W5.heap.size, 0, none⟩) 1 1) [⟨tw, ai, x⟩] rfl HL7.out (by simp only [List.length_singleton]; omega) (by unfold maxLen; simp only [List.length_singleton]; omega) hwz ?_)
                    intro v9 w9 ho9 hg9
                    have F9 : Hid (w9.ownsRow W0.heap.size 87 7 v9 (docL (gof a xs es) k x own m (i + 1)).length (fl EOt (docL (gof a xs es) k x own m (i + 1))) ∧ Below W0.heap.size W0 w9) := by
                      have hK9 := Kp.grownBy (S := fun k => W0.heap.size ≤ k) hg9 (fun k hk => (HO7.out.lt k hk).1)
                      have hB7 := HN7.out.2.2.2.trans (HW7.out.mono HN7.out.2.2.2.size)
                      rw [HE.out]
                      exact ⟨owns_re ho9 (by simp) (by rw [fl_append]), hB7.trans (hK9.below hB7.size (fun _ h => h))⟩
                    clear ho9 hg9 hpc hpl
                    go_wp2
                    go_roundw
                    case rel => exact ⟨i + 1, by omega, by first | rfl | go_num, F9.out⟩
                    case measure => simp [RowKit.intOf]; omega
                  | false =>
                    have hal : alg false x.key own m = own := rfl
                    rw [hal] at HE
                    go_upto_region 12 with fail
                    have n5 := HP.out.2.1
                    have B5 := HP.out.1
                    clear cd ld
                    generalize wc = W5 at n5 B5 ⊢
                    have HN7 : Hid (Below W2.heap.size W2 W5 ∧ W5.heap[pb]? = some (.cells #[.int .i64 own, .int .i64 ai, .int .u64 x.a, .int .u64 x.b, .int .u64 x.c, .int .u64 (x.key : Nat), .int .u64 x.val] 87 (0, 0)) ∧ W5.ownsRow W0.heap.size 87 7 (.slice pa dl.length ca) dl.length (fl EOt dl) ∧ Below W0.heap.size W0 W5) := ⟨B5, n5, owns_below H2.out.1 B5, (H2.out.2 _ B5).2.1⟩
                    clear B5 n5
                    have hpc := (tk_store HN7.out.2.1).1
                    have hpl := tk_lt HN7.out.2.1
                    have hn7 := heap_new' W5 (.cells #[.int .i64 own, .int .i64 ai, .int .u64 x.a, .int .u64 x.b, .int .u64 x.c, .int .u64 (x.key : Nat), .int .u64 x.val] 87)
                    have HW7 : Hid (Below W5.heap.size W5 (W5.alloc (.cells #[.int .i64 own, .int .i64 ai, .int .u64 x.a, .int .u64 x.b, .int .u64 x.c, .int .u64 (x.key : Nat), .int .u64 x.val] 87))) := ((Gr.refl W5).alloc _).below
                    have HO7 := hid (owns_below HN7.out.2.2.1 HW7.out)
                    have HL7 := hid (one_ls (E := EOt) (x := ⟨own, ai, x⟩) hn7 rfl)
                    have hwz : W0.heap.size ≤ (W5.alloc (.cells #[.int .i64 own, .int .i64 ai, .int .u64 x.a, .int .u64 x.b, .int .u64 x.c, .int .u64 (x.key : Nat), .int .u64 x.val] 87)).heap.size := Nat.le_trans HN7.out.2.2.2.size HW7.out.size
                    clear hn7
                    go_wp2_with (at_builtin; refine wpAppL EOt Try.underlying60 infoRo rfl (by decide) rfl _ _ rfl W0.heap.size _ dl.length _ rfl HO7.out (.slice (some ⟨W5.heap.size, 0, none⟩) 1 1) [⟨own, ai, x⟩] rfl HL7.out (by simp only [List.length_singleton]; omega) (by unfold maxLen; simp only [List.length_singleton]; omega) hwz ?_)
                    intro v9 w9 ho9 hg9
                    have F9 : Hid (w9.ownsRow W0.heap.size 87 7 v9 (docL (gof a xs es) k x own m (i + 1)).length (fl EOt (docL (gof a xs es) k x own m (i + 1))) ∧ Below W0.heap.size W0 w9) := by
                      have hK9 := Kp.grownBy (S := fun k => W0.heap.size ≤ k) hg9 (fun k hk => (HO7.out.lt k hk).1)
                      have hB7 := HN7.out.2.2.2.trans (HW7.out.mono HN7.out.2.2.2.size)
                      rw [HE.out]
                      exact ⟨owns_re ho9 (by simp) (by rw [fl_append]), hB7.trans (hK9.below hB7.size (fun _ h => h))⟩
                    clear ho9 hg9 hpc hpl
                    go_wp2
                    go_roundw
                    case rel => exact ⟨i + 1, by omega, by first | rfl | go_num, F9.out⟩
                    case measure => simp [RowKit.intOf]; omega
              · have HE : Hid (docL (gof a xs es) k x own m (i + 1) = dl) := by
                  show _ = _
                  rw [HSN.out, HOI.out, if_neg hok, List.append_nil]
                have F9 : Hid (W2.ownsRow W0.heap.size 87 7 (.slice pa dl.length ca) dl.length (fl EOt dl) ∧ Below W0.heap.size W0 W2) := ⟨H2.out.1, (H2.out.2 _ (Below.refl _ _)).2.1⟩
                go_wp2
                go_roundw
                case rel => exact ⟨i + 1, by omega, by first | rfl | go_num, by rw [HE.out]; exact F9.out⟩
                case measure => simp [RowKit.intOf]; omega
            · have hilz : ¬ (i : Int) < (el : Int) := by omega
              have hie : i = el := by omega
              subst hie
              go_wp2
              go_ret
              refine ⟨_, rfl, ?_⟩
              rw [HG.out]
              exact ⟨owns_base HL.out.1 P0.out.1.size, P0.out.1.trans (HL.out.2.mono P0.out.1.size)⟩
end Go.Proofs.Ytifjjnnpoleinaa.Df
