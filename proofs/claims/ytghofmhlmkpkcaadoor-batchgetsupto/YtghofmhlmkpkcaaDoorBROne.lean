import Derived.Test.YtghofmhlmkpkcaaDoorBGet
import Derived.Test.YtghofmhlmkpkcaaDoorVRefR3
namespace Go.Proofs.YtghofmhlmkpkcaaDoor.Wi
open Go.RowKit Go.Sort
attribute [local go_sem ↓] Go.wp_at_zero Go.wp_at_succ
/-- Numbers as elements. -/
def EU : El Nat where
  k := 1
  enc u := [.int .u64 (u : Nat)]
  len _ := rfl
  one x u hu := by
    simp at hu
    subst hu
    rfl
theorem infoU : (Tryd.prog.info? 37).map (fun i => (i.zero, i.size, i.bytes)) = some (some (.int .u64 0), 1, 8) := by kernel_rfl
section
variable {w : World} {ops : Array Oper} {rest : List Oper} {o : Oper} {a : Act} {Q : Exit → Act → World → Prop}
theorem wpU1 (hgd : o.guard = none) (s x : Operand) (ho : o.op = .call { callee := .builtin .append, args := #[s, x], argTypes := #[143, 143] })
    (base : Nat) (v : Value) (l : List Nat) (hs : a.eval s = v) (hown : w.ownsRow base 37 1 v l.length (fl EU l)) (u : Nat) (hx : a.eval x = .slice (some ⟨w.heap.size, 0, none⟩) 1 1) (hbig : l.length ≤ 100) (hbase : base ≤ w.heap.size) (te : TypeId)
    (h : ∀ v' w', Hid (w'.ownsRow base 37 1 v' (l ++ [u]).length (fl EU (l ++ [u]))) → Hid (Tn v v' w w') → wpList Tryd.prog ops Q rest (a.put o.dst v') w') :
    wpList Tryd.prog ops Q (o :: rest) a (w.alloc (.cells #[.int .u64 (u : Nat)] te)) := by
  refine wpApp1 EU Tryd.underlying143 infoU rfl (by decide) hgd s x ho base v l.length _ hs hown u hx (by omega) (by unfold maxLen; omega) hbase _ rfl te ?_
  intro g cap w' h1 h2 h3
  refine h _ w' (owns_re h1 (by simp) (by rw [fl_append, fl_one])) ⟨Kp.grownBy h2 (fun _ h => h), fun k hk => ?_⟩
  simp [Value.ownBlock] at hk
  subst hk
  exact h3
end
/-- While the document takes a change. -/
structure Of (w wr : World) (rb B0 B1 : Nat) (d v : Value) (L : List UInt8) (at_ e : Nat) (xs : Array Value) (la : Value) (us : List Nat) : Prop where
  rd : Rr wr rb v L at_ e
  kp : Kp (fun k => k = rb) w wr
  n0 : w.heap.size ≤ B0
  n1 : w.heap.size ≤ B1
  ne : B0 ≠ B1
  lt : rb < w.heap.size
  od : ∀ k, d.ownBlock = some k → k < w.heap.size
  ow : ∀ k, v.ownBlock = some k → d.ownBlock = some k
  b0 : wr.heap[B0]? = some (.cells #[.int .i64 0, .int .u64 0, .int .u64 0, .int .u64 0, .int .i64 0] 43 (0, 0))
  b1 : wr.heap[B1]? = some (.cells xs 43 (0, 0))
  ro : wr.ownsRow w.heap.size 37 1 la us.length (fl EU us)
  a0 : la.ownBlock ≠ some B0
  a1 : la.ownBlock ≠ some B1
section
variable {w wr : World} {rb B0 B1 at_ e : Nat} {d v : Value} {L : List UInt8} {xs : Array Value} {la : Value} {us : List Nat}
theorem Of.call (h : Of w wr rb B0 B1 d v L at_ e xs la us) {w2 : World} {v2 : Value} {a2 e2 : Nat} (hR : Rr w2 rb v2 L a2 e2) (ho : ∀ k, v2.ownBlock = some k → v.ownBlock = some k) (hk : Kp (fun k => k = rb) wr w2) : Of w w2 rb B0 B1 d v2 L a2 e2 xs la us := by
  have l0 := (Array.getElem?_eq_some_iff.1 h.b0).1
  have l1 := (Array.getElem?_eq_some_iff.1 h.b1).1
  have := h.lt; have := h.n0; have := h.n1
  exact ⟨hR, h.kp.trans hk (fun _ _ h => h), h.n0, h.n1, h.ne, h.lt, h.od, fun k hk => h.ow k (ho k hk), (hk.block B0 l0 (by omega)).trans h.b0, (hk.block B1 l1 (by omega)).trans h.b1, owns_kp hk h.ro (fun k hk e => by have := (h.ro.lt k hk).1; omega), h.a0, h.a1⟩
theorem Of.set (h : Of w wr rb B0 B1 d v L at_ e xs la us) (i : Nat) (x : Value) : Of w (wr.setCell ⟨B1, i, none⟩ x) rb B0 B1 d v L at_ e (xs.setIfInBounds i x) la us := by
  obtain ⟨k1, k2⟩ := tk_set h.b1 i x
  have l0 := (Array.getElem?_eq_some_iff.1 h.b0).1
  have := h.lt; have := h.n1
  exact ⟨h.rd.kp k2 (by omega) (fun k hk e => by have := h.od k (h.ow k hk); omega), h.kp.trans k2 (fun j hj hs => by omega), h.n0, h.n1, h.ne, h.lt, h.od, h.ow, (k2.block B0 l0 h.ne).trans h.b0, k1, owns_kp k2 h.ro (fun _ hk e => h.a1 (e ▸ hk)), h.a0, h.a1⟩
theorem Of.grow (h : Of w wr rb B0 B1 d v L at_ e xs la us) {w2 : World} {lb : Value} {us2 : List Nat} (ho : w2.ownsRow w.heap.size 37 1 lb us2.length (fl EU us2)) (ht : Tn la lb wr w2) : Of w w2 rb B0 B1 d v L at_ e xs lb us2 := by
  have l0 := (Array.getElem?_eq_some_iff.1 h.b0).1
  have l1 := (Array.getElem?_eq_some_iff.1 h.b1).1
  have := h.lt
  have key : ∀ k, k < wr.heap.size → la.ownBlock ≠ some k → lb.ownBlock ≠ some k := fun k hk hne e => (ht.2 k e).elim hne (fun h => by omega)
  exact ⟨h.rd.kp ht.1 (fun e => by have := (h.ro.lt _ e).1; omega) (fun k hk e => by have h1 := h.od k (h.ow k hk); have := (h.ro.lt k e).1; omega), h.kp.trans ht.1 (fun j hj hs => by have := (h.ro.lt j hs).1; omega), h.n0, h.n1, h.ne, h.lt, h.od, h.ow, (ht.1.block B0 l0 h.a0).trans h.b0, (ht.1.block B1 l1 h.a1).trans h.b1, ho, key B0 l0 h.a0, key B1 l1 h.a1⟩
theorem Of.gr (h : Of w wr rb B0 B1 d v L at_ e xs la us) {w2 : World} (hg : Gr wr w2) : Of w w2 rb B0 B1 d v L at_ e xs la us := h.call (h.rd.below hg.below) (fun _ h => h) (Kp.of_gr hg)
theorem Of.c1 (h : Of w wr rb B0 B1 d v L at_ e xs la us) : (∀ i, wr.cell? ⟨B1, i, none⟩ = xs[i]?) ∧ (∀ i, wr.frozen? ⟨B1, i, none⟩ = false) ∧ B1 < wr.heap.size := ⟨(tk_store h.b1).1, (tk_store h.b1).2, (Array.getElem?_eq_some_iff.1 h.b1).1⟩
end
/-- A change as it is read, not yet held against the one before. -/
def five_ok1 (L : List UInt8) (at_ : Nat) (c : Cx) (p : Nat) : Prop := wr1 c = 0 ∧ ∀ q, bone L q at_ = if bh q c = false then .error (at_, 31) else .ok (c, p)
/-- What the document's 'one' leaves: the numbers, or where and what is wrong. -/
def Ond (w : World) (rb : Nat) (d : Value) (L : List UInt8) (at_ : Nat) (r : Ending) (w' : World) : Prop :=
  Kp (fun k => k = rb) w w' ∧ ((∃ c p v', five_ok1 L at_ c p ∧ r = .returned (.tuple #[gv c, .int .i64 0, .int .i64 0]) ∧ Rr w' rb v' L p 0 ∧ (∀ k, v'.ownBlock = some k → d.ownBlock = some k)) ∨ ∃ (p e : Nat) (x0 x1 x2 x3 x4 : Int), (∀ q, bone L q at_ = .error (p, e)) ∧ e ≠ 0 ∧ r = .returned (.tuple #[.agg #[.int .i64 x0, .int .u64 x1, .int .u64 x2, .int .u64 x3, .int .i64 x4], .int .i64 (p : Nat), .int .i64 (e : Nat)]))
set_option maxHeartbeats 32000000 in
set_option maxRecDepth 100000 in
theorem one_any {rb at_ : Nat} {d : Value} {L : List UInt8} (w : World) (hR : Rr w rb d L at_ 0) :
    Calls Tryd.prog 64 #[.pointer (some ⟨rb, 0, none⟩)] w fun r w' => Ond w rb d L at_ r w' := by
  have hmx : Tryd.prog.follows .mixedOrders = true := by kernel_rfl
  obtain ⟨W2, hW2⟩ : ∃ W, W = (w.alloc (.cells #[.int .i64 0, .int .u64 0, .int .u64 0, .int .u64 0, .int .i64 0] 43)).alloc (.cells #[.int .i64 0, .int .u64 0, .int .u64 0, .int .u64 0, .int .i64 0] 43) := ⟨_, rfl⟩
  obtain ⟨B0, hB0⟩ : ∃ B, B = w.heap.size := ⟨_, rfl⟩
  obtain ⟨B1, hB1⟩ : ∃ B, B = w.heap.size + 1 := ⟨_, rfl⟩
  have G2 : Gr w W2 := by rw [hW2]; exact ((Gr.refl _).alloc _).alloc _
  have hb0 : W2.heap[B0]? = some (.cells #[.int .i64 0, .int .u64 0, .int .u64 0, .int .u64 0, .int .i64 0] 43 (0, 0)) := by
    rw [hW2, hB0]
    exact (((Gr.refl _).alloc _).below.block _ (by simp)).trans (heap_new' _ _)
  have hb1 : W2.heap[B1]? = some (.cells #[.int .i64 0, .int .u64 0, .int .u64 0, .int .u64 0, .int .i64 0] 43 (0, 0)) := by
    have : B1 = (w.alloc (.cells #[.int .i64 0, .int .u64 0, .int .u64 0, .int .u64 0, .int .i64 0] 43)).heap.size := by rw [hB1]; simp
    rw [hW2, this]
    exact heap_new' _ _
  have F0 : Hid (Of w W2 rb B0 B1 d d L at_ 0 #[.int .i64 0, .int .u64 0, .int .u64 0, .int .u64 0, .int .i64 0] (.slice none 0 0) []) := ⟨hR.below G2.below, Kp.of_gr G2, by omega, by omega, by omega, hR.lt, hR.ls.blk, fun _ h => h, hb0, hb1, World.ownsRow_nil _ _ _ _, by simp [Value.ownBlock], by simp [Value.ownBlock]⟩
  have q1 := F0.out.rd.c1
  have ql := F0.out.rd.lt
  clear hR hb0 hb1 G2
  go_enter Tryd.func64, Tryd.ntmps64
  go_upto_region 2 with fail
  have es : (w.alloc (.cells #[.int .i64 0, .int .u64 0, .int .u64 0, .int .u64 0, .int .i64 0] 43)).heap.size = B1 := by rw [hB1]; simp
  (try rw [es])
  (try rw [← hB1])
  rw [← hW2, ← hB0]
  clear hB0 hB1 hW2 es
  go_wp2_with fail
  clear q1 ql
  obtain ⟨⟨u1, n1, e1⟩, hs1⟩ : ∃ S, rn 0 191 (L.drop (at_)) = S := ⟨_, rfl⟩
  have hb1 := rn_le 0 191 (L.drop (at_))
  have hc1 := rrnum_any 191 _ F0.out.rd
  rw [hs1] at hb1 hc1
  simp only at hb1 hc1
  rw [show ((191 : Nat) : Int) = 191 from rfl] at hc1
  refine hc1.mono ?_
  rintro r wa1 ⟨va1, rfl, ha1, ho1, ka1⟩
  obtain ⟨p1, hp1⟩ : ∃ p, at_ + n1 = p := ⟨_, rfl⟩
  rw [hp1] at ha1
  have HP1 := hid hp1
  have FA1 := hid (F0.out.call ha1 ho1 ka1)
  have HS1 := hid hs1
  have HB1 := hid hb1
  clear hc1 ha1 ka1 ho1 hs1 hb1 hp1
  have hwr : IntKind.i64.wrap (u1 : Int) = (u1 : Int) := by rw [IntKind.wrap_i64]; have := HB1.out; omega
  obtain ⟨q, qf, ql⟩ := FA1.out.c1
  have qc := q 0
  have qg := qf 0
  clear q qf
  go_upto_region 4 with fail
  have FB1 := hid (FA1.out.set 0 (.int .i64 (u1 : Nat)))
  obtain ⟨W5, hW5⟩ : ∃ W, W = wa1.setCell ⟨B1, 0, none⟩ (.int .i64 (u1 : Nat)) := ⟨_, rfl⟩
  rw [← hW5] at FB1 ⊢
  clear qc qg ql hW5 hwr
  by_cases he : e1 = 0
  rotate_left 1
  · have hez : ¬ (e1 : Int) = 0 := by omega
    have HE : Hid (∀ q, bone L q at_ = .error (at_, e1)) := fun q => by
      have h := HS1.out
      rcases num_rn L 191 at_ with ⟨a, _⟩ | ⟨_, k, z⟩
      · rw [h] at a; exact absurd a he
      · rw [h] at k
        simp only at k
        unfold bone five
        simp only [k]
    have S0 : W5.drew.cell? ⟨B1, 0, none⟩ = some (.int .i64 (u1 : Nat)) ∧ W5.drew.cell? ⟨B1, 1, none⟩ = some (.int .u64 0) ∧ W5.drew.cell? ⟨B1, 2, none⟩ = some (.int .u64 0) ∧ W5.drew.cell? ⟨B1, 3, none⟩ = some (.int .u64 0) ∧ W5.drew.cell? ⟨B1, 4, none⟩ = some (.int .i64 0) ∧ W5.drew.cell? ⟨rb, 2, none⟩ = some (.int .i64 (e1 : Nat)) ∧ B1 < W5.drew.heap.size ∧ rb < W5.drew.heap.size := by
      obtain ⟨h1, h2, h3⟩ := FB1.out.c1
      exact ⟨h1 0, h1 1, h1 2, h1 3, h1 4, FB1.out.rd.c2, h3, FB1.out.rd.lt⟩
    have y2 := FB1.out.rd.c2
    have yl := FB1.out.rd.lt
    go_upto_region 5 with fail
    clear y2 yl
    refine wp_regionD (S := fun W => (W.cell? ⟨B1, 0, none⟩ = some (.int .i64 (u1 : Nat)) ∧ W.cell? ⟨B1, 1, none⟩ = some (.int .u64 0) ∧ W.cell? ⟨B1, 2, none⟩ = some (.int .u64 0) ∧ W.cell? ⟨B1, 3, none⟩ = some (.int .u64 0) ∧ W.cell? ⟨B1, 4, none⟩ = some (.int .i64 0) ∧ W.cell? ⟨rb, 2, none⟩ = some (.int .i64 (e1 : Nat)) ∧ B1 < W.heap.size ∧ rb < W.heap.size)) (D := []) hmx ?_
    refine' wpAnyD_take (i := 0) (oi := { dst := some 23, op := Go.Op.load 43 (Go.Operand.tmp 5), type := 43, pos := "ref.go:57", after := #[], guard := none }) (v := _) rfl (by kernel_rfl) (by kernel_rfl) (by kernel_rfl) (fun _ _ _ h => h) (by kernel_rfl) (Or.inl ⟨by rfl, ?hy1⟩) S0 ?rest1
    case hy1 => (intro W hSw; (try dsimp only at hSw); obtain ⟨s1, s2, s3, s4, s5, s6, s7, s8⟩ := hSw; go_simp; try (with_reducible rfl))
    try simp only [Act.put, List.setIfInBounds_toArray, List.set_cons_zero, List.set_cons_succ]
    refine' wpAnyD_take (i := 1) (oi := { dst := some 24, op := Go.Op.move (Go.Operand.tmp 6), type := 3, pos := "ref.go:57", after := #[{ on := 6, ground := Go.Ground.gcOnly Go.Departure.lateStores }], guard := none }) (v := _) rfl (by kernel_rfl) (by kernel_rfl) (by kernel_rfl) (fun _ _ _ h => h) (by kernel_rfl) (Or.inl ⟨by rfl, ?hy2⟩) S0 ?rest2
    case hy2 => (intro W hSw; (try dsimp only at hSw); obtain ⟨s1, s2, s3, s4, s5, s6, s7, s8⟩ := hSw; go_simp; try (with_reducible rfl))
    try simp only [Act.put, List.setIfInBounds_toArray, List.set_cons_zero, List.set_cons_succ]
    refine' wpAnyD_take (i := 2) (oi := { dst := some 25, op := Go.Op.move (Go.Operand.tmp 0), type := 115, pos := "ref.go:57", after := #[{ on := 7, ground := Go.Ground.gcOnly Go.Departure.lateStores }], guard := none }) (v := _) rfl (by kernel_rfl) (by kernel_rfl) (by kernel_rfl) (fun _ _ _ h => h) (by kernel_rfl) (Or.inl ⟨by rfl, ?hy3⟩) S0 ?rest3
    case hy3 => (intro W hSw; (try dsimp only at hSw); obtain ⟨s1, s2, s3, s4, s5, s6, s7, s8⟩ := hSw; go_simp; try (with_reducible rfl))
    try simp only [Act.put, List.setIfInBounds_toArray, List.set_cons_zero, List.set_cons_succ]
    refine' wpAnyD_take (i := 3) (oi := { dst := some 26, op := Go.Op.nilCheck (Go.Operand.tmp 25), type := 0, pos := "ref.go:57", after := #[{ on := 2, ground := Go.Ground.data }, { on := 7, ground := Go.Ground.gcOnly Go.Departure.lateStores }], guard := none }) (v := _) rfl (by kernel_rfl) (by kernel_rfl) (by kernel_rfl) (fun _ _ _ h => h) (by kernel_rfl) (Or.inl ⟨by rfl, ?hy4⟩) S0 ?rest4
    case hy4 => (intro W hSw; (try dsimp only at hSw); obtain ⟨s1, s2, s3, s4, s5, s6, s7, s8⟩ := hSw; go_simp; try (with_reducible rfl))
    try simp only [Act.put, List.setIfInBounds_toArray, List.set_cons_zero, List.set_cons_succ]
    refine' wpAnyD_take (i := 4) (oi := { dst := some 27, op := Go.Op.fieldAddr 118 (Go.Operand.tmp 26) 2, type := 0, pos := "ref.go:57", after := #[{ on := 3, ground := Go.Ground.data }, { on := 7, ground := Go.Ground.gcOnly Go.Departure.lateStores }], guard := none }) (v := _) rfl (by kernel_rfl) (by kernel_rfl) (by kernel_rfl) (fun _ _ _ h => h) (by kernel_rfl) (Or.inl ⟨by rfl, ?hy5⟩) S0 ?rest5
    case hy5 => (intro W hSw; (try dsimp only at hSw); obtain ⟨s1, s2, s3, s4, s5, s6, s7, s8⟩ := hSw; go_simp; try (with_reducible rfl))
    try simp only [Act.put, List.setIfInBounds_toArray, List.set_cons_zero, List.set_cons_succ]
    refine' wpAnyD_take (i := 5) (oi := { dst := some 28, op := Go.Op.load 3 (Go.Operand.tmp 27), type := 3, pos := "ref.go:57", after := #[{ on := 4, ground := Go.Ground.data }, { on := 7, ground := Go.Ground.gcOnly Go.Departure.lateStores }], guard := none }) (v := _) rfl (by kernel_rfl) (by kernel_rfl) (by kernel_rfl) (fun _ _ _ h => h) (by kernel_rfl) (Or.inl ⟨by rfl, ?hy6⟩) S0 ?rest6
    case hy6 => (intro W hSw; (try dsimp only at hSw); obtain ⟨s1, s2, s3, s4, s5, s6, s7, s8⟩ := hSw; go_simp; try (with_reducible rfl))
    try simp only [Act.put, List.setIfInBounds_toArray, List.set_cons_zero, List.set_cons_succ]
    refine wpAnyD_one (i := 6) (o := { dst := none, op := Go.Op.store 43 (Go.Operand.tmp 2) (Go.Operand.tmp 23), type := 0, pos := "ref.go:57", after := #[{ on := 0, ground := Go.Ground.data }, { on := 0, ground := Go.Ground.phase }, { on := 1, ground := Go.Ground.textOnly Go.Departure.lateStores }, { on := 2, ground := Go.Ground.textOnly Go.Departure.lateStores }, { on := 3, ground := Go.Ground.textOnly Go.Departure.lateStores }, { on := 4, ground := Go.Ground.textOnly Go.Departure.lateStores }, { on := 5, ground := Go.Ground.textOnly Go.Departure.lateStores }], guard := none }) (by kernel_rfl) rfl (fun K hK => ?_)
    rw [if_pos (by kernel_rfl)]
    have z := tk_store FB1.out.b0
    have c0 := z.1 0
    have c1 := z.1 1
    have c2 := z.1 2
    have c3 := z.1 3
    have c4 := z.1 4
    have g0 := z.2 0
    have g1 := z.2 1
    have g2 := z.2 2
    have g3 := z.2 3
    have g4 := z.2 4
    have gl := (Array.getElem?_eq_some_iff.1 FB1.out.b0).1
    clear z
    go_simp
    obtain ⟨Wf, hWf⟩ : ∃ W, W = (((((W5.setCell ⟨B0, 0, none⟩ (.int .i64 (u1 : Nat))).setCell ⟨B0, 1, none⟩ (.int .u64 0)).setCell ⟨B0, 2, none⟩ (.int .u64 0)).setCell ⟨B0, 3, none⟩ (.int .u64 0)).setCell ⟨B0, 4, none⟩ (.int .i64 0)).drew := ⟨_, rfl⟩
    obtain ⟨k1, k2⟩ := set5 FB1.out.b0 (.int .i64 (u1 : Nat)) (.int .u64 0) (.int .u64 0) (.int .u64 0) (.int .i64 0)
    have K1 : Hid (Wf.heap[B0]? = some (.cells #[.int .i64 (u1 : Nat), .int .u64 0, .int .u64 0, .int .u64 0, .int .i64 0] 43 (0, 0)) ∧ Kp (fun k => k = B0) W5 Wf) := by
      rw [hWf]
      exact ⟨k1, k2.trans (Kp.of_gr (Gr.refl _).drew) (fun _ _ h => h)⟩
    rw [← hWf]
    have S6 : Wf.cell? ⟨B1, 0, none⟩ = some (.int .i64 (u1 : Nat)) ∧ Wf.cell? ⟨B1, 1, none⟩ = some (.int .u64 0) ∧ Wf.cell? ⟨B1, 2, none⟩ = some (.int .u64 0) ∧ Wf.cell? ⟨B1, 3, none⟩ = some (.int .u64 0) ∧ Wf.cell? ⟨B1, 4, none⟩ = some (.int .i64 0) ∧ Wf.cell? ⟨rb, 2, none⟩ = some (.int .i64 (e1 : Nat)) ∧ B1 < Wf.heap.size ∧ rb < Wf.heap.size := by
      obtain ⟨s1, s2, s3, s4, s5, s6, s7, s8⟩ := S0
      have hn : B1 ≠ B0 := fun e => FB1.out.ne e.symm
      have hr : rb ≠ B0 := fun e => by have h1 := FB1.out.lt; have h2 := FB1.out.n0; omega
      exact ⟨(K1.out.2.cell s7 hn).trans s1, (K1.out.2.cell s7 hn).trans s2, (K1.out.2.cell s7 hn).trans s3, (K1.out.2.cell s7 hn).trans s4, (K1.out.2.cell s7 hn).trans s5, (K1.out.2.cell s8 hr).trans s6, Nat.lt_of_lt_of_le s7 K1.out.2.size, Nat.lt_of_lt_of_le s8 K1.out.2.size⟩
    clear hWf k1 k2 c0 c1 c2 c3 c4 g0 g1 g2 g3 g4 gl
    refine hK.out _ _ (fun hD => S6) ?_
    clear hK K
    try simp only [Act.put, List.setIfInBounds_toArray, List.set_cons_zero, List.set_cons_succ]
    refine wpAnyD_one (i := 7) (o := { dst := some 3, op := Go.Op.assign (Go.Operand.tmp 24), type := 3, pos := "ref.go:57", after := #[{ on := 1, ground := Go.Ground.data }, { on := 6, ground := Go.Ground.chain }, { on := 0, ground := Go.Ground.phase }, { on := 1, ground := Go.Ground.phase }, { on := 2, ground := Go.Ground.textOnly Go.Departure.lateStores }, { on := 3, ground := Go.Ground.textOnly Go.Departure.lateStores }, { on := 4, ground := Go.Ground.textOnly Go.Departure.lateStores }, { on := 5, ground := Go.Ground.textOnly Go.Departure.lateStores }, { on := 6, ground := Go.Ground.phase }], guard := none }) (by kernel_rfl) rfl (fun K hK => ?_)
    rw [if_pos (by kernel_rfl)]
    go_simp
    refine hK.out _ _ (fun hD => S6) ?_
    clear hK K
    try simp only [Act.put, List.setIfInBounds_toArray, List.set_cons_zero, List.set_cons_succ]
    refine wpAnyD_one (i := 8) (o := { dst := some 4, op := Go.Op.assign (Go.Operand.tmp 28), type := 3, pos := "ref.go:57", after := #[{ on := 5, ground := Go.Ground.data }, { on := 7, ground := Go.Ground.chain }, { on := 0, ground := Go.Ground.phase }, { on := 1, ground := Go.Ground.phase }, { on := 2, ground := Go.Ground.phase }, { on := 3, ground := Go.Ground.phase }, { on := 4, ground := Go.Ground.phase }, { on := 5, ground := Go.Ground.phase }, { on := 6, ground := Go.Ground.phase }, { on := 7, ground := Go.Ground.phase }], guard := none }) (by kernel_rfl) rfl (fun K hK => ?_)
    rw [if_pos (by kernel_rfl)]
    go_simp
    refine hK.out _ _ (fun hD => S6) ?_
    clear hK K
    try simp only [Act.put, List.setIfInBounds_toArray, List.set_cons_zero, List.set_cons_succ]
    refine wpAnyD_done (by kernel_rfl) ?_ _
    go_wp2
    have qf := (tk_store K1.out.1).1
    have q0 := qf 0
    have q1 := qf 1
    have q2 := qf 2
    have q3 := qf 3
    have q4 := qf 4
    refine bodyPost_ret (v := .tuple #[.agg #[.int .i64 (u1 : Nat), .int .u64 0, .int .u64 0, .int .u64 0, .int .i64 0], .int .i64 (at_ : Nat), .int .i64 (e1 : Nat)]) (by simp [results, Tryd.results64, go_sem, q0, q1, q2, q3, q4]) rfl ?_
    show Ond _ _ _ _ _ _ _
    refine ⟨FB1.out.kp.trans K1.out.2 (fun j hj e => by have h1 := FB1.out.n0; omega), Or.inr ⟨_, _, _, _, _, _, _, HE.out, he, rfl⟩⟩
  subst he
  have HK1 : Hid (num L 191 at_ = .ok (u1, p1)) := by
    show _ = _
    have h := HS1.out
    rcases num_rn L 191 at_ with ⟨_, k⟩ | ⟨k, _⟩
    · rw [h] at k
      simp only at k
      rw [k, HP1.out]
    · rw [h] at k; exact absurd rfl k
  have y2 := FB1.out.rd.c2
  have yl := FB1.out.rd.lt
  go_wp2_with fail
  clear y2 yl
  refine wp_loop_rounds 4 ?_
  rw [rounds_succ]
  have y1 := FB1.out.rd.c1
  have yl := FB1.out.rd.lt
  go_wp2_with fail
  clear y1 yl
  obtain ⟨⟨u2, n2, e2⟩, hs2⟩ : ∃ S, rn 0 mx (L.drop (p1)) = S := ⟨_, rfl⟩
  have hb2 := rn_le 0 mx (L.drop (p1))
  have hc2 := rrnum_any mx _ FB1.out.rd
  rw [hs2] at hb2 hc2
  simp only at hb2 hc2
  rw [show ((mx : Nat) : Int) = 18446744073709551615 from rfl] at hc2
  refine hc2.mono ?_
  rintro r wa2 ⟨va2, rfl, ha2, ho2, ka2⟩
  obtain ⟨p2, hp2⟩ : ∃ p, p1 + n2 = p := ⟨_, rfl⟩
  rw [hp2] at ha2
  have HP2 := hid hp2
  have FA2 := hid (FB1.out.call ha2 ho2 ka2)
  have HS2 := hid hs2
  have HB2 := hid hb2
  clear hc2 ha2 ka2 ho2 hs2 hb2 hp2
  have hle2 : Hid (w.heap.size ≤ wa2.heap.size) := FA2.out.kp.size
  go_wp2_with (at_builtin; refine Hid.out ?_)
  refine hid ?_
  refine wpU1 (w := wa2) rfl _ _ rfl w.heap.size (.slice none 0 0) [] rfl FA2.out.ro u2 rfl (by simp) hle2.out _ ?_
  intro lb2 wg2 ho2 ht2
  have FG2 := hid (FA2.out.grow (us2 := [u2]) ho2.out ht2.out)
  clear ho2 ht2
  go_upto_region 12 with fail
  by_cases he : e2 = 0
  rotate_left 1
  · have hez : ¬ (e2 : Int) = 0 := by omega
    have HE : Hid (∀ q, bone L q at_ = .error (p1, e2)) := fun q => by
      have h := HS2.out
      rcases num_rn L mx p1 with ⟨a, _⟩ | ⟨_, k, z⟩
      · rw [h] at a; exact absurd a he
      · rw [h] at k
        simp only at k
        unfold bone five
        simp only [HK1.out, k]
    have S0 : wg2.drew.cell? ⟨B1, 0, none⟩ = some (.int .i64 (u1 : Nat)) ∧ wg2.drew.cell? ⟨B1, 1, none⟩ = some (.int .u64 0) ∧ wg2.drew.cell? ⟨B1, 2, none⟩ = some (.int .u64 0) ∧ wg2.drew.cell? ⟨B1, 3, none⟩ = some (.int .u64 0) ∧ wg2.drew.cell? ⟨B1, 4, none⟩ = some (.int .i64 0) ∧ wg2.drew.cell? ⟨rb, 2, none⟩ = some (.int .i64 (e2 : Nat)) ∧ B1 < wg2.drew.heap.size ∧ rb < wg2.drew.heap.size := by
      obtain ⟨h1, h2, h3⟩ := FG2.out.c1
      exact ⟨h1 0, h1 1, h1 2, h1 3, h1 4, FG2.out.rd.c2, h3, FG2.out.rd.lt⟩
    have y2 := FG2.out.rd.c2
    have yl := FG2.out.rd.lt
    go_upto_region 13 with fail
    clear y2 yl
    refine wp_regionD (S := fun W => (W.cell? ⟨B1, 0, none⟩ = some (.int .i64 (u1 : Nat)) ∧ W.cell? ⟨B1, 1, none⟩ = some (.int .u64 0) ∧ W.cell? ⟨B1, 2, none⟩ = some (.int .u64 0) ∧ W.cell? ⟨B1, 3, none⟩ = some (.int .u64 0) ∧ W.cell? ⟨B1, 4, none⟩ = some (.int .i64 0) ∧ W.cell? ⟨rb, 2, none⟩ = some (.int .i64 (e2 : Nat)) ∧ B1 < W.heap.size ∧ rb < W.heap.size)) (D := []) hmx ?_
    refine' wpAnyD_take (i := 0) (oi := { dst := some 47, op := Go.Op.load 43 (Go.Operand.tmp 5), type := 43, pos := "ref.go:64", after := #[], guard := none }) (v := _) rfl (by kernel_rfl) (by kernel_rfl) (by kernel_rfl) (fun _ _ _ h => h) (by kernel_rfl) (Or.inl ⟨by rfl, ?hy10⟩) S0 ?rest10
    case hy10 => (intro W hSw; (try dsimp only at hSw); obtain ⟨s1, s2, s3, s4, s5, s6, s7, s8⟩ := hSw; go_simp; try (with_reducible rfl))
    try simp only [Act.put, List.setIfInBounds_toArray, List.set_cons_zero, List.set_cons_succ]
    refine' wpAnyD_take (i := 1) (oi := { dst := some 48, op := Go.Op.move (Go.Operand.tmp 6), type := 3, pos := "ref.go:64", after := #[{ on := 6, ground := Go.Ground.gcOnly Go.Departure.lateStores }], guard := none }) (v := _) rfl (by kernel_rfl) (by kernel_rfl) (by kernel_rfl) (fun _ _ _ h => h) (by kernel_rfl) (Or.inl ⟨by rfl, ?hy11⟩) S0 ?rest11
    case hy11 => (intro W hSw; (try dsimp only at hSw); obtain ⟨s1, s2, s3, s4, s5, s6, s7, s8⟩ := hSw; go_simp; try (with_reducible rfl))
    try simp only [Act.put, List.setIfInBounds_toArray, List.set_cons_zero, List.set_cons_succ]
    refine' wpAnyD_take (i := 2) (oi := { dst := some 49, op := Go.Op.move (Go.Operand.tmp 0), type := 115, pos := "ref.go:64", after := #[{ on := 7, ground := Go.Ground.gcOnly Go.Departure.lateStores }], guard := none }) (v := _) rfl (by kernel_rfl) (by kernel_rfl) (by kernel_rfl) (fun _ _ _ h => h) (by kernel_rfl) (Or.inl ⟨by rfl, ?hy12⟩) S0 ?rest12
    case hy12 => (intro W hSw; (try dsimp only at hSw); obtain ⟨s1, s2, s3, s4, s5, s6, s7, s8⟩ := hSw; go_simp; try (with_reducible rfl))
    try simp only [Act.put, List.setIfInBounds_toArray, List.set_cons_zero, List.set_cons_succ]
    refine' wpAnyD_take (i := 3) (oi := { dst := some 50, op := Go.Op.nilCheck (Go.Operand.tmp 49), type := 0, pos := "ref.go:64", after := #[{ on := 2, ground := Go.Ground.data }, { on := 7, ground := Go.Ground.gcOnly Go.Departure.lateStores }], guard := none }) (v := _) rfl (by kernel_rfl) (by kernel_rfl) (by kernel_rfl) (fun _ _ _ h => h) (by kernel_rfl) (Or.inl ⟨by rfl, ?hy13⟩) S0 ?rest13
    case hy13 => (intro W hSw; (try dsimp only at hSw); obtain ⟨s1, s2, s3, s4, s5, s6, s7, s8⟩ := hSw; go_simp; try (with_reducible rfl))
    try simp only [Act.put, List.setIfInBounds_toArray, List.set_cons_zero, List.set_cons_succ]
    refine' wpAnyD_take (i := 4) (oi := { dst := some 51, op := Go.Op.fieldAddr 118 (Go.Operand.tmp 50) 2, type := 0, pos := "ref.go:64", after := #[{ on := 3, ground := Go.Ground.data }, { on := 7, ground := Go.Ground.gcOnly Go.Departure.lateStores }], guard := none }) (v := _) rfl (by kernel_rfl) (by kernel_rfl) (by kernel_rfl) (fun _ _ _ h => h) (by kernel_rfl) (Or.inl ⟨by rfl, ?hy14⟩) S0 ?rest14
    case hy14 => (intro W hSw; (try dsimp only at hSw); obtain ⟨s1, s2, s3, s4, s5, s6, s7, s8⟩ := hSw; go_simp; try (with_reducible rfl))
    try simp only [Act.put, List.setIfInBounds_toArray, List.set_cons_zero, List.set_cons_succ]
    refine' wpAnyD_take (i := 5) (oi := { dst := some 52, op := Go.Op.load 3 (Go.Operand.tmp 51), type := 3, pos := "ref.go:64", after := #[{ on := 4, ground := Go.Ground.data }, { on := 7, ground := Go.Ground.gcOnly Go.Departure.lateStores }], guard := none }) (v := _) rfl (by kernel_rfl) (by kernel_rfl) (by kernel_rfl) (fun _ _ _ h => h) (by kernel_rfl) (Or.inl ⟨by rfl, ?hy15⟩) S0 ?rest15
    case hy15 => (intro W hSw; (try dsimp only at hSw); obtain ⟨s1, s2, s3, s4, s5, s6, s7, s8⟩ := hSw; go_simp; try (with_reducible rfl))
    try simp only [Act.put, List.setIfInBounds_toArray, List.set_cons_zero, List.set_cons_succ]
    refine wpAnyD_one (i := 6) (o := { dst := none, op := Go.Op.store 43 (Go.Operand.tmp 2) (Go.Operand.tmp 47), type := 0, pos := "ref.go:64", after := #[{ on := 0, ground := Go.Ground.data }, { on := 0, ground := Go.Ground.phase }, { on := 1, ground := Go.Ground.textOnly Go.Departure.lateStores }, { on := 2, ground := Go.Ground.textOnly Go.Departure.lateStores }, { on := 3, ground := Go.Ground.textOnly Go.Departure.lateStores }, { on := 4, ground := Go.Ground.textOnly Go.Departure.lateStores }, { on := 5, ground := Go.Ground.textOnly Go.Departure.lateStores }], guard := none }) (by kernel_rfl) rfl (fun K hK => ?_)
    rw [if_pos (by kernel_rfl)]
    have z := tk_store FG2.out.b0
    have c0 := z.1 0
    have c1 := z.1 1
    have c2 := z.1 2
    have c3 := z.1 3
    have c4 := z.1 4
    have g0 := z.2 0
    have g1 := z.2 1
    have g2 := z.2 2
    have g3 := z.2 3
    have g4 := z.2 4
    have gl := (Array.getElem?_eq_some_iff.1 FG2.out.b0).1
    clear z
    go_simp
    obtain ⟨Wf, hWf⟩ : ∃ W, W = (((((wg2.setCell ⟨B0, 0, none⟩ (.int .i64 (u1 : Nat))).setCell ⟨B0, 1, none⟩ (.int .u64 0)).setCell ⟨B0, 2, none⟩ (.int .u64 0)).setCell ⟨B0, 3, none⟩ (.int .u64 0)).setCell ⟨B0, 4, none⟩ (.int .i64 0)).drew := ⟨_, rfl⟩
    obtain ⟨k1, k2⟩ := set5 FG2.out.b0 (.int .i64 (u1 : Nat)) (.int .u64 0) (.int .u64 0) (.int .u64 0) (.int .i64 0)
    have K1 : Hid (Wf.heap[B0]? = some (.cells #[.int .i64 (u1 : Nat), .int .u64 0, .int .u64 0, .int .u64 0, .int .i64 0] 43 (0, 0)) ∧ Kp (fun k => k = B0) wg2 Wf) := by
      rw [hWf]
      exact ⟨k1, k2.trans (Kp.of_gr (Gr.refl _).drew) (fun _ _ h => h)⟩
    rw [← hWf]
    have S6 : Wf.cell? ⟨B1, 0, none⟩ = some (.int .i64 (u1 : Nat)) ∧ Wf.cell? ⟨B1, 1, none⟩ = some (.int .u64 0) ∧ Wf.cell? ⟨B1, 2, none⟩ = some (.int .u64 0) ∧ Wf.cell? ⟨B1, 3, none⟩ = some (.int .u64 0) ∧ Wf.cell? ⟨B1, 4, none⟩ = some (.int .i64 0) ∧ Wf.cell? ⟨rb, 2, none⟩ = some (.int .i64 (e2 : Nat)) ∧ B1 < Wf.heap.size ∧ rb < Wf.heap.size := by
      obtain ⟨s1, s2, s3, s4, s5, s6, s7, s8⟩ := S0
      have hn : B1 ≠ B0 := fun e => FG2.out.ne e.symm
      have hr : rb ≠ B0 := fun e => by have h1 := FG2.out.lt; have h2 := FG2.out.n0; omega
      exact ⟨(K1.out.2.cell s7 hn).trans s1, (K1.out.2.cell s7 hn).trans s2, (K1.out.2.cell s7 hn).trans s3, (K1.out.2.cell s7 hn).trans s4, (K1.out.2.cell s7 hn).trans s5, (K1.out.2.cell s8 hr).trans s6, Nat.lt_of_lt_of_le s7 K1.out.2.size, Nat.lt_of_lt_of_le s8 K1.out.2.size⟩
    clear hWf k1 k2 c0 c1 c2 c3 c4 g0 g1 g2 g3 g4 gl
    refine hK.out _ _ (fun hD => S6) ?_
    clear hK K
    try simp only [Act.put, List.setIfInBounds_toArray, List.set_cons_zero, List.set_cons_succ]
    refine wpAnyD_one (i := 7) (o := { dst := some 3, op := Go.Op.assign (Go.Operand.tmp 48), type := 3, pos := "ref.go:64", after := #[{ on := 1, ground := Go.Ground.data }, { on := 6, ground := Go.Ground.chain }, { on := 0, ground := Go.Ground.phase }, { on := 1, ground := Go.Ground.phase }, { on := 2, ground := Go.Ground.textOnly Go.Departure.lateStores }, { on := 3, ground := Go.Ground.textOnly Go.Departure.lateStores }, { on := 4, ground := Go.Ground.textOnly Go.Departure.lateStores }, { on := 5, ground := Go.Ground.textOnly Go.Departure.lateStores }, { on := 6, ground := Go.Ground.phase }], guard := none }) (by kernel_rfl) rfl (fun K hK => ?_)
    rw [if_pos (by kernel_rfl)]
    go_simp
    refine hK.out _ _ (fun hD => S6) ?_
    clear hK K
    try simp only [Act.put, List.setIfInBounds_toArray, List.set_cons_zero, List.set_cons_succ]
    refine wpAnyD_one (i := 8) (o := { dst := some 4, op := Go.Op.assign (Go.Operand.tmp 52), type := 3, pos := "ref.go:64", after := #[{ on := 5, ground := Go.Ground.data }, { on := 7, ground := Go.Ground.chain }, { on := 0, ground := Go.Ground.phase }, { on := 1, ground := Go.Ground.phase }, { on := 2, ground := Go.Ground.phase }, { on := 3, ground := Go.Ground.phase }, { on := 4, ground := Go.Ground.phase }, { on := 5, ground := Go.Ground.phase }, { on := 6, ground := Go.Ground.phase }, { on := 7, ground := Go.Ground.phase }], guard := none }) (by kernel_rfl) rfl (fun K hK => ?_)
    rw [if_pos (by kernel_rfl)]
    go_simp
    refine hK.out _ _ (fun hD => S6) ?_
    clear hK K
    try simp only [Act.put, List.setIfInBounds_toArray, List.set_cons_zero, List.set_cons_succ]
    refine wpAnyD_done (by kernel_rfl) ?_ _
    go_wp2
    have qf := (tk_store K1.out.1).1
    have q0 := qf 0
    have q1 := qf 1
    have q2 := qf 2
    have q3 := qf 3
    have q4 := qf 4
    refine bodyPost_ret (v := .tuple #[.agg #[.int .i64 (u1 : Nat), .int .u64 0, .int .u64 0, .int .u64 0, .int .i64 0], .int .i64 (p1 : Nat), .int .i64 (e2 : Nat)]) (by simp [results, Tryd.results64, go_sem, q0, q1, q2, q3, q4]) rfl ?_
    show Ond _ _ _ _ _ _ _
    refine ⟨FG2.out.kp.trans K1.out.2 (fun j hj e => by have h1 := FG2.out.n0; omega), Or.inr ⟨_, _, _, _, _, _, _, HE.out, he, rfl⟩⟩
  subst he
  have HK2 : Hid (num L mx p1 = .ok (u2, p2)) := by
    show _ = _
    have h := HS2.out
    rcases num_rn L mx p1 with ⟨_, k⟩ | ⟨k, _⟩
    · rw [h] at k
      simp only at k
      rw [k, HP2.out]
    · rw [h] at k; exact absurd rfl k
  have y2 := FG2.out.rd.c2
  have yl := FG2.out.rd.lt
  go_wp2_with fail
  clear y2 yl
  rw [rounds_succ]
  have y1 := FG2.out.rd.c1
  have yl := FG2.out.rd.lt
  go_wp2_with fail
  clear y1 yl
  obtain ⟨⟨u3, n3, e3⟩, hs3⟩ : ∃ S, rn 0 mx (L.drop (p2)) = S := ⟨_, rfl⟩
  have hb3 := rn_le 0 mx (L.drop (p2))
  have hc3 := rrnum_any mx _ FG2.out.rd
  rw [hs3] at hb3 hc3
  simp only at hb3 hc3
  rw [show ((mx : Nat) : Int) = 18446744073709551615 from rfl] at hc3
  refine hc3.mono ?_
  rintro r wa3 ⟨va3, rfl, ha3, ho3, ka3⟩
  obtain ⟨p3, hp3⟩ : ∃ p, p2 + n3 = p := ⟨_, rfl⟩
  rw [hp3] at ha3
  have HP3 := hid hp3
  have FA3 := hid (FG2.out.call ha3 ho3 ka3)
  have HS3 := hid hs3
  have HB3 := hid hb3
  clear hc3 ha3 ka3 ho3 hs3 hb3 hp3
  have hle3 : Hid (w.heap.size ≤ wa3.heap.size) := FA3.out.kp.size
  go_wp2_with (at_builtin; refine Hid.out ?_)
  refine hid ?_
  refine wpU1 (w := wa3) rfl _ _ rfl w.heap.size (lb2) [u2] rfl FA3.out.ro u3 rfl (by simp) hle3.out _ ?_
  intro lb3 wg3 ho3 ht3
  have FG3 := hid (FA3.out.grow (us2 := [u2, u3]) ho3.out ht3.out)
  clear ho3 ht3
  go_upto_region 12 with fail
  by_cases he : e3 = 0
  rotate_left 1
  · have hez : ¬ (e3 : Int) = 0 := by omega
    have HE : Hid (∀ q, bone L q at_ = .error (p2, e3)) := fun q => by
      have h := HS3.out
      rcases num_rn L mx p2 with ⟨a, _⟩ | ⟨_, k, z⟩
      · rw [h] at a; exact absurd a he
      · rw [h] at k
        simp only at k
        unfold bone five
        simp only [HK1.out, HK2.out, k]
    have S0 : wg3.drew.cell? ⟨B1, 0, none⟩ = some (.int .i64 (u1 : Nat)) ∧ wg3.drew.cell? ⟨B1, 1, none⟩ = some (.int .u64 0) ∧ wg3.drew.cell? ⟨B1, 2, none⟩ = some (.int .u64 0) ∧ wg3.drew.cell? ⟨B1, 3, none⟩ = some (.int .u64 0) ∧ wg3.drew.cell? ⟨B1, 4, none⟩ = some (.int .i64 0) ∧ wg3.drew.cell? ⟨rb, 2, none⟩ = some (.int .i64 (e3 : Nat)) ∧ B1 < wg3.drew.heap.size ∧ rb < wg3.drew.heap.size := by
      obtain ⟨h1, h2, h3⟩ := FG3.out.c1
      exact ⟨h1 0, h1 1, h1 2, h1 3, h1 4, FG3.out.rd.c2, h3, FG3.out.rd.lt⟩
    have y2 := FG3.out.rd.c2
    have yl := FG3.out.rd.lt
    go_upto_region 13 with fail
    clear y2 yl
    refine wp_regionD (S := fun W => (W.cell? ⟨B1, 0, none⟩ = some (.int .i64 (u1 : Nat)) ∧ W.cell? ⟨B1, 1, none⟩ = some (.int .u64 0) ∧ W.cell? ⟨B1, 2, none⟩ = some (.int .u64 0) ∧ W.cell? ⟨B1, 3, none⟩ = some (.int .u64 0) ∧ W.cell? ⟨B1, 4, none⟩ = some (.int .i64 0) ∧ W.cell? ⟨rb, 2, none⟩ = some (.int .i64 (e3 : Nat)) ∧ B1 < W.heap.size ∧ rb < W.heap.size)) (D := []) hmx ?_
    refine' wpAnyD_take (i := 0) (oi := { dst := some 47, op := Go.Op.load 43 (Go.Operand.tmp 5), type := 43, pos := "ref.go:64", after := #[], guard := none }) (v := _) rfl (by kernel_rfl) (by kernel_rfl) (by kernel_rfl) (fun _ _ _ h => h) (by kernel_rfl) (Or.inl ⟨by rfl, ?hy19⟩) S0 ?rest19
    case hy19 => (intro W hSw; (try dsimp only at hSw); obtain ⟨s1, s2, s3, s4, s5, s6, s7, s8⟩ := hSw; go_simp; try (with_reducible rfl))
    try simp only [Act.put, List.setIfInBounds_toArray, List.set_cons_zero, List.set_cons_succ]
    refine' wpAnyD_take (i := 1) (oi := { dst := some 48, op := Go.Op.move (Go.Operand.tmp 6), type := 3, pos := "ref.go:64", after := #[{ on := 6, ground := Go.Ground.gcOnly Go.Departure.lateStores }], guard := none }) (v := _) rfl (by kernel_rfl) (by kernel_rfl) (by kernel_rfl) (fun _ _ _ h => h) (by kernel_rfl) (Or.inl ⟨by rfl, ?hy20⟩) S0 ?rest20
    case hy20 => (intro W hSw; (try dsimp only at hSw); obtain ⟨s1, s2, s3, s4, s5, s6, s7, s8⟩ := hSw; go_simp; try (with_reducible rfl))
    try simp only [Act.put, List.setIfInBounds_toArray, List.set_cons_zero, List.set_cons_succ]
    refine' wpAnyD_take (i := 2) (oi := { dst := some 49, op := Go.Op.move (Go.Operand.tmp 0), type := 115, pos := "ref.go:64", after := #[{ on := 7, ground := Go.Ground.gcOnly Go.Departure.lateStores }], guard := none }) (v := _) rfl (by kernel_rfl) (by kernel_rfl) (by kernel_rfl) (fun _ _ _ h => h) (by kernel_rfl) (Or.inl ⟨by rfl, ?hy21⟩) S0 ?rest21
    case hy21 => (intro W hSw; (try dsimp only at hSw); obtain ⟨s1, s2, s3, s4, s5, s6, s7, s8⟩ := hSw; go_simp; try (with_reducible rfl))
    try simp only [Act.put, List.setIfInBounds_toArray, List.set_cons_zero, List.set_cons_succ]
    refine' wpAnyD_take (i := 3) (oi := { dst := some 50, op := Go.Op.nilCheck (Go.Operand.tmp 49), type := 0, pos := "ref.go:64", after := #[{ on := 2, ground := Go.Ground.data }, { on := 7, ground := Go.Ground.gcOnly Go.Departure.lateStores }], guard := none }) (v := _) rfl (by kernel_rfl) (by kernel_rfl) (by kernel_rfl) (fun _ _ _ h => h) (by kernel_rfl) (Or.inl ⟨by rfl, ?hy22⟩) S0 ?rest22
    case hy22 => (intro W hSw; (try dsimp only at hSw); obtain ⟨s1, s2, s3, s4, s5, s6, s7, s8⟩ := hSw; go_simp; try (with_reducible rfl))
    try simp only [Act.put, List.setIfInBounds_toArray, List.set_cons_zero, List.set_cons_succ]
    refine' wpAnyD_take (i := 4) (oi := { dst := some 51, op := Go.Op.fieldAddr 118 (Go.Operand.tmp 50) 2, type := 0, pos := "ref.go:64", after := #[{ on := 3, ground := Go.Ground.data }, { on := 7, ground := Go.Ground.gcOnly Go.Departure.lateStores }], guard := none }) (v := _) rfl (by kernel_rfl) (by kernel_rfl) (by kernel_rfl) (fun _ _ _ h => h) (by kernel_rfl) (Or.inl ⟨by rfl, ?hy23⟩) S0 ?rest23
    case hy23 => (intro W hSw; (try dsimp only at hSw); obtain ⟨s1, s2, s3, s4, s5, s6, s7, s8⟩ := hSw; go_simp; try (with_reducible rfl))
    try simp only [Act.put, List.setIfInBounds_toArray, List.set_cons_zero, List.set_cons_succ]
    refine' wpAnyD_take (i := 5) (oi := { dst := some 52, op := Go.Op.load 3 (Go.Operand.tmp 51), type := 3, pos := "ref.go:64", after := #[{ on := 4, ground := Go.Ground.data }, { on := 7, ground := Go.Ground.gcOnly Go.Departure.lateStores }], guard := none }) (v := _) rfl (by kernel_rfl) (by kernel_rfl) (by kernel_rfl) (fun _ _ _ h => h) (by kernel_rfl) (Or.inl ⟨by rfl, ?hy24⟩) S0 ?rest24
    case hy24 => (intro W hSw; (try dsimp only at hSw); obtain ⟨s1, s2, s3, s4, s5, s6, s7, s8⟩ := hSw; go_simp; try (with_reducible rfl))
    try simp only [Act.put, List.setIfInBounds_toArray, List.set_cons_zero, List.set_cons_succ]
    refine wpAnyD_one (i := 6) (o := { dst := none, op := Go.Op.store 43 (Go.Operand.tmp 2) (Go.Operand.tmp 47), type := 0, pos := "ref.go:64", after := #[{ on := 0, ground := Go.Ground.data }, { on := 0, ground := Go.Ground.phase }, { on := 1, ground := Go.Ground.textOnly Go.Departure.lateStores }, { on := 2, ground := Go.Ground.textOnly Go.Departure.lateStores }, { on := 3, ground := Go.Ground.textOnly Go.Departure.lateStores }, { on := 4, ground := Go.Ground.textOnly Go.Departure.lateStores }, { on := 5, ground := Go.Ground.textOnly Go.Departure.lateStores }], guard := none }) (by kernel_rfl) rfl (fun K hK => ?_)
    rw [if_pos (by kernel_rfl)]
    have z := tk_store FG3.out.b0
    have c0 := z.1 0
    have c1 := z.1 1
    have c2 := z.1 2
    have c3 := z.1 3
    have c4 := z.1 4
    have g0 := z.2 0
    have g1 := z.2 1
    have g2 := z.2 2
    have g3 := z.2 3
    have g4 := z.2 4
    have gl := (Array.getElem?_eq_some_iff.1 FG3.out.b0).1
    clear z
    go_simp
    obtain ⟨Wf, hWf⟩ : ∃ W, W = (((((wg3.setCell ⟨B0, 0, none⟩ (.int .i64 (u1 : Nat))).setCell ⟨B0, 1, none⟩ (.int .u64 0)).setCell ⟨B0, 2, none⟩ (.int .u64 0)).setCell ⟨B0, 3, none⟩ (.int .u64 0)).setCell ⟨B0, 4, none⟩ (.int .i64 0)).drew := ⟨_, rfl⟩
    obtain ⟨k1, k2⟩ := set5 FG3.out.b0 (.int .i64 (u1 : Nat)) (.int .u64 0) (.int .u64 0) (.int .u64 0) (.int .i64 0)
    have K1 : Hid (Wf.heap[B0]? = some (.cells #[.int .i64 (u1 : Nat), .int .u64 0, .int .u64 0, .int .u64 0, .int .i64 0] 43 (0, 0)) ∧ Kp (fun k => k = B0) wg3 Wf) := by
      rw [hWf]
      exact ⟨k1, k2.trans (Kp.of_gr (Gr.refl _).drew) (fun _ _ h => h)⟩
    rw [← hWf]
    have S6 : Wf.cell? ⟨B1, 0, none⟩ = some (.int .i64 (u1 : Nat)) ∧ Wf.cell? ⟨B1, 1, none⟩ = some (.int .u64 0) ∧ Wf.cell? ⟨B1, 2, none⟩ = some (.int .u64 0) ∧ Wf.cell? ⟨B1, 3, none⟩ = some (.int .u64 0) ∧ Wf.cell? ⟨B1, 4, none⟩ = some (.int .i64 0) ∧ Wf.cell? ⟨rb, 2, none⟩ = some (.int .i64 (e3 : Nat)) ∧ B1 < Wf.heap.size ∧ rb < Wf.heap.size := by
      obtain ⟨s1, s2, s3, s4, s5, s6, s7, s8⟩ := S0
      have hn : B1 ≠ B0 := fun e => FG3.out.ne e.symm
      have hr : rb ≠ B0 := fun e => by have h1 := FG3.out.lt; have h2 := FG3.out.n0; omega
      exact ⟨(K1.out.2.cell s7 hn).trans s1, (K1.out.2.cell s7 hn).trans s2, (K1.out.2.cell s7 hn).trans s3, (K1.out.2.cell s7 hn).trans s4, (K1.out.2.cell s7 hn).trans s5, (K1.out.2.cell s8 hr).trans s6, Nat.lt_of_lt_of_le s7 K1.out.2.size, Nat.lt_of_lt_of_le s8 K1.out.2.size⟩
    clear hWf k1 k2 c0 c1 c2 c3 c4 g0 g1 g2 g3 g4 gl
    refine hK.out _ _ (fun hD => S6) ?_
    clear hK K
    try simp only [Act.put, List.setIfInBounds_toArray, List.set_cons_zero, List.set_cons_succ]
    refine wpAnyD_one (i := 7) (o := { dst := some 3, op := Go.Op.assign (Go.Operand.tmp 48), type := 3, pos := "ref.go:64", after := #[{ on := 1, ground := Go.Ground.data }, { on := 6, ground := Go.Ground.chain }, { on := 0, ground := Go.Ground.phase }, { on := 1, ground := Go.Ground.phase }, { on := 2, ground := Go.Ground.textOnly Go.Departure.lateStores }, { on := 3, ground := Go.Ground.textOnly Go.Departure.lateStores }, { on := 4, ground := Go.Ground.textOnly Go.Departure.lateStores }, { on := 5, ground := Go.Ground.textOnly Go.Departure.lateStores }, { on := 6, ground := Go.Ground.phase }], guard := none }) (by kernel_rfl) rfl (fun K hK => ?_)
    rw [if_pos (by kernel_rfl)]
    go_simp
    refine hK.out _ _ (fun hD => S6) ?_
    clear hK K
    try simp only [Act.put, List.setIfInBounds_toArray, List.set_cons_zero, List.set_cons_succ]
    refine wpAnyD_one (i := 8) (o := { dst := some 4, op := Go.Op.assign (Go.Operand.tmp 52), type := 3, pos := "ref.go:64", after := #[{ on := 5, ground := Go.Ground.data }, { on := 7, ground := Go.Ground.chain }, { on := 0, ground := Go.Ground.phase }, { on := 1, ground := Go.Ground.phase }, { on := 2, ground := Go.Ground.phase }, { on := 3, ground := Go.Ground.phase }, { on := 4, ground := Go.Ground.phase }, { on := 5, ground := Go.Ground.phase }, { on := 6, ground := Go.Ground.phase }, { on := 7, ground := Go.Ground.phase }], guard := none }) (by kernel_rfl) rfl (fun K hK => ?_)
    rw [if_pos (by kernel_rfl)]
    go_simp
    refine hK.out _ _ (fun hD => S6) ?_
    clear hK K
    try simp only [Act.put, List.setIfInBounds_toArray, List.set_cons_zero, List.set_cons_succ]
    refine wpAnyD_done (by kernel_rfl) ?_ _
    go_wp2
    have qf := (tk_store K1.out.1).1
    have q0 := qf 0
    have q1 := qf 1
    have q2 := qf 2
    have q3 := qf 3
    have q4 := qf 4
    refine bodyPost_ret (v := .tuple #[.agg #[.int .i64 (u1 : Nat), .int .u64 0, .int .u64 0, .int .u64 0, .int .i64 0], .int .i64 (p2 : Nat), .int .i64 (e3 : Nat)]) (by simp [results, Tryd.results64, go_sem, q0, q1, q2, q3, q4]) rfl ?_
    show Ond _ _ _ _ _ _ _
    refine ⟨FG3.out.kp.trans K1.out.2 (fun j hj e => by have h1 := FG3.out.n0; omega), Or.inr ⟨_, _, _, _, _, _, _, HE.out, he, rfl⟩⟩
  subst he
  have HK3 : Hid (num L mx p2 = .ok (u3, p3)) := by
    show _ = _
    have h := HS3.out
    rcases num_rn L mx p2 with ⟨_, k⟩ | ⟨k, _⟩
    · rw [h] at k
      simp only at k
      rw [k, HP3.out]
    · rw [h] at k; exact absurd rfl k
  have y2 := FG3.out.rd.c2
  have yl := FG3.out.rd.lt
  go_wp2_with fail
  clear y2 yl
  rw [rounds_succ]
  have y1 := FG3.out.rd.c1
  have yl := FG3.out.rd.lt
  go_wp2_with fail
  clear y1 yl
  obtain ⟨⟨u4, n4, e4⟩, hs4⟩ : ∃ S, rn 0 mx (L.drop (p3)) = S := ⟨_, rfl⟩
  have hb4 := rn_le 0 mx (L.drop (p3))
  have hc4 := rrnum_any mx _ FG3.out.rd
  rw [hs4] at hb4 hc4
  simp only at hb4 hc4
  rw [show ((mx : Nat) : Int) = 18446744073709551615 from rfl] at hc4
  refine hc4.mono ?_
  rintro r wa4 ⟨va4, rfl, ha4, ho4, ka4⟩
  obtain ⟨p4, hp4⟩ : ∃ p, p3 + n4 = p := ⟨_, rfl⟩
  rw [hp4] at ha4
  have HP4 := hid hp4
  have FA4 := hid (FG3.out.call ha4 ho4 ka4)
  have HS4 := hid hs4
  have HB4 := hid hb4
  clear hc4 ha4 ka4 ho4 hs4 hb4 hp4
  have hle4 : Hid (w.heap.size ≤ wa4.heap.size) := FA4.out.kp.size
  go_wp2_with (at_builtin; refine Hid.out ?_)
  refine hid ?_
  refine wpU1 (w := wa4) rfl _ _ rfl w.heap.size (lb3) [u2, u3] rfl FA4.out.ro u4 rfl (by simp) hle4.out _ ?_
  intro lb4 wg4 ho4 ht4
  have FG4 := hid (FA4.out.grow (us2 := [u2, u3, u4]) ho4.out ht4.out)
  clear ho4 ht4
  go_upto_region 12 with fail
  by_cases he : e4 = 0
  rotate_left 1
  · have hez : ¬ (e4 : Int) = 0 := by omega
    have HE : Hid (∀ q, bone L q at_ = .error (p3, e4)) := fun q => by
      have h := HS4.out
      rcases num_rn L mx p3 with ⟨a, _⟩ | ⟨_, k, z⟩
      · rw [h] at a; exact absurd a he
      · rw [h] at k
        simp only at k
        unfold bone five
        simp only [HK1.out, HK2.out, HK3.out, k]
    have S0 : wg4.drew.cell? ⟨B1, 0, none⟩ = some (.int .i64 (u1 : Nat)) ∧ wg4.drew.cell? ⟨B1, 1, none⟩ = some (.int .u64 0) ∧ wg4.drew.cell? ⟨B1, 2, none⟩ = some (.int .u64 0) ∧ wg4.drew.cell? ⟨B1, 3, none⟩ = some (.int .u64 0) ∧ wg4.drew.cell? ⟨B1, 4, none⟩ = some (.int .i64 0) ∧ wg4.drew.cell? ⟨rb, 2, none⟩ = some (.int .i64 (e4 : Nat)) ∧ B1 < wg4.drew.heap.size ∧ rb < wg4.drew.heap.size := by
      obtain ⟨h1, h2, h3⟩ := FG4.out.c1
      exact ⟨h1 0, h1 1, h1 2, h1 3, h1 4, FG4.out.rd.c2, h3, FG4.out.rd.lt⟩
    have y2 := FG4.out.rd.c2
    have yl := FG4.out.rd.lt
    go_upto_region 13 with fail
    clear y2 yl
    refine wp_regionD (S := fun W => (W.cell? ⟨B1, 0, none⟩ = some (.int .i64 (u1 : Nat)) ∧ W.cell? ⟨B1, 1, none⟩ = some (.int .u64 0) ∧ W.cell? ⟨B1, 2, none⟩ = some (.int .u64 0) ∧ W.cell? ⟨B1, 3, none⟩ = some (.int .u64 0) ∧ W.cell? ⟨B1, 4, none⟩ = some (.int .i64 0) ∧ W.cell? ⟨rb, 2, none⟩ = some (.int .i64 (e4 : Nat)) ∧ B1 < W.heap.size ∧ rb < W.heap.size)) (D := []) hmx ?_
    refine' wpAnyD_take (i := 0) (oi := { dst := some 47, op := Go.Op.load 43 (Go.Operand.tmp 5), type := 43, pos := "ref.go:64", after := #[], guard := none }) (v := _) rfl (by kernel_rfl) (by kernel_rfl) (by kernel_rfl) (fun _ _ _ h => h) (by kernel_rfl) (Or.inl ⟨by rfl, ?hy28⟩) S0 ?rest28
    case hy28 => (intro W hSw; (try dsimp only at hSw); obtain ⟨s1, s2, s3, s4, s5, s6, s7, s8⟩ := hSw; go_simp; try (with_reducible rfl))
    try simp only [Act.put, List.setIfInBounds_toArray, List.set_cons_zero, List.set_cons_succ]
    refine' wpAnyD_take (i := 1) (oi := { dst := some 48, op := Go.Op.move (Go.Operand.tmp 6), type := 3, pos := "ref.go:64", after := #[{ on := 6, ground := Go.Ground.gcOnly Go.Departure.lateStores }], guard := none }) (v := _) rfl (by kernel_rfl) (by kernel_rfl) (by kernel_rfl) (fun _ _ _ h => h) (by kernel_rfl) (Or.inl ⟨by rfl, ?hy29⟩) S0 ?rest29
    case hy29 => (intro W hSw; (try dsimp only at hSw); obtain ⟨s1, s2, s3, s4, s5, s6, s7, s8⟩ := hSw; go_simp; try (with_reducible rfl))
    try simp only [Act.put, List.setIfInBounds_toArray, List.set_cons_zero, List.set_cons_succ]
    refine' wpAnyD_take (i := 2) (oi := { dst := some 49, op := Go.Op.move (Go.Operand.tmp 0), type := 115, pos := "ref.go:64", after := #[{ on := 7, ground := Go.Ground.gcOnly Go.Departure.lateStores }], guard := none }) (v := _) rfl (by kernel_rfl) (by kernel_rfl) (by kernel_rfl) (fun _ _ _ h => h) (by kernel_rfl) (Or.inl ⟨by rfl, ?hy30⟩) S0 ?rest30
    case hy30 => (intro W hSw; (try dsimp only at hSw); obtain ⟨s1, s2, s3, s4, s5, s6, s7, s8⟩ := hSw; go_simp; try (with_reducible rfl))
    try simp only [Act.put, List.setIfInBounds_toArray, List.set_cons_zero, List.set_cons_succ]
    refine' wpAnyD_take (i := 3) (oi := { dst := some 50, op := Go.Op.nilCheck (Go.Operand.tmp 49), type := 0, pos := "ref.go:64", after := #[{ on := 2, ground := Go.Ground.data }, { on := 7, ground := Go.Ground.gcOnly Go.Departure.lateStores }], guard := none }) (v := _) rfl (by kernel_rfl) (by kernel_rfl) (by kernel_rfl) (fun _ _ _ h => h) (by kernel_rfl) (Or.inl ⟨by rfl, ?hy31⟩) S0 ?rest31
    case hy31 => (intro W hSw; (try dsimp only at hSw); obtain ⟨s1, s2, s3, s4, s5, s6, s7, s8⟩ := hSw; go_simp; try (with_reducible rfl))
    try simp only [Act.put, List.setIfInBounds_toArray, List.set_cons_zero, List.set_cons_succ]
    refine' wpAnyD_take (i := 4) (oi := { dst := some 51, op := Go.Op.fieldAddr 118 (Go.Operand.tmp 50) 2, type := 0, pos := "ref.go:64", after := #[{ on := 3, ground := Go.Ground.data }, { on := 7, ground := Go.Ground.gcOnly Go.Departure.lateStores }], guard := none }) (v := _) rfl (by kernel_rfl) (by kernel_rfl) (by kernel_rfl) (fun _ _ _ h => h) (by kernel_rfl) (Or.inl ⟨by rfl, ?hy32⟩) S0 ?rest32
    case hy32 => (intro W hSw; (try dsimp only at hSw); obtain ⟨s1, s2, s3, s4, s5, s6, s7, s8⟩ := hSw; go_simp; try (with_reducible rfl))
    try simp only [Act.put, List.setIfInBounds_toArray, List.set_cons_zero, List.set_cons_succ]
    refine' wpAnyD_take (i := 5) (oi := { dst := some 52, op := Go.Op.load 3 (Go.Operand.tmp 51), type := 3, pos := "ref.go:64", after := #[{ on := 4, ground := Go.Ground.data }, { on := 7, ground := Go.Ground.gcOnly Go.Departure.lateStores }], guard := none }) (v := _) rfl (by kernel_rfl) (by kernel_rfl) (by kernel_rfl) (fun _ _ _ h => h) (by kernel_rfl) (Or.inl ⟨by rfl, ?hy33⟩) S0 ?rest33
    case hy33 => (intro W hSw; (try dsimp only at hSw); obtain ⟨s1, s2, s3, s4, s5, s6, s7, s8⟩ := hSw; go_simp; try (with_reducible rfl))
    try simp only [Act.put, List.setIfInBounds_toArray, List.set_cons_zero, List.set_cons_succ]
    refine wpAnyD_one (i := 6) (o := { dst := none, op := Go.Op.store 43 (Go.Operand.tmp 2) (Go.Operand.tmp 47), type := 0, pos := "ref.go:64", after := #[{ on := 0, ground := Go.Ground.data }, { on := 0, ground := Go.Ground.phase }, { on := 1, ground := Go.Ground.textOnly Go.Departure.lateStores }, { on := 2, ground := Go.Ground.textOnly Go.Departure.lateStores }, { on := 3, ground := Go.Ground.textOnly Go.Departure.lateStores }, { on := 4, ground := Go.Ground.textOnly Go.Departure.lateStores }, { on := 5, ground := Go.Ground.textOnly Go.Departure.lateStores }], guard := none }) (by kernel_rfl) rfl (fun K hK => ?_)
    rw [if_pos (by kernel_rfl)]
    have z := tk_store FG4.out.b0
    have c0 := z.1 0
    have c1 := z.1 1
    have c2 := z.1 2
    have c3 := z.1 3
    have c4 := z.1 4
    have g0 := z.2 0
    have g1 := z.2 1
    have g2 := z.2 2
    have g3 := z.2 3
    have g4 := z.2 4
    have gl := (Array.getElem?_eq_some_iff.1 FG4.out.b0).1
    clear z
    go_simp
    obtain ⟨Wf, hWf⟩ : ∃ W, W = (((((wg4.setCell ⟨B0, 0, none⟩ (.int .i64 (u1 : Nat))).setCell ⟨B0, 1, none⟩ (.int .u64 0)).setCell ⟨B0, 2, none⟩ (.int .u64 0)).setCell ⟨B0, 3, none⟩ (.int .u64 0)).setCell ⟨B0, 4, none⟩ (.int .i64 0)).drew := ⟨_, rfl⟩
    obtain ⟨k1, k2⟩ := set5 FG4.out.b0 (.int .i64 (u1 : Nat)) (.int .u64 0) (.int .u64 0) (.int .u64 0) (.int .i64 0)
    have K1 : Hid (Wf.heap[B0]? = some (.cells #[.int .i64 (u1 : Nat), .int .u64 0, .int .u64 0, .int .u64 0, .int .i64 0] 43 (0, 0)) ∧ Kp (fun k => k = B0) wg4 Wf) := by
      rw [hWf]
      exact ⟨k1, k2.trans (Kp.of_gr (Gr.refl _).drew) (fun _ _ h => h)⟩
    rw [← hWf]
    have S6 : Wf.cell? ⟨B1, 0, none⟩ = some (.int .i64 (u1 : Nat)) ∧ Wf.cell? ⟨B1, 1, none⟩ = some (.int .u64 0) ∧ Wf.cell? ⟨B1, 2, none⟩ = some (.int .u64 0) ∧ Wf.cell? ⟨B1, 3, none⟩ = some (.int .u64 0) ∧ Wf.cell? ⟨B1, 4, none⟩ = some (.int .i64 0) ∧ Wf.cell? ⟨rb, 2, none⟩ = some (.int .i64 (e4 : Nat)) ∧ B1 < Wf.heap.size ∧ rb < Wf.heap.size := by
      obtain ⟨s1, s2, s3, s4, s5, s6, s7, s8⟩ := S0
      have hn : B1 ≠ B0 := fun e => FG4.out.ne e.symm
      have hr : rb ≠ B0 := fun e => by have h1 := FG4.out.lt; have h2 := FG4.out.n0; omega
      exact ⟨(K1.out.2.cell s7 hn).trans s1, (K1.out.2.cell s7 hn).trans s2, (K1.out.2.cell s7 hn).trans s3, (K1.out.2.cell s7 hn).trans s4, (K1.out.2.cell s7 hn).trans s5, (K1.out.2.cell s8 hr).trans s6, Nat.lt_of_lt_of_le s7 K1.out.2.size, Nat.lt_of_lt_of_le s8 K1.out.2.size⟩
    clear hWf k1 k2 c0 c1 c2 c3 c4 g0 g1 g2 g3 g4 gl
    refine hK.out _ _ (fun hD => S6) ?_
    clear hK K
    try simp only [Act.put, List.setIfInBounds_toArray, List.set_cons_zero, List.set_cons_succ]
    refine wpAnyD_one (i := 7) (o := { dst := some 3, op := Go.Op.assign (Go.Operand.tmp 48), type := 3, pos := "ref.go:64", after := #[{ on := 1, ground := Go.Ground.data }, { on := 6, ground := Go.Ground.chain }, { on := 0, ground := Go.Ground.phase }, { on := 1, ground := Go.Ground.phase }, { on := 2, ground := Go.Ground.textOnly Go.Departure.lateStores }, { on := 3, ground := Go.Ground.textOnly Go.Departure.lateStores }, { on := 4, ground := Go.Ground.textOnly Go.Departure.lateStores }, { on := 5, ground := Go.Ground.textOnly Go.Departure.lateStores }, { on := 6, ground := Go.Ground.phase }], guard := none }) (by kernel_rfl) rfl (fun K hK => ?_)
    rw [if_pos (by kernel_rfl)]
    go_simp
    refine hK.out _ _ (fun hD => S6) ?_
    clear hK K
    try simp only [Act.put, List.setIfInBounds_toArray, List.set_cons_zero, List.set_cons_succ]
    refine wpAnyD_one (i := 8) (o := { dst := some 4, op := Go.Op.assign (Go.Operand.tmp 52), type := 3, pos := "ref.go:64", after := #[{ on := 5, ground := Go.Ground.data }, { on := 7, ground := Go.Ground.chain }, { on := 0, ground := Go.Ground.phase }, { on := 1, ground := Go.Ground.phase }, { on := 2, ground := Go.Ground.phase }, { on := 3, ground := Go.Ground.phase }, { on := 4, ground := Go.Ground.phase }, { on := 5, ground := Go.Ground.phase }, { on := 6, ground := Go.Ground.phase }, { on := 7, ground := Go.Ground.phase }], guard := none }) (by kernel_rfl) rfl (fun K hK => ?_)
    rw [if_pos (by kernel_rfl)]
    go_simp
    refine hK.out _ _ (fun hD => S6) ?_
    clear hK K
    try simp only [Act.put, List.setIfInBounds_toArray, List.set_cons_zero, List.set_cons_succ]
    refine wpAnyD_done (by kernel_rfl) ?_ _
    go_wp2
    have qf := (tk_store K1.out.1).1
    have q0 := qf 0
    have q1 := qf 1
    have q2 := qf 2
    have q3 := qf 3
    have q4 := qf 4
    refine bodyPost_ret (v := .tuple #[.agg #[.int .i64 (u1 : Nat), .int .u64 0, .int .u64 0, .int .u64 0, .int .i64 0], .int .i64 (p3 : Nat), .int .i64 (e4 : Nat)]) (by simp [results, Tryd.results64, go_sem, q0, q1, q2, q3, q4]) rfl ?_
    show Ond _ _ _ _ _ _ _
    refine ⟨FG4.out.kp.trans K1.out.2 (fun j hj e => by have h1 := FG4.out.n0; omega), Or.inr ⟨_, _, _, _, _, _, _, HE.out, he, rfl⟩⟩
  subst he
  have HK4 : Hid (num L mx p3 = .ok (u4, p4)) := by
    show _ = _
    have h := HS4.out
    rcases num_rn L mx p3 with ⟨_, k⟩ | ⟨k, _⟩
    · rw [h] at k
      simp only at k
      rw [k, HP4.out]
    · rw [h] at k; exact absurd rfl k
  have y2 := FG4.out.rd.c2
  have yl := FG4.out.rd.lt
  go_wp2_with fail
  clear y2 yl
  rw [rounds_succ]
  obtain ⟨gu, cu, hfu⟩ : ∃ g c, lb4 = .slice (some ⟨g, 0, none⟩) 3 c := by
    obtain ⟨_, ⟨_, h⟩ | ⟨g, cap, cur, hv, _⟩⟩ := FG4.out.ro
    · simp at h
    · exact ⟨g, cap, hv⟩
  subst hfu
  have CU : Hid (wg4.cell? ⟨gu, 0, none⟩ = some (.int .u64 (u2 : Nat)) ∧ wg4.cell? ⟨gu, 1, none⟩ = some (.int .u64 (u3 : Nat)) ∧ wg4.cell? ⟨gu, 2, none⟩ = some (.int .u64 (u4 : Nat)) ∧ gu < wg4.heap.size) := by
    have hc := fun j u (hj : (fl EU [u2, u3, u4])[j]? = some u) => FG4.out.ro.cells (g := gu) rfl j u hj
    have h0 := hc 0 _ rfl
    have h1 := hc 1 _ rfl
    have h2 := hc 2 _ rfl
    simp only [addA, Nat.zero_add] at h0 h1 h2
    exact ⟨h0, h1, h2, (FG4.out.ro.lt gu rfl).2⟩
  have S0 : wg4.drew.cell? ⟨gu, 0, none⟩ = some (.int .u64 (u2 : Nat)) ∧ wg4.drew.cell? ⟨gu, 1, none⟩ = some (.int .u64 (u3 : Nat)) ∧ wg4.drew.cell? ⟨gu, 2, none⟩ = some (.int .u64 (u4 : Nat)) ∧ gu < wg4.drew.heap.size := CU.out
  go_upto_region 14 with fail
  refine wp_regionD (S := fun W => (W.cell? ⟨gu, 0, none⟩ = some (.int .u64 (u2 : Nat)) ∧ W.cell? ⟨gu, 1, none⟩ = some (.int .u64 (u3 : Nat)) ∧ W.cell? ⟨gu, 2, none⟩ = some (.int .u64 (u4 : Nat)) ∧ gu < W.heap.size)) (D := []) hmx ?_
  refine' wpAnyD_take (i := 0) (oi := { dst := some 53, op := Go.Op.move (Go.Operand.tmp 7), type := 143, pos := "ref.go:67", after := #[], guard := none }) (v := _) rfl (by kernel_rfl) (by kernel_rfl) (by kernel_rfl) (fun _ _ _ h => h) (by kernel_rfl) (Or.inl ⟨by rfl, ?hy37⟩) S0 ?rest37
  case hy37 => (intro W hSw; (try dsimp only at hSw); obtain ⟨s1, s2, s3, s4⟩ := hSw; go_simp; try (with_reducible rfl))
  try simp only [Act.put, List.setIfInBounds_toArray, List.set_cons_zero, List.set_cons_succ]
  refine' wpAnyD_take (i := 1) (oi := { dst := some 54, op := Go.Op.indexAddr 143 (Go.Operand.tmp 53) (Go.Operand.const (Go.Value.int Go.IntKind.i64 0)), type := 0, pos := "ref.go:67", after := #[{ on := 0, ground := Go.Ground.data }], guard := none }) (v := _) rfl (by kernel_rfl) (by kernel_rfl) (by kernel_rfl) (fun _ _ _ h => h) (by kernel_rfl) (Or.inl ⟨by rfl, ?hy38⟩) S0 ?rest38
  case hy38 => (intro W hSw; (try dsimp only at hSw); obtain ⟨s1, s2, s3, s4⟩ := hSw; go_simp; try (with_reducible rfl))
  try simp only [Act.put, List.setIfInBounds_toArray, List.set_cons_zero, List.set_cons_succ]
  refine' wpAnyD_take (i := 2) (oi := { dst := some 55, op := Go.Op.load 37 (Go.Operand.tmp 54), type := 37, pos := "ref.go:67", after := #[{ on := 1, ground := Go.Ground.data }], guard := none }) (v := _) rfl (by kernel_rfl) (by kernel_rfl) (by kernel_rfl) (fun _ _ _ h => h) (by kernel_rfl) (Or.inl ⟨by rfl, ?hy39⟩) S0 ?rest39
  case hy39 => (intro W hSw; (try dsimp only at hSw); obtain ⟨s1, s2, s3, s4⟩ := hSw; go_simp; try (with_reducible rfl))
  try simp only [Act.put, List.setIfInBounds_toArray, List.set_cons_zero, List.set_cons_succ]
  refine' wpAnyD_take (i := 3) (oi := { dst := some 56, op := Go.Op.move (Go.Operand.tmp 7), type := 143, pos := "ref.go:67", after := #[], guard := none }) (v := _) rfl (by kernel_rfl) (by kernel_rfl) (by kernel_rfl) (fun _ _ _ h => h) (by kernel_rfl) (Or.inl ⟨by rfl, ?hy40⟩) S0 ?rest40
  case hy40 => (intro W hSw; (try dsimp only at hSw); obtain ⟨s1, s2, s3, s4⟩ := hSw; go_simp; try (with_reducible rfl))
  try simp only [Act.put, List.setIfInBounds_toArray, List.set_cons_zero, List.set_cons_succ]
  refine' wpAnyD_take (i := 4) (oi := { dst := some 57, op := Go.Op.indexAddr 143 (Go.Operand.tmp 56) (Go.Operand.const (Go.Value.int Go.IntKind.i64 1)), type := 0, pos := "ref.go:67", after := #[{ on := 3, ground := Go.Ground.data }], guard := none }) (v := _) rfl (by kernel_rfl) (by kernel_rfl) (by kernel_rfl) (fun _ _ _ h => h) (by kernel_rfl) (Or.inl ⟨by rfl, ?hy41⟩) S0 ?rest41
  case hy41 => (intro W hSw; (try dsimp only at hSw); obtain ⟨s1, s2, s3, s4⟩ := hSw; go_simp; try (with_reducible rfl))
  try simp only [Act.put, List.setIfInBounds_toArray, List.set_cons_zero, List.set_cons_succ]
  refine' wpAnyD_take (i := 5) (oi := { dst := some 58, op := Go.Op.load 37 (Go.Operand.tmp 57), type := 37, pos := "ref.go:67", after := #[{ on := 4, ground := Go.Ground.data }], guard := none }) (v := _) rfl (by kernel_rfl) (by kernel_rfl) (by kernel_rfl) (fun _ _ _ h => h) (by kernel_rfl) (Or.inl ⟨by rfl, ?hy42⟩) S0 ?rest42
  case hy42 => (intro W hSw; (try dsimp only at hSw); obtain ⟨s1, s2, s3, s4⟩ := hSw; go_simp; try (with_reducible rfl))
  try simp only [Act.put, List.setIfInBounds_toArray, List.set_cons_zero, List.set_cons_succ]
  refine' wpAnyD_take (i := 6) (oi := { dst := some 59, op := Go.Op.move (Go.Operand.tmp 7), type := 143, pos := "ref.go:67", after := #[], guard := none }) (v := _) rfl (by kernel_rfl) (by kernel_rfl) (by kernel_rfl) (fun _ _ _ h => h) (by kernel_rfl) (Or.inl ⟨by rfl, ?hy43⟩) S0 ?rest43
  case hy43 => (intro W hSw; (try dsimp only at hSw); obtain ⟨s1, s2, s3, s4⟩ := hSw; go_simp; try (with_reducible rfl))
  try simp only [Act.put, List.setIfInBounds_toArray, List.set_cons_zero, List.set_cons_succ]
  refine' wpAnyD_take (i := 7) (oi := { dst := some 60, op := Go.Op.indexAddr 143 (Go.Operand.tmp 59) (Go.Operand.const (Go.Value.int Go.IntKind.i64 2)), type := 0, pos := "ref.go:67", after := #[{ on := 6, ground := Go.Ground.data }], guard := none }) (v := _) rfl (by kernel_rfl) (by kernel_rfl) (by kernel_rfl) (fun _ _ _ h => h) (by kernel_rfl) (Or.inl ⟨by rfl, ?hy44⟩) S0 ?rest44
  case hy44 => (intro W hSw; (try dsimp only at hSw); obtain ⟨s1, s2, s3, s4⟩ := hSw; go_simp; try (with_reducible rfl))
  try simp only [Act.put, List.setIfInBounds_toArray, List.set_cons_zero, List.set_cons_succ]
  refine' wpAnyD_take (i := 8) (oi := { dst := some 61, op := Go.Op.load 37 (Go.Operand.tmp 60), type := 37, pos := "ref.go:67", after := #[{ on := 7, ground := Go.Ground.data }], guard := none }) (v := _) rfl (by kernel_rfl) (by kernel_rfl) (by kernel_rfl) (fun _ _ _ h => h) (by kernel_rfl) (Or.inl ⟨by rfl, ?hy45⟩) S0 ?rest45
  case hy45 => (intro W hSw; (try dsimp only at hSw); obtain ⟨s1, s2, s3, s4⟩ := hSw; go_simp; try (with_reducible rfl))
  try simp only [Act.put, List.setIfInBounds_toArray, List.set_cons_zero, List.set_cons_succ]
  refine' wpAnyD_take (i := 9) (oi := { dst := some 62, op := Go.Op.build 39 #[(0, Go.Operand.tmp 55), (1, Go.Operand.tmp 58), (2, Go.Operand.tmp 61)], type := 39, pos := "ref.go:67", after := #[{ on := 2, ground := Go.Ground.data }, { on := 5, ground := Go.Ground.data }, { on := 8, ground := Go.Ground.data }], guard := none }) (v := _) rfl (by kernel_rfl) (by kernel_rfl) (by kernel_rfl) (fun _ _ _ h => h) (by kernel_rfl) (Or.inl ⟨by rfl, ?hy46⟩) S0 ?rest46
  case hy46 => (intro W hSw; (try dsimp only at hSw); obtain ⟨s1, s2, s3, s4⟩ := hSw; go_simp; try (with_reducible rfl))
  try simp only [Act.put, List.setIfInBounds_toArray, List.set_cons_zero, List.set_cons_succ]
  refine' wpAnyD_take (i := 10) (oi := { dst := some 63, op := Go.Op.fieldAddr 43 (Go.Operand.tmp 5) 0, type := 0, pos := "ref.go:67", after := #[{ on := 0, ground := Go.Ground.phase }, { on := 1, ground := Go.Ground.phase }, { on := 2, ground := Go.Ground.phase }, { on := 3, ground := Go.Ground.phase }, { on := 4, ground := Go.Ground.phase }, { on := 5, ground := Go.Ground.phase }, { on := 6, ground := Go.Ground.phase }, { on := 7, ground := Go.Ground.phase }, { on := 8, ground := Go.Ground.phase }, { on := 9, ground := Go.Ground.phase }], guard := none }) (v := _) rfl (by kernel_rfl) (by kernel_rfl) (by kernel_rfl) (fun _ _ _ h => h) (by kernel_rfl) (Or.inl ⟨by rfl, ?hy47⟩) S0 ?rest47
  case hy47 => (intro W hSw; (try dsimp only at hSw); obtain ⟨s1, s2, s3, s4⟩ := hSw; go_simp; try (with_reducible rfl))
  try simp only [Act.put, List.setIfInBounds_toArray, List.set_cons_zero, List.set_cons_succ]
  refine' wpAnyD_take (i := 11) (oi := { dst := some 64, op := Go.Op.fieldAddr 41 (Go.Operand.tmp 63) 1, type := 0, pos := "ref.go:67", after := #[{ on := 10, ground := Go.Ground.data }, { on := 0, ground := Go.Ground.phase }, { on := 1, ground := Go.Ground.phase }, { on := 2, ground := Go.Ground.phase }, { on := 3, ground := Go.Ground.phase }, { on := 4, ground := Go.Ground.phase }, { on := 5, ground := Go.Ground.phase }, { on := 6, ground := Go.Ground.phase }, { on := 7, ground := Go.Ground.phase }, { on := 8, ground := Go.Ground.phase }, { on := 9, ground := Go.Ground.phase }], guard := none }) (v := _) rfl (by kernel_rfl) (by kernel_rfl) (by kernel_rfl) (fun _ _ _ h => h) (by kernel_rfl) (Or.inl ⟨by rfl, ?hy48⟩) S0 ?rest48
  case hy48 => (intro W hSw; (try dsimp only at hSw); obtain ⟨s1, s2, s3, s4⟩ := hSw; go_simp; try (with_reducible rfl))
  try simp only [Act.put, List.setIfInBounds_toArray, List.set_cons_zero, List.set_cons_succ]
  refine wpAnyD_one (i := 12) (o := { dst := none, op := Go.Op.store 39 (Go.Operand.tmp 64) (Go.Operand.tmp 62), type := 0, pos := "ref.go:67", after := #[{ on := 11, ground := Go.Ground.data }, { on := 9, ground := Go.Ground.data }, { on := 0, ground := Go.Ground.phase }, { on := 1, ground := Go.Ground.phase }, { on := 2, ground := Go.Ground.phase }, { on := 3, ground := Go.Ground.phase }, { on := 4, ground := Go.Ground.phase }, { on := 5, ground := Go.Ground.phase }, { on := 6, ground := Go.Ground.phase }, { on := 7, ground := Go.Ground.phase }, { on := 8, ground := Go.Ground.phase }, { on := 9, ground := Go.Ground.phase }], guard := none }) (by kernel_rfl) rfl (fun K hK => ?_)
  rw [if_pos (by kernel_rfl)]
  obtain ⟨q, qf, gl⟩ := FG4.out.c1
  have c1 := q 1
  have c2 := q 2
  have c3 := q 3
  have g1 := qf 1
  have g2 := qf 2
  have g3 := qf 3
  clear q qf
  go_simp
  obtain ⟨W6, hW6⟩ : ∃ W, W = (((wg4.setCell ⟨B1, 1, none⟩ (.int .u64 (u2 : Nat))).setCell ⟨B1, 2, none⟩ (.int .u64 (u3 : Nat))).setCell ⟨B1, 3, none⟩ (.int .u64 (u4 : Nat))).drew := ⟨_, rfl⟩
  have FW6 : Hid (Of w W6 rb B0 B1 d va4 L p4 0 #[.int .i64 (u1 : Nat), .int .u64 (u2 : Nat), .int .u64 (u3 : Nat), .int .u64 (u4 : Nat), .int .i64 0] (.slice (some ⟨gu, 0, none⟩) 3 cu) [u2, u3, u4]) := by
    rw [hW6]
    exact (((FG4.out.set 1 (.int .u64 (u2 : Nat))).set 2 (.int .u64 (u3 : Nat))).set 3 (.int .u64 (u4 : Nat))).gr (Gr.refl _).drew
  rw [← hW6]
  have S6 : W6.cell? ⟨gu, 0, none⟩ = some (.int .u64 (u2 : Nat)) ∧ W6.cell? ⟨gu, 1, none⟩ = some (.int .u64 (u3 : Nat)) ∧ W6.cell? ⟨gu, 2, none⟩ = some (.int .u64 (u4 : Nat)) ∧ gu < W6.heap.size := by
    have hc := fun j u (hj : (fl EU [u2, u3, u4])[j]? = some u) => FW6.out.ro.cells (g := gu) rfl j u hj
    have h0 := hc 0 _ rfl
    have h1 := hc 1 _ rfl
    have h2 := hc 2 _ rfl
    simp only [addA, Nat.zero_add] at h0 h1 h2
    exact ⟨h0, h1, h2, (FW6.out.ro.lt gu rfl).2⟩
  clear hW6 c1 c2 c3 g1 g2 g3 gl
  refine hK.out _ _ (fun hD => S6) ?_
  clear hK K
  try simp only [Act.put, List.setIfInBounds_toArray, List.set_cons_zero, List.set_cons_succ]
  refine wpAnyD_done (by kernel_rfl) ?_ _
  clear S0 S6
  have y1 := FW6.out.rd.c1
  have yl := FW6.out.rd.lt
  go_wp2_with fail
  clear y1 yl
  obtain ⟨⟨u5, n5, e5⟩, hs5⟩ : ∃ S, rn 0 mx (L.drop (p4)) = S := ⟨_, rfl⟩
  have hb5 := rn_le 0 mx (L.drop (p4))
  have hc5 := rrint_any _ FW6.out.rd
  rw [show (18446744073709551615 : Nat) = mx from rfl, hs5] at hc5
  rw [hs5] at hb5
  simp only at hb5 hc5
  refine hc5.mono ?_
  rintro r wa5 ⟨va5, rfl, ha5, ho5, ka5⟩
  obtain ⟨p5, hp5⟩ : ∃ p, p4 + n5 = p := ⟨_, rfl⟩
  rw [hp5] at ha5
  have HP5 := hid hp5
  have FA5 := hid (FW6.out.call ha5 ho5 ka5)
  have HS5 := hid hs5
  have HB5 := hid hb5
  clear hc5 ha5 ka5 ho5 hs5 hb5 hp5
  obtain ⟨q, qf, ql⟩ := FA5.out.c1
  have qc := q 4
  have qg := qf 4
  clear q qf
  go_upto_region 17 with fail
  have FB5 := hid (FA5.out.set 4 (.int .i64 (unfold u5)))
  obtain ⟨W7, hW7⟩ : ∃ W, W = wa5.setCell ⟨B1, 4, none⟩ (.int .i64 (unfold u5)) := ⟨_, rfl⟩
  rw [← hW7] at FB5 ⊢
  clear qc qg ql hW7
  by_cases he : e5 = 0
  rotate_left 1
  · have hez : ¬ (e5 : Int) = 0 := by omega
    have HE : Hid (∀ q, bone L q at_ = .error (p4, e5)) := fun q => by
      have h := HS5.out
      rcases num_rn L mx p4 with ⟨a, _⟩ | ⟨_, k, z⟩
      · rw [h] at a; exact absurd a he
      · rw [h] at k
        simp only at k
        unfold bone five
        simp only [HK1.out, HK2.out, HK3.out, HK4.out, k]
    have S0 : W7.drew.cell? ⟨B1, 0, none⟩ = some (.int .i64 (u1 : Nat)) ∧ W7.drew.cell? ⟨B1, 1, none⟩ = some (.int .u64 (u2 : Nat)) ∧ W7.drew.cell? ⟨B1, 2, none⟩ = some (.int .u64 (u3 : Nat)) ∧ W7.drew.cell? ⟨B1, 3, none⟩ = some (.int .u64 (u4 : Nat)) ∧ W7.drew.cell? ⟨B1, 4, none⟩ = some (.int .i64 (unfold u5)) ∧ W7.drew.cell? ⟨rb, 2, none⟩ = some (.int .i64 (e5 : Nat)) ∧ B1 < W7.drew.heap.size ∧ rb < W7.drew.heap.size := by
      obtain ⟨h1, h2, h3⟩ := FB5.out.c1
      exact ⟨h1 0, h1 1, h1 2, h1 3, h1 4, FB5.out.rd.c2, h3, FB5.out.rd.lt⟩
    have y2 := FB5.out.rd.c2
    have yl := FB5.out.rd.lt
    go_upto_region 18 with fail
    clear y2 yl
    refine wp_regionD (S := fun W => (W.cell? ⟨B1, 0, none⟩ = some (.int .i64 (u1 : Nat)) ∧ W.cell? ⟨B1, 1, none⟩ = some (.int .u64 (u2 : Nat)) ∧ W.cell? ⟨B1, 2, none⟩ = some (.int .u64 (u3 : Nat)) ∧ W.cell? ⟨B1, 3, none⟩ = some (.int .u64 (u4 : Nat)) ∧ W.cell? ⟨B1, 4, none⟩ = some (.int .i64 (unfold u5)) ∧ W.cell? ⟨rb, 2, none⟩ = some (.int .i64 (e5 : Nat)) ∧ B1 < W.heap.size ∧ rb < W.heap.size)) (D := []) hmx ?_
    refine' wpAnyD_take (i := 0) (oi := { dst := some 77, op := Go.Op.load 43 (Go.Operand.tmp 5), type := 43, pos := "ref.go:71", after := #[], guard := none }) (v := _) rfl (by kernel_rfl) (by kernel_rfl) (by kernel_rfl) (fun _ _ _ h => h) (by kernel_rfl) (Or.inl ⟨by rfl, ?hy50⟩) S0 ?rest50
    case hy50 => (intro W hSw; (try dsimp only at hSw); obtain ⟨s1, s2, s3, s4, s5, s6, s7, s8⟩ := hSw; go_simp; try (with_reducible rfl))
    try simp only [Act.put, List.setIfInBounds_toArray, List.set_cons_zero, List.set_cons_succ]
    refine' wpAnyD_take (i := 1) (oi := { dst := some 78, op := Go.Op.move (Go.Operand.tmp 6), type := 3, pos := "ref.go:71", after := #[{ on := 6, ground := Go.Ground.gcOnly Go.Departure.lateStores }], guard := none }) (v := _) rfl (by kernel_rfl) (by kernel_rfl) (by kernel_rfl) (fun _ _ _ h => h) (by kernel_rfl) (Or.inl ⟨by rfl, ?hy51⟩) S0 ?rest51
    case hy51 => (intro W hSw; (try dsimp only at hSw); obtain ⟨s1, s2, s3, s4, s5, s6, s7, s8⟩ := hSw; go_simp; try (with_reducible rfl))
    try simp only [Act.put, List.setIfInBounds_toArray, List.set_cons_zero, List.set_cons_succ]
    refine' wpAnyD_take (i := 2) (oi := { dst := some 79, op := Go.Op.move (Go.Operand.tmp 0), type := 115, pos := "ref.go:71", after := #[{ on := 7, ground := Go.Ground.gcOnly Go.Departure.lateStores }], guard := none }) (v := _) rfl (by kernel_rfl) (by kernel_rfl) (by kernel_rfl) (fun _ _ _ h => h) (by kernel_rfl) (Or.inl ⟨by rfl, ?hy52⟩) S0 ?rest52
    case hy52 => (intro W hSw; (try dsimp only at hSw); obtain ⟨s1, s2, s3, s4, s5, s6, s7, s8⟩ := hSw; go_simp; try (with_reducible rfl))
    try simp only [Act.put, List.setIfInBounds_toArray, List.set_cons_zero, List.set_cons_succ]
    refine' wpAnyD_take (i := 3) (oi := { dst := some 80, op := Go.Op.nilCheck (Go.Operand.tmp 79), type := 0, pos := "ref.go:71", after := #[{ on := 2, ground := Go.Ground.data }, { on := 7, ground := Go.Ground.gcOnly Go.Departure.lateStores }], guard := none }) (v := _) rfl (by kernel_rfl) (by kernel_rfl) (by kernel_rfl) (fun _ _ _ h => h) (by kernel_rfl) (Or.inl ⟨by rfl, ?hy53⟩) S0 ?rest53
    case hy53 => (intro W hSw; (try dsimp only at hSw); obtain ⟨s1, s2, s3, s4, s5, s6, s7, s8⟩ := hSw; go_simp; try (with_reducible rfl))
    try simp only [Act.put, List.setIfInBounds_toArray, List.set_cons_zero, List.set_cons_succ]
    refine' wpAnyD_take (i := 4) (oi := { dst := some 81, op := Go.Op.fieldAddr 118 (Go.Operand.tmp 80) 2, type := 0, pos := "ref.go:71", after := #[{ on := 3, ground := Go.Ground.data }, { on := 7, ground := Go.Ground.gcOnly Go.Departure.lateStores }], guard := none }) (v := _) rfl (by kernel_rfl) (by kernel_rfl) (by kernel_rfl) (fun _ _ _ h => h) (by kernel_rfl) (Or.inl ⟨by rfl, ?hy54⟩) S0 ?rest54
    case hy54 => (intro W hSw; (try dsimp only at hSw); obtain ⟨s1, s2, s3, s4, s5, s6, s7, s8⟩ := hSw; go_simp; try (with_reducible rfl))
    try simp only [Act.put, List.setIfInBounds_toArray, List.set_cons_zero, List.set_cons_succ]
    refine' wpAnyD_take (i := 5) (oi := { dst := some 82, op := Go.Op.load 3 (Go.Operand.tmp 81), type := 3, pos := "ref.go:71", after := #[{ on := 4, ground := Go.Ground.data }, { on := 7, ground := Go.Ground.gcOnly Go.Departure.lateStores }], guard := none }) (v := _) rfl (by kernel_rfl) (by kernel_rfl) (by kernel_rfl) (fun _ _ _ h => h) (by kernel_rfl) (Or.inl ⟨by rfl, ?hy55⟩) S0 ?rest55
    case hy55 => (intro W hSw; (try dsimp only at hSw); obtain ⟨s1, s2, s3, s4, s5, s6, s7, s8⟩ := hSw; go_simp; try (with_reducible rfl))
    try simp only [Act.put, List.setIfInBounds_toArray, List.set_cons_zero, List.set_cons_succ]
    refine wpAnyD_one (i := 6) (o := { dst := none, op := Go.Op.store 43 (Go.Operand.tmp 2) (Go.Operand.tmp 77), type := 0, pos := "ref.go:71", after := #[{ on := 0, ground := Go.Ground.data }, { on := 0, ground := Go.Ground.phase }, { on := 1, ground := Go.Ground.textOnly Go.Departure.lateStores }, { on := 2, ground := Go.Ground.textOnly Go.Departure.lateStores }, { on := 3, ground := Go.Ground.textOnly Go.Departure.lateStores }, { on := 4, ground := Go.Ground.textOnly Go.Departure.lateStores }, { on := 5, ground := Go.Ground.textOnly Go.Departure.lateStores }], guard := none }) (by kernel_rfl) rfl (fun K hK => ?_)
    rw [if_pos (by kernel_rfl)]
    have z := tk_store FB5.out.b0
    have c0 := z.1 0
    have c1 := z.1 1
    have c2 := z.1 2
    have c3 := z.1 3
    have c4 := z.1 4
    have g0 := z.2 0
    have g1 := z.2 1
    have g2 := z.2 2
    have g3 := z.2 3
    have g4 := z.2 4
    have gl := (Array.getElem?_eq_some_iff.1 FB5.out.b0).1
    clear z
    go_simp
    obtain ⟨Wf, hWf⟩ : ∃ W, W = (((((W7.setCell ⟨B0, 0, none⟩ (.int .i64 (u1 : Nat))).setCell ⟨B0, 1, none⟩ (.int .u64 (u2 : Nat))).setCell ⟨B0, 2, none⟩ (.int .u64 (u3 : Nat))).setCell ⟨B0, 3, none⟩ (.int .u64 (u4 : Nat))).setCell ⟨B0, 4, none⟩ (.int .i64 (unfold u5))).drew := ⟨_, rfl⟩
    obtain ⟨k1, k2⟩ := set5 FB5.out.b0 (.int .i64 (u1 : Nat)) (.int .u64 (u2 : Nat)) (.int .u64 (u3 : Nat)) (.int .u64 (u4 : Nat)) (.int .i64 (unfold u5))
    have K1 : Hid (Wf.heap[B0]? = some (.cells #[.int .i64 (u1 : Nat), .int .u64 (u2 : Nat), .int .u64 (u3 : Nat), .int .u64 (u4 : Nat), .int .i64 (unfold u5)] 43 (0, 0)) ∧ Kp (fun k => k = B0) W7 Wf) := by
      rw [hWf]
      exact ⟨k1, k2.trans (Kp.of_gr (Gr.refl _).drew) (fun _ _ h => h)⟩
    rw [← hWf]
    have S6 : Wf.cell? ⟨B1, 0, none⟩ = some (.int .i64 (u1 : Nat)) ∧ Wf.cell? ⟨B1, 1, none⟩ = some (.int .u64 (u2 : Nat)) ∧ Wf.cell? ⟨B1, 2, none⟩ = some (.int .u64 (u3 : Nat)) ∧ Wf.cell? ⟨B1, 3, none⟩ = some (.int .u64 (u4 : Nat)) ∧ Wf.cell? ⟨B1, 4, none⟩ = some (.int .i64 (unfold u5)) ∧ Wf.cell? ⟨rb, 2, none⟩ = some (.int .i64 (e5 : Nat)) ∧ B1 < Wf.heap.size ∧ rb < Wf.heap.size := by
      obtain ⟨s1, s2, s3, s4, s5, s6, s7, s8⟩ := S0
      have hn : B1 ≠ B0 := fun e => FB5.out.ne e.symm
      have hr : rb ≠ B0 := fun e => by have h1 := FB5.out.lt; have h2 := FB5.out.n0; omega
      exact ⟨(K1.out.2.cell s7 hn).trans s1, (K1.out.2.cell s7 hn).trans s2, (K1.out.2.cell s7 hn).trans s3, (K1.out.2.cell s7 hn).trans s4, (K1.out.2.cell s7 hn).trans s5, (K1.out.2.cell s8 hr).trans s6, Nat.lt_of_lt_of_le s7 K1.out.2.size, Nat.lt_of_lt_of_le s8 K1.out.2.size⟩
    clear hWf k1 k2 c0 c1 c2 c3 c4 g0 g1 g2 g3 g4 gl
    refine hK.out _ _ (fun hD => S6) ?_
    clear hK K
    try simp only [Act.put, List.setIfInBounds_toArray, List.set_cons_zero, List.set_cons_succ]
    refine wpAnyD_one (i := 7) (o := { dst := some 3, op := Go.Op.assign (Go.Operand.tmp 78), type := 3, pos := "ref.go:71", after := #[{ on := 1, ground := Go.Ground.data }, { on := 6, ground := Go.Ground.chain }, { on := 0, ground := Go.Ground.phase }, { on := 1, ground := Go.Ground.phase }, { on := 2, ground := Go.Ground.textOnly Go.Departure.lateStores }, { on := 3, ground := Go.Ground.textOnly Go.Departure.lateStores }, { on := 4, ground := Go.Ground.textOnly Go.Departure.lateStores }, { on := 5, ground := Go.Ground.textOnly Go.Departure.lateStores }, { on := 6, ground := Go.Ground.phase }], guard := none }) (by kernel_rfl) rfl (fun K hK => ?_)
    rw [if_pos (by kernel_rfl)]
    go_simp
    refine hK.out _ _ (fun hD => S6) ?_
    clear hK K
    try simp only [Act.put, List.setIfInBounds_toArray, List.set_cons_zero, List.set_cons_succ]
    refine wpAnyD_one (i := 8) (o := { dst := some 4, op := Go.Op.assign (Go.Operand.tmp 82), type := 3, pos := "ref.go:71", after := #[{ on := 5, ground := Go.Ground.data }, { on := 7, ground := Go.Ground.chain }, { on := 0, ground := Go.Ground.phase }, { on := 1, ground := Go.Ground.phase }, { on := 2, ground := Go.Ground.phase }, { on := 3, ground := Go.Ground.phase }, { on := 4, ground := Go.Ground.phase }, { on := 5, ground := Go.Ground.phase }, { on := 6, ground := Go.Ground.phase }, { on := 7, ground := Go.Ground.phase }], guard := none }) (by kernel_rfl) rfl (fun K hK => ?_)
    rw [if_pos (by kernel_rfl)]
    go_simp
    refine hK.out _ _ (fun hD => S6) ?_
    clear hK K
    try simp only [Act.put, List.setIfInBounds_toArray, List.set_cons_zero, List.set_cons_succ]
    refine wpAnyD_done (by kernel_rfl) ?_ _
    go_wp2
    have qf := (tk_store K1.out.1).1
    have q0 := qf 0
    have q1 := qf 1
    have q2 := qf 2
    have q3 := qf 3
    have q4 := qf 4
    refine bodyPost_ret (v := .tuple #[.agg #[.int .i64 (u1 : Nat), .int .u64 (u2 : Nat), .int .u64 (u3 : Nat), .int .u64 (u4 : Nat), .int .i64 (unfold u5)], .int .i64 (p4 : Nat), .int .i64 (e5 : Nat)]) (by simp [results, Tryd.results64, go_sem, q0, q1, q2, q3, q4]) rfl ?_
    show Ond _ _ _ _ _ _ _
    refine ⟨FB5.out.kp.trans K1.out.2 (fun j hj e => by have h1 := FB5.out.n0; omega), Or.inr ⟨_, _, _, _, _, _, _, HE.out, he, rfl⟩⟩
  subst he
  have HK5 : Hid (num L mx p4 = .ok (u5, p5)) := by
    show _ = _
    have h := HS5.out
    rcases num_rn L mx p4 with ⟨_, k⟩ | ⟨k, _⟩
    · rw [h] at k
      simp only at k
      rw [k, HP5.out]
    · rw [h] at k; exact absurd rfl k
  obtain ⟨c, hc⟩ : ∃ c, c = mkC u1 u2 u3 u4 (unfold u5) := ⟨_, rfl⟩
  have hub := unfold_bd HB5.out.2.1
  obtain ⟨m0, m1, m2, m3, m4⟩ := mkC_eq (a := u1) (A := u2) (B := u3) (C := u4) (N := unfold u5) (by have := HB1.out; omega) HB2.out.2.1 HB3.out.2.1 HB4.out.2.1 hub.1 hub.2
  rw [← hc] at m0 m1 m2 m3 m4
  have FC : Hid (Of w W7 rb B0 B1 d va5 L p5 0 #[.int .i64 c.pl, .int .u64 (c.A : Nat), .int .u64 (c.B : Nat), .int .u64 (c.C : Nat), .int .i64 c.N] (.slice (some ⟨gu, 0, none⟩) 3 cu) [u2, u3, u4]) := by
    show Of _ _ _ _ _ _ _ _ _ _ _ _ _
    rw [m0, m1, m2, m3, m4]
    exact FB5.out
  have HPL : Hid (0 ≤ c.pl ∧ c.pl ≤ 191) := by
    have h := HB1.out.1
    show _ ∧ _
    rw [m0]
    omega
  have HBO : Hid (∀ q, bone L q at_ = if wr1 c ≠ 0 then .error (p4, wr1 c) else if bh q c = false then .error (at_, 31) else .ok (c, p5)) := fun q => by
    unfold bone five
    simp only [HK1.out, HK2.out, HK3.out, HK4.out, HK5.out, hc]
  clear m0 m1 m2 m3 m4 hub hc
  obtain ⟨y0, y1, y2, y3, y4, y5⟩ := box_at FC.out.b1
  have e2 := FC.out.rd.c2
  have el := FC.out.rd.lt
  have z := tk_store FC.out.b0
  have c0 := z.1 0
  have c1 := z.1 1
  have c2 := z.1 2
  have c3 := z.1 3
  have c4 := z.1 4
  have g0 := z.2 0
  have g1 := z.2 1
  have g2 := z.2 2
  have g3 := z.2 3
  have g4 := z.2 4
  have gl := (Array.getElem?_eq_some_iff.1 FC.out.b0).1
  clear z
  by_cases n1' : c.N < -2147483647
  · have hw : wr1 c = 12 := by unfold wr1; rw [if_pos (Or.inr (Or.inr (Or.inl n1')))]
    have HW := hid hw
    clear hw
    go_wp2_with fail
    obtain ⟨Wf, hWf⟩ : ∃ W, W = ((((W7.setCell ⟨B0, 0, none⟩ (.int .i64 c.pl)).setCell ⟨B0, 1, none⟩ (.int .u64 (c.A : Nat))).setCell ⟨B0, 2, none⟩ (.int .u64 (c.B : Nat))).setCell ⟨B0, 3, none⟩ (.int .u64 (c.C : Nat))).setCell ⟨B0, 4, none⟩ (.int .i64 c.N) := ⟨_, rfl⟩
    have K1 : Hid (Wf.heap[B0]? = some (.cells #[.int .i64 c.pl, .int .u64 (c.A : Nat), .int .u64 (c.B : Nat), .int .u64 (c.C : Nat), .int .i64 c.N] 43 (0, 0)) ∧ Kp (fun k => k = B0) W7 Wf) := by
      rw [hWf]
      exact set5 FC.out.b0 (.int .i64 c.pl) (.int .u64 (c.A : Nat)) (.int .u64 (c.B : Nat)) (.int .u64 (c.C : Nat)) (.int .i64 c.N)
    rw [← hWf]
    clear hWf
    have qf := (tk_store K1.out.1).1
    have q0 := qf 0
    have q1 := qf 1
    have q2 := qf 2
    have q3 := qf 3
    have q4 := qf 4
    refine bodyPost_ret (v := .tuple #[.agg #[.int .i64 c.pl, .int .u64 (c.A : Nat), .int .u64 (c.B : Nat), .int .u64 (c.C : Nat), .int .i64 c.N], .int .i64 (p4 : Nat), .int .i64 12]) (by simp [results, Tryd.results64, go_sem, q0, q1, q2, q3, q4]) rfl ?_
    show Ond _ _ _ _ _ _ _
    refine ⟨FC.out.kp.trans K1.out.2 (fun j hj e => by have h1 := FC.out.n0; omega), Or.inr ⟨_, 12, _, _, _, _, _, fun q => (HBO.out q).trans (by rw [if_pos (by rw [HW.out]; decide), HW.out]), by decide, rfl⟩⟩
  by_cases n2' : 2147483647 < c.N
  · have hw : wr1 c = 12 := by unfold wr1; rw [if_pos (Or.inr (Or.inr (Or.inr n2')))]
    have HW := hid hw
    clear hw
    go_wp2_with fail
    obtain ⟨Wf, hWf⟩ : ∃ W, W = ((((W7.setCell ⟨B0, 0, none⟩ (.int .i64 c.pl)).setCell ⟨B0, 1, none⟩ (.int .u64 (c.A : Nat))).setCell ⟨B0, 2, none⟩ (.int .u64 (c.B : Nat))).setCell ⟨B0, 3, none⟩ (.int .u64 (c.C : Nat))).setCell ⟨B0, 4, none⟩ (.int .i64 c.N) := ⟨_, rfl⟩
    have K1 : Hid (Wf.heap[B0]? = some (.cells #[.int .i64 c.pl, .int .u64 (c.A : Nat), .int .u64 (c.B : Nat), .int .u64 (c.C : Nat), .int .i64 c.N] 43 (0, 0)) ∧ Kp (fun k => k = B0) W7 Wf) := by
      rw [hWf]
      exact set5 FC.out.b0 (.int .i64 c.pl) (.int .u64 (c.A : Nat)) (.int .u64 (c.B : Nat)) (.int .u64 (c.C : Nat)) (.int .i64 c.N)
    rw [← hWf]
    clear hWf
    have qf := (tk_store K1.out.1).1
    have q0 := qf 0
    have q1 := qf 1
    have q2 := qf 2
    have q3 := qf 3
    have q4 := qf 4
    refine bodyPost_ret (v := .tuple #[.agg #[.int .i64 c.pl, .int .u64 (c.A : Nat), .int .u64 (c.B : Nat), .int .u64 (c.C : Nat), .int .i64 c.N], .int .i64 (p4 : Nat), .int .i64 12]) (by simp [results, Tryd.results64, go_sem, q0, q1, q2, q3, q4]) rfl ?_
    show Ond _ _ _ _ _ _ _
    refine ⟨FC.out.kp.trans K1.out.2 (fun j hj e => by have h1 := FC.out.n0; omega), Or.inr ⟨_, 12, _, _, _, _, _, fun q => (HBO.out q).trans (by rw [if_pos (by rw [HW.out]; decide), HW.out]), by decide, rfl⟩⟩
  have hnr : ¬ (c.pl < 0 ∨ 191 < c.pl ∨ c.N < -2147483647 ∨ 2147483647 < c.N) := by have := HPL.out; omega
  have HNR := hid hnr
  clear hnr
  by_cases n3' : c.N = 0
  · have hw : wr1 c = 31 := by unfold wr1; rw [if_neg HNR.out, if_pos n3']
    have HW := hid hw
    have hq : (c.N == 0) = true := by simpa using n3'
    clear hw n3'
    go_wp2_with fail
    obtain ⟨Wf, hWf⟩ : ∃ W, W = ((((W7.setCell ⟨B0, 0, none⟩ (.int .i64 c.pl)).setCell ⟨B0, 1, none⟩ (.int .u64 (c.A : Nat))).setCell ⟨B0, 2, none⟩ (.int .u64 (c.B : Nat))).setCell ⟨B0, 3, none⟩ (.int .u64 (c.C : Nat))).setCell ⟨B0, 4, none⟩ (.int .i64 c.N) := ⟨_, rfl⟩
    have K1 : Hid (Wf.heap[B0]? = some (.cells #[.int .i64 c.pl, .int .u64 (c.A : Nat), .int .u64 (c.B : Nat), .int .u64 (c.C : Nat), .int .i64 c.N] 43 (0, 0)) ∧ Kp (fun k => k = B0) W7 Wf) := by
      rw [hWf]
      exact set5 FC.out.b0 (.int .i64 c.pl) (.int .u64 (c.A : Nat)) (.int .u64 (c.B : Nat)) (.int .u64 (c.C : Nat)) (.int .i64 c.N)
    rw [← hWf]
    clear hWf
    have qf := (tk_store K1.out.1).1
    have q0 := qf 0
    have q1 := qf 1
    have q2 := qf 2
    have q3 := qf 3
    have q4 := qf 4
    refine bodyPost_ret (v := .tuple #[.agg #[.int .i64 c.pl, .int .u64 (c.A : Nat), .int .u64 (c.B : Nat), .int .u64 (c.C : Nat), .int .i64 c.N], .int .i64 (p4 : Nat), .int .i64 31]) (by simp [results, Tryd.results64, go_sem, q0, q1, q2, q3, q4]) rfl ?_
    show Ond _ _ _ _ _ _ _
    refine ⟨FC.out.kp.trans K1.out.2 (fun j hj e => by have h1 := FC.out.n0; omega), Or.inr ⟨_, 31, _, _, _, _, _, fun q => (HBO.out q).trans (by rw [if_pos (by rw [HW.out]; decide), HW.out]), by decide, rfl⟩⟩
  have hw : wr1 c = 0 := by unfold wr1; rw [if_neg HNR.out, if_neg n3']
  have HW := hid hw
  clear hw
  go_wp2_with fail
  obtain ⟨Wf, hWf⟩ : ∃ W, W = ((((W7.setCell ⟨B0, 0, none⟩ (.int .i64 c.pl)).setCell ⟨B0, 1, none⟩ (.int .u64 (c.A : Nat))).setCell ⟨B0, 2, none⟩ (.int .u64 (c.B : Nat))).setCell ⟨B0, 3, none⟩ (.int .u64 (c.C : Nat))).setCell ⟨B0, 4, none⟩ (.int .i64 c.N) := ⟨_, rfl⟩
  have K1 : Hid (Wf.heap[B0]? = some (.cells #[.int .i64 c.pl, .int .u64 (c.A : Nat), .int .u64 (c.B : Nat), .int .u64 (c.C : Nat), .int .i64 c.N] 43 (0, 0)) ∧ Kp (fun k => k = B0) W7 Wf) := by
    rw [hWf]
    exact set5 FC.out.b0 (.int .i64 c.pl) (.int .u64 (c.A : Nat)) (.int .u64 (c.B : Nat)) (.int .u64 (c.C : Nat)) (.int .i64 c.N)
  rw [← hWf]
  clear hWf
  have qf := (tk_store K1.out.1).1
  have q0 := qf 0
  have q1 := qf 1
  have q2 := qf 2
  have q3 := qf 3
  have q4 := qf 4
  refine bodyPost_ret (v := .tuple #[.agg #[.int .i64 c.pl, .int .u64 (c.A : Nat), .int .u64 (c.B : Nat), .int .u64 (c.C : Nat), .int .i64 c.N], .int .i64 0, .int .i64 0]) (by simp [results, Tryd.results64, go_sem, q0, q1, q2, q3, q4]) rfl ?_
  show Ond _ _ _ _ _ _ _
  refine ⟨FC.out.kp.trans K1.out.2 (fun j hj e => by have h1 := FC.out.n0; omega), Or.inl ⟨c, p5, va5, ⟨HW.out, fun q => (HBO.out q).trans (by rw [if_neg (by rw [HW.out]; decide)])⟩, rfl, FC.out.rd.kp K1.out.2 (fun e => by have h1 := FC.out.lt; have h2 := FC.out.n0; omega) (fun k hk e => by have h1 := FC.out.od k (FC.out.ow k hk); have h2 := FC.out.n0; omega), FC.out.ow⟩⟩
end Go.Proofs.YtghofmhlmkpkcaaDoor.Wi
