import Derived.Test.YtghofmhlmkpkcaaDoorBPut
import Derived.Test.YtghofmhlmkpkcaaDoorBRef1
import Derived.Test.YtghofmhlmkpkcaaDoorVRefW
namespace Go.Proofs.YtghofmhlmkpkcaaDoor.Wi
open Go.RowKit Go.Sort
attribute [local go_sem ↓] Go.wp_at_zero Go.wp_at_succ
/-- While the document puts a list. -/
structure Pd (w wr : World) (rb : Nat) (v1 : Value) (M : List UInt8) : Prop where
  wt : Rw wr rb v1 M 0
  bl : Below w.heap.size w wr
  nb : w.heap.size ≤ rb
  ow : ∀ g, v1.ownBlock = some g → w.heap.size ≤ g
section
variable {w wr : World} {rb : Nat} {v1 : Value} {M : List UInt8}
theorem Pd.gr (h : Pd w wr rb v1 M) {w2 : World} (hg : Gr wr w2) : Pd w w2 rb v1 M := ⟨h.wt.below hg.below, h.bl.trans (hg.below.mono h.bl.size), h.nb, h.ow⟩
theorem Pd.turn (h : Pd w wr rb v1 M) {w2 : World} {v2 : Value} {M2 : List UInt8} (hw : Rw w2 rb v2 M2 0) (ht : Turn rb v1 v2 wr w2) : Pd w w2 rb v2 M2 :=
  ⟨hw, h.bl.trans (ht.1.below h.bl.size (fun k hk => hk.elim (fun e => e ▸ h.nb) (h.ow k))), h.nb, fun g hg => (ht.2 g hg).elim (h.ow g) (Nat.le_trans h.bl.size)⟩
end
theorem rwnum0 {rb : Nat} {v : Value} {L : List UInt8} (u : Nat) (hu : u < 18446744073709551616) (w : World) (hR : Rw w rb v L 0) (hl : L.length + 10 ≤ 140737488355328) :
    Calls Tryd.prog 37 #[.pointer (some ⟨rb, 0, none⟩), .int .u64 u] w fun r w' => ∃ v', r = .returned (.tuple #[]) ∧ Rw w' rb v' (L ++ form u) 0 ∧ Turn rb v v' w w' := rwnum_any u hu w hR hl
theorem rwint0 {rb : Nat} {v : Value} {L : List UInt8} (n : Int) (h0 : -9223372036854775808 ≤ n) (h1 : n ≤ 9223372036854775807) (w : World) (hR : Rw w rb v L 0) (hl : L.length + 10 ≤ 140737488355328) :
    Calls Tryd.prog 38 #[.pointer (some ⟨rb, 0, none⟩), .int .i64 n] w fun r w' => ∃ v', r = .returned (.tuple #[]) ∧ Rw w' rb v' (L ++ form (fold n)) 0 ∧ Turn rb v v' w w' := rwint_any n h0 h1 w hR hl
theorem owns_hi {w : World} {b b' : Nat} {e : TypeId} {size : Nat} {v : Value} {n : Nat} {xs : List Value} (h : w.ownsRow b e size v n xs) (hb : ∀ g, v.ownBlock = some g → b' ≤ g) : w.ownsRow b' e size v n xs := by
  obtain ⟨h1, h2⟩ := h
  refine ⟨h1, ?_⟩
  rcases h2 with h2 | ⟨g, cap, cur, hv, hg, r⟩
  · exact Or.inl h2
  · exact Or.inr ⟨g, cap, cur, hv, hb g (by rw [hv]; rfl), r⟩
/-- What has been put. -/
def sofar (n k : Nat) (l : List Cx) : List UInt8 := if k = 0 then [] else form n ++ (l.take k).flatMap fc
set_option maxHeartbeats 16000000 in
set_option maxRecDepth 100000 in
theorem rput15_any {v : Value} {l : List Cx} (w : World) (hL : Ls EC w v l) (hl : 50 * l.length + 100 ≤ 140737488355328) :
    Calls Tryd.prog 14 #[v] w fun e w' => ∃ d, e = .returned (.tuple #[d, .int .i64 ((bput l).2 : Nat)]) ∧ w'.ownsRow w.heap.size 5 1 d (bput l).1.length (fl EB (bput l).1) ∧ Below w.heap.size w w' := by
  have hmx : Tryd.prog.follows .mixedOrders = true := by kernel_rfl
  obtain ⟨pv, cv, rfl⟩ := hL.form
  obtain ⟨n, hn⟩ : ∃ n, l.length = n := ⟨_, rfl⟩
  have HL : Hid (Ls EC w (.slice pv n cv) l) := by rw [← hn]; exact hL
  rw [hn] at hl ⊢
  have hzw : IntKind.u64.wrap (n : Int) = (n : Int) := by rw [IntKind.wrap_u64]; omega
  have HN := hid hn
  have HLL := hid hl
  have hn64 : Hid (n < 18446744073709551616) := by show _ < _; omega
  have HFN : Hid ((form n).length ≤ 10) := form_ten (v := n) (by omega)
  have hnz : Hid (n < 4611686018427387904) := by show _ < _; omega
  have HSO : Hid (∀ k, bgo none (l.take k) = 0 → (sofar n k l).length ≤ 50 * n + 10) := fun k h => by
    have h1 := fcs_le (l.take k) none h
    have h2 : (l.take k).length ≤ n := by rw [List.length_take]; omega
    have h3 := HFN.out
    unfold sofar
    split
    · simp
    · rw [List.length_append]; omega
  clear hL hn hl
  obtain ⟨W1, hW1⟩ : ∃ W, W = w.alloc (.cells #[.slice none 0 0, .int .i64 0] 76) := ⟨_, rfl⟩
  obtain ⟨rb, hrb⟩ : ∃ b, b = w.heap.size := ⟨_, rfl⟩
  have G1 : Gr w W1 := by rw [hW1]; exact (Gr.refl _).alloc _
  have P1 : Hid (Pd w W1 rb (.slice none 0 0) []) := ⟨⟨by rw [hW1, hrb]; exact heap_new' _ _, ow_nil _, by simp [Value.ownBlock]⟩, G1.below, by omega, by simp [Value.ownBlock]⟩
  clear G1
  go_enter Tryd.func14, Tryd.ntmps14
  go_wp2_with fail
  rw [← hW1, ← hrb]
  clear hW1 hrb
  go_loopw [5] (fun s5 wr => ∃ (k : Nat) (v1 : Value), k ≤ n ∧ s5 = .int .i64 k ∧ Hid (bgo none (l.take k) = 0 ∧ Pd w wr rb v1 (sofar n k l))) (fun s5 _ => n - (RowKit.intOf s5).toNat)
  case atStart => exact ⟨0, _, Nat.zero_le _, rfl, rfl, P1.out⟩
  case round =>
    obtain ⟨k, v1, hk, rfl, HI⟩ := hrel
    by_cases hlt : k < n
    · have hltz : (k : Int) < (n : Int) := by omega
      have hk0 : (0 : Int) ≤ (k : Int) := by omega
      obtain ⟨c, hc⟩ : ∃ c, l[k]? = some c := ⟨l[k]'(by rw [HN.out]; exact hlt), by simp⟩
      obtain ⟨b, off, c1, e1, z1, x0, x1, x2, x3, x4⟩ := ls_atC (HL.out.below HI.out.2.bl) hc
      simp only [Value.slice.injEq] at e1
      obtain ⟨rfl, -, rfl⟩ := e1
      have HC := hid hc
      obtain ⟨W5, hW5⟩ : ∃ W5, W5 = wr.alloc (.cells #[.int .i64 c.pl, .int .u64 (c.A : Nat), .int .u64 (c.B : Nat), .int .u64 (c.C : Nat), .int .i64 c.N] 43) := ⟨_, rfl⟩
      obtain ⟨B1, hB1⟩ : ∃ B1, B1 = wr.heap.size := ⟨_, rfl⟩
      have G5 : Gr wr W5 := by rw [hW5]; exact (Gr.refl _).alloc _
      have HB5 : Hid (W5.heap[B1]? = some (.cells #[.int .i64 c.pl, .int .u64 (c.A : Nat), .int .u64 (c.B : Nat), .int .u64 (c.C : Nat), .int .i64 c.N] 43 (0, 0))) := by rw [hW5, hB1]; exact heap_new' _ _
      have P5 := hid (HI.out.2.gr G5)
      have HBN : Hid (¬ (B1 = rb ∨ v1.ownBlock = some B1)) := by
        rintro (h | h)
        · have := HI.out.2.wt.lt; omega
        · have := HI.out.2.wt.row _ h; omega
      have HST := hid (bgo_step (l.take k) c HI.out.1)
      have HER : Hid (∀ x, wr1 c = x → x ≠ 0 → bput l = ([], x)) := fun x hx h0 => by
        have h1 := HST.out
        rw [if_pos (by rw [hx]; exact h0), hx] at h1
        have h2 := bgo_stop HC.out (by rw [h1]; exact h0)
        unfold bput
        rw [h2, h1, if_neg h0]
      clear hc G5
      go_upto_region 6 with fail
      rw [← hW5, ← hB1]
      clear hW5 hB1 x0 x1 x2 x3 x4 z1
      obtain ⟨y0, y1, y2, y3, y4, y5⟩ := box_at HB5.out
      by_cases q : c.pl < 0
      · have HE := hid (HER.out 12 (by unfold wr1; rw [if_pos (Or.inl q)]) (by decide))
        go_wp2_with fail
        go_ret2
        rw [HE.out]
        exact ⟨_, rfl, World.ownsRow_nil _ _ _ _, P5.out.bl⟩
      have HQ0 : Hid (¬ c.pl < 0) := q
      have q0 : ¬ c.pl < 0 := q
      clear q
      by_cases q : 191 < c.pl
      · have HE := hid (HER.out 12 (by unfold wr1; rw [if_pos (Or.inr (Or.inl q))]) (by decide))
        go_wp2_with fail
        go_ret2
        rw [HE.out]
        exact ⟨_, rfl, World.ownsRow_nil _ _ _ _, P5.out.bl⟩
      have HQ1 : Hid (¬ 191 < c.pl) := q
      have q1 : ¬ 191 < c.pl := q
      clear q
      by_cases q : c.N < -2147483647
      · have HE := hid (HER.out 12 (by unfold wr1; rw [if_pos (Or.inr (Or.inr (Or.inl q)))]) (by decide))
        go_wp2_with fail
        go_ret2
        rw [HE.out]
        exact ⟨_, rfl, World.ownsRow_nil _ _ _ _, P5.out.bl⟩
      have HQ2 : Hid (¬ c.N < -2147483647) := q
      have q2 : ¬ c.N < -2147483647 := q
      clear q
      by_cases q : 2147483647 < c.N
      · have HE := hid (HER.out 12 (by unfold wr1; rw [if_pos (Or.inr (Or.inr (Or.inr q)))]) (by decide))
        go_wp2_with fail
        go_ret2
        rw [HE.out]
        exact ⟨_, rfl, World.ownsRow_nil _ _ _ _, P5.out.bl⟩
      have HQ3 : Hid (¬ 2147483647 < c.N) := q
      have q3 : ¬ 2147483647 < c.N := q
      clear q
      have hnr : ¬ (c.pl < 0 ∨ 191 < c.pl ∨ c.N < -2147483647 ∨ 2147483647 < c.N) := by omega
      have HNR := hid hnr
      clear hnr
      by_cases qn : c.N = 0
      · have HE := hid (HER.out 31 (by unfold wr1; rw [if_neg HNR.out, if_pos qn]) (by decide))
        have S0 : W5.drew.cell? ⟨B1, 0, none⟩ = some (.int .i64 c.pl) ∧ W5.drew.cell? ⟨B1, 1, none⟩ = some (.int .u64 (c.A : Nat)) ∧ W5.drew.cell? ⟨B1, 2, none⟩ = some (.int .u64 (c.B : Nat)) ∧ W5.drew.cell? ⟨B1, 3, none⟩ = some (.int .u64 (c.C : Nat)) ∧ W5.drew.cell? ⟨B1, 4, none⟩ = some (.int .i64 c.N) ∧ B1 < W5.drew.heap.size := ⟨y0, y1, y2, y3, y4, y5⟩
        go_upto_region 8 with fail
        refine wp_regionD (S := fun W => (W.cell? ⟨B1, 0, none⟩ = some (.int .i64 c.pl) ∧ W.cell? ⟨B1, 1, none⟩ = some (.int .u64 (c.A : Nat)) ∧ W.cell? ⟨B1, 2, none⟩ = some (.int .u64 (c.B : Nat)) ∧ W.cell? ⟨B1, 3, none⟩ = some (.int .u64 (c.C : Nat)) ∧ W.cell? ⟨B1, 4, none⟩ = some (.int .i64 c.N) ∧ B1 < W.heap.size)) (D := []) hmx ?_
        refine' wpAnyD_take (i := 0) (oi := { dst := some 39, op := Go.Op.fieldAddr 43 (Go.Operand.tmp 6) 1, type := 0, pos := "ref.go:36", after := #[], guard := none }) (v := _) rfl (by kernel_rfl) (by kernel_rfl) (by kernel_rfl) (fun _ _ _ h => h) (by kernel_rfl) (Or.inl ⟨by rfl, ?hy1⟩) S0 ?rest1
        case hy1 => (intro W hSw; (try dsimp only at hSw); obtain ⟨s1, s2, s3, s4, s5, s6⟩ := hSw; go_simp; try (with_reducible rfl))
        try simp only [Act.put, List.setIfInBounds_toArray, List.set_cons_zero, List.set_cons_succ]
        refine' wpAnyD_take (i := 1) (oi := { dst := some 40, op := Go.Op.load 2 (Go.Operand.tmp 39), type := 2, pos := "ref.go:36", after := #[{ on := 0, ground := Go.Ground.data }], guard := none }) (v := _) rfl (by kernel_rfl) (by kernel_rfl) (by kernel_rfl) (fun _ _ _ h => h) (by kernel_rfl) (Or.inl ⟨by rfl, ?hy2⟩) S0 ?rest2
        case hy2 => (intro W hSw; (try dsimp only at hSw); obtain ⟨s1, s2, s3, s4, s5, s6⟩ := hSw; go_simp; try (with_reducible rfl))
        try simp only [Act.put, List.setIfInBounds_toArray, List.set_cons_zero, List.set_cons_succ]
        refine' wpAnyD_take (i := 2) (oi := { dst := some 41, op := Go.Op.binOp Go.BinOp.eql 2 (Go.Operand.tmp 40) (Go.Operand.const (Go.Value.int Go.IntKind.i64 0)) 2, type := 4, pos := "ref.go:36", after := #[{ on := 1, ground := Go.Ground.data }], guard := none }) (v := _) rfl (by kernel_rfl) (by kernel_rfl) (by kernel_rfl) (fun _ _ _ h => h) (by kernel_rfl) (Or.inl ⟨by rfl, ?hy3⟩) S0 ?rest3
        case hy3 => (intro W hSw; (try dsimp only at hSw); obtain ⟨s1, s2, s3, s4, s5, s6⟩ := hSw; go_simp; (try rw [qn]); try (with_reducible rfl))
        try simp only [Act.put, List.setIfInBounds_toArray, List.set_cons_zero, List.set_cons_succ]
        refine' wpAnyD_take (i := 3) (oi := { dst := some 42, op := Go.Op.move (Go.Operand.tmp 41), type := 4, pos := "ref.go:36", after := #[{ on := 2, ground := Go.Ground.data }], guard := none }) (v := _) rfl (by kernel_rfl) (by kernel_rfl) (by kernel_rfl) (fun _ _ _ h => h) (by kernel_rfl) (Or.inl ⟨by rfl, ?hy4⟩) S0 ?rest4
        case hy4 => (intro W hSw; (try dsimp only at hSw); obtain ⟨s1, s2, s3, s4, s5, s6⟩ := hSw; go_simp; try (with_reducible rfl))
        try simp only [Act.put, List.setIfInBounds_toArray, List.set_cons_zero, List.set_cons_succ]
        refine' wpAnyD_take (i := 4) (oi := { dst := some 43, op := Go.Op.move (Go.Operand.tmp 5), type := 3, pos := "ref.go:36", after := #[{ on := 3, ground := Go.Ground.guard }], guard := some (3, false) }) (v := undef) rfl (by kernel_rfl) (by kernel_rfl) (by kernel_rfl) (fun _ _ _ h => h) (by kernel_rfl) (Or.inr ⟨by rfl, rfl⟩) S0 ?rest5
        try simp only [Act.put, List.setIfInBounds_toArray, List.set_cons_zero, List.set_cons_succ]
        refine' wpAnyD_take (i := 5) (oi := { dst := some 44, op := Go.Op.binOp Go.BinOp.gtr 3 (Go.Operand.tmp 43) (Go.Operand.const (Go.Value.int Go.IntKind.i64 0)) 3, type := 4, pos := "ref.go:36", after := #[{ on := 4, ground := Go.Ground.data }, { on := 3, ground := Go.Ground.guard }], guard := some (3, false) }) (v := undef) rfl (by kernel_rfl) (by kernel_rfl) (by kernel_rfl) (fun _ _ _ h => h) (by kernel_rfl) (Or.inr ⟨by rfl, rfl⟩) S0 ?rest6
        try simp only [Act.put, List.setIfInBounds_toArray, List.set_cons_zero, List.set_cons_succ]
        refine' wpAnyD_take (i := 6) (oi := { dst := some 45, op := Go.Op.move (Go.Operand.tmp 44), type := 4, pos := "ref.go:36", after := #[{ on := 5, ground := Go.Ground.data }, { on := 3, ground := Go.Ground.chain }, { on := 3, ground := Go.Ground.guard }], guard := some (3, false) }) (v := undef) rfl (by kernel_rfl) (by kernel_rfl) (by kernel_rfl) (fun _ _ _ h => h) (by kernel_rfl) (Or.inr ⟨by rfl, rfl⟩) S0 ?rest7
        try simp only [Act.put, List.setIfInBounds_toArray, List.set_cons_zero, List.set_cons_succ]
        refine' wpAnyD_take (i := 7) (oi := { dst := some 46, op := Go.Op.load 43 (Go.Operand.tmp 6), type := 43, pos := "ref.go:36", after := #[{ on := 6, ground := Go.Ground.guard }], guard := some (6, true) }) (v := undef) rfl (by kernel_rfl) (by kernel_rfl) (by kernel_rfl) (fun _ _ _ h => h) (by kernel_rfl) (Or.inr ⟨by rfl, rfl⟩) S0 ?rest8
        try simp only [Act.put, List.setIfInBounds_toArray, List.set_cons_zero, List.set_cons_succ]
        refine' wpAnyD_take (i := 8) (oi := { dst := some 47, op := Go.Op.move (Go.Operand.tmp 0), type := 24, pos := "ref.go:36", after := #[{ on := 6, ground := Go.Ground.guard }], guard := some (6, true) }) (v := undef) rfl (by kernel_rfl) (by kernel_rfl) (by kernel_rfl) (fun _ _ _ h => h) (by kernel_rfl) (Or.inr ⟨by rfl, rfl⟩) S0 ?rest9
        try simp only [Act.put, List.setIfInBounds_toArray, List.set_cons_zero, List.set_cons_succ]
        refine' wpAnyD_take (i := 9) (oi := { dst := some 48, op := Go.Op.move (Go.Operand.tmp 5), type := 3, pos := "ref.go:36", after := #[{ on := 6, ground := Go.Ground.guard }], guard := some (6, true) }) (v := undef) rfl (by kernel_rfl) (by kernel_rfl) (by kernel_rfl) (fun _ _ _ h => h) (by kernel_rfl) (Or.inr ⟨by rfl, rfl⟩) S0 ?rest10
        try simp only [Act.put, List.setIfInBounds_toArray, List.set_cons_zero, List.set_cons_succ]
        refine' wpAnyD_take (i := 10) (oi := { dst := some 49, op := Go.Op.binOp Go.BinOp.sub 3 (Go.Operand.tmp 48) (Go.Operand.const (Go.Value.int Go.IntKind.i64 1)) 3, type := 3, pos := "ref.go:36", after := #[{ on := 9, ground := Go.Ground.data }, { on := 6, ground := Go.Ground.guard }], guard := some (6, true) }) (v := undef) rfl (by kernel_rfl) (by kernel_rfl) (by kernel_rfl) (fun _ _ _ h => h) (by kernel_rfl) (Or.inr ⟨by rfl, rfl⟩) S0 ?rest11
        try simp only [Act.put, List.setIfInBounds_toArray, List.set_cons_zero, List.set_cons_succ]
        refine' wpAnyD_take (i := 11) (oi := { dst := some 50, op := Go.Op.indexAddr 24 (Go.Operand.tmp 47) (Go.Operand.tmp 49), type := 0, pos := "ref.go:36", after := #[{ on := 8, ground := Go.Ground.data }, { on := 10, ground := Go.Ground.data }, { on := 6, ground := Go.Ground.guard }], guard := some (6, true) }) (v := undef) rfl (by kernel_rfl) (by kernel_rfl) (by kernel_rfl) (fun _ _ _ h => h) (by kernel_rfl) (Or.inr ⟨by rfl, rfl⟩) S0 ?rest12
        try simp only [Act.put, List.setIfInBounds_toArray, List.set_cons_zero, List.set_cons_succ]
        refine' wpAnyD_take (i := 12) (oi := { dst := some 51, op := Go.Op.load 43 (Go.Operand.tmp 50), type := 43, pos := "ref.go:36", after := #[{ on := 11, ground := Go.Ground.data }, { on := 6, ground := Go.Ground.guard }], guard := some (6, true) }) (v := undef) rfl (by kernel_rfl) (by kernel_rfl) (by kernel_rfl) (fun _ _ _ h => h) (by kernel_rfl) (Or.inr ⟨by rfl, rfl⟩) S0 ?rest13
        try simp only [Act.put, List.setIfInBounds_toArray, List.set_cons_zero, List.set_cons_succ]
        refine' wpAnyD_take (i := 13) (oi := { dst := some 52, op := Go.Op.call { callee := Go.Callee.value (Go.Operand.func 36), args := #[Go.Operand.tmp 46, Go.Operand.tmp 51], argTypes := #[43, 43] }, type := 4, pos := "ref.go:36", after := #[{ on := 7, ground := Go.Ground.data }, { on := 12, ground := Go.Ground.data }, { on := 6, ground := Go.Ground.chain }, { on := 6, ground := Go.Ground.guard }], guard := some (6, true) }) (v := undef) rfl (by kernel_rfl) (by kernel_rfl) (by kernel_rfl) (fun _ _ _ h => h) (by kernel_rfl) (Or.inr ⟨by rfl, rfl⟩) S0 ?rest14
        try simp only [Act.put, List.setIfInBounds_toArray, List.set_cons_zero, List.set_cons_succ]
        refine' wpAnyD_take (i := 14) (oi := { dst := some 53, op := Go.Op.unOp Go.UnOp.not 4 (Go.Operand.tmp 52), type := 4, pos := "ref.go:36", after := #[{ on := 13, ground := Go.Ground.data }, { on := 6, ground := Go.Ground.guard }], guard := some (6, true) }) (v := undef) rfl (by kernel_rfl) (by kernel_rfl) (by kernel_rfl) (fun _ _ _ h => h) (by kernel_rfl) (Or.inr ⟨by rfl, rfl⟩) S0 ?rest15
        try simp only [Act.put, List.setIfInBounds_toArray, List.set_cons_zero, List.set_cons_succ]
        refine' wpAnyD_take (i := 15) (oi := { dst := some 54, op := Go.Op.pick (Go.Operand.tmp 45) (Go.Operand.tmp 53) (Go.Operand.const (Go.Value.bool false)), type := 4, pos := "ref.go:36", after := #[{ on := 6, ground := Go.Ground.data }, { on := 14, ground := Go.Ground.data }, { on := 3, ground := Go.Ground.guard }], guard := some (3, false) }) (v := undef) rfl (by kernel_rfl) (by kernel_rfl) (by kernel_rfl) (fun _ _ _ h => h) (by kernel_rfl) (Or.inr ⟨by rfl, rfl⟩) S0 ?rest16
        try simp only [Act.put, List.setIfInBounds_toArray, List.set_cons_zero, List.set_cons_succ]
        refine' wpAnyD_take (i := 16) (oi := { dst := some 55, op := Go.Op.pick (Go.Operand.tmp 42) (Go.Operand.const (Go.Value.bool true)) (Go.Operand.tmp 54), type := 4, pos := "ref.go:36", after := #[{ on := 3, ground := Go.Ground.data }, { on := 15, ground := Go.Ground.data }], guard := none }) (v := _) rfl (by kernel_rfl) (by kernel_rfl) (by kernel_rfl) (fun _ _ _ h => h) (by kernel_rfl) (Or.inl ⟨by rfl, ?hy17⟩) S0 ?rest17
        case hy17 => (intro W hSw; (try dsimp only at hSw); obtain ⟨s1, s2, s3, s4, s5, s6⟩ := hSw; go_simp; try (with_reducible rfl))
        try simp only [Act.put, List.setIfInBounds_toArray, List.set_cons_zero, List.set_cons_succ]
        refine wpAnyD_done (by kernel_rfl) ?_ _
        go_wp2_with fail
        go_ret2
        rw [HE.out]
        exact ⟨_, rfl, World.ownsRow_nil _ _ _ _, (P5.out.gr (Gr.refl W5).drew).bl⟩
      have hqn : (c.N == 0) = false := by simpa using qn
      have HW1 : Hid (wr1 c = 0) := by show _ = _; unfold wr1; rw [if_neg HNR.out, if_neg qn]
      by_cases qk : k = 0
      · subst qk
        have HGD : Hid (bgo none (l.take (0 + 1)) = 0) := by
          show _ = _
          rw [take_at HC.out, HST.out, if_neg (by simpa using HW1.out)]
          rfl
        have S0 : W5.drew.cell? ⟨B1, 0, none⟩ = some (.int .i64 c.pl) ∧ W5.drew.cell? ⟨B1, 1, none⟩ = some (.int .u64 (c.A : Nat)) ∧ W5.drew.cell? ⟨B1, 2, none⟩ = some (.int .u64 (c.B : Nat)) ∧ W5.drew.cell? ⟨B1, 3, none⟩ = some (.int .u64 (c.C : Nat)) ∧ W5.drew.cell? ⟨B1, 4, none⟩ = some (.int .i64 c.N) ∧ B1 < W5.drew.heap.size := ⟨y0, y1, y2, y3, y4, y5⟩
        go_upto_region 8 with fail
        refine wp_regionD (S := fun W => (W.cell? ⟨B1, 0, none⟩ = some (.int .i64 c.pl) ∧ W.cell? ⟨B1, 1, none⟩ = some (.int .u64 (c.A : Nat)) ∧ W.cell? ⟨B1, 2, none⟩ = some (.int .u64 (c.B : Nat)) ∧ W.cell? ⟨B1, 3, none⟩ = some (.int .u64 (c.C : Nat)) ∧ W.cell? ⟨B1, 4, none⟩ = some (.int .i64 c.N) ∧ B1 < W.heap.size)) (D := []) hmx ?_
        refine' wpAnyD_take (i := 0) (oi := { dst := some 39, op := Go.Op.fieldAddr 43 (Go.Operand.tmp 6) 1, type := 0, pos := "ref.go:36", after := #[], guard := none }) (v := _) rfl (by kernel_rfl) (by kernel_rfl) (by kernel_rfl) (fun _ _ _ h => h) (by kernel_rfl) (Or.inl ⟨by rfl, ?hy18⟩) S0 ?rest18
        case hy18 => (intro W hSw; (try dsimp only at hSw); obtain ⟨s1, s2, s3, s4, s5, s6⟩ := hSw; go_simp; try (with_reducible rfl))
        try simp only [Act.put, List.setIfInBounds_toArray, List.set_cons_zero, List.set_cons_succ]
        refine' wpAnyD_take (i := 1) (oi := { dst := some 40, op := Go.Op.load 2 (Go.Operand.tmp 39), type := 2, pos := "ref.go:36", after := #[{ on := 0, ground := Go.Ground.data }], guard := none }) (v := _) rfl (by kernel_rfl) (by kernel_rfl) (by kernel_rfl) (fun _ _ _ h => h) (by kernel_rfl) (Or.inl ⟨by rfl, ?hy19⟩) S0 ?rest19
        case hy19 => (intro W hSw; (try dsimp only at hSw); obtain ⟨s1, s2, s3, s4, s5, s6⟩ := hSw; go_simp; try (with_reducible rfl))
        try simp only [Act.put, List.setIfInBounds_toArray, List.set_cons_zero, List.set_cons_succ]
        refine' wpAnyD_take (i := 2) (oi := { dst := some 41, op := Go.Op.binOp Go.BinOp.eql 2 (Go.Operand.tmp 40) (Go.Operand.const (Go.Value.int Go.IntKind.i64 0)) 2, type := 4, pos := "ref.go:36", after := #[{ on := 1, ground := Go.Ground.data }], guard := none }) (v := _) rfl (by kernel_rfl) (by kernel_rfl) (by kernel_rfl) (fun _ _ _ h => h) (by kernel_rfl) (Or.inl ⟨by rfl, ?hy20⟩) S0 ?rest20
        case hy20 => (intro W hSw; (try dsimp only at hSw); obtain ⟨s1, s2, s3, s4, s5, s6⟩ := hSw; go_simp; try (with_reducible rfl))
        try simp only [Act.put, List.setIfInBounds_toArray, List.set_cons_zero, List.set_cons_succ]
        refine' wpAnyD_take (i := 3) (oi := { dst := some 42, op := Go.Op.move (Go.Operand.tmp 41), type := 4, pos := "ref.go:36", after := #[{ on := 2, ground := Go.Ground.data }], guard := none }) (v := _) rfl (by kernel_rfl) (by kernel_rfl) (by kernel_rfl) (fun _ _ _ h => h) (by kernel_rfl) (Or.inl ⟨by rfl, ?hy21⟩) S0 ?rest21
        case hy21 => (intro W hSw; (try dsimp only at hSw); obtain ⟨s1, s2, s3, s4, s5, s6⟩ := hSw; go_simp; try (with_reducible rfl))
        try simp only [Act.put, List.setIfInBounds_toArray, List.set_cons_zero, List.set_cons_succ]
        refine' wpAnyD_take (i := 4) (oi := { dst := some 43, op := Go.Op.move (Go.Operand.tmp 5), type := 3, pos := "ref.go:36", after := #[{ on := 3, ground := Go.Ground.guard }], guard := some (3, false) }) (v := _) rfl (by kernel_rfl) (by kernel_rfl) (by kernel_rfl) (fun _ _ _ h => h) (by kernel_rfl) (Or.inl ⟨by rfl, ?hy22⟩) S0 ?rest22
        case hy22 => (intro W hSw; (try dsimp only at hSw); obtain ⟨s1, s2, s3, s4, s5, s6⟩ := hSw; go_simp; try (with_reducible rfl))
        try simp only [Act.put, List.setIfInBounds_toArray, List.set_cons_zero, List.set_cons_succ]
        refine' wpAnyD_take (i := 5) (oi := { dst := some 44, op := Go.Op.binOp Go.BinOp.gtr 3 (Go.Operand.tmp 43) (Go.Operand.const (Go.Value.int Go.IntKind.i64 0)) 3, type := 4, pos := "ref.go:36", after := #[{ on := 4, ground := Go.Ground.data }, { on := 3, ground := Go.Ground.guard }], guard := some (3, false) }) (v := _) rfl (by kernel_rfl) (by kernel_rfl) (by kernel_rfl) (fun _ _ _ h => h) (by kernel_rfl) (Or.inl ⟨by rfl, ?hy23⟩) S0 ?rest23
        case hy23 => (intro W hSw; (try dsimp only at hSw); obtain ⟨s1, s2, s3, s4, s5, s6⟩ := hSw; go_simp; try (with_reducible rfl))
        try simp only [Act.put, List.setIfInBounds_toArray, List.set_cons_zero, List.set_cons_succ]
        refine' wpAnyD_take (i := 6) (oi := { dst := some 45, op := Go.Op.move (Go.Operand.tmp 44), type := 4, pos := "ref.go:36", after := #[{ on := 5, ground := Go.Ground.data }, { on := 3, ground := Go.Ground.chain }, { on := 3, ground := Go.Ground.guard }], guard := some (3, false) }) (v := _) rfl (by kernel_rfl) (by kernel_rfl) (by kernel_rfl) (fun _ _ _ h => h) (by kernel_rfl) (Or.inl ⟨by rfl, ?hy24⟩) S0 ?rest24
        case hy24 => (intro W hSw; (try dsimp only at hSw); obtain ⟨s1, s2, s3, s4, s5, s6⟩ := hSw; go_simp; try (with_reducible rfl))
        try simp only [Act.put, List.setIfInBounds_toArray, List.set_cons_zero, List.set_cons_succ]
        refine' wpAnyD_take (i := 7) (oi := { dst := some 46, op := Go.Op.load 43 (Go.Operand.tmp 6), type := 43, pos := "ref.go:36", after := #[{ on := 6, ground := Go.Ground.guard }], guard := some (6, true) }) (v := undef) rfl (by kernel_rfl) (by kernel_rfl) (by kernel_rfl) (fun _ _ _ h => h) (by kernel_rfl) (Or.inr ⟨by rfl, rfl⟩) S0 ?rest25
        try simp only [Act.put, List.setIfInBounds_toArray, List.set_cons_zero, List.set_cons_succ]
        refine' wpAnyD_take (i := 8) (oi := { dst := some 47, op := Go.Op.move (Go.Operand.tmp 0), type := 24, pos := "ref.go:36", after := #[{ on := 6, ground := Go.Ground.guard }], guard := some (6, true) }) (v := undef) rfl (by kernel_rfl) (by kernel_rfl) (by kernel_rfl) (fun _ _ _ h => h) (by kernel_rfl) (Or.inr ⟨by rfl, rfl⟩) S0 ?rest26
        try simp only [Act.put, List.setIfInBounds_toArray, List.set_cons_zero, List.set_cons_succ]
        refine' wpAnyD_take (i := 9) (oi := { dst := some 48, op := Go.Op.move (Go.Operand.tmp 5), type := 3, pos := "ref.go:36", after := #[{ on := 6, ground := Go.Ground.guard }], guard := some (6, true) }) (v := undef) rfl (by kernel_rfl) (by kernel_rfl) (by kernel_rfl) (fun _ _ _ h => h) (by kernel_rfl) (Or.inr ⟨by rfl, rfl⟩) S0 ?rest27
        try simp only [Act.put, List.setIfInBounds_toArray, List.set_cons_zero, List.set_cons_succ]
        refine' wpAnyD_take (i := 10) (oi := { dst := some 49, op := Go.Op.binOp Go.BinOp.sub 3 (Go.Operand.tmp 48) (Go.Operand.const (Go.Value.int Go.IntKind.i64 1)) 3, type := 3, pos := "ref.go:36", after := #[{ on := 9, ground := Go.Ground.data }, { on := 6, ground := Go.Ground.guard }], guard := some (6, true) }) (v := undef) rfl (by kernel_rfl) (by kernel_rfl) (by kernel_rfl) (fun _ _ _ h => h) (by kernel_rfl) (Or.inr ⟨by rfl, rfl⟩) S0 ?rest28
        try simp only [Act.put, List.setIfInBounds_toArray, List.set_cons_zero, List.set_cons_succ]
        refine' wpAnyD_take (i := 11) (oi := { dst := some 50, op := Go.Op.indexAddr 24 (Go.Operand.tmp 47) (Go.Operand.tmp 49), type := 0, pos := "ref.go:36", after := #[{ on := 8, ground := Go.Ground.data }, { on := 10, ground := Go.Ground.data }, { on := 6, ground := Go.Ground.guard }], guard := some (6, true) }) (v := undef) rfl (by kernel_rfl) (by kernel_rfl) (by kernel_rfl) (fun _ _ _ h => h) (by kernel_rfl) (Or.inr ⟨by rfl, rfl⟩) S0 ?rest29
        try simp only [Act.put, List.setIfInBounds_toArray, List.set_cons_zero, List.set_cons_succ]
        refine' wpAnyD_take (i := 12) (oi := { dst := some 51, op := Go.Op.load 43 (Go.Operand.tmp 50), type := 43, pos := "ref.go:36", after := #[{ on := 11, ground := Go.Ground.data }, { on := 6, ground := Go.Ground.guard }], guard := some (6, true) }) (v := undef) rfl (by kernel_rfl) (by kernel_rfl) (by kernel_rfl) (fun _ _ _ h => h) (by kernel_rfl) (Or.inr ⟨by rfl, rfl⟩) S0 ?rest30
        try simp only [Act.put, List.setIfInBounds_toArray, List.set_cons_zero, List.set_cons_succ]
        refine' wpAnyD_take (i := 13) (oi := { dst := some 52, op := Go.Op.call { callee := Go.Callee.value (Go.Operand.func 36), args := #[Go.Operand.tmp 46, Go.Operand.tmp 51], argTypes := #[43, 43] }, type := 4, pos := "ref.go:36", after := #[{ on := 7, ground := Go.Ground.data }, { on := 12, ground := Go.Ground.data }, { on := 6, ground := Go.Ground.chain }, { on := 6, ground := Go.Ground.guard }], guard := some (6, true) }) (v := undef) rfl (by kernel_rfl) (by kernel_rfl) (by kernel_rfl) (fun _ _ _ h => h) (by kernel_rfl) (Or.inr ⟨by rfl, rfl⟩) S0 ?rest31
        try simp only [Act.put, List.setIfInBounds_toArray, List.set_cons_zero, List.set_cons_succ]
        refine' wpAnyD_take (i := 14) (oi := { dst := some 53, op := Go.Op.unOp Go.UnOp.not 4 (Go.Operand.tmp 52), type := 4, pos := "ref.go:36", after := #[{ on := 13, ground := Go.Ground.data }, { on := 6, ground := Go.Ground.guard }], guard := some (6, true) }) (v := undef) rfl (by kernel_rfl) (by kernel_rfl) (by kernel_rfl) (fun _ _ _ h => h) (by kernel_rfl) (Or.inr ⟨by rfl, rfl⟩) S0 ?rest32
        try simp only [Act.put, List.setIfInBounds_toArray, List.set_cons_zero, List.set_cons_succ]
        refine' wpAnyD_take (i := 15) (oi := { dst := some 54, op := Go.Op.pick (Go.Operand.tmp 45) (Go.Operand.tmp 53) (Go.Operand.const (Go.Value.bool false)), type := 4, pos := "ref.go:36", after := #[{ on := 6, ground := Go.Ground.data }, { on := 14, ground := Go.Ground.data }, { on := 3, ground := Go.Ground.guard }], guard := some (3, false) }) (v := _) rfl (by kernel_rfl) (by kernel_rfl) (by kernel_rfl) (fun _ _ _ h => h) (by kernel_rfl) (Or.inl ⟨by rfl, ?hy33⟩) S0 ?rest33
        case hy33 => (intro W hSw; (try dsimp only at hSw); obtain ⟨s1, s2, s3, s4, s5, s6⟩ := hSw; go_simp; try (with_reducible rfl))
        try simp only [Act.put, List.setIfInBounds_toArray, List.set_cons_zero, List.set_cons_succ]
        refine' wpAnyD_take (i := 16) (oi := { dst := some 55, op := Go.Op.pick (Go.Operand.tmp 42) (Go.Operand.const (Go.Value.bool true)) (Go.Operand.tmp 54), type := 4, pos := "ref.go:36", after := #[{ on := 3, ground := Go.Ground.data }, { on := 15, ground := Go.Ground.data }], guard := none }) (v := _) rfl (by kernel_rfl) (by kernel_rfl) (by kernel_rfl) (fun _ _ _ h => h) (by kernel_rfl) (Or.inl ⟨by rfl, ?hy34⟩) S0 ?rest34
        case hy34 => (intro W hSw; (try dsimp only at hSw); obtain ⟨s1, s2, s3, s4, s5, s6⟩ := hSw; go_simp; try (with_reducible rfl))
        try simp only [Act.put, List.setIfInBounds_toArray, List.set_cons_zero, List.set_cons_succ]
        refine wpAnyD_done (by kernel_rfl) ?_ _
        have P6 := hid (P5.out.gr (Gr.refl W5).drew)
        have HB6 : Hid (W5.drew.heap[B1]? = some (.cells #[.int .i64 c.pl, .int .u64 (c.A : Nat), .int .u64 (c.B : Nat), .int .u64 (c.C : Nat), .int .i64 c.N] 43 (0, 0))) := HB5.out
        clear S0 y0 y1 y2 y3 y4 y5
        go_wp2_with fail
        refine (rwnum0 n hn64.out _ P6.out.wt (by simp [sofar])).mono ?_
        rintro r w8 ⟨v8, rfl, ha8, ta8⟩
        have P8 := hid (P6.out.turn ha8 ta8)
        have T8 := hid ta8
        have KB8 := hid ((ta8.1.block B1 (box_at HB6.out).2.2.2.2.2 HBN.out).trans HB6.out)
        clear ha8 ta8
        have ho := c.ok
        obtain ⟨pn, hpn⟩ : ∃ pn : Nat, c.pl = pn := ⟨c.pl.toNat, by have := wr1_ok HW1.out; omega⟩
        have hpl : IntKind.u64.wrap c.pl = (pn : Int) := by have := wr1_ok HW1.out; rw [IntKind.wrap_u64]; omega
        have HPN : Hid (pn < 18446744073709551616) := by show _ < _; have := wr1_ok HW1.out; omega
        have HPE : Hid (c.pl.toNat = pn) := by show _ = _; omega
        have HF : Hid ((form pn).length ≤ 10 ∧ (form c.A).length ≤ 10 ∧ (form c.B).length ≤ 10 ∧ (form c.C).length ≤ 10) := ⟨form_ten HPN.out, form_ten ho.2.1.1, form_ten ho.2.1.2.1, form_ten ho.2.1.2.2⟩
        have HO := hid ho
        obtain ⟨M, hM⟩ : ∃ M, sofar n 0 l ++ form n = M := ⟨_, rfl⟩
        have HM := hid hM
        have HML : Hid (M.length ≤ 50 * n + 20) := by
          show _ ≤ _
          rw [← hM]
          have h1 := HSO.out 0 HI.out.1
          have h2 := HFN.out
          (try simp only [List.length_append])
          omega
        have PM := hid P8.out
        rw [hM] at PM
        clear ho hpn hM
        obtain ⟨y0, y1, y2, y3, y4, y5⟩ := box_at KB8.out
        go_wp2_with fail
        refine (rwnum0 (pn) HPN.out _ PM.out.wt (by have h2 := HML.out; have h3 := HLL.out; omega)).mono ?_
        rintro r wa1 ⟨va1, rfl, ha1, ta1⟩
        have PA1 := hid (PM.out.turn ha1 ta1)
        have TA1 := hid (T8.out.trans ta1)
        have KA1 := hid ((TA1.out.1.block B1 (box_at HB6.out).2.2.2.2.2 HBN.out).trans HB6.out)
        clear ha1 ta1 y0 y1 y2 y3 y4 y5
        obtain ⟨y0, y1, y2, y3, y4, y5⟩ := box_at KA1.out
        go_wp2_with fail
        refine (rwnum0 (c.A) HO.out.2.1.1 _ PA1.out.wt (by simp only [List.length_append]; have h1 := HF.out; have h2 := HML.out; have h3 := HLL.out; omega)).mono ?_
        rintro r wa2 ⟨va2, rfl, ha2, ta2⟩
        have PA2 := hid (PA1.out.turn ha2 ta2)
        have TA2 := hid (TA1.out.trans ta2)
        have KA2 := hid ((TA2.out.1.block B1 (box_at HB6.out).2.2.2.2.2 HBN.out).trans HB6.out)
        clear ha2 ta2 y0 y1 y2 y3 y4 y5
        obtain ⟨y0, y1, y2, y3, y4, y5⟩ := box_at KA2.out
        go_wp2_with fail
        refine (rwnum0 (c.B) HO.out.2.1.2.1 _ PA2.out.wt (by simp only [List.length_append]; have h1 := HF.out; have h2 := HML.out; have h3 := HLL.out; omega)).mono ?_
        rintro r wa3 ⟨va3, rfl, ha3, ta3⟩
        have PA3 := hid (PA2.out.turn ha3 ta3)
        have TA3 := hid (TA2.out.trans ta3)
        have KA3 := hid ((TA3.out.1.block B1 (box_at HB6.out).2.2.2.2.2 HBN.out).trans HB6.out)
        clear ha3 ta3 y0 y1 y2 y3 y4 y5
        obtain ⟨y0, y1, y2, y3, y4, y5⟩ := box_at KA3.out
        go_wp2_with fail
        refine (rwnum0 (c.C) HO.out.2.1.2.2 _ PA3.out.wt (by simp only [List.length_append]; have h1 := HF.out; have h2 := HML.out; have h3 := HLL.out; omega)).mono ?_
        rintro r wa4 ⟨va4, rfl, ha4, ta4⟩
        have PA4 := hid (PA3.out.turn ha4 ta4)
        have TA4 := hid (TA3.out.trans ta4)
        have KA4 := hid ((TA4.out.1.block B1 (box_at HB6.out).2.2.2.2.2 HBN.out).trans HB6.out)
        clear ha4 ta4 y0 y1 y2 y3 y4 y5
        obtain ⟨y0, y1, y2, y3, y4, y5⟩ := box_at KA4.out
        go_wp2_with fail
        refine (rwint0 c.N HO.out.2.2.1 HO.out.2.2.2 _ PA4.out.wt (by simp only [List.length_append]; have h1 := HF.out; have h2 := HML.out; have h3 := HLL.out; omega)).mono ?_
        rintro r wa5 ⟨va5, rfl, ha5, ta5⟩
        have PA5 := hid (PA4.out.turn ha5 ta5)
        have TA5 := hid (TA4.out.trans ta5)
        have KA5 := hid ((TA5.out.1.block B1 (box_at HB6.out).2.2.2.2.2 HBN.out).trans HB6.out)
        clear ha5 ta5 y0 y1 y2 y3 y4 y5
        have hnb := hnz.out
        have hwk : wrap64 ((0 : Int) + 1) = ((0 + 1 : Nat) : Int) := by unfold wrap64; omega
        go_wp2_with fail
        go_roundw
        case rel =>
          refine ⟨0 + 1, va5, by omega, by first | go_num | rw [hwk] | rfl, HGD.out, ?_⟩
          have h5 := PA5.out
          have e : sofar n (0 + 1) l = M ++ fc c := by
            rw [← HM.out]
            unfold sofar
            rw [if_neg (show ¬ 0 + 1 = 0 by omega), take_at HC.out, List.flatMap_append, if_pos rfl]
            simp
          rw [e]
          unfold fc
          rw [HPE.out]
          simpa only [List.append_assoc] using h5
        case measure =>
          (try rw [hwk])
          simp [RowKit.intOf]
          omega
      · obtain ⟨j, hj⟩ : ∃ j, k - 1 = j := ⟨_, rfl⟩
        obtain ⟨d, hd⟩ : ∃ d, l[j]? = some d := ⟨l[j]'(by rw [HN.out]; omega), by simp⟩
        have hkz : ¬ (k : Int) = 0 := by omega
        have hkN : 0 < k := by omega
        have hkp : (0 : Int) < (k : Int) := by omega
        have hkq : ((k : Int) == 0) = false := by simpa using hkz
        have hz1 : IntKind.i64.wrap ((k : Int) - 1) = (j : Int) := by have := hnz.out; rw [IntKind.wrap_i64]; omega
        have hz2 : (0 : Int) ≤ (j : Int) := by omega
        have hz3 : (j : Int) < (n : Int) := by omega
        obtain ⟨b2, o2, c2, e2, z2, x0, x1, x2, x3, x4⟩ := ls_atC (HL.out.below P5.out.bl) hd
        simp only [Value.slice.injEq, Option.some.injEq, Addr.mk.injEq] at e2
        obtain ⟨⟨rfl, rfl, -⟩, -, rfl⟩ := e2
        obtain ⟨o, ho⟩ : ∃ o, off + j * 5 = o := ⟨_, rfl⟩
        rw [ho] at x0 x1 x2 x3 x4
        have HLast : Hid ((l.take k).getLast? = some d) := by
          show _ = _
          have e : k = j + 1 := by omega
          rw [e, take_at hd]
          simp
        have hrb := fun W => rbehind_any c d W
        have S0 : (W5.drew.cell? ⟨B1, 0, none⟩ = some (.int .i64 c.pl) ∧ W5.drew.cell? ⟨B1, 1, none⟩ = some (.int .u64 (c.A : Nat)) ∧ W5.drew.cell? ⟨B1, 2, none⟩ = some (.int .u64 (c.B : Nat)) ∧ W5.drew.cell? ⟨B1, 3, none⟩ = some (.int .u64 (c.C : Nat)) ∧ W5.drew.cell? ⟨B1, 4, none⟩ = some (.int .i64 c.N) ∧ B1 < W5.drew.heap.size) ∧ W5.drew.cell? ⟨b, o, none⟩ = some (.int .i64 d.pl) ∧ W5.drew.cell? ⟨b, o + 1, none⟩ = some (.int .u64 (d.A : Nat)) ∧ W5.drew.cell? ⟨b, o + 2, none⟩ = some (.int .u64 (d.B : Nat)) ∧ W5.drew.cell? ⟨b, o + 3, none⟩ = some (.int .u64 (d.C : Nat)) ∧ W5.drew.cell? ⟨b, o + 4, none⟩ = some (.int .i64 d.N) ∧ b < W5.drew.heap.size := ⟨⟨y0, y1, y2, y3, y4, y5⟩, x0, x1, x2, x3, x4, z2⟩
        clear hd x0 x1 x2 x3 x4 z2
        go_upto_region 8 with fail
        clear y0 y1 y2 y3 y4 y5
        refine wp_regionD (S := fun W => ((W.cell? ⟨B1, 0, none⟩ = some (.int .i64 c.pl) ∧ W.cell? ⟨B1, 1, none⟩ = some (.int .u64 (c.A : Nat)) ∧ W.cell? ⟨B1, 2, none⟩ = some (.int .u64 (c.B : Nat)) ∧ W.cell? ⟨B1, 3, none⟩ = some (.int .u64 (c.C : Nat)) ∧ W.cell? ⟨B1, 4, none⟩ = some (.int .i64 c.N) ∧ B1 < W.heap.size) ∧ W.cell? ⟨b, o, none⟩ = some (.int .i64 d.pl) ∧ W.cell? ⟨b, o + 1, none⟩ = some (.int .u64 (d.A : Nat)) ∧ W.cell? ⟨b, o + 2, none⟩ = some (.int .u64 (d.B : Nat)) ∧ W.cell? ⟨b, o + 3, none⟩ = some (.int .u64 (d.C : Nat)) ∧ W.cell? ⟨b, o + 4, none⟩ = some (.int .i64 d.N) ∧ b < W.heap.size)) (D := []) hmx ?_
        refine' wpAnyD_take (i := 0) (oi := { dst := some 39, op := Go.Op.fieldAddr 43 (Go.Operand.tmp 6) 1, type := 0, pos := "ref.go:36", after := #[], guard := none }) (v := _) rfl (by kernel_rfl) (by kernel_rfl) (by kernel_rfl) (fun _ _ _ h => h) (by kernel_rfl) (Or.inl ⟨by rfl, ?hy35⟩) S0 ?rest35
        case hy35 => (intro W hSw; (try dsimp only at hSw); obtain ⟨⟨s1, s2, s3, s4, s5, s6⟩, r1, r2, r3, r4, r5, r6⟩ := hSw; go_simp; (try rw [ho]); try (with_reducible rfl))
        try simp only [Act.put, List.setIfInBounds_toArray, List.set_cons_zero, List.set_cons_succ]
        refine' wpAnyD_take (i := 1) (oi := { dst := some 40, op := Go.Op.load 2 (Go.Operand.tmp 39), type := 2, pos := "ref.go:36", after := #[{ on := 0, ground := Go.Ground.data }], guard := none }) (v := _) rfl (by kernel_rfl) (by kernel_rfl) (by kernel_rfl) (fun _ _ _ h => h) (by kernel_rfl) (Or.inl ⟨by rfl, ?hy36⟩) S0 ?rest36
        case hy36 => (intro W hSw; (try dsimp only at hSw); obtain ⟨⟨s1, s2, s3, s4, s5, s6⟩, r1, r2, r3, r4, r5, r6⟩ := hSw; go_simp; (try rw [ho]); try (with_reducible rfl))
        try simp only [Act.put, List.setIfInBounds_toArray, List.set_cons_zero, List.set_cons_succ]
        refine' wpAnyD_take (i := 2) (oi := { dst := some 41, op := Go.Op.binOp Go.BinOp.eql 2 (Go.Operand.tmp 40) (Go.Operand.const (Go.Value.int Go.IntKind.i64 0)) 2, type := 4, pos := "ref.go:36", after := #[{ on := 1, ground := Go.Ground.data }], guard := none }) (v := _) rfl (by kernel_rfl) (by kernel_rfl) (by kernel_rfl) (fun _ _ _ h => h) (by kernel_rfl) (Or.inl ⟨by rfl, ?hy37⟩) S0 ?rest37
        case hy37 => (intro W hSw; (try dsimp only at hSw); obtain ⟨⟨s1, s2, s3, s4, s5, s6⟩, r1, r2, r3, r4, r5, r6⟩ := hSw; go_simp; (try rw [ho]); try (with_reducible rfl))
        try simp only [Act.put, List.setIfInBounds_toArray, List.set_cons_zero, List.set_cons_succ]
        refine' wpAnyD_take (i := 3) (oi := { dst := some 42, op := Go.Op.move (Go.Operand.tmp 41), type := 4, pos := "ref.go:36", after := #[{ on := 2, ground := Go.Ground.data }], guard := none }) (v := _) rfl (by kernel_rfl) (by kernel_rfl) (by kernel_rfl) (fun _ _ _ h => h) (by kernel_rfl) (Or.inl ⟨by rfl, ?hy38⟩) S0 ?rest38
        case hy38 => (intro W hSw; (try dsimp only at hSw); obtain ⟨⟨s1, s2, s3, s4, s5, s6⟩, r1, r2, r3, r4, r5, r6⟩ := hSw; go_simp; (try rw [ho]); try (with_reducible rfl))
        try simp only [Act.put, List.setIfInBounds_toArray, List.set_cons_zero, List.set_cons_succ]
        refine' wpAnyD_take (i := 4) (oi := { dst := some 43, op := Go.Op.move (Go.Operand.tmp 5), type := 3, pos := "ref.go:36", after := #[{ on := 3, ground := Go.Ground.guard }], guard := some (3, false) }) (v := _) rfl (by kernel_rfl) (by kernel_rfl) (by kernel_rfl) (fun _ _ _ h => h) (by kernel_rfl) (Or.inl ⟨by rfl, ?hy39⟩) S0 ?rest39
        case hy39 => (intro W hSw; (try dsimp only at hSw); obtain ⟨⟨s1, s2, s3, s4, s5, s6⟩, r1, r2, r3, r4, r5, r6⟩ := hSw; go_simp; (try rw [ho]); try (with_reducible rfl))
        try simp only [Act.put, List.setIfInBounds_toArray, List.set_cons_zero, List.set_cons_succ]
        refine' wpAnyD_take (i := 5) (oi := { dst := some 44, op := Go.Op.binOp Go.BinOp.gtr 3 (Go.Operand.tmp 43) (Go.Operand.const (Go.Value.int Go.IntKind.i64 0)) 3, type := 4, pos := "ref.go:36", after := #[{ on := 4, ground := Go.Ground.data }, { on := 3, ground := Go.Ground.guard }], guard := some (3, false) }) (v := _) rfl (by kernel_rfl) (by kernel_rfl) (by kernel_rfl) (fun _ _ _ h => h) (by kernel_rfl) (Or.inl ⟨by rfl, ?hy40⟩) S0 ?rest40
        case hy40 => (intro W hSw; (try dsimp only at hSw); obtain ⟨⟨s1, s2, s3, s4, s5, s6⟩, r1, r2, r3, r4, r5, r6⟩ := hSw; go_simp; (try rw [ho]); try (with_reducible rfl))
        try simp only [Act.put, List.setIfInBounds_toArray, List.set_cons_zero, List.set_cons_succ]
        refine' wpAnyD_take (i := 6) (oi := { dst := some 45, op := Go.Op.move (Go.Operand.tmp 44), type := 4, pos := "ref.go:36", after := #[{ on := 5, ground := Go.Ground.data }, { on := 3, ground := Go.Ground.chain }, { on := 3, ground := Go.Ground.guard }], guard := some (3, false) }) (v := _) rfl (by kernel_rfl) (by kernel_rfl) (by kernel_rfl) (fun _ _ _ h => h) (by kernel_rfl) (Or.inl ⟨by rfl, ?hy41⟩) S0 ?rest41
        case hy41 => (intro W hSw; (try dsimp only at hSw); obtain ⟨⟨s1, s2, s3, s4, s5, s6⟩, r1, r2, r3, r4, r5, r6⟩ := hSw; go_simp; (try rw [ho]); try (with_reducible rfl))
        try simp only [Act.put, List.setIfInBounds_toArray, List.set_cons_zero, List.set_cons_succ]
        refine' wpAnyD_take (i := 7) (oi := { dst := some 46, op := Go.Op.load 43 (Go.Operand.tmp 6), type := 43, pos := "ref.go:36", after := #[{ on := 6, ground := Go.Ground.guard }], guard := some (6, true) }) (v := _) rfl (by kernel_rfl) (by kernel_rfl) (by kernel_rfl) (fun _ _ _ h => h) (by kernel_rfl) (Or.inl ⟨by rfl, ?hy42⟩) S0 ?rest42
        case hy42 => (intro W hSw; (try dsimp only at hSw); obtain ⟨⟨s1, s2, s3, s4, s5, s6⟩, r1, r2, r3, r4, r5, r6⟩ := hSw; go_simp; (try rw [ho]); try (with_reducible rfl))
        try simp only [Act.put, List.setIfInBounds_toArray, List.set_cons_zero, List.set_cons_succ]
        refine' wpAnyD_take (i := 8) (oi := { dst := some 47, op := Go.Op.move (Go.Operand.tmp 0), type := 24, pos := "ref.go:36", after := #[{ on := 6, ground := Go.Ground.guard }], guard := some (6, true) }) (v := _) rfl (by kernel_rfl) (by kernel_rfl) (by kernel_rfl) (fun _ _ _ h => h) (by kernel_rfl) (Or.inl ⟨by rfl, ?hy43⟩) S0 ?rest43
        case hy43 => (intro W hSw; (try dsimp only at hSw); obtain ⟨⟨s1, s2, s3, s4, s5, s6⟩, r1, r2, r3, r4, r5, r6⟩ := hSw; go_simp; (try rw [ho]); try (with_reducible rfl))
        try simp only [Act.put, List.setIfInBounds_toArray, List.set_cons_zero, List.set_cons_succ]
        refine' wpAnyD_take (i := 9) (oi := { dst := some 48, op := Go.Op.move (Go.Operand.tmp 5), type := 3, pos := "ref.go:36", after := #[{ on := 6, ground := Go.Ground.guard }], guard := some (6, true) }) (v := _) rfl (by kernel_rfl) (by kernel_rfl) (by kernel_rfl) (fun _ _ _ h => h) (by kernel_rfl) (Or.inl ⟨by rfl, ?hy44⟩) S0 ?rest44
        case hy44 => (intro W hSw; (try dsimp only at hSw); obtain ⟨⟨s1, s2, s3, s4, s5, s6⟩, r1, r2, r3, r4, r5, r6⟩ := hSw; go_simp; (try rw [ho]); try (with_reducible rfl))
        try simp only [Act.put, List.setIfInBounds_toArray, List.set_cons_zero, List.set_cons_succ]
        refine' wpAnyD_take (i := 10) (oi := { dst := some 49, op := Go.Op.binOp Go.BinOp.sub 3 (Go.Operand.tmp 48) (Go.Operand.const (Go.Value.int Go.IntKind.i64 1)) 3, type := 3, pos := "ref.go:36", after := #[{ on := 9, ground := Go.Ground.data }, { on := 6, ground := Go.Ground.guard }], guard := some (6, true) }) (v := _) rfl (by kernel_rfl) (by kernel_rfl) (by kernel_rfl) (fun _ _ _ h => h) (by kernel_rfl) (Or.inl ⟨by rfl, ?hy45⟩) S0 ?rest45
        case hy45 => (intro W hSw; (try dsimp only at hSw); obtain ⟨⟨s1, s2, s3, s4, s5, s6⟩, r1, r2, r3, r4, r5, r6⟩ := hSw; go_simp; (try rw [ho]); try (with_reducible rfl))
        try simp only [Act.put, List.setIfInBounds_toArray, List.set_cons_zero, List.set_cons_succ]
        refine' wpAnyD_take (i := 11) (oi := { dst := some 50, op := Go.Op.indexAddr 24 (Go.Operand.tmp 47) (Go.Operand.tmp 49), type := 0, pos := "ref.go:36", after := #[{ on := 8, ground := Go.Ground.data }, { on := 10, ground := Go.Ground.data }, { on := 6, ground := Go.Ground.guard }], guard := some (6, true) }) (v := _) rfl (by kernel_rfl) (by kernel_rfl) (by kernel_rfl) (fun _ _ _ h => h) (by kernel_rfl) (Or.inl ⟨by rfl, ?hy46⟩) S0 ?rest46
        case hy46 => (intro W hSw; (try dsimp only at hSw); obtain ⟨⟨s1, s2, s3, s4, s5, s6⟩, r1, r2, r3, r4, r5, r6⟩ := hSw; go_simp; (try rw [ho]); try (with_reducible rfl))
        try simp only [Act.put, List.setIfInBounds_toArray, List.set_cons_zero, List.set_cons_succ]
        refine' wpAnyD_take (i := 12) (oi := { dst := some 51, op := Go.Op.load 43 (Go.Operand.tmp 50), type := 43, pos := "ref.go:36", after := #[{ on := 11, ground := Go.Ground.data }, { on := 6, ground := Go.Ground.guard }], guard := some (6, true) }) (v := _) rfl (by kernel_rfl) (by kernel_rfl) (by kernel_rfl) (fun _ _ _ h => h) (by kernel_rfl) (Or.inl ⟨by rfl, ?hy47⟩) S0 ?rest47
        case hy47 => (intro W hSw; (try dsimp only at hSw); obtain ⟨⟨s1, s2, s3, s4, s5, s6⟩, r1, r2, r3, r4, r5, r6⟩ := hSw; go_simp; (try rw [ho]); try (with_reducible rfl))
        try simp only [Act.put, List.setIfInBounds_toArray, List.set_cons_zero, List.set_cons_succ]
        refine wpAnyD_one (i := 13) (o := { dst := some 52, op := Go.Op.call { callee := Go.Callee.value (Go.Operand.func 36), args := #[Go.Operand.tmp 46, Go.Operand.tmp 51], argTypes := #[43, 43] }, type := 4, pos := "ref.go:36", after := #[{ on := 7, ground := Go.Ground.data }, { on := 12, ground := Go.Ground.data }, { on := 6, ground := Go.Ground.chain }, { on := 6, ground := Go.Ground.guard }], guard := some (6, true) }) (by kernel_rfl) rfl (fun K hK => ?_)
        rw [if_pos (by kernel_rfl)]
        go_simp
        refine (hrb _).mono ?_
        rintro e w9 ⟨rfl, g9⟩
        have G9 := hid ((Gr.refl W5).drew.trans g9)
        have S9 : (w9.cell? ⟨B1, 0, none⟩ = some (.int .i64 c.pl) ∧ w9.cell? ⟨B1, 1, none⟩ = some (.int .u64 (c.A : Nat)) ∧ w9.cell? ⟨B1, 2, none⟩ = some (.int .u64 (c.B : Nat)) ∧ w9.cell? ⟨B1, 3, none⟩ = some (.int .u64 (c.C : Nat)) ∧ w9.cell? ⟨B1, 4, none⟩ = some (.int .i64 c.N) ∧ B1 < w9.heap.size) ∧ w9.cell? ⟨b, o, none⟩ = some (.int .i64 d.pl) ∧ w9.cell? ⟨b, o + 1, none⟩ = some (.int .u64 (d.A : Nat)) ∧ w9.cell? ⟨b, o + 2, none⟩ = some (.int .u64 (d.B : Nat)) ∧ w9.cell? ⟨b, o + 3, none⟩ = some (.int .u64 (d.C : Nat)) ∧ w9.cell? ⟨b, o + 4, none⟩ = some (.int .i64 d.N) ∧ b < w9.heap.size := by
          obtain ⟨⟨s1, s2, s3, s4, s5, s6⟩, r1, r2, r3, r4, r5, r6⟩ := S0
          exact ⟨⟨(g9.cell s6).trans s1, (g9.cell s6).trans s2, (g9.cell s6).trans s3, (g9.cell s6).trans s4, (g9.cell s6).trans s5, Nat.lt_of_lt_of_le s6 g9.size⟩, (g9.cell r6).trans r1, (g9.cell r6).trans r2, (g9.cell r6).trans r3, (g9.cell r6).trans r4, (g9.cell r6).trans r5, Nat.lt_of_lt_of_le r6 g9.size⟩
        dsimp only
        refine hK.out _ _ (fun hD => S9) ?_
        clear hK K
        try simp only [Act.put, List.setIfInBounds_toArray, List.set_cons_zero, List.set_cons_succ]
        refine wpAnyD_one (i := 14) (o := { dst := some 53, op := Go.Op.unOp Go.UnOp.not 4 (Go.Operand.tmp 52), type := 4, pos := "ref.go:36", after := #[{ on := 13, ground := Go.Ground.data }, { on := 6, ground := Go.Ground.guard }], guard := some (6, true) }) (by kernel_rfl) rfl (fun K hK => ?_)
        rw [if_pos (by kernel_rfl)]
        go_simp
        refine hK.out _ _ (fun hD => S9) ?_
        clear hK K
        try simp only [Act.put, List.setIfInBounds_toArray, List.set_cons_zero, List.set_cons_succ]
        refine wpAnyD_one (i := 15) (o := { dst := some 54, op := Go.Op.pick (Go.Operand.tmp 45) (Go.Operand.tmp 53) (Go.Operand.const (Go.Value.bool false)), type := 4, pos := "ref.go:36", after := #[{ on := 6, ground := Go.Ground.data }, { on := 14, ground := Go.Ground.data }, { on := 3, ground := Go.Ground.guard }], guard := some (3, false) }) (by kernel_rfl) rfl (fun K hK => ?_)
        rw [if_pos (by kernel_rfl)]
        go_simp
        refine hK.out _ _ (fun hD => S9) ?_
        clear hK K
        try simp only [Act.put, List.setIfInBounds_toArray, List.set_cons_zero, List.set_cons_succ]
        refine wpAnyD_one (i := 16) (o := { dst := some 55, op := Go.Op.pick (Go.Operand.tmp 42) (Go.Operand.const (Go.Value.bool true)) (Go.Operand.tmp 54), type := 4, pos := "ref.go:36", after := #[{ on := 3, ground := Go.Ground.data }, { on := 15, ground := Go.Ground.data }], guard := none }) (by kernel_rfl) rfl (fun K hK => ?_)
        rw [if_pos (by kernel_rfl)]
        go_simp
        refine hK.out _ _ (fun hD => S9) ?_
        clear hK K
        try simp only [Act.put, List.setIfInBounds_toArray, List.set_cons_zero, List.set_cons_succ]
        refine wpAnyD_done (by kernel_rfl) ?_ _
        have P6 := hid (P5.out.gr G9.out)
        have HB6 := hid ((G9.out.below.block B1 (box_at HB5.out).2.2.2.2.2).trans HB5.out)
        clear S0 S9
        by_cases hbh : lt4 d c
        · have HGD : Hid (bgo none (l.take (k + 1)) = 0) := by
            show _ = _
            rw [take_at HC.out, HST.out, if_neg (by simpa using HW1.out), HLast.out]
            show (if decide (lt4 d c) = false then 31 else 0) = 0
            rw [decide_eq_true hbh]
            rfl
          rw [decide_eq_true hbh]
          have hbt := hid hbh
          clear hbh
          have ho := c.ok
          obtain ⟨pn, hpn⟩ : ∃ pn : Nat, c.pl = pn := ⟨c.pl.toNat, by have := wr1_ok HW1.out; omega⟩
          have hpl : IntKind.u64.wrap c.pl = (pn : Int) := by have := wr1_ok HW1.out; rw [IntKind.wrap_u64]; omega
          have HPN : Hid (pn < 18446744073709551616) := by show _ < _; have := wr1_ok HW1.out; omega
          have HPE : Hid (c.pl.toNat = pn) := by show _ = _; omega
          have HF : Hid ((form pn).length ≤ 10 ∧ (form c.A).length ≤ 10 ∧ (form c.B).length ≤ 10 ∧ (form c.C).length ≤ 10) := ⟨form_ten HPN.out, form_ten ho.2.1.1, form_ten ho.2.1.2.1, form_ten ho.2.1.2.2⟩
          have HO := hid ho
          obtain ⟨M, hM⟩ : ∃ M, sofar n k l = M := ⟨_, rfl⟩
          have HM := hid hM
          have HML : Hid (M.length ≤ 50 * n + 20) := by
            show _ ≤ _
            rw [← hM]
            have h1 := HSO.out k HI.out.1
            have h2 := HFN.out
            (try simp only [List.length_append])
            omega
          have PM := hid P6.out
          rw [hM] at PM
          clear ho hpn hM
          obtain ⟨y0, y1, y2, y3, y4, y5⟩ := box_at HB6.out
          go_wp2_with fail
          refine (rwnum0 (pn) HPN.out _ PM.out.wt (by have h2 := HML.out; have h3 := HLL.out; omega)).mono ?_
          rintro r wa1 ⟨va1, rfl, ha1, ta1⟩
          have PA1 := hid (PM.out.turn ha1 ta1)
          have TA1 := hid (ta1)
          have KA1 := hid ((TA1.out.1.block B1 (box_at HB6.out).2.2.2.2.2 HBN.out).trans HB6.out)
          clear ha1 ta1 y0 y1 y2 y3 y4 y5
          obtain ⟨y0, y1, y2, y3, y4, y5⟩ := box_at KA1.out
          go_wp2_with fail
          refine (rwnum0 (c.A) HO.out.2.1.1 _ PA1.out.wt (by simp only [List.length_append]; have h1 := HF.out; have h2 := HML.out; have h3 := HLL.out; omega)).mono ?_
          rintro r wa2 ⟨va2, rfl, ha2, ta2⟩
          have PA2 := hid (PA1.out.turn ha2 ta2)
          have TA2 := hid (TA1.out.trans ta2)
          have KA2 := hid ((TA2.out.1.block B1 (box_at HB6.out).2.2.2.2.2 HBN.out).trans HB6.out)
          clear ha2 ta2 y0 y1 y2 y3 y4 y5
          obtain ⟨y0, y1, y2, y3, y4, y5⟩ := box_at KA2.out
          go_wp2_with fail
          refine (rwnum0 (c.B) HO.out.2.1.2.1 _ PA2.out.wt (by simp only [List.length_append]; have h1 := HF.out; have h2 := HML.out; have h3 := HLL.out; omega)).mono ?_
          rintro r wa3 ⟨va3, rfl, ha3, ta3⟩
          have PA3 := hid (PA2.out.turn ha3 ta3)
          have TA3 := hid (TA2.out.trans ta3)
          have KA3 := hid ((TA3.out.1.block B1 (box_at HB6.out).2.2.2.2.2 HBN.out).trans HB6.out)
          clear ha3 ta3 y0 y1 y2 y3 y4 y5
          obtain ⟨y0, y1, y2, y3, y4, y5⟩ := box_at KA3.out
          go_wp2_with fail
          refine (rwnum0 (c.C) HO.out.2.1.2.2 _ PA3.out.wt (by simp only [List.length_append]; have h1 := HF.out; have h2 := HML.out; have h3 := HLL.out; omega)).mono ?_
          rintro r wa4 ⟨va4, rfl, ha4, ta4⟩
          have PA4 := hid (PA3.out.turn ha4 ta4)
          have TA4 := hid (TA3.out.trans ta4)
          have KA4 := hid ((TA4.out.1.block B1 (box_at HB6.out).2.2.2.2.2 HBN.out).trans HB6.out)
          clear ha4 ta4 y0 y1 y2 y3 y4 y5
          obtain ⟨y0, y1, y2, y3, y4, y5⟩ := box_at KA4.out
          go_wp2_with fail
          refine (rwint0 c.N HO.out.2.2.1 HO.out.2.2.2 _ PA4.out.wt (by simp only [List.length_append]; have h1 := HF.out; have h2 := HML.out; have h3 := HLL.out; omega)).mono ?_
          rintro r wa5 ⟨va5, rfl, ha5, ta5⟩
          have PA5 := hid (PA4.out.turn ha5 ta5)
          have TA5 := hid (TA4.out.trans ta5)
          have KA5 := hid ((TA5.out.1.block B1 (box_at HB6.out).2.2.2.2.2 HBN.out).trans HB6.out)
          clear ha5 ta5 y0 y1 y2 y3 y4 y5
          clear hz1 hz2 hz3 hj ho hrb hkN hkp hkq hkz hqn hpl
          have hnb := hnz.out
          have hwk : wrap64 ((k : Int) + 1) = ((k + 1 : Nat) : Int) := by unfold wrap64; omega
          go_wp2_with fail
          go_roundw
          case rel =>
            refine ⟨k + 1, va5, by omega, by first | go_num | rw [hwk] | rfl, HGD.out, ?_⟩
            have h5 := PA5.out
            have e : sofar n (k + 1) l = M ++ fc c := by
              rw [← HM.out]
              unfold sofar
              rw [if_neg (show ¬ k + 1 = 0 by omega), take_at HC.out, List.flatMap_append, if_neg qk]
              simp
            rw [e]
            unfold fc
            rw [HPE.out]
            simpa only [List.append_assoc] using h5
          case measure =>
            (try rw [hwk])
            simp [RowKit.intOf]
            omega
        · have HE : Hid (bput l = ([], 31)) := by
            show _ = _
            have h1 := HST.out
            rw [if_neg (by simpa using HW1.out), HLast.out, show bh (some d) c = false from decide_eq_false hbh, if_pos rfl] at h1
            have h2 := bgo_stop HC.out (by rw [h1]; decide)
            unfold bput
            rw [h2, h1, if_neg (by decide)]
          rw [decide_eq_false hbh]
          go_wp2_with fail
          go_ret2
          rw [HE.out]
          exact ⟨_, rfl, World.ownsRow_nil _ _ _ _, P6.out.bl⟩
    · have hltz : ¬ (k : Int) < (n : Int) := by omega
      have HTK : Hid (l.take k = l) := List.take_of_length_le (by rw [HN.out]; omega)
      have HE : Hid (bput l = (sofar n k l, 0)) := by
        show _ = _
        have h1 := HI.out.1
        rw [HTK.out] at h1
        unfold bput sofar bts
        rw [if_pos h1, HTK.out]
        by_cases h0 : l = []
        · have hk0 : k = 0 := by have := HN.out; rw [h0] at this; simp at this; omega
          rw [if_pos h0, if_pos hk0]
        · have hk0 : ¬ k = 0 := fun e => h0 (List.eq_nil_of_length_eq_zero (by rw [HN.out]; omega))
          rw [if_neg h0, if_neg hk0, HN.out]
      have x0 := HI.out.2.wt.c0
      have xl := HI.out.2.wt.lt
      go_wp2_with fail
      go_ret2
      rw [HE.out]
      exact ⟨_, rfl, owns_hi HI.out.2.wt.own HI.out.2.ow, HI.out.2.bl⟩
end Go.Proofs.YtghofmhlmkpkcaaDoor.Wi
