import Derived.Test.YtghofmhlmkpkcaaDoorBBeh
namespace Go.Proofs.YtghofmhlmkpkcaaDoor.Wi
open Go.RowKit Go.Sort
attribute [local go_sem ↓] Go.wp_at_zero Go.wp_at_succ
/-- While a list is put: the writer and what it holds. -/
structure Pf (w wr : World) (wb : Nat) (v1 : Value) (M : List UInt8) : Prop where
  wt : Wr wr wb v1 M 0
  bl : Below w.heap.size w wr
  nb : w.heap.size ≤ wb
  ow : ∀ g, v1.ownBlock = some g → w.heap.size ≤ g
section
variable {w wr : World} {wb : Nat} {v1 : Value} {M : List UInt8}
theorem Pf.gr (h : Pf w wr wb v1 M) {w2 : World} (hg : Gr wr w2) : Pf w w2 wb v1 M := ⟨h.wt.gr hg, h.bl.trans (hg.below.mono h.bl.size), h.nb, h.ow⟩
theorem Pf.turn (h : Pf w wr wb v1 M) {w2 : World} {v2 : Value} {M2 : List UInt8} (hw : Wr w2 wb v2 M2 0) (ht : Turn wb v1 v2 wr w2) : Pf w w2 wb v2 M2 :=
  ⟨hw, h.bl.trans (ht.1.below h.bl.size (fun k hk => hk.elim (fun e => e ▸ h.nb) (h.ow k))), h.nb, fun g hg => (ht.2 g hg).elim (h.ow g) (Nat.le_trans h.bl.size)⟩
end
theorem bgo_take {l : List Cx} {k : Nat} (h : bgo none l = 0) : bgo none (l.take k) = 0 := by
  by_cases h1 : bgo none (l.take k) = 0
  · exact h1
  · exfalso
    have := bgo_append_ne (l.take k) (l.drop k) none h1
    rw [List.take_append_drop, h] at this
    exact h1 this.symm
theorem take_at {l : List Cx} {k : Nat} {c : Cx} (h : l[k]? = some c) : l.take (k + 1) = l.take k ++ [c] := by rw [List.take_add_one, h]; rfl
/-- Where the first wrong one stands. -/
theorem bgo_stop {l : List Cx} {k : Nat} {c : Cx} (h : l[k]? = some c) (hn : bgo none (l.take k ++ [c]) ≠ 0) : bgo none l = bgo none (l.take k ++ [c]) := by
  have := bgo_append_ne (l.take k ++ [c]) (l.drop (k + 1)) none hn
  rwa [← take_at h, List.take_append_drop, take_at h] at this
set_option maxHeartbeats 8000000 in
set_option maxRecDepth 100000 in
theorem put_any {v : Value} {l : List Cx} (w : World) (hL : Ls EC w v l) (hcap : ∀ p n c, v = .slice p n c → n ≤ c) (hl : 50 * l.length + 100 ≤ 140737488355328) :
    Calls Tryd.prog 9 #[v] w fun e w' => ∃ d, e = .returned (.tuple #[d, .int .i64 ((bput l).2 : Nat)]) ∧ w'.ownsRow w.heap.size 5 1 d (bput l).1.length (fl EB (bput l).1) ∧ Below w.heap.size w w' := by
  have hmx : Tryd.prog.follows .mixedOrders = true := by kernel_rfl
  by_cases h0 : l = []
  · subst h0
    obtain ⟨pv, cv, rfl⟩ := hL.form
    clear hL hcap
    go_enter Tryd.func9, Tryd.ntmps9
    go_wp2_with fail
    go_ret2
    exact ⟨_, rfl, World.ownsRow_nil _ _ _ _, Below.refl _ _⟩
  obtain ⟨n, hn⟩ : ∃ n, l.length = n := ⟨_, rfl⟩
  have hn0 : 0 < n := by
    rcases Nat.eq_zero_or_pos n with h | h
    · exact absurd (List.eq_nil_of_length_eq_zero (hn.trans h)) h0
    · exact h
  obtain ⟨b, off, cv, rfl⟩ : ∃ b off cv, v = .slice (some ⟨b, off, none⟩) l.length cv := by
    rcases hL with ⟨h, _⟩ | ⟨b, off, cv, hv, _⟩
    · exact absurd h h0
    · exact ⟨b, off, cv, hv⟩
  have hcv := hcap _ _ _ rfl
  rw [hn] at hcv hl ⊢
  have hz0 : ¬ (n : Int) = 0 := by omega
  have hzw : IntKind.u64.wrap (n : Int) = (n : Int) := by rw [IntKind.wrap_u64]; omega
  have HL : Hid (Ls EC w (.slice (some ⟨b, off, none⟩) n cv) l) := by rw [← hn]; exact hL
  have HN := hid hn
  have HNE := hid h0
  have HLL := hid hl
  have hn64 : Hid (n < 18446744073709551616) := by show _ < _; omega
  have HFN : Hid ((form n).length ≤ 10) := form_ten (v := n) (by omega)
  have hcz : Hid (n ≤ cv) := hcv
  have hnz : Hid (n < 4611686018427387904) := by show _ < _; omega
  have HFS : Hid (∀ k, bgo none (l.take k) = 0 → ((l.take k).flatMap fc).length ≤ 50 * n) := fun k h => by
    have h1 := fcs_le (l.take k) none h
    have h2 : (l.take k).length ≤ n := by rw [List.length_take]; omega
    omega
  clear hL hcap hn h0 hl hcv
  go_enter Tryd.func9, Tryd.ntmps9
  go_wp2_with fail
  refine (newwriter_any _).mono ?_
  rintro r w1 ⟨wb, rfl, hge, hW, hg⟩
  have P1 : Hid (Pf w w1 wb (.slice none 0 0) []) := ⟨hW, hg.below, hge, by simp [Value.ownBlock]⟩
  clear hge hW hg
  go_wp2_with fail
  refine (wnum0 n hn64.out _ P1.out.wt (by simp)).mono ?_
  rintro r w2 ⟨v2, rfl, hW2, t2⟩
  have P2 := hid (P1.out.turn hW2 t2)
  clear hW2 t2
  go_wp2_with fail
  go_loopw [19] (fun s19 wr => ∃ (k : Nat) (v1 : Value), k ≤ n ∧ s19 = .int .i64 k ∧ Hid (bgo none (l.take k) = 0 ∧ Pf w wr wb v1 (form n ++ (l.take k).flatMap fc))) (fun s19 _ => n - (RowKit.intOf s19).toNat)
  case atStart => exact ⟨0, v2, Nat.zero_le _, rfl, rfl, by simpa using P2.out⟩
  case round =>
    obtain ⟨k, v1, hk, rfl, HI⟩ := hrel
    by_cases hlt : k < n
    · have hltz : (k : Int) < (n : Int) := by omega
      obtain ⟨c, hc⟩ : ∃ c, l[k]? = some c := ⟨l[k]'(by rw [HN.out]; exact hlt), by simp⟩
      have hLr : Ls EC wr (.slice (some ⟨b, off, none⟩) n cv) l := HL.out.below HI.out.2.bl
      obtain ⟨b1, o1, c1, e1, z1, x0, x1, x2, x3, x4⟩ := ls_atC hLr hc
      simp only [Value.slice.injEq, Option.some.injEq, Addr.mk.injEq] at e1
      obtain ⟨⟨rfl, rfl, -⟩, -, rfl⟩ := e1
      have HC := hid hc
      have hkz : Hid (k ≤ cv) := Nat.le_trans hk hcz.out
      obtain ⟨W5, hW5⟩ : ∃ W5, W5 = wr.alloc (.cells #[.int .i64 c.pl, .int .u64 (c.A : Nat), .int .u64 (c.B : Nat), .int .u64 (c.C : Nat), .int .i64 c.N] 43) := ⟨_, rfl⟩
      obtain ⟨B1, hB1⟩ : ∃ B1, B1 = wr.heap.size := ⟨_, rfl⟩
      have G5 : Gr wr W5 := by rw [hW5]; exact (Gr.refl _).alloc _
      have hb5 : W5.heap[B1]? = some (.cells #[.int .i64 c.pl, .int .u64 (c.A : Nat), .int .u64 (c.B : Nat), .int .u64 (c.C : Nat), .int .i64 c.N] 43 (0, 0)) := by rw [hW5, hB1]; exact heap_new' _ _
      have P5 := hid (HI.out.2.gr G5)
      have HB5 := hid hb5
      obtain ⟨y0, y1, y2, y3, y4, y5⟩ := box_at hb5
      clear hc hLr hb5 G5
      go_wp2_with fail
      rw [← hW5, ← hB1]
      clear hW5 hB1 x0 x1 x2 x3 x4 z1
      refine (wrong_any c _).mono ?_
      rintro r w6 ⟨rfl, g6⟩
      have P6 := hid (P5.out.gr g6)
      have HB6 := hid ((g6.below.block B1 y5).trans HB5.out)
      clear y0 y1 y2 y3 y4 y5 g6
      obtain ⟨y0, y1, y2, y3, y4, y5⟩ := box_at HB6.out
      have HST := hid (bgo_step (l.take k) c HI.out.1)
      by_cases hw : wr1 c = 0
      · rw [hw]
        have S0 : w6.drew.cell? ⟨B1, 0, none⟩ = some (.int .i64 c.pl) ∧ w6.drew.cell? ⟨B1, 1, none⟩ = some (.int .u64 (c.A : Nat)) ∧ w6.drew.cell? ⟨B1, 2, none⟩ = some (.int .u64 (c.B : Nat)) ∧ w6.drew.cell? ⟨B1, 3, none⟩ = some (.int .u64 (c.C : Nat)) ∧ w6.drew.cell? ⟨B1, 4, none⟩ = some (.int .i64 c.N) ∧ B1 < w6.drew.heap.size := ⟨y0, y1, y2, y3, y4, y5⟩
        have HLk : Hid (Ls EC w (.slice (some ⟨b, off, none⟩) k cv) (l.take k)) := HL.out.cut (by rw [HN.out]; exact hk) cv
        have hklen : Hid ((l.take k).length < 4611686018427387904) := by show _ < _; rw [List.length_take]; have := hnz.out; omega
        have hkc : (0 : Int) ≤ (k : Int) ∧ (k : Int) ≤ (cv : Int) := by have := hkz.out; omega
        obtain ⟨hk0, hkc⟩ := hkc
        clear y0 y1 y2 y3 y4 y5
        go_upto_region 11 with fail
        refine wp_regionD (S := fun W => (W.cell? ⟨B1, 0, none⟩ = some (.int .i64 c.pl) ∧ W.cell? ⟨B1, 1, none⟩ = some (.int .u64 (c.A : Nat)) ∧ W.cell? ⟨B1, 2, none⟩ = some (.int .u64 (c.B : Nat)) ∧ W.cell? ⟨B1, 3, none⟩ = some (.int .u64 (c.C : Nat)) ∧ W.cell? ⟨B1, 4, none⟩ = some (.int .i64 c.N) ∧ B1 < W.heap.size)) (D := []) hmx ?_
        refine' wpAnyD_take (i := 0) (oi := { dst := some 29, op := Go.Op.load 43 (Go.Operand.tmp 6), type := 43, pos := "batch.go:26", after := #[], guard := none }) (v := _) rfl (by kernel_rfl) (by kernel_rfl) (by kernel_rfl) (fun _ _ _ h => h) (by kernel_rfl) (Or.inl ⟨by rfl, ?hy1⟩) S0 ?rest1
        case hy1 => (intro W hSw; (try dsimp only at hSw); obtain ⟨s1, s2, s3, s4, s5, s6⟩ := hSw; go_simp; try (with_reducible rfl))
        try simp only [Act.put, List.setIfInBounds_toArray, List.set_cons_zero, List.set_cons_succ]
        refine' wpAnyD_take (i := 1) (oi := { dst := some 30, op := Go.Op.move (Go.Operand.tmp 0), type := 24, pos := "batch.go:26", after := #[], guard := none }) (v := _) rfl (by kernel_rfl) (by kernel_rfl) (by kernel_rfl) (fun _ _ _ h => h) (by kernel_rfl) (Or.inl ⟨by rfl, ?hy2⟩) S0 ?rest2
        case hy2 => (intro W hSw; (try dsimp only at hSw); obtain ⟨s1, s2, s3, s4, s5, s6⟩ := hSw; go_simp; try (with_reducible rfl))
        try simp only [Act.put, List.setIfInBounds_toArray, List.set_cons_zero, List.set_cons_succ]
        refine' wpAnyD_take (i := 2) (oi := { dst := some 31, op := Go.Op.move (Go.Operand.tmp 5), type := 3, pos := "batch.go:26", after := #[], guard := none }) (v := _) rfl (by kernel_rfl) (by kernel_rfl) (by kernel_rfl) (fun _ _ _ h => h) (by kernel_rfl) (Or.inl ⟨by rfl, ?hy3⟩) S0 ?rest3
        case hy3 => (intro W hSw; (try dsimp only at hSw); obtain ⟨s1, s2, s3, s4, s5, s6⟩ := hSw; go_simp; try (with_reducible rfl))
        try simp only [Act.put, List.setIfInBounds_toArray, List.set_cons_zero, List.set_cons_succ]
        refine' wpAnyD_take (i := 3) (oi := { dst := some 32, op := Go.Op.slice 24 (Go.Operand.tmp 30) none (some (Go.Operand.tmp 31)) none, type := 24, pos := "batch.go:26", after := #[{ on := 1, ground := Go.Ground.data }, { on := 2, ground := Go.Ground.data }], guard := none }) (v := _) rfl (by kernel_rfl) (by kernel_rfl) (by kernel_rfl) (fun _ _ _ h => h) (by kernel_rfl) (Or.inl ⟨by rfl, ?hy4⟩) S0 ?rest4
        case hy4 => (intro W hSw; (try dsimp only at hSw); obtain ⟨s1, s2, s3, s4, s5, s6⟩ := hSw; go_simp; try (with_reducible rfl))
        try simp only [Act.put, List.setIfInBounds_toArray, List.set_cons_zero, List.set_cons_succ]
        refine wpAnyD_one (i := 4) (o := { dst := some 33, op := Go.Op.call { callee := Go.Callee.value (Go.Operand.func 30), args := #[Go.Operand.tmp 29, Go.Operand.tmp 32], argTypes := #[43, 24] }, type := 4, pos := "batch.go:26", after := #[{ on := 0, ground := Go.Ground.data }, { on := 3, ground := Go.Ground.data }], guard := none }) (by kernel_rfl) rfl (fun K hK => ?_)
        rw [if_pos (by kernel_rfl)]
        go_simp
        refine (behind_any c w6.drew (HLk.out.below (P6.out.gr (Gr.refl w6).drew).bl) hklen.out).mono ?_
        rintro e w9 ⟨rfl, g9⟩
        have P9 := hid (P6.out.gr ((Gr.refl w6).drew.trans g9))
        have HB9 := hid ((g9.below.block B1 S0.2.2.2.2.2).trans HB6.out)
        have S9 : w9.cell? ⟨B1, 0, none⟩ = some (.int .i64 c.pl) ∧ w9.cell? ⟨B1, 1, none⟩ = some (.int .u64 (c.A : Nat)) ∧ w9.cell? ⟨B1, 2, none⟩ = some (.int .u64 (c.B : Nat)) ∧ w9.cell? ⟨B1, 3, none⟩ = some (.int .u64 (c.C : Nat)) ∧ w9.cell? ⟨B1, 4, none⟩ = some (.int .i64 c.N) ∧ B1 < w9.heap.size := box_at HB9.out
        dsimp only
        refine hK.out _ _ (fun hD => S9) ?_
        clear hK K
        try simp only [Act.put, List.setIfInBounds_toArray, List.set_cons_zero, List.set_cons_succ]
        refine wpAnyD_one (i := 5) (o := { dst := some 34, op := Go.Op.unOp Go.UnOp.not 4 (Go.Operand.tmp 33), type := 4, pos := "batch.go:26", after := #[{ on := 4, ground := Go.Ground.data }], guard := none }) (by kernel_rfl) rfl (fun K hK => ?_)
        rw [if_pos (by kernel_rfl)]
        go_simp
        refine hK.out _ _ (fun hD => S9) ?_
        clear hK K
        try simp only [Act.put, List.setIfInBounds_toArray, List.set_cons_zero, List.set_cons_succ]
        refine wpAnyD_done (by kernel_rfl) ?_ _
        obtain ⟨y0, y1, y2, y3, y4, y5⟩ := S9
        clear S0
        cases hbh : bh (l.take k).getLast? c
        · have HE : Hid (bput l = ([], 31)) := by
            show _ = _
            have h1 := HST.out
            rw [if_neg (by simpa using hw), hbh, if_pos rfl] at h1
            have h2 := bgo_stop HC.out (by rw [h1]; decide)
            unfold bput
            rw [h2, h1, if_neg (by decide)]
          go_wp2_with fail
          go_ret2
          rw [HE.out]
          exact ⟨_, rfl, World.ownsRow_nil _ _ _ _, P9.out.bl⟩
        · have HE : Hid (bgo none (l.take (k + 1)) = 0) := by
            show _ = _
            rw [take_at HC.out, HST.out, if_neg (by simpa using hw), hbh, if_neg (by decide)]
          go_wp2_with fail
          refine (lay_any c hw _ P9.out.wt (by
            rw [List.length_append]
            have := HFS.out k HI.out.1
            have := HFN.out
            have := HLL.out
            omega)).mono ?_
          rintro r w10 ⟨v10, rfl, hW10, t10⟩
          have P10 := hid (P9.out.turn hW10 t10)
          clear hW10 t10
          have hnb := hnz.out
          have hwk : wrap64 ((k : Int) + 1) = ((k + 1 : Nat) : Int) := by unfold wrap64; omega
          go_wp2_with fail
          go_roundw
          case rel =>
            refine ⟨k + 1, v10, by omega, by first | go_num | rw [hwk] | rfl, HE.out, ?_⟩
            have := P10.out
            rw [take_at HC.out, List.flatMap_append]
            simpa using this
          case measure =>
            (try rw [hwk])
            simp [RowKit.intOf]
            omega
      · obtain ⟨wc, hwc⟩ : ∃ wc, wr1 c = wc := ⟨_, rfl⟩
        have HE : Hid (bput l = ([], wc)) := by
          show _ = _
          have h1 := HST.out
          rw [if_pos hw] at h1
          have h2 := bgo_stop HC.out (by rw [h1]; exact hw)
          unfold bput
          rw [h2, h1, if_neg hw, hwc]
        rw [hwc] at hw ⊢
        have hwz : ¬ (wc : Int) = 0 := by omega
        go_wp2_with fail
        go_ret2
        rw [HE.out]
        exact ⟨_, rfl, World.ownsRow_nil _ _ _ _, P6.out.bl⟩
    · have hltz : ¬ (k : Int) < (n : Int) := by omega
      have hke : k = n := by omega
      have HTK : Hid (l.take k = l) := List.take_of_length_le (by rw [HN.out]; omega)
      have HE : Hid (bput l = (form n ++ l.flatMap fc, 0)) := by
        show _ = _
        have h1 := HI.out.1
        rw [HTK.out] at h1
        unfold bput
        rw [if_pos h1, bts_ne HNE.out, HN.out]
      go_wp2_with fail
      refine (wdata_any _ HI.out.2.wt (by
        rw [List.length_append]
        have := HFS.out k HI.out.1
        have := HFN.out
        have := HLL.out
        omega)).mono ?_
      rintro r w10 ⟨d, rfl, hd, b10⟩
      have HD := hid hd
      have HB10 := hid b10
      clear hd b10
      go_wp2_with fail
      go_ret2
      rw [HE.out]
      have hd := HD.out
      rw [HTK.out] at hd
      exact ⟨d, rfl, owns_base hd HI.out.2.bl.size, HI.out.2.bl.trans (HB10.out.mono HI.out.2.bl.size)⟩
end Go.Proofs.YtghofmhlmkpkcaaDoor.Wi
