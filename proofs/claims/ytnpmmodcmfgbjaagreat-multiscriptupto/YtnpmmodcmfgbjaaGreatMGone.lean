import Derived.Test.YtnpmmodcmfgbjaaGreatMRnw
import Derived.Test.YtnpmmodcmfgbjaaGreatLHold
import Derived.Deep.QuietTactic
import Derived.Deep.Cut
import Derived.BigQuiet
namespace Go.Proofs.YtnpmmodcmfgbjaaGreat
open Go.RowKit Go.Sort Go.Maps
open Tt (Tl byd byd_f byd_t)
attribute [local go_sem ↓] Go.wp_at_zero Go.wp_at_succ
theorem hidN {p : Prop} (h : p) : Hid p := h
set_option maxHeartbeats 2000000 in
theorem gone_any {B Bg mb tb b g n : Nat} {vg : Value} {f : Tm → Int} {G : List Tm} (x : Tm) (w : World) (hB : w.cell? ⟨B, 0, none⟩ = some (.pointer (some ⟨mb, 0, none⟩))) (hm : w.cell? ⟨mb, 0, none⟩ = some (.pointer (some ⟨tb, 0, none⟩))) (hg : w.cell? ⟨Bg, 0, none⟩ = some vg) (hBl : B < w.heap.size) (hml : mb < w.heap.size) (hgl : Bg < w.heap.size) (ht : Tl w tb b g n f) (hl : Lst w vg G) (hlen : G.length ≤ maxLen) :
    Calls Tryz.prog 66 #[tv x, .pointer (some ⟨B, 0, none⟩), .pointer (some ⟨Bg, 0, none⟩)] w fun e w' => e = .returned (.bool (decide (f x ≤ 0) || !ccov bel G x)) ∧ Gr w w' := by
  have hmx : Tryz.prog.follows .mixedOrders = true := by kernel_rfl
  obtain ⟨W1, hW1⟩ : ∃ W1, W1 = w.alloc (.cells #[.int .u64 x.1.1, .int .u64 x.1.2.1, .int .u64 x.1.2.2] 37) := ⟨_, rfl⟩
  obtain ⟨nb, hnb⟩ : ∃ nb, nb = w.heap.size := ⟨_, rfl⟩
  have G1 : Gr w W1 := by rw [hW1]; exact (Gr.refl _).alloc _
  have HG := hidN G1
  have hco : ∀ W, Gr W1 W → Calls Tryz.prog 33 #[cv tb, tv x] W fun e w' => e = .returned (.int .i64 (f x)) ∧ Gr W w' := fun W h => mcount_any x W (ht.gr (G1.trans h))
  have hop : ∀ W, Gr W1 W → Calls Tryz.prog 67 #[vg, tv x] W fun e w' => e = .returned (.bool (ccov bel G x)) ∧ Gr W w' := fun W h => sopen_any vg G x W (hl.below (G1.trans h).below) hlen
  have hblk : W1.heap[nb]? = some (.cells #[.int .u64 x.1.1, .int .u64 x.1.2.1, .int .u64 x.1.2.2] 37 (0, 0)) := by rw [hW1, hnb]; exact heap_new' _ _
  have c1 := (G1.cell (o := 0) hBl).trans hB
  have c2 := (G1.cell (o := 0) hml).trans hm
  have c3 := (G1.cell (o := 0) hgl).trans hg
  have z1 := Nat.lt_of_lt_of_le hBl G1.size
  have z2 := Nat.lt_of_lt_of_le hml G1.size
  have z3 := Nat.lt_of_lt_of_le hgl G1.size
  have z4 := (Array.getElem?_eq_some_iff.1 hblk).1
  have c4 : W1.cell? ⟨nb, 0, none⟩ = some (.int .u64 x.1.1) := by simp only [World.cell?]; rw [hblk]; rfl
  have c5 : W1.cell? ⟨nb, 1, none⟩ = some (.int .u64 x.1.2.1) := by simp only [World.cell?]; rw [hblk]; rfl
  have c6 : W1.cell? ⟨nb, 2, none⟩ = some (.int .u64 x.1.2.2) := by simp only [World.cell?]; rw [hblk]; rfl
  obtain ⟨pg, cg, rfl⟩ := hl.form
  generalize f x = c at hco ⊢
  generalize ccov bel G x = r at hop ⊢
  generalize hR : (decide (c ≤ 0) || !r) = R
  clear ht hblk hl hlen
  have S9 : Gr W1 W1.drew := (Gr.refl _).drew
  go_enter Tryz.func66, Tryz.ntmps66
  go_upto_region 1 with fail
  rw [← hW1, ← hnb]
  clear hW1 hnb hB hm hBl hml G1 hg hgl
  by_cases h0 : c ≤ 0
  · obtain rfl : R = true := by rw [← hR, decide_eq_true h0]; rfl
    clear hR
    refine wp_regionD (S := fun W => Gr W1 W) (D := []) hmx ?_
    refine' wpAnyD_take (i := 0) (oi := { dst := some 5, op := Go.Op.load 24 (Go.Operand.tmp 1), type := 24, pos := "multi.go:94", after := #[], guard := none }) (v := _) rfl (by kernel_rfl) (by kernel_rfl) (by kernel_rfl) (fun _ _ _ h => h) (by kernel_rfl) (Or.inl ⟨by rfl, ?hy1⟩) S9 ?rest1
    case hy1 => (intro W hSw; (try dsimp only at hSw); have k1 := (hSw.cell z1).trans c1; have k2 := (hSw.cell z2).trans c2; have k3 := (hSw.cell z3).trans c3; have k4 := (hSw.cell z4).trans c4; have k5 := (hSw.cell z4).trans c5; have k6 := (hSw.cell z4).trans c6; have y1 := Nat.lt_of_lt_of_le z1 hSw.size; have y2 := Nat.lt_of_lt_of_le z2 hSw.size; have y3 := Nat.lt_of_lt_of_le z3 hSw.size; have y4 := Nat.lt_of_lt_of_le z4 hSw.size; go_simp; try (with_reducible rfl))
    try simp only [Act.put, List.setIfInBounds_toArray, List.set_cons_zero, List.set_cons_succ]
    refine' wpAnyD_take (i := 1) (oi := { dst := some 6, op := Go.Op.nilCheck (Go.Operand.tmp 5), type := 0, pos := "multi.go:94", after := #[{ on := 0, ground := Go.Ground.data }], guard := none }) (v := _) rfl (by kernel_rfl) (by kernel_rfl) (by kernel_rfl) (fun _ _ _ h => h) (by kernel_rfl) (Or.inl ⟨by rfl, ?hy2⟩) S9 ?rest2
    case hy2 => (intro W hSw; (try dsimp only at hSw); have k1 := (hSw.cell z1).trans c1; have k2 := (hSw.cell z2).trans c2; have k3 := (hSw.cell z3).trans c3; have k4 := (hSw.cell z4).trans c4; have k5 := (hSw.cell z4).trans c5; have k6 := (hSw.cell z4).trans c6; have y1 := Nat.lt_of_lt_of_le z1 hSw.size; have y2 := Nat.lt_of_lt_of_le z2 hSw.size; have y3 := Nat.lt_of_lt_of_le z3 hSw.size; have y4 := Nat.lt_of_lt_of_le z4 hSw.size; go_simp; try (with_reducible rfl))
    try simp only [Act.put, List.setIfInBounds_toArray, List.set_cons_zero, List.set_cons_succ]
    refine' wpAnyD_take (i := 2) (oi := { dst := some 7, op := Go.Op.fieldAddr 65 (Go.Operand.tmp 6) 0, type := 0, pos := "multi.go:94", after := #[{ on := 1, ground := Go.Ground.data }], guard := none }) (v := _) rfl (by kernel_rfl) (by kernel_rfl) (by kernel_rfl) (fun _ _ _ h => h) (by kernel_rfl) (Or.inl ⟨by rfl, ?hy3⟩) S9 ?rest3
    case hy3 => (intro W hSw; (try dsimp only at hSw); have k1 := (hSw.cell z1).trans c1; have k2 := (hSw.cell z2).trans c2; have k3 := (hSw.cell z3).trans c3; have k4 := (hSw.cell z4).trans c4; have k5 := (hSw.cell z4).trans c5; have k6 := (hSw.cell z4).trans c6; have y1 := Nat.lt_of_lt_of_le z1 hSw.size; have y2 := Nat.lt_of_lt_of_le z2 hSw.size; have y3 := Nat.lt_of_lt_of_le z3 hSw.size; have y4 := Nat.lt_of_lt_of_le z4 hSw.size; go_simp; try (with_reducible rfl))
    try simp only [Act.put, List.setIfInBounds_toArray, List.set_cons_zero, List.set_cons_succ]
    refine' wpAnyD_take (i := 3) (oi := { dst := some 8, op := Go.Op.load 60 (Go.Operand.tmp 7), type := 60, pos := "multi.go:94", after := #[{ on := 2, ground := Go.Ground.data }], guard := none }) (v := _) rfl (by kernel_rfl) (by kernel_rfl) (by kernel_rfl) (fun _ _ _ h => h) (by kernel_rfl) (Or.inl ⟨by rfl, ?hy4⟩) S9 ?rest4
    case hy4 => (intro W hSw; (try dsimp only at hSw); have k1 := (hSw.cell z1).trans c1; have k2 := (hSw.cell z2).trans c2; have k3 := (hSw.cell z3).trans c3; have k4 := (hSw.cell z4).trans c4; have k5 := (hSw.cell z4).trans c5; have k6 := (hSw.cell z4).trans c6; have y1 := Nat.lt_of_lt_of_le z1 hSw.size; have y2 := Nat.lt_of_lt_of_le z2 hSw.size; have y3 := Nat.lt_of_lt_of_le z3 hSw.size; have y4 := Nat.lt_of_lt_of_le z4 hSw.size; go_simp; try (with_reducible rfl))
    try simp only [Act.put, List.setIfInBounds_toArray, List.set_cons_zero, List.set_cons_succ]
    refine' wpAnyD_take (i := 4) (oi := { dst := some 9, op := Go.Op.load 37 (Go.Operand.tmp 3), type := 37, pos := "multi.go:94", after := #[], guard := none }) (v := _) rfl (by kernel_rfl) (by kernel_rfl) (by kernel_rfl) (fun _ _ _ h => h) (by kernel_rfl) (Or.inl ⟨by rfl, ?hy5⟩) S9 ?rest5
    case hy5 => (intro W hSw; (try dsimp only at hSw); have k1 := (hSw.cell z1).trans c1; have k2 := (hSw.cell z2).trans c2; have k3 := (hSw.cell z3).trans c3; have k4 := (hSw.cell z4).trans c4; have k5 := (hSw.cell z4).trans c5; have k6 := (hSw.cell z4).trans c6; have y1 := Nat.lt_of_lt_of_le z1 hSw.size; have y2 := Nat.lt_of_lt_of_le z2 hSw.size; have y3 := Nat.lt_of_lt_of_le z3 hSw.size; have y4 := Nat.lt_of_lt_of_le z4 hSw.size; go_simp; try (with_reducible rfl))
    try simp only [Act.put, List.setIfInBounds_toArray, List.set_cons_zero, List.set_cons_succ]
    refine wpAnyD_one (i := 5) (o := { dst := some 10, op := Go.Op.call { callee := Go.Callee.value (Go.Operand.func 33), args := #[Go.Operand.tmp 8, Go.Operand.tmp 9], argTypes := #[60, 37] }, type := 2, pos := "multi.go:94", after := #[{ on := 3, ground := Go.Ground.data }, { on := 4, ground := Go.Ground.data }], guard := none }) (by kernel_rfl) rfl (fun K hK => ?_)
    go_simp
    refine (hco _ S9).mono ?_
    rintro e w8 ⟨rfl, g8⟩
    have S8 : Gr W1 w8 := S9.trans g8
    go_wp2_with fail
    refine hK.out _ _ (fun hD => S8) ?_
    clear hK K
    try simp only [Act.put, List.setIfInBounds_toArray, List.set_cons_zero, List.set_cons_succ]
    refine' wpAnyD_take (i := 6) (oi := { dst := some 11, op := Go.Op.binOp Go.BinOp.leq 2 (Go.Operand.tmp 10) (Go.Operand.const (Go.Value.int Go.IntKind.i64 0)) 2, type := 4, pos := "multi.go:94", after := #[{ on := 5, ground := Go.Ground.data }], guard := none }) (v := _) rfl (by kernel_rfl) (by kernel_rfl) (by kernel_rfl) (fun _ _ _ h => h) (by kernel_rfl) (Or.inl ⟨by rfl, ?hy7⟩) S8 ?rest7
    case hy7 => (intro W hSw; (try dsimp only at hSw); have k1 := (hSw.cell z1).trans c1; have k2 := (hSw.cell z2).trans c2; have k3 := (hSw.cell z3).trans c3; have k4 := (hSw.cell z4).trans c4; have k5 := (hSw.cell z4).trans c5; have k6 := (hSw.cell z4).trans c6; have y1 := Nat.lt_of_lt_of_le z1 hSw.size; have y2 := Nat.lt_of_lt_of_le z2 hSw.size; have y3 := Nat.lt_of_lt_of_le z3 hSw.size; have y4 := Nat.lt_of_lt_of_le z4 hSw.size; go_simp; (try rw [HE0.out]); try (with_reducible rfl))
    try simp only [Act.put, List.setIfInBounds_toArray, List.set_cons_zero, List.set_cons_succ]
    refine' wpAnyD_take (i := 7) (oi := { dst := some 12, op := Go.Op.move (Go.Operand.tmp 11), type := 4, pos := "multi.go:94", after := #[{ on := 6, ground := Go.Ground.data }, { on := 5, ground := Go.Ground.chain }], guard := none }) (v := _) rfl (by kernel_rfl) (by kernel_rfl) (by kernel_rfl) (fun _ _ _ h => h) (by kernel_rfl) (Or.inl ⟨by rfl, ?hy8⟩) S8 ?rest8
    case hy8 => (intro W hSw; (try dsimp only at hSw); have k1 := (hSw.cell z1).trans c1; have k2 := (hSw.cell z2).trans c2; have k3 := (hSw.cell z3).trans c3; have k4 := (hSw.cell z4).trans c4; have k5 := (hSw.cell z4).trans c5; have k6 := (hSw.cell z4).trans c6; have y1 := Nat.lt_of_lt_of_le z1 hSw.size; have y2 := Nat.lt_of_lt_of_le z2 hSw.size; have y3 := Nat.lt_of_lt_of_le z3 hSw.size; have y4 := Nat.lt_of_lt_of_le z4 hSw.size; go_simp; try (with_reducible rfl))
    try simp only [Act.put, List.setIfInBounds_toArray, List.set_cons_zero, List.set_cons_succ]
    refine' wpAnyD_take (i := 8) (oi := { dst := some 13, op := Go.Op.load 42 (Go.Operand.tmp 2), type := 42, pos := "multi.go:94", after := #[{ on := 7, ground := Go.Ground.guard }], guard := some (7, false) }) (v := undef) rfl (by kernel_rfl) (by kernel_rfl) (by kernel_rfl) (fun _ _ _ h => h) (by kernel_rfl) (Or.inr ⟨by rfl, rfl⟩) S8 ?rest9
    try simp only [Act.put, List.setIfInBounds_toArray, List.set_cons_zero, List.set_cons_succ]
    refine' wpAnyD_take (i := 9) (oi := { dst := some 14, op := Go.Op.load 37 (Go.Operand.tmp 3), type := 37, pos := "multi.go:94", after := #[{ on := 7, ground := Go.Ground.guard }], guard := some (7, false) }) (v := undef) rfl (by kernel_rfl) (by kernel_rfl) (by kernel_rfl) (fun _ _ _ h => h) (by kernel_rfl) (Or.inr ⟨by rfl, rfl⟩) S8 ?rest10
    try simp only [Act.put, List.setIfInBounds_toArray, List.set_cons_zero, List.set_cons_succ]
    refine' wpAnyD_take (i := 10) (oi := { dst := some 15, op := Go.Op.call { callee := Go.Callee.value (Go.Operand.func 67), args := #[Go.Operand.tmp 13, Go.Operand.tmp 14], argTypes := #[42, 37] }, type := 4, pos := "multi.go:94", after := #[{ on := 8, ground := Go.Ground.data }, { on := 9, ground := Go.Ground.data }, { on := 7, ground := Go.Ground.chain }, { on := 7, ground := Go.Ground.guard }], guard := some (7, false) }) (v := undef) rfl (by kernel_rfl) (by kernel_rfl) (by kernel_rfl) (fun _ _ _ h => h) (by kernel_rfl) (Or.inr ⟨by rfl, rfl⟩) S8 ?rest11
    try simp only [Act.put, List.setIfInBounds_toArray, List.set_cons_zero, List.set_cons_succ]
    refine' wpAnyD_take (i := 11) (oi := { dst := some 16, op := Go.Op.unOp Go.UnOp.not 4 (Go.Operand.tmp 15), type := 4, pos := "multi.go:94", after := #[{ on := 10, ground := Go.Ground.data }, { on := 7, ground := Go.Ground.guard }], guard := some (7, false) }) (v := undef) rfl (by kernel_rfl) (by kernel_rfl) (by kernel_rfl) (fun _ _ _ h => h) (by kernel_rfl) (Or.inr ⟨by rfl, rfl⟩) S8 ?rest12
    try simp only [Act.put, List.setIfInBounds_toArray, List.set_cons_zero, List.set_cons_succ]
    refine' wpAnyD_take (i := 12) (oi := { dst := some 17, op := Go.Op.pick (Go.Operand.tmp 12) (Go.Operand.const (Go.Value.bool true)) (Go.Operand.tmp 16), type := 4, pos := "multi.go:94", after := #[{ on := 7, ground := Go.Ground.data }, { on := 11, ground := Go.Ground.data }], guard := none }) (v := _) rfl (by kernel_rfl) (by kernel_rfl) (by kernel_rfl) (fun _ _ _ h => h) (by kernel_rfl) (Or.inl ⟨by rfl, ?hy13⟩) S8 ?rest13
    case hy13 => (intro W hSw; (try dsimp only at hSw); have k1 := (hSw.cell z1).trans c1; have k2 := (hSw.cell z2).trans c2; have k3 := (hSw.cell z3).trans c3; have k4 := (hSw.cell z4).trans c4; have k5 := (hSw.cell z4).trans c5; have k6 := (hSw.cell z4).trans c6; have y1 := Nat.lt_of_lt_of_le z1 hSw.size; have y2 := Nat.lt_of_lt_of_le z2 hSw.size; have y3 := Nat.lt_of_lt_of_le z3 hSw.size; have y4 := Nat.lt_of_lt_of_le z4 hSw.size; go_simp; try (with_reducible rfl))
    try simp only [Act.put, List.setIfInBounds_toArray, List.set_cons_zero, List.set_cons_succ]
    refine' wpAnyD_take (i := 13) (oi := { dst := some 4, op := Go.Op.assign (Go.Operand.tmp 17), type := 4, pos := "multi.go:94", after := #[{ on := 12, ground := Go.Ground.data }, { on := 10, ground := Go.Ground.chain }, { on := 0, ground := Go.Ground.phase }, { on := 1, ground := Go.Ground.phase }, { on := 2, ground := Go.Ground.phase }, { on := 3, ground := Go.Ground.phase }, { on := 4, ground := Go.Ground.phase }, { on := 5, ground := Go.Ground.phase }, { on := 6, ground := Go.Ground.phase }, { on := 7, ground := Go.Ground.phase }, { on := 8, ground := Go.Ground.phase }, { on := 9, ground := Go.Ground.phase }, { on := 10, ground := Go.Ground.phase }, { on := 11, ground := Go.Ground.phase }, { on := 12, ground := Go.Ground.phase }], guard := none }) (v := _) rfl (by kernel_rfl) (by kernel_rfl) (by kernel_rfl) (fun _ _ _ h => h) (by kernel_rfl) (Or.inl ⟨by rfl, ?hy14⟩) S8 ?rest14
    case hy14 => (intro W hSw; (try dsimp only at hSw); have k1 := (hSw.cell z1).trans c1; have k2 := (hSw.cell z2).trans c2; have k3 := (hSw.cell z3).trans c3; have k4 := (hSw.cell z4).trans c4; have k5 := (hSw.cell z4).trans c5; have k6 := (hSw.cell z4).trans c6; have y1 := Nat.lt_of_lt_of_le z1 hSw.size; have y2 := Nat.lt_of_lt_of_le z2 hSw.size; have y3 := Nat.lt_of_lt_of_le z3 hSw.size; have y4 := Nat.lt_of_lt_of_le z4 hSw.size; go_simp; try (with_reducible rfl))
    try simp only [Act.put, List.setIfInBounds_toArray, List.set_cons_zero, List.set_cons_succ]
    refine wpAnyD_done (by kernel_rfl) ?_ _
    go_wp2
    go_ret
    exact ⟨rfl, HG.out.trans S8⟩
  · obtain rfl : R = !r := by rw [← hR, decide_eq_false h0]; rfl
    have HE0 := hidN (decide_eq_false h0)
    clear hR
    refine wp_regionD (S := fun W => Gr W1 W) (D := []) hmx ?_
    refine' wpAnyD_take (i := 0) (oi := { dst := some 5, op := Go.Op.load 24 (Go.Operand.tmp 1), type := 24, pos := "multi.go:94", after := #[], guard := none }) (v := _) rfl (by kernel_rfl) (by kernel_rfl) (by kernel_rfl) (fun _ _ _ h => h) (by kernel_rfl) (Or.inl ⟨by rfl, ?hy15⟩) S9 ?rest15
    case hy15 => (intro W hSw; (try dsimp only at hSw); have k1 := (hSw.cell z1).trans c1; have k2 := (hSw.cell z2).trans c2; have k3 := (hSw.cell z3).trans c3; have k4 := (hSw.cell z4).trans c4; have k5 := (hSw.cell z4).trans c5; have k6 := (hSw.cell z4).trans c6; have y1 := Nat.lt_of_lt_of_le z1 hSw.size; have y2 := Nat.lt_of_lt_of_le z2 hSw.size; have y3 := Nat.lt_of_lt_of_le z3 hSw.size; have y4 := Nat.lt_of_lt_of_le z4 hSw.size; go_simp; try (with_reducible rfl))
    try simp only [Act.put, List.setIfInBounds_toArray, List.set_cons_zero, List.set_cons_succ]
    refine' wpAnyD_take (i := 1) (oi := { dst := some 6, op := Go.Op.nilCheck (Go.Operand.tmp 5), type := 0, pos := "multi.go:94", after := #[{ on := 0, ground := Go.Ground.data }], guard := none }) (v := _) rfl (by kernel_rfl) (by kernel_rfl) (by kernel_rfl) (fun _ _ _ h => h) (by kernel_rfl) (Or.inl ⟨by rfl, ?hy16⟩) S9 ?rest16
    case hy16 => (intro W hSw; (try dsimp only at hSw); have k1 := (hSw.cell z1).trans c1; have k2 := (hSw.cell z2).trans c2; have k3 := (hSw.cell z3).trans c3; have k4 := (hSw.cell z4).trans c4; have k5 := (hSw.cell z4).trans c5; have k6 := (hSw.cell z4).trans c6; have y1 := Nat.lt_of_lt_of_le z1 hSw.size; have y2 := Nat.lt_of_lt_of_le z2 hSw.size; have y3 := Nat.lt_of_lt_of_le z3 hSw.size; have y4 := Nat.lt_of_lt_of_le z4 hSw.size; go_simp; try (with_reducible rfl))
    try simp only [Act.put, List.setIfInBounds_toArray, List.set_cons_zero, List.set_cons_succ]
    refine' wpAnyD_take (i := 2) (oi := { dst := some 7, op := Go.Op.fieldAddr 65 (Go.Operand.tmp 6) 0, type := 0, pos := "multi.go:94", after := #[{ on := 1, ground := Go.Ground.data }], guard := none }) (v := _) rfl (by kernel_rfl) (by kernel_rfl) (by kernel_rfl) (fun _ _ _ h => h) (by kernel_rfl) (Or.inl ⟨by rfl, ?hy17⟩) S9 ?rest17
    case hy17 => (intro W hSw; (try dsimp only at hSw); have k1 := (hSw.cell z1).trans c1; have k2 := (hSw.cell z2).trans c2; have k3 := (hSw.cell z3).trans c3; have k4 := (hSw.cell z4).trans c4; have k5 := (hSw.cell z4).trans c5; have k6 := (hSw.cell z4).trans c6; have y1 := Nat.lt_of_lt_of_le z1 hSw.size; have y2 := Nat.lt_of_lt_of_le z2 hSw.size; have y3 := Nat.lt_of_lt_of_le z3 hSw.size; have y4 := Nat.lt_of_lt_of_le z4 hSw.size; go_simp; try (with_reducible rfl))
    try simp only [Act.put, List.setIfInBounds_toArray, List.set_cons_zero, List.set_cons_succ]
    refine' wpAnyD_take (i := 3) (oi := { dst := some 8, op := Go.Op.load 60 (Go.Operand.tmp 7), type := 60, pos := "multi.go:94", after := #[{ on := 2, ground := Go.Ground.data }], guard := none }) (v := _) rfl (by kernel_rfl) (by kernel_rfl) (by kernel_rfl) (fun _ _ _ h => h) (by kernel_rfl) (Or.inl ⟨by rfl, ?hy18⟩) S9 ?rest18
    case hy18 => (intro W hSw; (try dsimp only at hSw); have k1 := (hSw.cell z1).trans c1; have k2 := (hSw.cell z2).trans c2; have k3 := (hSw.cell z3).trans c3; have k4 := (hSw.cell z4).trans c4; have k5 := (hSw.cell z4).trans c5; have k6 := (hSw.cell z4).trans c6; have y1 := Nat.lt_of_lt_of_le z1 hSw.size; have y2 := Nat.lt_of_lt_of_le z2 hSw.size; have y3 := Nat.lt_of_lt_of_le z3 hSw.size; have y4 := Nat.lt_of_lt_of_le z4 hSw.size; go_simp; try (with_reducible rfl))
    try simp only [Act.put, List.setIfInBounds_toArray, List.set_cons_zero, List.set_cons_succ]
    refine' wpAnyD_take (i := 4) (oi := { dst := some 9, op := Go.Op.load 37 (Go.Operand.tmp 3), type := 37, pos := "multi.go:94", after := #[], guard := none }) (v := _) rfl (by kernel_rfl) (by kernel_rfl) (by kernel_rfl) (fun _ _ _ h => h) (by kernel_rfl) (Or.inl ⟨by rfl, ?hy19⟩) S9 ?rest19
    case hy19 => (intro W hSw; (try dsimp only at hSw); have k1 := (hSw.cell z1).trans c1; have k2 := (hSw.cell z2).trans c2; have k3 := (hSw.cell z3).trans c3; have k4 := (hSw.cell z4).trans c4; have k5 := (hSw.cell z4).trans c5; have k6 := (hSw.cell z4).trans c6; have y1 := Nat.lt_of_lt_of_le z1 hSw.size; have y2 := Nat.lt_of_lt_of_le z2 hSw.size; have y3 := Nat.lt_of_lt_of_le z3 hSw.size; have y4 := Nat.lt_of_lt_of_le z4 hSw.size; go_simp; try (with_reducible rfl))
    try simp only [Act.put, List.setIfInBounds_toArray, List.set_cons_zero, List.set_cons_succ]
    refine wpAnyD_one (i := 5) (o := { dst := some 10, op := Go.Op.call { callee := Go.Callee.value (Go.Operand.func 33), args := #[Go.Operand.tmp 8, Go.Operand.tmp 9], argTypes := #[60, 37] }, type := 2, pos := "multi.go:94", after := #[{ on := 3, ground := Go.Ground.data }, { on := 4, ground := Go.Ground.data }], guard := none }) (by kernel_rfl) rfl (fun K hK => ?_)
    go_simp
    refine (hco _ S9).mono ?_
    rintro e w8 ⟨rfl, g8⟩
    have S8 : Gr W1 w8 := S9.trans g8
    go_wp2_with fail
    refine hK.out _ _ (fun hD => S8) ?_
    clear hK K
    try simp only [Act.put, List.setIfInBounds_toArray, List.set_cons_zero, List.set_cons_succ]
    refine' wpAnyD_take (i := 6) (oi := { dst := some 11, op := Go.Op.binOp Go.BinOp.leq 2 (Go.Operand.tmp 10) (Go.Operand.const (Go.Value.int Go.IntKind.i64 0)) 2, type := 4, pos := "multi.go:94", after := #[{ on := 5, ground := Go.Ground.data }], guard := none }) (v := _) rfl (by kernel_rfl) (by kernel_rfl) (by kernel_rfl) (fun _ _ _ h => h) (by kernel_rfl) (Or.inl ⟨by rfl, ?hy21⟩) S8 ?rest21
    case hy21 => (intro W hSw; (try dsimp only at hSw); have k1 := (hSw.cell z1).trans c1; have k2 := (hSw.cell z2).trans c2; have k3 := (hSw.cell z3).trans c3; have k4 := (hSw.cell z4).trans c4; have k5 := (hSw.cell z4).trans c5; have k6 := (hSw.cell z4).trans c6; have y1 := Nat.lt_of_lt_of_le z1 hSw.size; have y2 := Nat.lt_of_lt_of_le z2 hSw.size; have y3 := Nat.lt_of_lt_of_le z3 hSw.size; have y4 := Nat.lt_of_lt_of_le z4 hSw.size; go_simp; (try rw [HE0.out]); try (with_reducible rfl))
    try simp only [Act.put, List.setIfInBounds_toArray, List.set_cons_zero, List.set_cons_succ]
    refine' wpAnyD_take (i := 7) (oi := { dst := some 12, op := Go.Op.move (Go.Operand.tmp 11), type := 4, pos := "multi.go:94", after := #[{ on := 6, ground := Go.Ground.data }, { on := 5, ground := Go.Ground.chain }], guard := none }) (v := _) rfl (by kernel_rfl) (by kernel_rfl) (by kernel_rfl) (fun _ _ _ h => h) (by kernel_rfl) (Or.inl ⟨by rfl, ?hy22⟩) S8 ?rest22
    case hy22 => (intro W hSw; (try dsimp only at hSw); have k1 := (hSw.cell z1).trans c1; have k2 := (hSw.cell z2).trans c2; have k3 := (hSw.cell z3).trans c3; have k4 := (hSw.cell z4).trans c4; have k5 := (hSw.cell z4).trans c5; have k6 := (hSw.cell z4).trans c6; have y1 := Nat.lt_of_lt_of_le z1 hSw.size; have y2 := Nat.lt_of_lt_of_le z2 hSw.size; have y3 := Nat.lt_of_lt_of_le z3 hSw.size; have y4 := Nat.lt_of_lt_of_le z4 hSw.size; go_simp; try (with_reducible rfl))
    try simp only [Act.put, List.setIfInBounds_toArray, List.set_cons_zero, List.set_cons_succ]
    refine' wpAnyD_take (i := 8) (oi := { dst := some 13, op := Go.Op.load 42 (Go.Operand.tmp 2), type := 42, pos := "multi.go:94", after := #[{ on := 7, ground := Go.Ground.guard }], guard := some (7, false) }) (v := _) rfl (by kernel_rfl) (by kernel_rfl) (by kernel_rfl) (fun _ _ _ h => h) (by kernel_rfl) (Or.inl ⟨by rfl, ?hy23⟩) S8 ?rest23
    case hy23 => (intro W hSw; (try dsimp only at hSw); have k1 := (hSw.cell z1).trans c1; have k2 := (hSw.cell z2).trans c2; have k3 := (hSw.cell z3).trans c3; have k4 := (hSw.cell z4).trans c4; have k5 := (hSw.cell z4).trans c5; have k6 := (hSw.cell z4).trans c6; have y1 := Nat.lt_of_lt_of_le z1 hSw.size; have y2 := Nat.lt_of_lt_of_le z2 hSw.size; have y3 := Nat.lt_of_lt_of_le z3 hSw.size; have y4 := Nat.lt_of_lt_of_le z4 hSw.size; go_simp; try (with_reducible rfl))
    try simp only [Act.put, List.setIfInBounds_toArray, List.set_cons_zero, List.set_cons_succ]
    refine' wpAnyD_take (i := 9) (oi := { dst := some 14, op := Go.Op.load 37 (Go.Operand.tmp 3), type := 37, pos := "multi.go:94", after := #[{ on := 7, ground := Go.Ground.guard }], guard := some (7, false) }) (v := _) rfl (by kernel_rfl) (by kernel_rfl) (by kernel_rfl) (fun _ _ _ h => h) (by kernel_rfl) (Or.inl ⟨by rfl, ?hy24⟩) S8 ?rest24
    case hy24 => (intro W hSw; (try dsimp only at hSw); have k1 := (hSw.cell z1).trans c1; have k2 := (hSw.cell z2).trans c2; have k3 := (hSw.cell z3).trans c3; have k4 := (hSw.cell z4).trans c4; have k5 := (hSw.cell z4).trans c5; have k6 := (hSw.cell z4).trans c6; have y1 := Nat.lt_of_lt_of_le z1 hSw.size; have y2 := Nat.lt_of_lt_of_le z2 hSw.size; have y3 := Nat.lt_of_lt_of_le z3 hSw.size; have y4 := Nat.lt_of_lt_of_le z4 hSw.size; go_simp; try (with_reducible rfl))
    try simp only [Act.put, List.setIfInBounds_toArray, List.set_cons_zero, List.set_cons_succ]
    refine wpAnyD_one (i := 10) (o := { dst := some 15, op := Go.Op.call { callee := Go.Callee.value (Go.Operand.func 67), args := #[Go.Operand.tmp 13, Go.Operand.tmp 14], argTypes := #[42, 37] }, type := 4, pos := "multi.go:94", after := #[{ on := 8, ground := Go.Ground.data }, { on := 9, ground := Go.Ground.data }, { on := 7, ground := Go.Ground.chain }, { on := 7, ground := Go.Ground.guard }], guard := some (7, false) }) (by kernel_rfl) rfl (fun K hK => ?_)
    go_simp
    refine (hop _ S8).mono ?_
    rintro e w7 ⟨rfl, g7⟩
    have S7 : Gr W1 w7 := S8.trans g7
    go_wp2_with fail
    refine hK.out _ _ (fun hD => S7) ?_
    clear hK K
    try simp only [Act.put, List.setIfInBounds_toArray, List.set_cons_zero, List.set_cons_succ]
    refine' wpAnyD_take (i := 11) (oi := { dst := some 16, op := Go.Op.unOp Go.UnOp.not 4 (Go.Operand.tmp 15), type := 4, pos := "multi.go:94", after := #[{ on := 10, ground := Go.Ground.data }, { on := 7, ground := Go.Ground.guard }], guard := some (7, false) }) (v := _) rfl (by kernel_rfl) (by kernel_rfl) (by kernel_rfl) (fun _ _ _ h => h) (by kernel_rfl) (Or.inl ⟨by rfl, ?hy26⟩) S7 ?rest26
    case hy26 => (intro W hSw; (try dsimp only at hSw); have k1 := (hSw.cell z1).trans c1; have k2 := (hSw.cell z2).trans c2; have k3 := (hSw.cell z3).trans c3; have k4 := (hSw.cell z4).trans c4; have k5 := (hSw.cell z4).trans c5; have k6 := (hSw.cell z4).trans c6; have y1 := Nat.lt_of_lt_of_le z1 hSw.size; have y2 := Nat.lt_of_lt_of_le z2 hSw.size; have y3 := Nat.lt_of_lt_of_le z3 hSw.size; have y4 := Nat.lt_of_lt_of_le z4 hSw.size; go_simp; try (with_reducible rfl))
    try simp only [Act.put, List.setIfInBounds_toArray, List.set_cons_zero, List.set_cons_succ]
    refine' wpAnyD_take (i := 12) (oi := { dst := some 17, op := Go.Op.pick (Go.Operand.tmp 12) (Go.Operand.const (Go.Value.bool true)) (Go.Operand.tmp 16), type := 4, pos := "multi.go:94", after := #[{ on := 7, ground := Go.Ground.data }, { on := 11, ground := Go.Ground.data }], guard := none }) (v := _) rfl (by kernel_rfl) (by kernel_rfl) (by kernel_rfl) (fun _ _ _ h => h) (by kernel_rfl) (Or.inl ⟨by rfl, ?hy27⟩) S7 ?rest27
    case hy27 => (intro W hSw; (try dsimp only at hSw); have k1 := (hSw.cell z1).trans c1; have k2 := (hSw.cell z2).trans c2; have k3 := (hSw.cell z3).trans c3; have k4 := (hSw.cell z4).trans c4; have k5 := (hSw.cell z4).trans c5; have k6 := (hSw.cell z4).trans c6; have y1 := Nat.lt_of_lt_of_le z1 hSw.size; have y2 := Nat.lt_of_lt_of_le z2 hSw.size; have y3 := Nat.lt_of_lt_of_le z3 hSw.size; have y4 := Nat.lt_of_lt_of_le z4 hSw.size; go_simp; try (with_reducible rfl))
    try simp only [Act.put, List.setIfInBounds_toArray, List.set_cons_zero, List.set_cons_succ]
    refine' wpAnyD_take (i := 13) (oi := { dst := some 4, op := Go.Op.assign (Go.Operand.tmp 17), type := 4, pos := "multi.go:94", after := #[{ on := 12, ground := Go.Ground.data }, { on := 10, ground := Go.Ground.chain }, { on := 0, ground := Go.Ground.phase }, { on := 1, ground := Go.Ground.phase }, { on := 2, ground := Go.Ground.phase }, { on := 3, ground := Go.Ground.phase }, { on := 4, ground := Go.Ground.phase }, { on := 5, ground := Go.Ground.phase }, { on := 6, ground := Go.Ground.phase }, { on := 7, ground := Go.Ground.phase }, { on := 8, ground := Go.Ground.phase }, { on := 9, ground := Go.Ground.phase }, { on := 10, ground := Go.Ground.phase }, { on := 11, ground := Go.Ground.phase }, { on := 12, ground := Go.Ground.phase }], guard := none }) (v := _) rfl (by kernel_rfl) (by kernel_rfl) (by kernel_rfl) (fun _ _ _ h => h) (by kernel_rfl) (Or.inl ⟨by rfl, ?hy28⟩) S7 ?rest28
    case hy28 => (intro W hSw; (try dsimp only at hSw); have k1 := (hSw.cell z1).trans c1; have k2 := (hSw.cell z2).trans c2; have k3 := (hSw.cell z3).trans c3; have k4 := (hSw.cell z4).trans c4; have k5 := (hSw.cell z4).trans c5; have k6 := (hSw.cell z4).trans c6; have y1 := Nat.lt_of_lt_of_le z1 hSw.size; have y2 := Nat.lt_of_lt_of_le z2 hSw.size; have y3 := Nat.lt_of_lt_of_le z3 hSw.size; have y4 := Nat.lt_of_lt_of_le z4 hSw.size; go_simp; try (with_reducible rfl))
    try simp only [Act.put, List.setIfInBounds_toArray, List.set_cons_zero, List.set_cons_succ]
    refine wpAnyD_done (by kernel_rfl) ?_ _
    go_wp2
    go_ret
    exact ⟨by first | rfl | simp, HG.out.trans S7⟩
end Go.Proofs.YtnpmmodcmfgbjaaGreat
