import Derived.Test.YtnpmmodcmfgbjaaGreatJ6
import Derived.Deep.QuietTactic
import Derived.Deep.Cut
import Derived.BigQuiet
import Derived.Test.YtnpmmodcmfgbjaaGreatJ1
namespace Go.Proofs.YtnpmmodcmfgbjaaGreat
open Go.RowKit Go.Sort Go.Maps
open Tt (Tl byd byd_f byd_t)
attribute [local go_sem ↓] Go.wp_at_zero Go.wp_at_succ
theorem hidN {p : Prop} (h : p) : Hid p := h
set_option maxHeartbeats 2000000 in
theorem gone_any {B Bg mb tb b g n : Nat} {vg : Value} {f : Tm → Int} {G : List Tm} (x : Tm) (w : World) (hB : w.cell? ⟨B, 0, none⟩ = some (.pointer (some ⟨mb, 0, none⟩))) (hm : w.cell? ⟨mb, 0, none⟩ = some (.pointer (some ⟨tb, 0, none⟩))) (hg : w.cell? ⟨Bg, 0, none⟩ = some vg) (hBl : B < w.heap.size) (hml : mb < w.heap.size) (hgl : Bg < w.heap.size) (ht : Tl w tb b g n f) (hl : Lst w vg G) (hlen : G.length ≤ maxLen) :
    Calls Tryz.prog 66 #[tv x, .pointer (some ⟨B, 0, none⟩), .pointer (some ⟨Bg, 0, none⟩)] w fun e w' => e = .returned (.bool (decide (f x ≤ 0) || !ccov bel G x)) ∧ Gr w w' := by
  have hmx : Tryz.prog.follows .mixedOrders = true := by kernel_rfl
  obtain ⟨W1, hW1⟩ : ∃ W1, W1 = w.alloc (.cells #[.int .u64 x.1.1, .int .u64 x.1.2.1, .int .u64 x.1.2.2] 37) := ⟨_, rfl⟩
  obtain ⟨nb, hnb⟩ : ∃ nb, nb = w.heap.size := ⟨_, rfl⟩
  have G1 : Gr w W1 := by rw [hW1]; exact (Gr.refl _).alloc _
  have HG := hidN G1
  have hco : ∀ W, Gr W1 W → Calls Tryz.prog 33 #[cv tb, tv x] W fun e w' => e = .returned (.int .i64 (f x)) ∧ Gr W w' := fun W h => mcount_any x W (ht.gr (G1.trans h))
  have hop : ∀ W, Gr W1 W → Calls Tryz.prog 67 #[vg, tv x] W fun e w' => e = .returned (.bool (ccov bel G x)) ∧ Gr W w' := fun W h => sopen_any vg G x W (hl.below (G1.trans h).below) hlen
  have hblk : W1.heap[nb]? = some (.cells #[.int .u64 x.1.1, .int .u64 x.1.2.1, .int .u64 x.1.2.2] 37 (0, 0)) := by rw [hW1, hnb]; exact heap_new' _ _
  have c1 := (G1.cell (o := 0) hBl).trans hB
  have c2 := (G1.cell (o := 0) hml).trans hm
  have c3 := (G1.cell (o := 0) hgl).trans hg
  have z1 := Nat.lt_of_lt_of_le hBl G1.size
  have z2 := Nat.lt_of_lt_of_le hml G1.size
  have z3 := Nat.lt_of_lt_of_le hgl G1.size
  have z4 := (Array.getElem?_eq_some_iff.1 hblk).1
  have c4 : W1.cell? ⟨nb, 0, none⟩ = some (.int .u64 x.1.1) := by simp only [World.cell?]; rw [hblk]; rfl
  have c5 : W1.cell? ⟨nb, 1, none⟩ = some (.int .u64 x.1.2.1) := by simp only [World.cell?]; rw [hblk]; rfl
  have c6 : W1.cell? ⟨nb, 2, none⟩ = some (.int .u64 x.1.2.2) := by simp only [World.cell?]; rw [hblk]; rfl
  obtain ⟨pg, cg, rfl⟩ := hl.form
  generalize f x = c at hco ⊢
  generalize ccov bel G x = r at hop ⊢
  generalize hR : (decide (c ≤ 0) || !r) = R
  clear ht hblk hl hlen
  have S9 : Gr W1 W1.drew := (Gr.refl _).drew
  go_enter Tryz.func66, Tryz.ntmps66
  go_upto_region 1 with fail
  rw [← hW1, ← hnb]
  clear hW1 hnb hB hm hBl hml G1 hg hgl
  by_cases h0 : c ≤ 0
  · obtain rfl : R = true := by rw [← hR, decide_eq_true h0]; rfl
    clear hR
    refine wp_regionD (S := fun W => Gr W1 W) (D := []) hmx ?_
    refine' wpAnyD_take (i := 0) (oi := { dst := some 5, op := Go.Op.load 24 (Go.Operand.tmp 1), type := 24, pos := "multi.go:94", after := #[], guard := none }) (v := _) rfl (by kernel_rfl) (by kernel_rfl) (by kernel_rfl) (fun _ _ _ h => h) (by kernel_rfl) (Or.inl ⟨by rfl, ?hy1⟩) S9 ?rest1
    case hy1 => (intro W hSw; (try dsimp only at hSw); have k1 := (hSw.cell z1).trans c1; have k2 := (hSw.cell z2).trans c2; have k3 := (hSw.cell z3).trans c3; have k4 := (hSw.cell z4).trans c4; have k5 := (hSw.cell z4).trans c5; have k6 := (hSw.cell z4).trans c6; have y1 := Nat.lt_of_lt_of_le z1 hSw.size; have y2 := Nat.lt_of_lt_of_le z2 hSw.size; have y3 := Nat.lt_of_lt_of_le z3 hSw.size; have y4 := Nat.lt_of_lt_of_le z4 hSw.size; go_simp; try (with_reducible rfl))
    try simp only [Act.put, List.setIfInBounds_toArray, List.set_cons_zero, List.set_cons_succ]
    refine' wpAnyD_take (i := 1) (oi := { dst := some 6, op := Go.Op.nilCheck (Go.Operand.tmp 5), type := 0, pos := "multi.go:94", after := #[{ on := 0, ground := Go.Ground.data }], guard := none }) (v := _) rfl (by kernel_rfl) (by kernel_rfl) (by kernel_rfl) (fun _ _ _ h => h) (by kernel_rfl) (Or.inl ⟨by rfl, ?hy2⟩) S9 ?rest2
    case hy2 => (intro W hSw; (try dsimp only at hSw); have k1 := (hSw.cell z1).trans c1; have k2 := (hSw.cell z2).trans c2; have k3 := (hSw.cell z3).trans c3; have k4 := (hSw.cell z4).trans c4; have k5 := (hSw.cell z4).trans c5; have k6 := (hSw.cell z4).trans c6; have y1 := Nat.lt_of_lt_of_le z1 hSw.size; have y2 := Nat.lt_of_lt_of_le z2 hSw.size; have y3 := Nat.lt_of_lt_of_le z3 hSw.size; have y4 := Nat.lt_of_lt_of_le z4 hSw.size; go_simp; try (with_reducible rfl))
    try simp only [Act.put, List.setIfInBounds_toArray, List.set_cons_zero, List.set_cons_succ]
    refine' wpAnyD_take (i := 2) (oi := { dst := some 7, op := Go.Op.fieldAddr 65 (Go.Operand.tmp 6) 0, type := 0, pos := "multi.go:94", after := #[{ on := 1, ground := Go.Ground.data }], guard := none }) (v := _) rfl (by kernel_rfl) (by kernel_rfl) (by kernel_rfl) (fun _ _ _ h => h) (by kernel_rfl) (Or.inl ⟨by rfl, ?hy3⟩) S9 ?rest3
    case hy3 => (intro W hSw; (try dsimp only at hSw); have k1 := (hSw.cell z1).trans c1; have k2 := (hSw.cell z2).trans c2; have k3 := (hSw.cell z3).trans c3; have k4 := (hSw.cell z4).trans c4; have k5 := (hSw.cell z4).trans c5; have k6 := (hSw.cell z4).trans c6; have y1 := Nat.lt_of_lt_of_le z1 hSw.size; have y2 := Nat.lt_of_lt_of_le z2 hSw.size; have y3 := Nat.lt_of_lt_of_le z3 hSw.size; have y4 := Nat.lt_of_lt_of_le z4 hSw.size; go_simp; try (with_reducible rfl))
    try simp only [Act.put, List.setIfInBounds_toArray, List.set_cons_zero, List.set_cons_succ]
    refine' wpAnyD_take (i := 3) (oi := { dst := some 8, op := Go.Op.load 60 (Go.Operand.tmp 7), type := 60, pos := "multi.go:94", after := #[{ on := 2, ground := Go.Ground.data }], guard := none }) (v := _) rfl (by kernel_rfl) (by kernel_rfl) (by kernel_rfl) (fun _ _ _ h => h) (by kernel_rfl) (Or.inl ⟨by rfl, ?hy4⟩) S9 ?rest4
    case hy4 => (intro W hSw; (try dsimp only at hSw); have k1 := (hSw.cell z1).trans c1; have k2 := (hSw.cell z2).trans c2; have k3 := (hSw.cell z3).trans c3; have k4 := (hSw.cell z4).trans c4; have k5 := (hSw.cell z4).trans c5; have k6 := (hSw.cell z4).trans c6; have y1 := Nat.lt_of_lt_of_le z1 hSw.size; have y2 := Nat.lt_of_lt_of_le z2 hSw.size; have y3 := Nat.lt_of_lt_of_le z3 hSw.size; have y4 := Nat.lt_of_lt_of_le z4 hSw.size; go_simp; try (with_reducible rfl))
    try simp only [Act.put, List.setIfInBounds_toArray, List.set_cons_zero, List.set_cons_succ]
    refine' wpAnyD_take (i := 4) (oi := { dst := some 9, op := Go.Op.load 37 (Go.Operand.tmp 3), type := 37, pos := "multi.go:94", after := #[], guard := none }) (v := _) rfl (by kernel_rfl) (by kernel_rfl) (by kernel_rfl) (fun _ _ _ h => h) (by kernel_rfl) (Or.inl ⟨by rfl, ?hy5⟩) S9 ?rest5
    case hy5 => (intro W hSw; (try dsimp only at hSw); have k1 := (hSw.cell z1).trans c1; have k2 := (hSw.cell z2).trans c2; have k3 := (hSw.cell z3).trans c3; have k4 := (hSw.cell z4).trans c4; have k5 := (hSw.cell z4).trans c5; have k6 := (hSw.cell z4).trans c6; have y1 := Nat.lt_of_lt_of_le z1 hSw.size; have y2 := Nat.lt_of_lt_of_le z2 hSw.size; have y3 := Nat.lt_of_lt_of_le z3 hSw.size; have y4 := Nat.lt_of_lt_of_le z4 hSw.size; go_simp; try (with_reducible rfl))
    try simp only [Act.put, List.setIfInBounds_toArray, List.set_cons_zero, List.set_cons_succ]
    refine wpAnyD_one (i := 5) (o := { dst := some 10, op := Go.Op.call { callee := Go.Callee.value (Go.Operand.func 33), args := #[Go.Operand.tmp 8, Go.Operand.tmp 9], argTypes := #[60, 37] }, type := 2, pos := "multi.go:94", after := #[{ on := 3, ground := Go.Ground.data }, { on := 4, ground := Go.Ground.data }], guard := none }) (by kernel_rfl) rfl (fun K hK => ?_)
    go_simp
    refine (hco _ S9).mono ?_
    rintro e w8 ⟨rfl, g8⟩
    have S8 : Gr W1 w8 := S9.trans g8
    go_wp2_with fail
    refine hK.out _ _ (fun hD => S8) ?_
    clear hK K
    try simp only [Act.put, List.setIfInBounds_toArray, List.set_cons_zero, List.set_cons_succ]
    refine' wpAnyD_take (i := 6) (oi := { dst := some 11, op := Go.Op.binOp Go.BinOp.leq 2 (Go.Operand.tmp 10) (Go.Operand.const (Go.Value.int Go.IntKind.i64 0)) 2, type := 4, pos := "multi.go:94", after := #[{ on := 5, ground := Go.Ground.data }], guard := none }) (v := _) rfl (by kernel_rfl) (by kernel_rfl) (by kernel_rfl) (fun _ _ _ h => h) (by kernel_rfl) (Or.inl ⟨by rfl, ?hy7⟩) S8 ?rest7
    case hy7 => (intro W hSw; (try dsimp only at hSw); have k1 := (hSw.cell z1).trans c1; have k2 := (hSw.cell z2).trans c2; have k3 := (hSw.cell z3).trans c3; have k4 := (hSw.cell z4).trans c4; have k5 := (hSw.cell z4).trans c5; have k6 := (hSw.cell z4).trans c6; have y1 := Nat.lt_of_lt_of_le z1 hSw.size; have y2 := Nat.lt_of_lt_of_le z2 hSw.size; have y3 := Nat.lt_of_lt_of_le z3 hSw.size; have y4 := Nat.lt_of_lt_of_le z4 hSw.size; go_simp; (try rw [HE0.out]); try (with_reducible rfl))
    try simp only [Act.put, List.setIfInBounds_toArray, List.set_cons_zero, List.set_cons_succ]
    refine' wpAnyD_take (i := 7) (oi := { dst := some 12, op := Go.Op.move (Go.Operand.tmp 11), type := 4, pos := "multi.go:94", after := #[{ on := 6, ground := Go.Ground.data }, { on := 5, ground := Go.Ground.chain }], guard := none }) (v := _) rfl (by kernel_rfl) (by kernel_rfl) (by kernel_rfl) (fun _ _ _ h => h) (by kernel_rfl) (Or.inl ⟨by rfl, ?hy8⟩) S8 ?rest8
    case hy8 => (intro W hSw; (try dsimp only at hSw); have k1 := (hSw.cell z1).trans c1; have k2 := (hSw.cell z2).trans c2; have k3 := (hSw.cell z3).trans c3; have k4 := (hSw.cell z4).trans c4; have k5 := (hSw.cell z4).trans c5; have k6 := (hSw.cell z4).trans c6; have y1 := Nat.lt_of_lt_of_le z1 hSw.size; have y2 := Nat.lt_of_lt_of_le z2 hSw.size; have y3 := Nat.lt_of_lt_of_le z3 hSw.size; have y4 := Nat.lt_of_lt_of_le z4 hSw.size; go_simp; try (with_reducible rfl))
    try simp only [Act.put, List.setIfInBounds_toArray, List.set_cons_zero, List.set_cons_succ]
    refine' wpAnyD_take (i := 8) (oi := { dst := some 13, op := Go.Op.load 42 (Go.Operand.tmp 2), type := 42, pos := "multi.go:94", after := #[{ on := 7, ground := Go.Ground.guard }], guard := some (7, false) }) (v := undef) rfl (by kernel_rfl) (by kernel_rfl) (by kernel_rfl) (fun _ _ _ h => h) (by kernel_rfl) (Or.inr ⟨by rfl, rfl⟩) S8 ?rest9
    try simp only [Act.put, List.setIfInBounds_toArray, List.set_cons_zero, List.set_cons_succ]
    refine' wpAnyD_take (i := 9) (oi := { dst := some 14, op := Go.Op.load 37 (Go.Operand.tmp 3), type := 37, pos := "multi.go:94", after := #[{ on := 7, ground := Go.Ground.guard }], guard := some (7, false) }) (v := undef) rfl (by kernel_rfl) (by kernel_rfl) (by kernel_rfl) (fun _ _ _ h => h) (by kernel_rfl) (Or.inr ⟨by rfl, rfl⟩) S8 ?rest10
    try simp only [Act.put, List.setIfInBounds_toArray, List.set_cons_zero, List.set_cons_succ]
    refine' wpAnyD_take (i := 10) (oi := { dst := some 15, op := Go.Op.call { callee := Go.Callee.value (Go.Operand.func 67), args := #[Go.Operand.tmp 13, Go.Operand.tmp 14], argTypes := #[42, 37] }, type := 4, pos := "multi.go:94", after := #[{ on := 8, ground := Go.Ground.data }, { on := 9, ground := Go.Ground.data }, { on := 7, ground := Go.Ground.chain }, { on := 7, ground := Go.Ground.guard }], guard := some (7, false) }) (v := undef) rfl (by kernel_rfl) (by kernel_rfl) (by kernel_rfl) (fun _ _ _ h => h) (by kernel_rfl) (Or.inr ⟨by rfl, rfl⟩) S8 ?rest11
    try simp only [Act.put, List.setIfInBounds_toArray, List.set_cons_zero, List.set_cons_succ]
    refine' wpAnyD_take (i := 11) (oi := { dst := some 16, op := Go.Op.unOp Go.UnOp.not 4 (Go.Operand.tmp 15), type := 4, pos := "multi.go:94", after := #[{ on := 10, ground := Go.Ground.data }, { on := 7, ground := Go.Ground.guard }], guard := some (7, false) }) (v := undef) rfl (by kernel_rfl) (by kernel_rfl) (by kernel_rfl) (fun _ _ _ h => h) (by kernel_rfl) (Or.inr ⟨by rfl, rfl⟩) S8 ?rest12
    try simp only [Act.put, List.setIfInBounds_toArray, List.set_cons_zero, List.set_cons_succ]
    refine' wpAnyD_take (i := 12) (oi := { dst := some 17, op := Go.Op.pick (Go.Operand.tmp 12) (Go.Operand.const (Go.Value.bool true)) (Go.Operand.tmp 16), type := 4, pos := "multi.go:94", after := #[{ on := 7, ground := Go.Ground.data }, { on := 11, ground := Go.Ground.data }], guard := none }) (v := _) rfl (by kernel_rfl) (by kernel_rfl) (by kernel_rfl) (fun _ _ _ h => h) (by kernel_rfl) (Or.inl ⟨by rfl, ?hy13⟩) S8 ?rest13
    case hy13 => (intro W hSw; (try dsimp only at hSw); have k1 := (hSw.cell z1).trans c1; have k2 := (hSw.cell z2).trans c2; have k3 := (hSw.cell z3).trans c3; have k4 := (hSw.cell z4).trans c4; have k5 := (hSw.cell z4).trans c5; have k6 := (hSw.cell z4).trans c6; have y1 := Nat.lt_of_lt_of_le z1 hSw.size; have y2 := Nat.lt_of_lt_of_le z2 hSw.size; have y3 := Nat.lt_of_lt_of_le z3 hSw.size; have y4 := Nat.lt_of_lt_of_le z4 hSw.size; go_simp; try (with_reducible rfl))
    try simp only [Act.put, List.setIfInBounds_toArray, List.set_cons_zero, List.set_cons_succ]
    refine' wpAnyD_take (i := 13) (oi := { dst := some 4, op := Go.Op.assign (Go.Operand.tmp 17), type := 4, pos := "multi.go:94", after := #[{ on := 12, ground := Go.Ground.data }, { on := 10, ground := Go.Ground.chain }, { on := 0, ground := Go.Ground.phase }, { on := 1, ground := Go.Ground.phase }, { on := 2, ground := Go.Ground.phase }, { on := 3, ground := Go.Ground.phase }, { on := 4, ground := Go.Ground.phase }, { on := 5, ground := Go.Ground.phase }, { on := 6, ground := Go.Ground.phase }, { on := 7, ground := Go.Ground.phase }, { on := 8, ground := Go.Ground.phase }, { on := 9, ground := Go.Ground.phase }, { on := 10, ground := Go.Ground.phase }, { on := 11, ground := Go.Ground.phase }, { on := 12, ground := Go.Ground.phase }], guard := none }) (v := _) rfl (by kernel_rfl) (by kernel_rfl) (by kernel_rfl) (fun _ _ _ h => h) (by kernel_rfl) (Or.inl ⟨by rfl, ?hy14⟩) S8 ?rest14
    case hy14 => (intro W hSw; (try dsimp only at hSw); have k1 := (hSw.cell z1).trans c1; have k2 := (hSw.cell z2).trans c2; have k3 := (hSw.cell z3).trans c3; have k4 := (hSw.cell z4).trans c4; have k5 := (hSw.cell z4).trans c5; have k6 := (hSw.cell z4).trans c6; have y1 := Nat.lt_of_lt_of_le z1 hSw.size; have y2 := Nat.lt_of_lt_of_le z2 hSw.size; have y3 := Nat.lt_of_lt_of_le z3 hSw.size; have y4 := Nat.lt_of_lt_of_le z4 hSw.size; go_simp; try (with_reducible rfl))
    try simp only [Act.put, List.setIfInBounds_toArray, List.set_cons_zero, List.set_cons_succ]
    refine wpAnyD_done (by kernel_rfl) ?_ _
    go_wp2
    go_ret
    exact ⟨rfl, HG.out.trans S8⟩
  · obtain rfl : R = !r := by rw [← hR, decide_eq_false h0]; rfl
    have HE0 := hidN (decide_eq_false h0)
    clear hR
    refine wp_regionD (S := fun W => Gr W1 W) (D := []) hmx ?_
    refine' wpAnyD_take (i := 0) (oi := { dst := some 5, op := Go.Op.load 24 (Go.Operand.tmp 1), type := 24, pos := "multi.go:94", after := #[], guard := none }) (v := _) rfl (by kernel_rfl) (by kernel_rfl) (by kernel_rfl) (fun _ _ _ h => h) (by kernel_rfl) (Or.inl ⟨by rfl, ?hy15⟩) S9 ?rest15
    case hy15 => (intro W hSw; (try dsimp only at hSw); have k1 := (hSw.cell z1).trans c1; have k2 := (hSw.cell z2).trans c2; have k3 := (hSw.cell z3).trans c3; have k4 := (hSw.cell z4).trans c4; have k5 := (hSw.cell z4).trans c5; have k6 := (hSw.cell z4).trans c6; have y1 := Nat.lt_of_lt_of_le z1 hSw.size; have y2 := Nat.lt_of_lt_of_le z2 hSw.size; have y3 := Nat.lt_of_lt_of_le z3 hSw.size; have y4 := Nat.lt_of_lt_of_le z4 hSw.size; go_simp; try (with_reducible rfl))
    try simp only [Act.put, List.setIfInBounds_toArray, List.set_cons_zero, List.set_cons_succ]
    refine' wpAnyD_take (i := 1) (oi := { dst := some 6, op := Go.Op.nilCheck (Go.Operand.tmp 5), type := 0, pos := "multi.go:94", after := #[{ on := 0, ground := Go.Ground.data }], guard := none }) (v := _) rfl (by kernel_rfl) (by kernel_rfl) (by kernel_rfl) (fun _ _ _ h => h) (by kernel_rfl) (Or.inl ⟨by rfl, ?hy16⟩) S9 ?rest16
    case hy16 => (intro W hSw; (try dsimp only at hSw); have k1 := (hSw.cell z1).trans c1; have k2 := (hSw.cell z2).trans c2; have k3 := (hSw.cell z3).trans c3; have k4 := (hSw.cell z4).trans c4; have k5 := (hSw.cell z4).trans c5; have k6 := (hSw.cell z4).trans c6; have y1 := Nat.lt_of_lt_of_le z1 hSw.size; have y2 := Nat.lt_of_lt_of_le z2 hSw.size; have y3 := Nat.lt_of_lt_of_le z3 hSw.size; have y4 := Nat.lt_of_lt_of_le z4 hSw.size; go_simp; try (with_reducible rfl))
    try simp only [Act.put, List.setIfInBounds_toArray, List.set_cons_zero, List.set_cons_succ]
    refine' wpAnyD_take (i := 2) (oi := { dst := some 7, op := Go.Op.fieldAddr 65 (Go.Operand.tmp 6) 0, type := 0, pos := "multi.go:94", after := #[{ on := 1, ground := Go.Ground.data }], guard := none }) (v := _) rfl (by kernel_rfl) (by kernel_rfl) (by kernel_rfl) (fun _ _ _ h => h) (by kernel_rfl) (Or.inl ⟨by rfl, ?hy17⟩) S9 ?rest17
    case hy17 => (intro W hSw; (try dsimp only at hSw); have k1 := (hSw.cell z1).trans c1; have k2 := (hSw.cell z2).trans c2; have k3 := (hSw.cell z3).trans c3; have k4 := (hSw.cell z4).trans c4; have k5 := (hSw.cell z4).trans c5; have k6 := (hSw.cell z4).trans c6; have y1 := Nat.lt_of_lt_of_le z1 hSw.size; have y2 := Nat.lt_of_lt_of_le z2 hSw.size; have y3 := Nat.lt_of_lt_of_le z3 hSw.size; have y4 := Nat.lt_of_lt_of_le z4 hSw.size; go_simp; try (with_reducible rfl))
    try simp only [Act.put, List.setIfInBounds_toArray, List.set_cons_zero, List.set_cons_succ]
    refine' wpAnyD_take (i := 3) (oi := { dst := some 8, op := Go.Op.load 60 (Go.Operand.tmp 7), type := 60, pos := "multi.go:94", after := #[{ on := 2, ground := Go.Ground.data }], guard := none }) (v := _) rfl (by kernel_rfl) (by kernel_rfl) (by kernel_rfl) (fun _ _ _ h => h) (by kernel_rfl) (Or.inl ⟨by rfl, ?hy18⟩) S9 ?rest18
    case hy18 => (intro W hSw; (try dsimp only at hSw); have k1 := (hSw.cell z1).trans c1; have k2 := (hSw.cell z2).trans c2; have k3 := (hSw.cell z3).trans c3; have k4 := (hSw.cell z4).trans c4; have k5 := (hSw.cell z4).trans c5; have k6 := (hSw.cell z4).trans c6; have y1 := Nat.lt_of_lt_of_le z1 hSw.size; have y2 := Nat.lt_of_lt_of_le z2 hSw.size; have y3 := Nat.lt_of_lt_of_le z3 hSw.size; have y4 := Nat.lt_of_lt_of_le z4 hSw.size; go_simp; try (with_reducible rfl))
    try simp only [Act.put, List.setIfInBounds_toArray, List.set_cons_zero, List.set_cons_succ]
    refine' wpAnyD_take (i := 4) (oi := { dst := some 9, op := Go.Op.load 37 (Go.Operand.tmp 3), type := 37, pos := "multi.go:94", after := #[], guard := none }) (v := _) rfl (by kernel_rfl) (by kernel_rfl) (by kernel_rfl) (fun _ _ _ h => h) (by kernel_rfl) (Or.inl ⟨by rfl, ?hy19⟩) S9 ?rest19
    case hy19 => (intro W hSw; (try dsimp only at hSw); have k1 := (hSw.cell z1).trans c1; have k2 := (hSw.cell z2).trans c2; have k3 := (hSw.cell z3).trans c3; have k4 := (hSw.cell z4).trans c4; have k5 := (hSw.cell z4).trans c5; have k6 := (hSw.cell z4).trans c6; have y1 := Nat.lt_of_lt_of_le z1 hSw.size; have y2 := Nat.lt_of_lt_of_le z2 hSw.size; have y3 := Nat.lt_of_lt_of_le z3 hSw.size; have y4 := Nat.lt_of_lt_of_le z4 hSw.size; go_simp; try (with_reducible rfl))
    try simp only [Act.put, List.setIfInBounds_toArray, List.set_cons_zero, List.set_cons_succ]
    refine wpAnyD_one (i := 5) (o := { dst := some 10, op := Go.Op.call { callee := Go.Callee.value (Go.Operand.func 33), args := #[Go.Operand.tmp 8, Go.Operand.tmp 9], argTypes := #[60, 37] }, type := 2, pos := "multi.go:94", after := #[{ on := 3, ground := Go.Ground.data }, { on := 4, ground := Go.Ground.data }], guard := none }) (by kernel_rfl) rfl (fun K hK => ?_)
    go_simp
    refine (hco _ S9).mono ?_
    rintro e w8 ⟨rfl, g8⟩
    have S8 : Gr W1 w8 := S9.trans g8
    go_wp2_with fail
    refine hK.out _ _ (fun hD => S8) ?_
    clear hK K
    try simp only [Act.put, List.setIfInBounds_toArray, List.set_cons_zero, List.set_cons_succ]
    refine' wpAnyD_take (i := 6) (oi := { dst := some 11, op := Go.Op.binOp Go.BinOp.leq 2 (Go.Operand.tmp 10) (Go.Operand.const (Go.Value.int Go.IntKind.i64 0)) 2, type := 4, pos := "multi.go:94", after := #[{ on := 5, ground := Go.Ground.data }], guard := none }) (v := _) rfl (by kernel_rfl) (by kernel_rfl) (by kernel_rfl) (fun _ _ _ h => h) (by kernel_rfl) (Or.inl ⟨by rfl, ?hy21⟩) S8 ?rest21
    case hy21 => (intro W hSw; (try dsimp only at hSw); have k1 := (hSw.cell z1).trans c1; have k2 := (hSw.cell z2).trans c2; have k3 := (hSw.cell z3).trans c3; have k4 := (hSw.cell z4).trans c4; have k5 := (hSw.cell z4).trans c5; have k6 := (hSw.cell z4).trans c6; have y1 := Nat.lt_of_lt_of_le z1 hSw.size; have y2 := Nat.lt_of_lt_of_le z2 hSw.size; have y3 := Nat.lt_of_lt_of_le z3 hSw.size; have y4 := Nat.lt_of_lt_of_le z4 hSw.size; go_simp; (try rw [HE0.out]); try (with_reducible rfl))
    try simp only [Act.put, List.setIfInBounds_toArray, List.set_cons_zero, List.set_cons_succ]
    refine' wpAnyD_take (i := 7) (oi := { dst := some 12, op := Go.Op.move (Go.Operand.tmp 11), type := 4, pos := "multi.go:94", after := #[{ on := 6, ground := Go.Ground.data }, { on := 5, ground := Go.Ground.chain }], guard := none }) (v := _) rfl (by kernel_rfl) (by kernel_rfl) (by kernel_rfl) (fun _ _ _ h => h) (by kernel_rfl) (Or.inl ⟨by rfl, ?hy22⟩) S8 ?rest22
    case hy22 => (intro W hSw; (try dsimp only at hSw); have k1 := (hSw.cell z1).trans c1; have k2 := (hSw.cell z2).trans c2; have k3 := (hSw.cell z3).trans c3; have k4 := (hSw.cell z4).trans c4; have k5 := (hSw.cell z4).trans c5; have k6 := (hSw.cell z4).trans c6; have y1 := Nat.lt_of_lt_of_le z1 hSw.size; have y2 := Nat.lt_of_lt_of_le z2 hSw.size; have y3 := Nat.lt_of_lt_of_le z3 hSw.size; have y4 := Nat.lt_of_lt_of_le z4 hSw.size; go_simp; try (with_reducible rfl))
    try simp only [Act.put, List.setIfInBounds_toArray, List.set_cons_zero, List.set_cons_succ]
    refine' wpAnyD_take (i := 8) (oi := { dst := some 13, op := Go.Op.load 42 (Go.Operand.tmp 2), type := 42, pos := "multi.go:94", after := #[{ on := 7, ground := Go.Ground.guard }], guard := some (7, false) }) (v := _) rfl (by kernel_rfl) (by kernel_rfl) (by kernel_rfl) (fun _ _ _ h => h) (by kernel_rfl) (Or.inl ⟨by rfl, ?hy23⟩) S8 ?rest23
    case hy23 => (intro W hSw; (try dsimp only at hSw); have k1 := (hSw.cell z1).trans c1; have k2 := (hSw.cell z2).trans c2; have k3 := (hSw.cell z3).trans c3; have k4 := (hSw.cell z4).trans c4; have k5 := (hSw.cell z4).trans c5; have k6 := (hSw.cell z4).trans c6; have y1 := Nat.lt_of_lt_of_le z1 hSw.size; have y2 := Nat.lt_of_lt_of_le z2 hSw.size; have y3 := Nat.lt_of_lt_of_le z3 hSw.size; have y4 := Nat.lt_of_lt_of_le z4 hSw.size; go_simp; try (with_reducible rfl))
    try simp only [Act.put, List.setIfInBounds_toArray, List.set_cons_zero, List.set_cons_succ]
    refine' wpAnyD_take (i := 9) (oi := { dst := some 14, op := Go.Op.load 37 (Go.Operand.tmp 3), type := 37, pos := "multi.go:94", after := #[{ on := 7, ground := Go.Ground.guard }], guard := some (7, false) }) (v := _) rfl (by kernel_rfl) (by kernel_rfl) (by kernel_rfl) (fun _ _ _ h => h) (by kernel_rfl) (Or.inl ⟨by rfl, ?hy24⟩) S8 ?rest24
    case hy24 => (intro W hSw; (try dsimp only at hSw); have k1 := (hSw.cell z1).trans c1; have k2 := (hSw.cell z2).trans c2; have k3 := (hSw.cell z3).trans c3; have k4 := (hSw.cell z4).trans c4; have k5 := (hSw.cell z4).trans c5; have k6 := (hSw.cell z4).trans c6; have y1 := Nat.lt_of_lt_of_le z1 hSw.size; have y2 := Nat.lt_of_lt_of_le z2 hSw.size; have y3 := Nat.lt_of_lt_of_le z3 hSw.size; have y4 := Nat.lt_of_lt_of_le z4 hSw.size; go_simp; try (with_reducible rfl))
    try simp only [Act.put, List.setIfInBounds_toArray, List.set_cons_zero, List.set_cons_succ]
    refine wpAnyD_one (i := 10) (o := { dst := some 15, op := Go.Op.call { callee := Go.Callee.value (Go.Operand.func 67), args := #[Go.Operand.tmp 13, Go.Operand.tmp 14], argTypes := #[42, 37] }, type := 4, pos := "multi.go:94", after := #[{ on := 8, ground := Go.Ground.data }, { on := 9, ground := Go.Ground.data }, { on := 7, ground := Go.Ground.chain }, { on := 7, ground := Go.Ground.guard }], guard := some (7, false) }) (by kernel_rfl) rfl (fun K hK => ?_)
    go_simp
    refine (hop _ S8).mono ?_
    rintro e w7 ⟨rfl, g7⟩
    have S7 : Gr W1 w7 := S8.trans g7
    go_wp2_with fail
    refine hK.out _ _ (fun hD => S7) ?_
    clear hK K
    try simp only [Act.put, List.setIfInBounds_toArray, List.set_cons_zero, List.set_cons_succ]
    refine' wpAnyD_take (i := 11) (oi := { dst := some 16, op := Go.Op.unOp Go.UnOp.not 4 (Go.Operand.tmp 15), type := 4, pos := "multi.go:94", after := #[{ on := 10, ground := Go.Ground.data }, { on := 7, ground := Go.Ground.guard }], guard := some (7, false) }) (v := _) rfl (by kernel_rfl) (by kernel_rfl) (by kernel_rfl) (fun _ _ _ h => h) (by kernel_rfl) (Or.inl ⟨by rfl, ?hy26⟩) S7 ?rest26
    case hy26 => (intro W hSw; (try dsimp only at hSw); have k1 := (hSw.cell z1).trans c1; have k2 := (hSw.cell z2).trans c2; have k3 := (hSw.cell z3).trans c3; have k4 := (hSw.cell z4).trans c4; have k5 := (hSw.cell z4).trans c5; have k6 := (hSw.cell z4).trans c6; have y1 := Nat.lt_of_lt_of_le z1 hSw.size; have y2 := Nat.lt_of_lt_of_le z2 hSw.size; have y3 := Nat.lt_of_lt_of_le z3 hSw.size; have y4 := Nat.lt_of_lt_of_le z4 hSw.size; go_simp; try (with_reducible rfl))
    try simp only [Act.put, List.setIfInBounds_toArray, List.set_cons_zero, List.set_cons_succ]
    refine' wpAnyD_take (i := 12) (oi := { dst := some 17, op := Go.Op.pick (Go.Operand.tmp 12) (Go.Operand.const (Go.Value.bool true)) (Go.Operand.tmp 16), type := 4, pos := "multi.go:94", after := #[{ on := 7, ground := Go.Ground.data }, { on := 11, ground := Go.Ground.data }], guard := none }) (v := _) rfl (by kernel_rfl) (by kernel_rfl) (by kernel_rfl) (fun _ _ _ h => h) (by kernel_rfl) (Or.inl ⟨by rfl, ?hy27⟩) S7 ?rest27
    case hy27 => (intro W hSw; (try dsimp only at hSw); have k1 := (hSw.cell z1).trans c1; have k2 := (hSw.cell z2).trans c2; have k3 := (hSw.cell z3).trans c3; have k4 := (hSw.cell z4).trans c4; have k5 := (hSw.cell z4).trans c5; have k6 := (hSw.cell z4).trans c6; have y1 := Nat.lt_of_lt_of_le z1 hSw.size; have y2 := Nat.lt_of_lt_of_le z2 hSw.size; have y3 := Nat.lt_of_lt_of_le z3 hSw.size; have y4 := Nat.lt_of_lt_of_le z4 hSw.size; go_simp; try (with_reducible rfl))
    try simp only [Act.put, List.setIfInBounds_toArray, List.set_cons_zero, List.set_cons_succ]
    refine' wpAnyD_take (i := 13) (oi := { dst := some 4, op := Go.Op.assign (Go.Operand.tmp 17), type := 4, pos := "multi.go:94", after := #[{ on := 12, ground := Go.Ground.data }, { on := 10, ground := Go.Ground.chain }, { on := 0, ground := Go.Ground.phase }, { on := 1, ground := Go.Ground.phase }, { on := 2, ground := Go.Ground.phase }, { on := 3, ground := Go.Ground.phase }, { on := 4, ground := Go.Ground.phase }, { on := 5, ground := Go.Ground.phase }, { on := 6, ground := Go.Ground.phase }, { on := 7, ground := Go.Ground.phase }, { on := 8, ground := Go.Ground.phase }, { on := 9, ground := Go.Ground.phase }, { on := 10, ground := Go.Ground.phase }, { on := 11, ground := Go.Ground.phase }, { on := 12, ground := Go.Ground.phase }], guard := none }) (v := _) rfl (by kernel_rfl) (by kernel_rfl) (by kernel_rfl) (fun _ _ _ h => h) (by kernel_rfl) (Or.inl ⟨by rfl, ?hy28⟩) S7 ?rest28
    case hy28 => (intro W hSw; (try dsimp only at hSw); have k1 := (hSw.cell z1).trans c1; have k2 := (hSw.cell z2).trans c2; have k3 := (hSw.cell z3).trans c3; have k4 := (hSw.cell z4).trans c4; have k5 := (hSw.cell z4).trans c5; have k6 := (hSw.cell z4).trans c6; have y1 := Nat.lt_of_lt_of_le z1 hSw.size; have y2 := Nat.lt_of_lt_of_le z2 hSw.size; have y3 := Nat.lt_of_lt_of_le z3 hSw.size; have y4 := Nat.lt_of_lt_of_le z4 hSw.size; go_simp; try (with_reducible rfl))
    try simp only [Act.put, List.setIfInBounds_toArray, List.set_cons_zero, List.set_cons_succ]
    refine wpAnyD_done (by kernel_rfl) ?_ _
    go_wp2
    go_ret
    exact ⟨by first | rfl | simp, HG.out.trans S7⟩
end Go.Proofs.YtnpmmodcmfgbjaaGreat

namespace Go.Proofs.YtnpmmodcmfgbjaaGreat
open Go.RowKit Go.Sort
/-- clear(s[i:]) within a row. -/
theorem run_clear_row {P : Program} (w : World) (sT ty elem : TypeId) (z : Value) (g o n c : Nat) (cur : Array Value) (t : TypeId)
    (hu : P.underlying sT = some (.slice elem)) (hz : (zeroValue elem).run P w = .ok z w) (hn : 0 < n)
    (hg : w.heap[g]? = some (.cells cur t (0, 0))) (hfit : o + (Builtin.zeroCells z.cells n).size ≤ cur.size) (h1 : ∀ v ∈ (Builtin.zeroCells z.cells n).toList, v.oneCell' = true) :
    (Builtin.clear_ #[sT] ty #[.slice (some ⟨g, o, none⟩) n c]).run P w =
      .ok (.tuple #[]) (w.setRow g (cur.toList.take o ++ (Builtin.zeroCells z.cells n).toList ++ cur.toList.drop (o + (Builtin.zeroCells z.cells n).size)).toArray) := by
  have hst := run_storeCells_at P g o t (Builtin.zeroCells z.cells n).toList 0 cur w hg (by simpa using hfit) h1
  obtain ⟨m, rfl⟩ : ∃ m, n = m + 1 := ⟨n - 1, by omega⟩
  simp [Builtin.clear_, run_underlying hu, hz, Result.andThen]
  simp at hst
  rw [hst]
theorem owns_clear {P : Program} {α : Type} {E : El α} {w : World} {base : Nat} {e sT : TypeId} {z : Value} {g N cap i : Nat} {M : List α} (ty : TypeId) (c : Nat) (hu : P.underlying sT = some (.slice e)) (hz : ∀ u : World, (zeroValue e).run P u = .ok z u) (hzs : z.cells.size = E.k)
    (hz1 : ∀ j, j < E.k → (z.cells[j]!).oneCell' = true) (hk : 0 < E.k) (h : w.ownsRow base e E.k (.slice (some ⟨g, 0, none⟩) N cap) N (fl E M)) (hM : M.length = N) (hi : i < N) :
    ∃ w', (Builtin.clear_ #[sT] ty #[.slice (some ⟨g, i * E.k, none⟩) (N - i) c]).run P w = .ok (.tuple #[]) w' ∧ w'.ownsRow base e E.k (.slice (some ⟨g, 0, none⟩) i cap) i (fl E (M.take i)) ∧ Kp (fun k => k = g) w w' := by
  obtain ⟨hlen, ⟨h0, _⟩ | ⟨g', cap', cur, hv, hbs, hgg, hn, hm, hcs, htk⟩⟩ := id h
  · cases h0
  cases hv
  have hsz : (Builtin.zeroCells z.cells (N - i)).size = (N - i) * E.k := by simp [Builtin.zeroCells, hzs]
  have hNk : i * E.k + (N - i) * E.k = N * E.k := by rw [← Nat.add_mul]; congr 1; omega
  have hNc : N * E.k ≤ cap * E.k := Nat.mul_le_mul_right _ hn
  have hfit : i * E.k + (Builtin.zeroCells z.cells (N - i)).size ≤ cur.size := by rw [hsz, hNk, hcs]; exact hNc
  have h1 : ∀ v ∈ (Builtin.zeroCells z.cells (N - i)).toList, v.oneCell' = true := by
    intro v hv
    simp [Builtin.zeroCells] at hv
    obtain ⟨j, _, rfl⟩ := hv
    have := hz1 (j % z.cells.size) (by rw [hzs]; exact Nat.mod_lt _ hk)
    simpa using this
  have hrun := run_clear_row w sT ty e z g (i * E.k) (N - i) c cur e hu (hz w) (by omega) hgg hfit h1
  have hle : i * E.k ≤ cur.size := by omega
  refine ⟨_, hrun, ⟨by rw [fl_length, List.length_take]; congr 1; omega, Or.inr ⟨g, cap, _, rfl, hbs, setRow_heap w g _ _ _ _ hgg, by omega, hm, ?_, ?_⟩⟩, ⟨rfl, rfl, rfl, by simp [World.setRow], fun j _ hne => setRow_other w g j _ hne⟩⟩
  · simp only [List.size_toArray, List.length_append, List.length_take, List.length_drop, Array.length_toList, hsz]
    omega
  · rw [List.toList_toArray, List.append_assoc, List.take_append_of_le_length (by simp [hle]), List.take_take, Nat.min_self, ← fl_take, ← htk, List.take_take, Nat.min_eq_left (Nat.mul_le_mul_right _ (by omega))]
end Go.Proofs.YtnpmmodcmfgbjaaGreat

namespace Go.Proofs.YtnpmmodcmfgbjaaGreat
open Go.RowKit Go.Sort Go.Maps
open Tt (Tl byd byd_f byd_t)
attribute [local go_sem ↓] Go.wp_at_zero Go.wp_at_succ

theorem zeroT (w : World) : (zeroValue 37).run Tryz.prog w = .ok (.agg #[.int .u64 0, .int .u64 0, .int .u64 0]) w := by kernel_rfl
theorem filter_take_succ {α : Type} {p : α → Bool} {l : List α} {j : Nat} {y : α} (h : l[j]? = some y) : (l.take (j + 1)).filter p = (l.take j).filter p ++ (if p y then [y] else []) := by
  rw [List.take_add_one, h, List.filter_append]
  cases hp : p y <;> simp [hp]
theorem filter_findIdx {α : Type} {p : α → Bool} {l : List α} {i : Nat} {y : α} (hi : l.findIdx p = i) (hy : l[i]? = some y) : (l.take (i + 1)).filter (fun x => !p x) = l.take i := by
  have hlt : i < l.length := (List.getElem?_eq_some_iff.1 hy).1
  have hp : p y = true := by
    obtain ⟨h1, h2⟩ := List.getElem?_eq_some_iff.1 hy
    subst hi
    rw [← h2]
    exact List.findIdx_getElem (w := hlt)
  rw [filter_take_succ hy, hp]
  simp only [Bool.not_true, Bool.false_eq_true, if_false, List.append_nil]
  rw [List.filter_eq_self]
  intro a ha
  subst hi
  rw [findIdx_take_false (p := p) ha]; rfl

set_option maxHeartbeats 4000000 in
set_option maxRecDepth 100000 in
theorem deleteFunc_any {base : Nat} (g cap : Nat) (l : List Tm) (gf : Nat) (lb : Array Value) (p : Tm → Bool) (w : World) (ho : w.ownsRow base 37 3 (.slice (some ⟨g, 0, none⟩) l.length cap) l.length (flT l)) (hl : l.length * 24 ≤ 140737488355328) (eg : ∀ args w, (callFunc gf args).run Tryz.prog w = .ok (.enter gf args) w)
    (hp : ∀ (W : World) (x : Tm), Kp (fun k => k = g) w W → Calls Tryz.prog gf (#[tv x] ++ lb) W fun e w' => e = .returned (.bool (p x)) ∧ Gr W w') :
    Calls Tryz.prog 65 #[.slice (some ⟨g, 0, none⟩) l.length cap, .func (.func gf) #[] lb] w fun e w' => ∃ c', e = .returned (.slice (some ⟨g, 0, none⟩) (l.filter fun x => !p x).length c') ∧
      w'.ownsRow 0 37 3 (.slice (some ⟨g, 0, none⟩) (l.filter fun x => !p x).length c') (l.filter fun x => !p x).length (flT (l.filter fun x => !p x)) ∧ Kp (fun k => k = g) w w' := by
  have hix := Cn.indexFunc_any (.slice (some ⟨g, 0, none⟩) l.length cap) l gf lb p w (owns_lst ho) (by unfold maxLen; omega) eg (fun W x hg => hp W x (Kp.of_gr hg))
  have HP : Hid (∀ (W : World) (x : Tm), Kp (fun k => k = g) w W → Calls Tryz.prog gf (#[tv x] ++ lb) W fun e w' => e = .returned (.bool (p x)) ∧ Gr W w') := hp
  have HO : Hid (w.ownsRow 0 37 3 (.slice (some ⟨g, 0, none⟩) l.length cap) l.length (flT l)) := owns_base ho (Nat.zero_le _)
  obtain ⟨hc1, hc2⟩ := owns_cap ho
  unfold maxLen at hc2
  clear hp ho
  by_cases hi : l.findIdx p < l.length
  · have hv : Cn.idxv p l = ((l.findIdx p : Nat) : Int) := by unfold Cn.idxv; rw [if_pos hi]
    rw [hv] at hix
    obtain ⟨y0, hy0⟩ : ∃ y, l[l.findIdx p]? = some y := ⟨l[l.findIdx p], by simp⟩
    have HF := filter_findIdx (p := p) rfl hy0
    clear hv hy0
    generalize l.findIdx p = i at *
    have HF0 : Hid ((l.take (i + 1)).filter (fun x => !p x) = l.take i) := HF
    clear HF
    have hne : ¬ (i : Int) = -1 := by omega
    go_enter Tryz.func65, Tryz.ntmps65
    go_wp2_with fail
    refine hix.mono ?_
    rintro e w1 ⟨rfl, hg1⟩
    have HG1 : Hid (Gr w w1) := hg1
    have HO1 : Hid (w1.ownsRow 0 37 3 (.slice (some ⟨g, 0, none⟩) l.length cap) l.length (flT l)) := owns_below HO.out hg1.below
    clear hix hg1
    go_wp2_with fail
    go_loopw [5, 6, 7] (fun s5 s6 _ wr => ∃ (j q : Nat) (M : List Tm), j ≤ l.length ∧ s6 = .int .i64 j ∧ s5 = .int .i64 q ∧ q < j ∧ Hid (wr.ownsRow 0 37 3 (.slice (some ⟨g, 0, none⟩) l.length cap) l.length (flT M) ∧ M.length = l.length ∧ M.take q = (l.take j).filter (fun x => !p x) ∧ M.drop j = l.drop j ∧ Kp (fun k => k = g) w1 wr)) (fun _ s6 _ _ => l.length - (RowKit.intOf s6).toNat)
    case atStart => exact ⟨i + 1, i, l, by omega, by go_num, rfl, by omega, HO1.out, rfl, HF0.out.symm, rfl, Kp.refl _ _⟩
    case round =>
      obtain ⟨j, q, M, hj, rfl, rfl, hqj, HI⟩ := hrel
      obtain ⟨hoM, hML, hMt, hMd, hkp⟩ := HI.out
      by_cases hlt : j < l.length
      · have hltz : (j : Int) < (l.length : Int) := by omega
        obtain ⟨y, hy⟩ : ∃ y, l[j]? = some y := ⟨l[j], by simp⟩
        have hMy : M[j]? = some y := by
          have : (M.drop j)[0]? = (l.drop j)[0]? := by rw [hMd]
          simpa [hy] using this
        obtain ⟨b1, o1, c1, e1, z1, x1, x2, x3⟩ := (owns_lst (ts := M) (by rw [hML]; exact hoM)).at3 hMy
        simp only [Value.slice.injEq, Option.some.injEq, Addr.mk.injEq, and_true] at e1
        obtain ⟨⟨rfl, rfl⟩, -, rfl⟩ := e1
        rw [Nat.zero_add] at x1 x2 x3
        obtain ⟨W2, hW2⟩ : ∃ W2, W2 = wr.alloc (.cells #[.int .u64 y.1.1, .int .u64 y.1.2.1, .int .u64 y.1.2.2] 37) := ⟨_, rfl⟩
        have G2 : Gr wr W2 := by rw [hW2]; exact (Gr.refl _).alloc _
        have hcall := HP.out W2 y ((Kp.of_gr HG1.out).trans (hkp.trans (Kp.of_gr (S := fun k => k = g) G2) (fun _ _ h => h)) (fun _ _ h => h))
        have HFS : Hid ((l.take (j + 1)).filter (fun x => !p x) = (l.take j).filter (fun x => !p x) ++ (if (!p y) then [y] else [])) := filter_take_succ hy
        have HMD : Hid (∀ M' : List Tm, M'.drop j = l.drop j → M'.drop (j + 1) = l.drop (j + 1)) := fun M' h => by rw [← List.drop_drop, h, List.drop_drop]
        have HMT : Hid (M.take q = (l.take j).filter (fun x => !p x)) := hMt
        have HMDD : Hid (M.drop j = l.drop j) := hMd
        have HM : Hid (wr.ownsRow 0 37 3 (.slice (some ⟨g, 0, none⟩) l.length cap) l.length (flT M)) := hoM
        have HKP : Hid (Kp (fun k => k = g) w1 wr) := hkp
        have hgl : g < wr.heap.size := z1
        clear hy hMy hMt hMd hoM hkp HI
        cases hq : p y with
        | true =>
          rw [hq] at hcall
          have HE : Hid ((l.take (j + 1)).filter (fun x => !p x) = (l.take j).filter (fun x => !p x)) := by rw [HFS.out, hq]; simp [Hid]
          subst hW2
          go_wp2_with (go_at_fn gf; refine hcall.mono ?_; rintro e w3 ⟨rfl, hg3⟩)
          go_roundw
          case rel =>
            refine ⟨_, _, _, _, _, _, _, _, _, _, _, _, _, _, _, _, _, _, _, _, _, _, _, ?rl, rfl⟩
            exact ⟨j + 1, q, M, by omega, by go_num, rfl, by omega, owns_below HM.out (G2.trans hg3).below, hML, by rw [HE.out]; exact HMT.out, HMD.out M HMDD.out, HKP.out.trans (Kp.of_gr (S := fun k => k = g) (G2.trans hg3)) (fun _ _ h => h)⟩
          case measure => simp [RowKit.intOf]; omega
        | false =>
          rw [hq] at hcall
          have HE : Hid ((l.take (j + 1)).filter (fun x => !p x) = (l.take j).filter (fun x => !p x) ++ [y]) := by rw [HFS.out, hq]; simp [Hid]
          have hq0 : W2.cell? ⟨wr.heap.size, 0, none⟩ = some (.int .u64 y.1.1) := by rw [hW2]; simp
          have hq1 : W2.cell? ⟨wr.heap.size, 1, none⟩ = some (.int .u64 y.1.2.1) := by rw [hW2]; simp
          have hq2 : W2.cell? ⟨wr.heap.size, 2, none⟩ = some (.int .u64 y.1.2.2) := by rw [hW2]; simp
          have hnl : wr.heap.size < W2.heap.size := by rw [hW2]; simp
          obtain ⟨u, hu⟩ : ∃ u, M[q]? = some u := ⟨M[q]'(by omega), by simp⟩
          have HU : Hid (M[q]? = some u) := hu
          have hgn : g ≠ wr.heap.size := by omega
          clear hu
          subst hW2
          go_wp2_with fail
          go_at_fn gf
          refine hcall.mono ?_
          rintro e w3 ⟨rfl, hg3⟩
          have HO3 : Hid (w3.ownsRow 0 37 3 (.slice (some ⟨g, 0, none⟩) l.length cap) l.length (flT M)) := owns_below HM.out (G2.trans hg3).below
          obtain ⟨b2, o2, c2, e2, z2, u1, u2, u3⟩ := (owns_lst (ts := M) (by rw [hML]; exact HO3.out)).at3 HU.out
          simp only [Value.slice.injEq, Option.some.injEq, Addr.mk.injEq, and_true] at e2
          obtain ⟨⟨rfl, rfl⟩, -, rfl⟩ := e2
          rw [Nat.zero_add] at u1 u2 u3
          obtain ⟨f1, f2, f3⟩ : w3.frozen? ⟨g, q * 3, none⟩ = false ∧ w3.frozen? ⟨g, q * 3 + 1, none⟩ = false ∧ w3.frozen? ⟨g, q * 3 + 2, none⟩ = false := by
            obtain ⟨_, ⟨h0, _⟩ | ⟨g', cap', cur, hv, _, hgg, _⟩⟩ := id HO3.out
            · cases h0
            · cases hv; simp [World.frozen?, hgg]
          have r0 := (hg3.cell hnl).trans hq0
          have r1 := (hg3.cell hnl).trans hq1
          have r2 := (hg3.cell hnl).trans hq2
          have hn3 := Nat.lt_of_lt_of_le hnl hg3.size
          have hqz : (q : Int) < (l.length : Int) := by omega
          clear hq0 hq1 hq2 x1 x2 x3 hcall
          go_wp2
          obtain ⟨ho4, hk4⟩ := Cn.owns_set3 (k := q) y HO3.out
          go_roundw
          case rel =>
            refine ⟨_, _, _, _, _, _, _, _, _, _, _, _, _, _, _, _, _, _, _, _, _, _, _, ?rl2, rfl⟩
            refine ⟨j + 1, q + 1, M.set q y, by omega, by go_num, by go_num, by omega, ho4, by simp [hML], ?_, HMD.out _ ?_, (HKP.out.trans (Kp.of_gr (S := fun k => k = g) (G2.trans hg3)) (fun _ _ h => h)).trans hk4 (fun _ _ h => h)⟩
            · rw [HE.out, ← HMT.out, List.take_add_one, List.getElem?_set_self (by omega), List.take_set_of_le (Nat.le_refl _)]
              rfl
            · rw [List.drop_set_of_lt hqj]
              exact HMDD.out
          case measure => simp [RowKit.intOf]; omega
      · have hltz : ¬ (j : Int) < (l.length : Int) := by omega
        have hjl : j = l.length := by omega
        subst hjl
        rw [List.take_length] at hMt
        have HM9 : Hid (M.take q = l.filter (fun x => !p x)) := hMt
        have hql : (l.filter (fun x => !p x)).length = q := by rw [← hMt, List.length_take]; omega
        have HQL : Hid ((l.filter (fun x => !p x)).length = q) := hql
        obtain ⟨w9, hrun, ho9, hk9⟩ := owns_clear (P := Tryz.prog) (E := ET) (sT := 42) (z := .agg #[.int .u64 0, .int .u64 0, .int .u64 0]) 0 (cap - q) Tryz.underlying42 zeroT rfl (fun j hj => by have hj' : j < 3 := hj; (match j, hj' with | 0, _ => rfl | 1, _ => rfl | 2, _ => rfl)) (by decide) hoM hML hqj
        have hrun : Sem.run Tryz.prog (Builtin.clear_ #[42] 0 #[.slice (some ⟨g, q * 3, none⟩) (l.length - q) (cap - q)]) wr = .ok (.tuple #[]) w9 := hrun
        have H9 : Hid (w9.ownsRow 0 37 3 (.slice (some ⟨g, 0, none⟩) q cap) q (flT (M.take q)) ∧ Kp (fun k => k = g) w w9) := ⟨ho9, (Kp.of_gr HG1.out).trans (hkp.trans hk9 (fun _ _ h => h)) (fun _ _ h => h)⟩
        have z1 : (0 : Int) ≤ (q : Int) := by omega
        have z2 : (q : Int) ≤ (l.length : Int) := by omega
        have z3 : ¬ cap = q := by omega
        have z4 : (q : Int) ≤ (cap : Int) := by omega
        have z5 : ¬ cap = 0 := by omega
        clear hMt hql hoM hk9 ho9 hMd HI hkp
        go_wp2
        go_ret
        refine ⟨cap, by rw [HQL.out]; rfl, ?_, H9.out.2⟩
        rw [HQL.out, ← HM9.out]
        exact H9.out.1
  · have hv : Cn.idxv p l = -1 := by unfold Cn.idxv; rw [if_neg hi]
    rw [hv] at hix
    have HF : Hid (l.filter (fun x => !p x) = l) := by
      rw [List.findIdx_lt_length] at hi
      show _ = _
      rw [List.filter_eq_self]
      intro a ha
      cases hq : p a with
      | false => rfl
      | true => exact absurd ⟨a, ha, hq⟩ hi
    rw [HF.out]
    clear hv hi
    go_enter Tryz.func65, Tryz.ntmps65
    go_wp2_with fail
    refine hix.mono ?_
    rintro e w1 ⟨rfl, hg1⟩
    go_wp2
    go_ret
    exact ⟨_, rfl, owns_below HO.out hg1.below, Kp.of_gr hg1⟩
end Go.Proofs.YtnpmmodcmfgbjaaGreat
