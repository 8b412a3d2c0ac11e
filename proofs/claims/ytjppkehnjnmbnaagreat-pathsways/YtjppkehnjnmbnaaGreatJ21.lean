import Derived.Test.YtjppkehnjnmbnaaGreatJ20
import Derived.Test.YtjppkehnjnmbnaaGreatGM1
import Derived.Test.YtjppkehnjnmbnaaGreatEqs
import Derived.Test.YtjppkehnjnmbnaaGreatRows
import Derived.Test.YtjppkehnjnmbnaaGreatGFlaw
import Derived.ProofKit
import Derived.Lay
import Derived.LaidMore
import Derived.Deep.DeepHandedRow
import Derived.Lib.SmallJoins
import Derived.OpenShut
import Derived.Deep.Slices
import Derived.ChangeOld
import Derived.Test.YtjppkehnjnmbnaaGreatJ12
namespace Go.Proofs.YtjppkehnjnmbnaaGreat.Lf
open Go.RowKit Go.Sort Pt
open Df (tk_store tk_lt)
section
variable {n : Nat} {R : Nat → Nat → List Tri} {s : Hf.Th} {l : List Hf.Th}
end
end Go.Proofs.YtjppkehnjnmbnaaGreat.Lf

namespace Go.Proofs.YtjppkehnjnmbnaaGreat.Lf
open Go.RowKit Go.Sort Pt
open Df (hid Gph plN Gok GR NV Edg gof gvc Gcap EI tk_store tk_lt owns_form owns_caps stR)
attribute [local go_sem ↓] Go.wp_at_zero Go.wp_at_succ
set_option maxRecDepth 100000 in
set_option maxHeartbeats 8000000 in
theorem pathsWays_any {M0 : Nat} {nv ev pv : Value} {a : Int} {xs : List NV} {es : List Edg} {pk : List Int} (s : Hf.Th) (w : World) (hG : GR M0 w nv ev xs es) (hM : M0 ≤ w.heap.size) (hC : Gcap ev xs) (hP : Gpt (gof a xs es)) (hs : Ls EI w pv pk) (hpl : pk.length ≤ 140737488351232) : Calls Tryz.prog 5 #[.agg (gvc a nv ev), .agg #[.int .i64 s.1, .int .u64 s.2.1.1, .int .u64 s.2.1.2.1, .int .u64 s.2.1.2.2], pv] w fun e w' => e = .returned (.bool true) ∧ Below w.heap.size w w' := by
 have hmx : Tryz.prog.follows .mixedOrders = true := by kernel_rfl
 obtain ⟨ps, cs, rfl⟩ := hs.form
 obtain ⟨xb, hxb⟩ : ∃ b, b = w.heap.size := ⟨_, rfl⟩
 obtain ⟨W0, hW0⟩ : ∃ W, W = (w.alloc (.cells (gvc a nv ev) 25)).alloc (.cells #[.int .i64 s.1, .int .u64 s.2.1.1, .int .u64 s.2.1.2.1, .int .u64 s.2.1.2.2] 52) := ⟨_, rfl⟩
 have P0 : Hid (Below w.heap.size w W0 ∧ W0.heap[xb]? = some (.cells (gvc a nv ev) 25 (0, 0)) ∧ W0.heap[xb + 1]? = some (.cells #[.int .i64 s.1, .int .u64 s.2.1.1, .int .u64 s.2.1.2.1, .int .u64 s.2.1.2.2] 52 (0, 0)) ∧ Ls EI W0 (.slice ps pk.length cs) pk) := by
  rw [hW0, hxb]
  exact ⟨(((Gr.refl w).alloc _).alloc _).below, Df.new1 w _ _, Df.new2 w _ _, hs.below (((Gr.refl w).alloc _).alloc _).below⟩
 have hbo := both_any (a := a) W0 (hG.below P0.out.1) (Nat.le_trans hM P0.out.1.size) hC hP
 have HG0 : Hid (∀ W, Below W0.heap.size W0 W → GR M0 W nv ev xs es ∧ M0 ≤ W.heap.size) := fun W hb => by
  have h1 := P0.out.1.trans (hb.mono P0.out.1.size)
  exact ⟨hG.below h1, Nat.le_trans hM h1.size⟩
 have HPT := hid hP
 have HW0 : Hid ((w.alloc (.cells (gvc a nv ev) 25)).alloc (.cells #[.int .i64 s.1, .int .u64 s.2.1.1, .int .u64 s.2.1.2.1, .int .u64 s.2.1.2.2] 52) = W0 ∧ w.heap.size = xb) := ⟨hW0.symm, hxb.symm⟩
 have c0 := (tk_store P0.out.2.1).1
 have l0 := tk_lt P0.out.2.1
 have hpk : (pk.length : Int) ≤ 140737488351232 := by omega
 clear hG hM hC hP hs hW0 hxb hpl
 obtain ⟨g, hg⟩ : ∃ g, g = gof a xs es := ⟨_, rfl⟩
 have HGE := hid hg
 rw [← hg] at hbo HPT
 clear hg
 go_enter Tryz.func5, Tryz.ntmps5
 go_upto_region 1 with fail
 rw [HW0.out.1, HW0.out.2]
 clear HW0
 go_wp2_with fail
 refine hbo.mono ?_
 clear hbo c0 l0
 rintro r w1 ⟨hb1, hr⟩
 have HB1 := hid hb1
 clear hb1
 rcases hr with rfl | ⟨tb, rb, R, hok, hres, rfl, htp, htr⟩
 ·go_wp2_with fail
  refine (known_any w1).mono ?_
  rintro r w2 ⟨rfl, H2⟩
  have HBz : Hid (Below w.heap.size w w2) := P0.out.1.trans ((HB1.out.trans (H2.out.mono HB1.out.size)).mono P0.out.1.size)
  go_upto_region 4 with fail
  have hB0 : Below w2.heap.size w2 w2.drew := (Gr.refl w2).drew.below
  have hS0 : Below w2.heap.size w2 w2.drew := hB0
  refine wp_regionD (S := fun W => Below w2.heap.size w2 W) (D := []) hmx ?_
  refine' wpAnyD_take (i := 0) (oi := {dst := some 33, op := .move (.tmp 10), type := 4, pos := "law.go:253", after := #[], guard := none}) (v := _) rfl (by kernel_rfl) (by kernel_rfl) (by kernel_rfl) (fun _ _ _ h => h) (by kernel_rfl) (Or.inl ⟨by rfl, ?hy1⟩) hS0 ?rest1
  case hy1 => (intro W hSw; go_simp; try (with_reducible rfl))
  try simp only [Act.put, List.setIfInBounds_toArray, List.set_cons_zero, List.set_cons_succ]
  refine' wpAnyD_take (i := 1) (oi := {dst := some 34, op := .move (.tmp 33), type := 4, pos := "law.go:253", after := #[{on := 0, ground := .data}], guard := none}) (v := _) rfl (by kernel_rfl) (by kernel_rfl) (by kernel_rfl) (fun _ _ _ h => h) (by kernel_rfl) (Or.inl ⟨by rfl, ?hy2⟩) hS0 ?rest2
  case hy2 => (intro W hSw; go_simp; try (with_reducible rfl))
  try simp only [Act.put, List.setIfInBounds_toArray, List.set_cons_zero, List.set_cons_succ]
  refine' wpAnyD_take (i := 2) (oi := {dst := some 35, op := .fieldAddr 52 (.tmp 4) 0, type := 0, pos := "law.go:253", after := #[{on := 1, ground := .guard}], guard := some (1, false)}) (v := undef) rfl (by kernel_rfl) (by kernel_rfl) (by kernel_rfl) (fun _ _ _ h => h) (by kernel_rfl) (Or.inr ⟨by rfl, rfl⟩) hS0 ?rest3
  try simp only [Act.put, List.setIfInBounds_toArray, List.set_cons_zero, List.set_cons_succ]
  refine' wpAnyD_take (i := 3) (oi := {dst := some 36, op := .load 3 (.tmp 35), type := 3, pos := "law.go:253", after := #[{on := 2, ground := .data}, {on := 1, ground := .guard}], guard := some (1, false)}) (v := undef) rfl (by kernel_rfl) (by kernel_rfl) (by kernel_rfl) (fun _ _ _ h => h) (by kernel_rfl) (Or.inr ⟨by rfl, rfl⟩) hS0 ?rest4
  try simp only [Act.put, List.setIfInBounds_toArray, List.set_cons_zero, List.set_cons_succ]
  refine' wpAnyD_take (i := 4) (oi := {dst := some 37, op := .binOp .lss 3 (.tmp 36) (.const (.int .i64 0)) 3, type := 4, pos := "law.go:253", after := #[{on := 3, ground := .data}, {on := 1, ground := .guard}], guard := some (1, false)}) (v := undef) rfl (by kernel_rfl) (by kernel_rfl) (by kernel_rfl) (fun _ _ _ h => h) (by kernel_rfl) (Or.inr ⟨by rfl, rfl⟩) hS0 ?rest5
  try simp only [Act.put, List.setIfInBounds_toArray, List.set_cons_zero, List.set_cons_succ]
  refine' wpAnyD_take (i := 5) (oi := {dst := some 38, op := .pick (.tmp 34) (.const (.bool true)) (.tmp 37), type := 4, pos := "law.go:253", after := #[{on := 1, ground := .data}, {on := 4, ground := .data}], guard := none}) (v := _) rfl (by kernel_rfl) (by kernel_rfl) (by kernel_rfl) (fun _ _ _ h => h) (by kernel_rfl) (Or.inl ⟨by rfl, ?hy6⟩) hS0 ?rest6
  case hy6 => (intro W hSw; go_simp; try (with_reducible rfl))
  try simp only [Act.put, List.setIfInBounds_toArray, List.set_cons_zero, List.set_cons_succ]
  refine' wpAnyD_take (i := 6) (oi := {dst := some 39, op := .move (.tmp 38), type := 4, pos := "law.go:253", after := #[{on := 5, ground := .data}, {on := 1, ground := .chain}], guard := none}) (v := _) rfl (by kernel_rfl) (by kernel_rfl) (by kernel_rfl) (fun _ _ _ h => h) (by kernel_rfl) (Or.inl ⟨by rfl, ?hy7⟩) hS0 ?rest7
  case hy7 => (intro W hSw; go_simp; try (with_reducible rfl))
  try simp only [Act.put, List.setIfInBounds_toArray, List.set_cons_zero, List.set_cons_succ]
  refine' wpAnyD_take (i := 7) (oi := {dst := some 40, op := .fieldAddr 52 (.tmp 4) 0, type := 0, pos := "law.go:253", after := #[{on := 6, ground := .guard}], guard := some (6, false)}) (v := undef) rfl (by kernel_rfl) (by kernel_rfl) (by kernel_rfl) (fun _ _ _ h => h) (by kernel_rfl) (Or.inr ⟨by rfl, rfl⟩) hS0 ?rest8
  try simp only [Act.put, List.setIfInBounds_toArray, List.set_cons_zero, List.set_cons_succ]
  refine' wpAnyD_take (i := 8) (oi := {dst := some 41, op := .load 3 (.tmp 40), type := 3, pos := "law.go:253", after := #[{on := 7, ground := .data}, {on := 6, ground := .guard}], guard := some (6, false)}) (v := undef) rfl (by kernel_rfl) (by kernel_rfl) (by kernel_rfl) (fun _ _ _ h => h) (by kernel_rfl) (Or.inr ⟨by rfl, rfl⟩) hS0 ?rest9
  try simp only [Act.put, List.setIfInBounds_toArray, List.set_cons_zero, List.set_cons_succ]
  refine' wpAnyD_take (i := 9) (oi := {dst := some 42, op := .move (.tmp 8), type := 27, pos := "law.go:253", after := #[{on := 6, ground := .guard}], guard := some (6, false)}) (v := undef) rfl (by kernel_rfl) (by kernel_rfl) (by kernel_rfl) (fun _ _ _ h => h) (by kernel_rfl) (Or.inr ⟨by rfl, rfl⟩) hS0 ?rest10
  try simp only [Act.put, List.setIfInBounds_toArray, List.set_cons_zero, List.set_cons_succ]
  refine' wpAnyD_take (i := 10) (oi := {dst := some 43, op := .nilCheck (.tmp 42), type := 0, pos := "law.go:253", after := #[{on := 9, ground := .data}, {on := 6, ground := .guard}], guard := some (6, false)}) (v := undef) rfl (by kernel_rfl) (by kernel_rfl) (by kernel_rfl) (fun _ _ _ h => h) (by kernel_rfl) (Or.inr ⟨by rfl, rfl⟩) hS0 ?rest11
  try simp only [Act.put, List.setIfInBounds_toArray, List.set_cons_zero, List.set_cons_succ]
  refine' wpAnyD_take (i := 11) (oi := {dst := some 44, op := .fieldAddr 33 (.tmp 43) 0, type := 0, pos := "law.go:253", after := #[{on := 10, ground := .data}, {on := 6, ground := .guard}], guard := some (6, false)}) (v := undef) rfl (by kernel_rfl) (by kernel_rfl) (by kernel_rfl) (fun _ _ _ h => h) (by kernel_rfl) (Or.inr ⟨by rfl, rfl⟩) hS0 ?rest12
  try simp only [Act.put, List.setIfInBounds_toArray, List.set_cons_zero, List.set_cons_succ]
  refine' wpAnyD_take (i := 12) (oi := {dst := some 45, op := .load 3 (.tmp 44), type := 3, pos := "law.go:253", after := #[{on := 11, ground := .data}, {on := 6, ground := .guard}], guard := some (6, false)}) (v := undef) rfl (by kernel_rfl) (by kernel_rfl) (by kernel_rfl) (fun _ _ _ h => h) (by kernel_rfl) (Or.inr ⟨by rfl, rfl⟩) hS0 ?rest13
  try simp only [Act.put, List.setIfInBounds_toArray, List.set_cons_zero, List.set_cons_succ]
  refine' wpAnyD_take (i := 13) (oi := {dst := some 46, op := .binOp .geq 3 (.tmp 41) (.tmp 45) 3, type := 4, pos := "law.go:253", after := #[{on := 8, ground := .data}, {on := 12, ground := .data}, {on := 6, ground := .guard}], guard := some (6, false)}) (v := undef) rfl (by kernel_rfl) (by kernel_rfl) (by kernel_rfl) (fun _ _ _ h => h) (by kernel_rfl) (Or.inr ⟨by rfl, rfl⟩) hS0 ?rest14
  try simp only [Act.put, List.setIfInBounds_toArray, List.set_cons_zero, List.set_cons_succ]
  refine' wpAnyD_take (i := 14) (oi := {dst := some 47, op := .pick (.tmp 39) (.const (.bool true)) (.tmp 46), type := 4, pos := "law.go:253", after := #[{on := 6, ground := .data}, {on := 13, ground := .data}], guard := none}) (v := _) rfl (by kernel_rfl) (by kernel_rfl) (by kernel_rfl) (fun _ _ _ h => h) (by kernel_rfl) (Or.inl ⟨by rfl, ?hy15⟩) hS0 ?rest15
  case hy15 => (intro W hSw; go_simp; try (with_reducible rfl))
  try simp only [Act.put, List.setIfInBounds_toArray, List.set_cons_zero, List.set_cons_succ]
  refine wpAnyD_done (by kernel_rfl) ?_ _
  go_wp2
  go_ret
  exact ⟨rfl, HBz.out.trans (hB0.mono HBz.out.size)⟩
 ·have HR := hid (bt_len hres)
  have HRS := hid hres
  have HT := hid htp
  have HTR := hid htr
  have HOK := hid hok
  have hn := Df.plN_le hok
  clear hres htp htr hok
  have HN : Hid (∃ n, n = plN g.nodes) := ⟨_, rfl⟩
  obtain ⟨n, hnn⟩ := HN.out
  have HNN := hid hnn
  rw [← hnn] at HR HRS HT HTR hn
  clear hnn HN
  go_wp2_with fail
  refine (known_any w1).mono ?_
  rintro r Wk ⟨rfl, H2⟩
  have HBk : Hid (Below w.heap.size w Wk) := P0.out.1.trans ((HB1.out.trans (H2.out.mono HB1.out.size)).mono P0.out.1.size)
  obtain ⟨rv, HSD⟩ : ∃ rv, Hid (∀ W, Below Wk.heap.size Wk W → W.heap[xb + 1]? = some (.cells #[.int .i64 s.1, .int .u64 s.2.1.1, .int .u64 s.2.1.2.1, .int .u64 s.2.1.2.2] 52 (0, 0)) ∧ W.heap[rb]? = some (.cells #[.int .i64 (n : Nat), rv] 33 (0, 0))) := by
   obtain ⟨rv, q1, _⟩ := HTR.out.keep H2.out
   refine ⟨rv, fun W hb => ?_⟩
   have h1 := H2.out.trans (hb.mono H2.out.size)
   have h2 := HB1.out.trans (h1.mono HB1.out.size)
   exact ⟨(h2.block _ (tk_lt P0.out.2.2.1)).trans P0.out.2.2.1, (hb.block _ (tk_lt q1)).trans q1⟩
  have HKW : Hid (∀ W, Below Wk.heap.size Wk W → W.heap[xb]? = some (.cells (gvc a nv ev) 25 (0, 0)) ∧ Ls EI W (.slice ps pk.length cs) pk ∧ GR M0 W nv ev xs es ∧ M0 ≤ W.heap.size) := fun W hb => by
   have h1 := H2.out.trans (hb.mono H2.out.size)
   have h2 := HB1.out.trans (h1.mono HB1.out.size)
   exact ⟨(h2.block _ (tk_lt P0.out.2.1)).trans P0.out.2.1, P0.out.2.2.2.below h2, HG0.out W h2⟩
  have HTK : Hid (∀ W, Below Wk.heap.size Wk W → TP w1.heap.size W tb n R ∧ w1.heap.size ≤ W.heap.size) := fun W hb => by
   have h1 := H2.out.trans (hb.mono H2.out.size)
   exact ⟨HT.out.keep h1, h1.size⟩
  clear H2 HT HTR HB1 P0 HG0
  have HSDK := HSD
  go_upto_region 4 with fail
  go_cut [47] (fun s47 wx => s47 = .bool (decide (s.1 < 0 ∨ (n : Int) ≤ s.1)) ∧ Hid (Below Wk.heap.size Wk wx))
  case first =>
   have hB0 : Below Wk.heap.size Wk Wk.drew := (Gr.refl Wk).drew.below
   have hS0 := HSD.out _ hB0
   by_cases hneg : s.1 < 0
   ·have HCC : Hid (decide (s.1 < 0 ∨ (n : Int) ≤ s.1) = true) := by
      show _ = _
      rw [decide_eq_true_iff]
      exact Or.inl hneg
    refine wp_regionD (S := fun W => W.heap[xb + 1]? = some (.cells #[.int .i64 s.1, .int .u64 s.2.1.1, .int .u64 s.2.1.2.1, .int .u64 s.2.1.2.2] 52 (0, 0)) ∧ W.heap[rb]? = some (.cells #[.int .i64 (n : Nat), rv] 33 (0, 0))) (D := []) hmx ?_
    refine' wpAnyD_take (i := 0) (oi := {dst := some 33, op := .move (.tmp 10), type := 4, pos := "law.go:253", after := #[], guard := none}) (v := _) rfl (by kernel_rfl) (by kernel_rfl) (by kernel_rfl) (fun _ _ _ h => h) (by kernel_rfl) (Or.inl ⟨by rfl, ?hy16⟩) hS0 ?rest16
    case hy16 => (intro W hSw; go_simp; try (with_reducible rfl))
    try simp only [Act.put, List.setIfInBounds_toArray, List.set_cons_zero, List.set_cons_succ]
    refine' wpAnyD_take (i := 1) (oi := {dst := some 34, op := .move (.tmp 33), type := 4, pos := "law.go:253", after := #[{on := 0, ground := .data}], guard := none}) (v := _) rfl (by kernel_rfl) (by kernel_rfl) (by kernel_rfl) (fun _ _ _ h => h) (by kernel_rfl) (Or.inl ⟨by rfl, ?hy17⟩) hS0 ?rest17
    case hy17 => (intro W hSw; go_simp; try (with_reducible rfl))
    try simp only [Act.put, List.setIfInBounds_toArray, List.set_cons_zero, List.set_cons_succ]
    refine' wpAnyD_take (i := 2) (oi := {dst := some 35, op := .fieldAddr 52 (.tmp 4) 0, type := 0, pos := "law.go:253", after := #[{on := 1, ground := .guard}], guard := some (1, false)}) (v := _) rfl (by kernel_rfl) (by kernel_rfl) (by kernel_rfl) (fun _ _ _ h => h) (by kernel_rfl) (Or.inl ⟨by rfl, ?hy18⟩) hS0 ?rest18
    case hy18 => (intro W hSw; have hc := (tk_store hSw.1).1; have hl := tk_lt hSw.1; go_simp; try (with_reducible rfl))
    try simp only [Act.put, List.setIfInBounds_toArray, List.set_cons_zero, List.set_cons_succ]
    refine' wpAnyD_take (i := 3) (oi := {dst := some 36, op := .load 3 (.tmp 35), type := 3, pos := "law.go:253", after := #[{on := 2, ground := .data}, {on := 1, ground := .guard}], guard := some (1, false)}) (v := _) rfl (by kernel_rfl) (by kernel_rfl) (by kernel_rfl) (fun _ _ _ h => h) (by kernel_rfl) (Or.inl ⟨by rfl, ?hy19⟩) hS0 ?rest19
    case hy19 => (intro W hSw; have hc := (tk_store hSw.1).1; have hl := tk_lt hSw.1; go_simp; try (with_reducible rfl))
    try simp only [Act.put, List.setIfInBounds_toArray, List.set_cons_zero, List.set_cons_succ]
    refine' wpAnyD_take (i := 4) (oi := {dst := some 37, op := .binOp .lss 3 (.tmp 36) (.const (.int .i64 0)) 3, type := 4, pos := "law.go:253", after := #[{on := 3, ground := .data}, {on := 1, ground := .guard}], guard := some (1, false)}) (v := _) rfl (by kernel_rfl) (by kernel_rfl) (by kernel_rfl) (fun _ _ _ h => h) (by kernel_rfl) (Or.inl ⟨by rfl, ?hy20⟩) hS0 ?rest20
    case hy20 => (intro W hSw; go_simp; try (with_reducible rfl))
    try simp only [Act.put, List.setIfInBounds_toArray, List.set_cons_zero, List.set_cons_succ]
    refine' wpAnyD_take (i := 5) (oi := {dst := some 38, op := .pick (.tmp 34) (.const (.bool true)) (.tmp 37), type := 4, pos := "law.go:253", after := #[{on := 1, ground := .data}, {on := 4, ground := .data}], guard := none}) (v := _) rfl (by kernel_rfl) (by kernel_rfl) (by kernel_rfl) (fun _ _ _ h => h) (by kernel_rfl) (Or.inl ⟨by rfl, ?hy21⟩) hS0 ?rest21
    case hy21 => (intro W hSw; go_simp; try (with_reducible rfl))
    try simp only [Act.put, List.setIfInBounds_toArray, List.set_cons_zero, List.set_cons_succ]
    refine' wpAnyD_take (i := 6) (oi := {dst := some 39, op := .move (.tmp 38), type := 4, pos := "law.go:253", after := #[{on := 5, ground := .data}, {on := 1, ground := .chain}], guard := none}) (v := _) rfl (by kernel_rfl) (by kernel_rfl) (by kernel_rfl) (fun _ _ _ h => h) (by kernel_rfl) (Or.inl ⟨by rfl, ?hy22⟩) hS0 ?rest22
    case hy22 => (intro W hSw; go_simp; try (with_reducible rfl))
    try simp only [Act.put, List.setIfInBounds_toArray, List.set_cons_zero, List.set_cons_succ]
    refine' wpAnyD_take (i := 7) (oi := {dst := some 40, op := .fieldAddr 52 (.tmp 4) 0, type := 0, pos := "law.go:253", after := #[{on := 6, ground := .guard}], guard := some (6, false)}) (v := undef) rfl (by kernel_rfl) (by kernel_rfl) (by kernel_rfl) (fun _ _ _ h => h) (by kernel_rfl) (Or.inr ⟨by rfl, rfl⟩) hS0 ?rest23
    try simp only [Act.put, List.setIfInBounds_toArray, List.set_cons_zero, List.set_cons_succ]
    refine' wpAnyD_take (i := 8) (oi := {dst := some 41, op := .load 3 (.tmp 40), type := 3, pos := "law.go:253", after := #[{on := 7, ground := .data}, {on := 6, ground := .guard}], guard := some (6, false)}) (v := undef) rfl (by kernel_rfl) (by kernel_rfl) (by kernel_rfl) (fun _ _ _ h => h) (by kernel_rfl) (Or.inr ⟨by rfl, rfl⟩) hS0 ?rest24
    try simp only [Act.put, List.setIfInBounds_toArray, List.set_cons_zero, List.set_cons_succ]
    refine' wpAnyD_take (i := 9) (oi := {dst := some 42, op := .move (.tmp 8), type := 27, pos := "law.go:253", after := #[{on := 6, ground := .guard}], guard := some (6, false)}) (v := undef) rfl (by kernel_rfl) (by kernel_rfl) (by kernel_rfl) (fun _ _ _ h => h) (by kernel_rfl) (Or.inr ⟨by rfl, rfl⟩) hS0 ?rest25
    try simp only [Act.put, List.setIfInBounds_toArray, List.set_cons_zero, List.set_cons_succ]
    refine' wpAnyD_take (i := 10) (oi := {dst := some 43, op := .nilCheck (.tmp 42), type := 0, pos := "law.go:253", after := #[{on := 9, ground := .data}, {on := 6, ground := .guard}], guard := some (6, false)}) (v := undef) rfl (by kernel_rfl) (by kernel_rfl) (by kernel_rfl) (fun _ _ _ h => h) (by kernel_rfl) (Or.inr ⟨by rfl, rfl⟩) hS0 ?rest26
    try simp only [Act.put, List.setIfInBounds_toArray, List.set_cons_zero, List.set_cons_succ]
    refine' wpAnyD_take (i := 11) (oi := {dst := some 44, op := .fieldAddr 33 (.tmp 43) 0, type := 0, pos := "law.go:253", after := #[{on := 10, ground := .data}, {on := 6, ground := .guard}], guard := some (6, false)}) (v := undef) rfl (by kernel_rfl) (by kernel_rfl) (by kernel_rfl) (fun _ _ _ h => h) (by kernel_rfl) (Or.inr ⟨by rfl, rfl⟩) hS0 ?rest27
    try simp only [Act.put, List.setIfInBounds_toArray, List.set_cons_zero, List.set_cons_succ]
    refine' wpAnyD_take (i := 12) (oi := {dst := some 45, op := .load 3 (.tmp 44), type := 3, pos := "law.go:253", after := #[{on := 11, ground := .data}, {on := 6, ground := .guard}], guard := some (6, false)}) (v := undef) rfl (by kernel_rfl) (by kernel_rfl) (by kernel_rfl) (fun _ _ _ h => h) (by kernel_rfl) (Or.inr ⟨by rfl, rfl⟩) hS0 ?rest28
    try simp only [Act.put, List.setIfInBounds_toArray, List.set_cons_zero, List.set_cons_succ]
    refine' wpAnyD_take (i := 13) (oi := {dst := some 46, op := .binOp .geq 3 (.tmp 41) (.tmp 45) 3, type := 4, pos := "law.go:253", after := #[{on := 8, ground := .data}, {on := 12, ground := .data}, {on := 6, ground := .guard}], guard := some (6, false)}) (v := undef) rfl (by kernel_rfl) (by kernel_rfl) (by kernel_rfl) (fun _ _ _ h => h) (by kernel_rfl) (Or.inr ⟨by rfl, rfl⟩) hS0 ?rest29
    try simp only [Act.put, List.setIfInBounds_toArray, List.set_cons_zero, List.set_cons_succ]
    refine' wpAnyD_take (i := 14) (oi := {dst := some 47, op := .pick (.tmp 39) (.const (.bool true)) (.tmp 46), type := 4, pos := "law.go:253", after := #[{on := 6, ground := .data}, {on := 13, ground := .data}], guard := none}) (v := _) rfl (by kernel_rfl) (by kernel_rfl) (by kernel_rfl) (fun _ _ _ h => h) (by kernel_rfl) (Or.inl ⟨by rfl, ?hy30⟩) hS0 ?rest30
    case hy30 => (intro W hSw; go_simp; try (with_reducible rfl))
    try simp only [Act.put, List.setIfInBounds_toArray, List.set_cons_zero, List.set_cons_succ]
    refine wpAnyD_done (by kernel_rfl) ?_ _
    go_wp2_with fail
    go_meet
    exact ⟨by rw [HCC.out], hB0⟩
   ·have HCC : Hid (decide (s.1 < 0 ∨ (n : Int) ≤ s.1) = decide ((n : Int) ≤ s.1)) := by
      show _ = _
      simp [hneg]
    refine wp_regionD (S := fun W => W.heap[xb + 1]? = some (.cells #[.int .i64 s.1, .int .u64 s.2.1.1, .int .u64 s.2.1.2.1, .int .u64 s.2.1.2.2] 52 (0, 0)) ∧ W.heap[rb]? = some (.cells #[.int .i64 (n : Nat), rv] 33 (0, 0))) (D := []) hmx ?_
    refine' wpAnyD_take (i := 0) (oi := {dst := some 33, op := .move (.tmp 10), type := 4, pos := "law.go:253", after := #[], guard := none}) (v := _) rfl (by kernel_rfl) (by kernel_rfl) (by kernel_rfl) (fun _ _ _ h => h) (by kernel_rfl) (Or.inl ⟨by rfl, ?hy31⟩) hS0 ?rest31
    case hy31 => (intro W hSw; go_simp; try (with_reducible rfl))
    try simp only [Act.put, List.setIfInBounds_toArray, List.set_cons_zero, List.set_cons_succ]
    refine' wpAnyD_take (i := 1) (oi := {dst := some 34, op := .move (.tmp 33), type := 4, pos := "law.go:253", after := #[{on := 0, ground := .data}], guard := none}) (v := _) rfl (by kernel_rfl) (by kernel_rfl) (by kernel_rfl) (fun _ _ _ h => h) (by kernel_rfl) (Or.inl ⟨by rfl, ?hy32⟩) hS0 ?rest32
    case hy32 => (intro W hSw; go_simp; try (with_reducible rfl))
    try simp only [Act.put, List.setIfInBounds_toArray, List.set_cons_zero, List.set_cons_succ]
    refine' wpAnyD_take (i := 2) (oi := {dst := some 35, op := .fieldAddr 52 (.tmp 4) 0, type := 0, pos := "law.go:253", after := #[{on := 1, ground := .guard}], guard := some (1, false)}) (v := _) rfl (by kernel_rfl) (by kernel_rfl) (by kernel_rfl) (fun _ _ _ h => h) (by kernel_rfl) (Or.inl ⟨by rfl, ?hy33⟩) hS0 ?rest33
    case hy33 => (intro W hSw; have hc := (tk_store hSw.1).1; have hl := tk_lt hSw.1; go_simp; try (with_reducible rfl))
    try simp only [Act.put, List.setIfInBounds_toArray, List.set_cons_zero, List.set_cons_succ]
    refine' wpAnyD_take (i := 3) (oi := {dst := some 36, op := .load 3 (.tmp 35), type := 3, pos := "law.go:253", after := #[{on := 2, ground := .data}, {on := 1, ground := .guard}], guard := some (1, false)}) (v := _) rfl (by kernel_rfl) (by kernel_rfl) (by kernel_rfl) (fun _ _ _ h => h) (by kernel_rfl) (Or.inl ⟨by rfl, ?hy34⟩) hS0 ?rest34
    case hy34 => (intro W hSw; have hc := (tk_store hSw.1).1; have hl := tk_lt hSw.1; go_simp; try (with_reducible rfl))
    try simp only [Act.put, List.setIfInBounds_toArray, List.set_cons_zero, List.set_cons_succ]
    refine' wpAnyD_take (i := 4) (oi := {dst := some 37, op := .binOp .lss 3 (.tmp 36) (.const (.int .i64 0)) 3, type := 4, pos := "law.go:253", after := #[{on := 3, ground := .data}, {on := 1, ground := .guard}], guard := some (1, false)}) (v := _) rfl (by kernel_rfl) (by kernel_rfl) (by kernel_rfl) (fun _ _ _ h => h) (by kernel_rfl) (Or.inl ⟨by rfl, ?hy35⟩) hS0 ?rest35
    case hy35 => (intro W hSw; go_simp; try (with_reducible rfl))
    try simp only [Act.put, List.setIfInBounds_toArray, List.set_cons_zero, List.set_cons_succ]
    refine' wpAnyD_take (i := 5) (oi := {dst := some 38, op := .pick (.tmp 34) (.const (.bool true)) (.tmp 37), type := 4, pos := "law.go:253", after := #[{on := 1, ground := .data}, {on := 4, ground := .data}], guard := none}) (v := _) rfl (by kernel_rfl) (by kernel_rfl) (by kernel_rfl) (fun _ _ _ h => h) (by kernel_rfl) (Or.inl ⟨by rfl, ?hy36⟩) hS0 ?rest36
    case hy36 => (intro W hSw; go_simp; try (with_reducible rfl))
    try simp only [Act.put, List.setIfInBounds_toArray, List.set_cons_zero, List.set_cons_succ]
    refine' wpAnyD_take (i := 6) (oi := {dst := some 39, op := .move (.tmp 38), type := 4, pos := "law.go:253", after := #[{on := 5, ground := .data}, {on := 1, ground := .chain}], guard := none}) (v := _) rfl (by kernel_rfl) (by kernel_rfl) (by kernel_rfl) (fun _ _ _ h => h) (by kernel_rfl) (Or.inl ⟨by rfl, ?hy37⟩) hS0 ?rest37
    case hy37 => (intro W hSw; go_simp; try (with_reducible rfl))
    try simp only [Act.put, List.setIfInBounds_toArray, List.set_cons_zero, List.set_cons_succ]
    refine' wpAnyD_take (i := 7) (oi := {dst := some 40, op := .fieldAddr 52 (.tmp 4) 0, type := 0, pos := "law.go:253", after := #[{on := 6, ground := .guard}], guard := some (6, false)}) (v := _) rfl (by kernel_rfl) (by kernel_rfl) (by kernel_rfl) (fun _ _ _ h => h) (by kernel_rfl) (Or.inl ⟨by rfl, ?hy38⟩) hS0 ?rest38
    case hy38 => (intro W hSw; have hc := (tk_store hSw.1).1; have hl := tk_lt hSw.1; go_simp; try (with_reducible rfl))
    try simp only [Act.put, List.setIfInBounds_toArray, List.set_cons_zero, List.set_cons_succ]
    refine' wpAnyD_take (i := 8) (oi := {dst := some 41, op := .load 3 (.tmp 40), type := 3, pos := "law.go:253", after := #[{on := 7, ground := .data}, {on := 6, ground := .guard}], guard := some (6, false)}) (v := _) rfl (by kernel_rfl) (by kernel_rfl) (by kernel_rfl) (fun _ _ _ h => h) (by kernel_rfl) (Or.inl ⟨by rfl, ?hy39⟩) hS0 ?rest39
    case hy39 => (intro W hSw; have hc := (tk_store hSw.1).1; have hl := tk_lt hSw.1; go_simp; try (with_reducible rfl))
    try simp only [Act.put, List.setIfInBounds_toArray, List.set_cons_zero, List.set_cons_succ]
    refine' wpAnyD_take (i := 9) (oi := {dst := some 42, op := .move (.tmp 8), type := 27, pos := "law.go:253", after := #[{on := 6, ground := .guard}], guard := some (6, false)}) (v := _) rfl (by kernel_rfl) (by kernel_rfl) (by kernel_rfl) (fun _ _ _ h => h) (by kernel_rfl) (Or.inl ⟨by rfl, ?hy40⟩) hS0 ?rest40
    case hy40 => (intro W hSw; go_simp; try (with_reducible rfl))
    try simp only [Act.put, List.setIfInBounds_toArray, List.set_cons_zero, List.set_cons_succ]
    refine' wpAnyD_take (i := 10) (oi := {dst := some 43, op := .nilCheck (.tmp 42), type := 0, pos := "law.go:253", after := #[{on := 9, ground := .data}, {on := 6, ground := .guard}], guard := some (6, false)}) (v := _) rfl (by kernel_rfl) (by kernel_rfl) (by kernel_rfl) (fun _ _ _ h => h) (by kernel_rfl) (Or.inl ⟨by rfl, ?hy41⟩) hS0 ?rest41
    case hy41 => (intro W hSw; have hc := (tk_store hSw.2).1; have hl := tk_lt hSw.2; go_simp; try (with_reducible rfl))
    try simp only [Act.put, List.setIfInBounds_toArray, List.set_cons_zero, List.set_cons_succ]
    refine' wpAnyD_take (i := 11) (oi := {dst := some 44, op := .fieldAddr 33 (.tmp 43) 0, type := 0, pos := "law.go:253", after := #[{on := 10, ground := .data}, {on := 6, ground := .guard}], guard := some (6, false)}) (v := _) rfl (by kernel_rfl) (by kernel_rfl) (by kernel_rfl) (fun _ _ _ h => h) (by kernel_rfl) (Or.inl ⟨by rfl, ?hy42⟩) hS0 ?rest42
    case hy42 => (intro W hSw; have hc := (tk_store hSw.2).1; have hl := tk_lt hSw.2; go_simp; try (with_reducible rfl))
    try simp only [Act.put, List.setIfInBounds_toArray, List.set_cons_zero, List.set_cons_succ]
    refine' wpAnyD_take (i := 12) (oi := {dst := some 45, op := .load 3 (.tmp 44), type := 3, pos := "law.go:253", after := #[{on := 11, ground := .data}, {on := 6, ground := .guard}], guard := some (6, false)}) (v := _) rfl (by kernel_rfl) (by kernel_rfl) (by kernel_rfl) (fun _ _ _ h => h) (by kernel_rfl) (Or.inl ⟨by rfl, ?hy43⟩) hS0 ?rest43
    case hy43 => (intro W hSw; have hc := (tk_store hSw.2).1; have hl := tk_lt hSw.2; go_simp; try (with_reducible rfl))
    try simp only [Act.put, List.setIfInBounds_toArray, List.set_cons_zero, List.set_cons_succ]
    refine' wpAnyD_take (i := 13) (oi := {dst := some 46, op := .binOp .geq 3 (.tmp 41) (.tmp 45) 3, type := 4, pos := "law.go:253", after := #[{on := 8, ground := .data}, {on := 12, ground := .data}, {on := 6, ground := .guard}], guard := some (6, false)}) (v := _) rfl (by kernel_rfl) (by kernel_rfl) (by kernel_rfl) (fun _ _ _ h => h) (by kernel_rfl) (Or.inl ⟨by rfl, ?hy44⟩) hS0 ?rest44
    case hy44 => (intro W hSw; go_simp; try (with_reducible rfl))
    try simp only [Act.put, List.setIfInBounds_toArray, List.set_cons_zero, List.set_cons_succ]
    refine' wpAnyD_take (i := 14) (oi := {dst := some 47, op := .pick (.tmp 39) (.const (.bool true)) (.tmp 46), type := 4, pos := "law.go:253", after := #[{on := 6, ground := .data}, {on := 13, ground := .data}], guard := none}) (v := _) rfl (by kernel_rfl) (by kernel_rfl) (by kernel_rfl) (fun _ _ _ h => h) (by kernel_rfl) (Or.inl ⟨by rfl, ?hy45⟩) hS0 ?rest45
    case hy45 => (intro W hSw; go_simp; try (with_reducible rfl))
    try simp only [Act.put, List.setIfInBounds_toArray, List.set_cons_zero, List.set_cons_succ]
    refine wpAnyD_done (by kernel_rfl) ?_ _
    go_wp2_with fail
    go_meet
    exact ⟨by rw [HCC.out], hB0⟩
  case rest =>
   obtain ⟨rfl, HY⟩ := hcut
   cases hdb : decide (s.1 < 0 ∨ (n : Int) ≤ s.1) with
   | true =>
    go_wp2
    go_ret
    exact ⟨rfl, HBk.out.trans (HY.out.mono HBk.out.size)⟩
   | false =>
    have hout := of_decide_eq_false hdb
    clear hdb
    obtain ⟨p0, hp0⟩ : ∃ p : Nat, s.1 = (p : Int) := ⟨s.1.toNat, by omega⟩
    have hpn : p0 < n := by omega
    have hst := Df.ksteps_any (a := a) wc (HKW.out _ HY.out).2.2.1 (HKW.out _ HY.out).2.2.2 (by rw [← HGE.out]; exact HOK.out)
    rw [← HGE.out] at hst
    have cx := (tk_store (HKW.out _ HY.out).1).1
    have lx := tk_lt (HKW.out _ HY.out).1
    have HP0 := hid hp0
    clear hout hp0
    go_wp2_with fail
    refine hst.mono ?_
    clear hst cx lx
    rintro r w5 ⟨d, rfl, hb5, ho5⟩
    have HB5 : Hid (Below Wk.heap.size Wk w5) := HY.out.trans (hb5.mono HY.out.size)
    obtain ⟨pd, cd, hd⟩ := (owns_ls (E := Df.EC) ho5).form
    subst hd
    have HLS := hid (owns_ls (E := Df.EC) ho5)
    have HSL : Hid ((stR g).length ≤ 432) := Df.stR_len HOK.out
    have HFS : Hid (∀ (q k : Nat) (c : Df.Con), q < n → (fil (stR g) q)[k]? = some c → ∃ q', q' < n ∧ c.out = (q' : Int) ∧ StG g q q' (tri c.via) ∧ Df.PthT c.via) := fun q k c hq hc => by
     rw [HNN.out] at hq ⊢
     obtain ⟨q', h1, h2, h3, h4⟩ := fil_step HOK.out hq hc
     exact ⟨q', h1, h2, h4, stR_pth HPT.out h3⟩
    clear ho5 hb5 HY
    generalize stR g = sr at *
    obtain ⟨nb, hnb⟩ : ∃ b, b = w5.heap.size := ⟨_, rfl⟩
    obtain ⟨W9, hW9⟩ : ∃ W, W = w5.alloc (.cells #[.int .u64 s.2.1.1, .int .u64 s.2.1.2.1, .int .u64 s.2.1.2.2] 50) := ⟨_, rfl⟩
    have HI0 : Hid (W9.heap[nb]? = some (.cells #[.int .u64 s.2.1.1, .int .u64 s.2.1.2.1, .int .u64 s.2.1.2.2] 50 (0, 0)) ∧ Below nb w5 W9) := by
     rw [hW9, hnb]
     exact ⟨heap_new' _ _, ((Gr.refl w5).alloc _).below⟩
    have HW9 : Hid (w5.alloc (.cells #[.int .u64 s.2.1.1, .int .u64 s.2.1.2.1, .int .u64 s.2.1.2.2] 50) = W9 ∧ w5.heap.size = nb) := ⟨hW9.symm, hnb.symm⟩
    have HWN : Hid (∀ W, Below nb w5 W → Below Wk.heap.size Wk W ∧ Ls Df.EC W (.slice pd sr.length cd) sr) := fun W hb => by
     rw [hnb] at hb
     exact ⟨HB5.out.trans (hb.mono HB5.out.size), HLS.out.below hb⟩
    clear hW9 hnb
    have cx := (tk_store (HSD.out _ HB5.out).1).1
    have lx := tk_lt (HSD.out _ HB5.out).1
    go_upto_region 9 with fail
    rw [HW9.out.1, HW9.out.2]
    clear HW9 cx lx HLS
    go_wp2_with fail
    go_loopw [12, 14, 15, 16, 17, 18, 19, 20] (fun s12 s14 _ _ _ _ _ _ wr => ∃ (i q : Nat) (b now : Tri), i ≤ 60 ∧ i ≤ pk.length ∧ q < n ∧ s14 = .int .i64 i ∧ s12 = .int .i64 (q : Nat) ∧ Hid (wr.heap[nb]? = some (.cells #[.int .u64 now.1.1, .int .u64 now.1.2.1, .int .u64 now.1.2.2] 50 (0, 0)) ∧ Below nb w5 wr ∧ Wy PX (StG g) p0 q b ∧ thn3 b s.2 = some now)) (fun _ s14 _ _ _ _ _ _ _ => 60 - (RowKit.intOf s14).toNat)
    case atStart => exact ⟨0, p0, PX.z, s.2, by omega, by omega, hpn, rfl, by rw [HP0.out], HI0.out.1, HI0.out.2, .nil, thn3_z s.2⟩
    case round =>
     obtain ⟨i, q, b, now, hi, hi2, hq, rfl, rfl, HJ⟩ := hrel
     clear HI0
     by_cases hil : i < pk.length ∧ i < 60
     ·have hilz : (i : Int) < (pk.length : Int) := by omega
      have hil6 : (i : Int) < 60 := by omega
      have hi0 : (0 : Int) ≤ (i : Int) := by omega
      have HJ0 : Hid (Wy PX (StG g) p0 q b ∧ thn3 b s.2 = some now) := HJ.out.2.2
      have HJ1 : Hid (wr.heap[nb]? = some (.cells #[.int .u64 now.1.1, .int .u64 now.1.2.1, .int .u64 now.1.2.2] 50 (0, 0)) ∧ Below nb w5 wr) := ⟨HJ.out.1, HJ.out.2.1⟩
      clear HJ
      go_upto_region 13 with fail
      go_wp2_with fail
      go_loopw [15, 16] (fun s15 s16 wx => ∃ j : Nat, j ≤ sr.length ∧ s16 = .int .i64 j ∧ Hid (wx.ownsRow (nb + 1) 44 5 s15 (fil (sr.take j) q).length (fl Df.EC (fil (sr.take j) q)) ∧ wx.heap[nb]? = some (.cells #[.int .u64 now.1.1, .int .u64 now.1.2.1, .int .u64 now.1.2.2] 50 (0, 0)) ∧ Below nb w5 wx)) (fun _ s16 _ => sr.length - (RowKit.intOf s16).toNat)
      case atStart => exact ⟨0, by omega, rfl, World.ownsRow_nil _ _ _ _, HJ1.out.1, HJ1.out.2⟩
      case round =>
       clear HJ1
       obtain ⟨j, hj, rfl, HL⟩ := hrel
       have hsl := HSL.out
       by_cases hjl : j < sr.length
       ·have hjz : (j : Int) < (sr.length : Int) := by omega
        have hj0 : (0 : Int) ≤ (j : Int) := by omega
        obtain ⟨c, hc⟩ : ∃ c, sr[j]? = some c := ⟨sr[j]'hjl, by simp⟩
        obtain ⟨b1, o1, c1, hv1, hb1, x0, x1, x2, x3, x4⟩ := Df.ls_atC (HWN.out _ HL.out.2.2).2 hc
        cases hv1
        have HFT := hid (fil_take (q := q) hc)
        have HLL : Hid ((fil (sr.take j) q).length ≤ 432) := by
         have h1 := fil_len (sr.take j) q
         have h2 := HSL.out
         rw [List.length_take] at h1
         show _ ≤ _
         omega
        clear hc
        by_cases hin : c.inn = (q : Int)
        ·have hn7 := heap_new' wr (.cells #[.int .i64 (q : Nat), .int .i64 c.out, .int .u64 (c.via.1 : Nat), .int .u64 (c.via.2.1 : Nat), .int .u64 (c.via.2.2 : Nat)] 44)
         have HE : Hid (fil (sr.take (j + 1)) q = fil (sr.take j) q ++ [c]) := by
          show _ = _
          rw [HFT.out, if_pos hin]
         generalize fil (sr.take j) q = fj at *
         clear HFT
         have HW7 : Hid (Below wr.heap.size wr (wr.alloc (.cells #[.int .i64 (q : Nat), .int .i64 c.out, .int .u64 (c.via.1 : Nat), .int .u64 (c.via.2.1 : Nat), .int .u64 (c.via.2.2 : Nat)] 44))) := ((Gr.refl wr).alloc _).below
         have HO7 := hid (owns_below HL.out.1 HW7.out)
         have HL7 := hid (Df.one_ls (E := Df.EC) (x := c) hn7 (by show _ = [Value.int .i64 c.inn, _, _, _, _]; rw [hin]))
         have hwz : nb + 1 ≤ (wr.alloc (.cells #[.int .i64 (q : Nat), .int .i64 c.out, .int .u64 (c.via.1 : Nat), .int .u64 (c.via.2.1 : Nat), .int .u64 (c.via.2.2 : Nat)] 44)).heap.size := Nat.le_trans (tk_lt HL.out.2.1) HW7.out.size
         have HNW : Hid ((wr.alloc (.cells #[.int .i64 (q : Nat), .int .i64 c.out, .int .u64 (c.via.1 : Nat), .int .u64 (c.via.2.1 : Nat), .int .u64 (c.via.2.2 : Nat)] 44)).heap[nb]? = some (.cells #[.int .u64 now.1.1, .int .u64 now.1.2.1, .int .u64 now.1.2.2] 50 (0, 0)) ∧ Below nb w5 (wr.alloc (.cells #[.int .i64 (q : Nat), .int .i64 c.out, .int .u64 (c.via.1 : Nat), .int .u64 (c.via.2.1 : Nat), .int .u64 (c.via.2.2 : Nat)] 44))) := ⟨(HW7.out.block _ (tk_lt HL.out.2.1)).trans HL.out.2.1, HL.out.2.2.trans (HW7.out.mono (Nat.le_of_lt (tk_lt HL.out.2.1)))⟩
         rw [hin] at x0
         clear hn7 hin
         go_wp2_with (at_builtin; refine wpAppL Df.EC Tryz.underlying40 Df.infoSt rfl (by decide) rfl _ _ rfl (nb + 1) _ fj.length _ rfl HO7.out (.slice (some ⟨wr.heap.size, 0, none⟩) 1 1) [c] rfl HL7.out (by have := HLL.out; simp only [List.length_singleton]; omega) (by have := HLL.out; unfold maxLen; simp only [List.length_singleton]; omega) hwz ?_)
         intro v9 w9 ho9 hg9
         have hK9 := Kp.grownBy (S := fun k => nb + 1 ≤ k) hg9 (fun k hk => (HO7.out.lt k hk).1)
         have F9 : Hid (w9.ownsRow (nb + 1) 44 5 v9 (fil (sr.take (j + 1)) q).length (fl Df.EC (fil (sr.take (j + 1)) q)) ∧ w9.heap[nb]? = some (.cells #[.int .u64 now.1.1, .int .u64 now.1.2.1, .int .u64 now.1.2.2] 50 (0, 0)) ∧ Below nb w5 w9) := by
          rw [HE.out]
          exact ⟨owns_re ho9 (by simp) (by rw [fl_append]), (hK9.block _ (tk_lt HNW.out.1) (by omega)).trans HNW.out.1, HNW.out.2.trans (hK9.below (Nat.le_of_lt (tk_lt HNW.out.1)) (fun k hk => by omega))⟩
         clear ho9 hg9 hK9
         go_wp2
         go_roundw
         case rel => exact ⟨j + 1, by omega, by first | rfl | go_num, F9.out⟩
         case measure => simp [RowKit.intOf]; omega
        ·have HE : Hid (fil (sr.take (j + 1)) q = fil (sr.take j) q) := by
           show _ = _
           rw [HFT.out, if_neg hin, List.append_nil]
         go_wp2
         go_roundw
         case rel => exact ⟨j + 1, by omega, by first | rfl | go_num, by rw [HE.out]; exact HL.out⟩
         case measure => simp [RowKit.intOf]; omega
       ·have hjz : ¬ (j : Int) < (sr.length : Int) := by omega
        have hje : j = sr.length := by omega
        subst hje
        rw [List.take_length] at HL
        have HFQ : Hid (∀ (k : Nat) (c : Df.Con), (fil sr q)[k]? = some c → ∃ q', q' < n ∧ c.out = (q' : Int) ∧ StG g q q' (tri c.via) ∧ Df.PthT c.via) := fun k c hc => HFS.out q k c hq hc
        have hfl : (fil sr q).length ≤ 432 := Nat.le_trans (fil_len _ _) HSL.out
        generalize fil sr q = fq at *
        obtain ⟨pf, cf, hpf⟩ := (owns_ls (E := Df.EC) HL.out.1).form
        subst hpf
        by_cases hz : fq.length = 0
        ·have hzz : (fq.length : Int) = 0 := by omega
         go_wp2
         go_ret
         exact ⟨rfl, HBk.out.trans ((HWN.out _ HL.out.2.2).1.mono HBk.out.size)⟩
        ·have hnz : ¬ (fq.length : Int) = 0 := by omega
         obtain ⟨x, hx⟩ : ∃ x, pk[i]? = some x := ⟨pk[i]'hil.1, by simp⟩
         obtain ⟨b3, o3, c3, hv3, hb3, hc3⟩ := (HKW.out _ (HWN.out _ HL.out.2.2).1).2.1.get hx
         have x3 : wr.cell? ⟨b3, o3 + i, none⟩ = some (.int .i64 x) := by
          have h := hc3 0 _ (by decide) rfl
          rw [Nat.add_zero, show i * EI.k = i from Nat.mul_one i] at h
          exact h
         cases hv3
         clear hc3 hx
         have htm := tmod_bd2 x (m := (fq.length : Int)) (by omega)
         go_upto_if 95 with fail
         clear x3 hb3
         generalize x.tmod (fq.length : Int) = mm at *
         go_cut [17] from 54 to 144 (fun s17 wx => ∃ k : Nat, k < fq.length ∧ s17 = .int .i64 k ∧ wx = wr)
         case first =>
          by_cases hmm : mm < 0
          ·go_wp2_with fail
           go_meet
           exact ⟨(mm + fq.length).toNat, by omega, by first | rfl | go_num, rfl⟩
          ·go_wp2_with fail
           go_meet
           exact ⟨mm.toNat, by omega, by first | rfl | go_num, rfl⟩
         case rest =>
          obtain ⟨k, hk, rfl, hwe⟩ := hcut
          subst wc
          clear htm
          have hkz : (k : Int) < (fq.length : Int) := by omega
          have hk0 : (0 : Int) ≤ (k : Int) := by omega
          obtain ⟨c, hc⟩ : ∃ c, fq[k]? = some c := ⟨fq[k]'hk, by simp⟩
          obtain ⟨q', hq', hco, hst, hpt⟩ := HFQ.out k c hc
          obtain ⟨b1, o1, c1, hv1, hb1, x0, x1, x2, x3, x4⟩ := Df.ls_atC (owns_ls (E := Df.EC) HL.out.1) hc
          cases hv1
          rw [hco] at x1
          have htv : ((c.via.1 : Nat) : Int) = (tri c.via).1.1 ∧ ((c.via.2.1 : Nat) : Int) = (tri c.via).1.2.1 ∧ ((c.via.2.2 : Nat) : Int) = (tri c.via).1.2.2 := by
           rw [tri_of hpt]
           exact ⟨rfl, rfl, rfl⟩
          rw [htv.1] at x2
          rw [htv.2.1] at x3
          rw [htv.2.2] at x4
          have HST := hid hst
          clear hst hpt hc hco htv HFQ
          generalize tri c.via = by' at *
          obtain ⟨cv, hcv⟩ : ∃ z, z = thv by' now := ⟨_, rfl⟩
          obtain ⟨ok, hok⟩ : ∃ z, z = (thn3 by' now).isSome := ⟨_, rfl⟩
          have hth := fun W => ron_any by' now W
          rw [← hcv, ← hok] at hth
          unfold Pc.tv at hth
          have HCV : Hid (cv = thv by' now ∧ ok = (thn3 by' now).isSome) := ⟨hcv, hok⟩
          clear hcv hok
          have HSV : Hid (∀ W, Below wr.heap.size wr W → (W.cell? ⟨b1, o1 + k * 5, none⟩ = some (.int .i64 c.inn) ∧ W.cell? ⟨b1, o1 + k * 5 + 1, none⟩ = some (.int .i64 (q' : Nat)) ∧ W.cell? ⟨b1, o1 + k * 5 + 2, none⟩ = some (.int .u64 by'.1.1) ∧ W.cell? ⟨b1, o1 + k * 5 + 3, none⟩ = some (.int .u64 by'.1.2.1) ∧ W.cell? ⟨b1, o1 + k * 5 + 4, none⟩ = some (.int .u64 by'.1.2.2)) ∧ W.heap[nb]? = some (.cells #[.int .u64 now.1.1, .int .u64 now.1.2.1, .int .u64 now.1.2.2] 50 (0, 0)) ∧ b1 < W.heap.size) := fun W hb => ⟨⟨(hb.cell (p := ⟨b1, o1 + k * 5, none⟩) hb1).trans x0, (hb.cell (p := ⟨b1, o1 + k * 5 + 1, none⟩) hb1).trans x1, (hb.cell (p := ⟨b1, o1 + k * 5 + 2, none⟩) hb1).trans x2, (hb.cell (p := ⟨b1, o1 + k * 5 + 3, none⟩) hb1).trans x3, (hb.cell (p := ⟨b1, o1 + k * 5 + 4, none⟩) hb1).trans x4⟩, (hb.block _ (tk_lt HL.out.2.1)).trans HL.out.2.1, Nat.lt_of_lt_of_le hb1 hb.size⟩
          have HSD := HSV
          clear x0 x1 x2 x3 x4 hb1
          go_upto_region 23 with fail
          have hB0 : Below wr.heap.size wr wr.drew := (Gr.refl wr).drew.below
          have hS0 := HSD.out _ hB0
          go_cut [18, 19] from 54 to 144 (fun s18 s19 wq => ∃ pb, s18 = .pointer (some ⟨pb, 0, none⟩) ∧ s19 = .bool ok ∧ Hid (Below wr.heap.size wr wq ∧ wq.heap[pb]? = some (.cells #[.int .u64 cv.1.1, .int .u64 cv.1.2.1, .int .u64 cv.1.2.2] 50 (0, 0)) ∧ wr.heap.size ≤ pb))
          case first =>
           skip
           refine wp_regionD (S := fun W => (W.cell? ⟨b1, o1 + k * 5, none⟩ = some (.int .i64 c.inn) ∧ W.cell? ⟨b1, o1 + k * 5 + 1, none⟩ = some (.int .i64 (q' : Nat)) ∧ W.cell? ⟨b1, o1 + k * 5 + 2, none⟩ = some (.int .u64 by'.1.1) ∧ W.cell? ⟨b1, o1 + k * 5 + 3, none⟩ = some (.int .u64 by'.1.2.1) ∧ W.cell? ⟨b1, o1 + k * 5 + 4, none⟩ = some (.int .u64 by'.1.2.2)) ∧ W.heap[nb]? = some (.cells #[.int .u64 now.1.1, .int .u64 now.1.2.1, .int .u64 now.1.2.2] 50 (0, 0)) ∧ b1 < W.heap.size) (D := []) hmx ?_
           refine' wpAnyD_take (i := 0) (oi := {dst := some 101, op := .move (.tmp 15), type := 40, pos := "law.go:273", after := #[], guard := none}) (v := _) rfl (by kernel_rfl) (by kernel_rfl) (by kernel_rfl) (fun _ _ _ h => h) (by kernel_rfl) (Or.inl ⟨by rfl, ?hy2001⟩) hS0 ?rest2001
           case hy2001 => (intro W hSw; go_simp; try (with_reducible rfl))
           try simp only [Act.put, List.setIfInBounds_toArray, List.set_cons_zero, List.set_cons_succ]
           refine' wpAnyD_take (i := 1) (oi := {dst := some 102, op := .move (.tmp 17), type := 3, pos := "law.go:273", after := #[], guard := none}) (v := _) rfl (by kernel_rfl) (by kernel_rfl) (by kernel_rfl) (fun _ _ _ h => h) (by kernel_rfl) (Or.inl ⟨by rfl, ?hy2002⟩) hS0 ?rest2002
           case hy2002 => (intro W hSw; go_simp; try (with_reducible rfl))
           try simp only [Act.put, List.setIfInBounds_toArray, List.set_cons_zero, List.set_cons_succ]
           refine' wpAnyD_take (i := 2) (oi := {dst := some 103, op := .indexAddr 40 (.tmp 101) (.tmp 102), type := 0, pos := "law.go:273", after := #[{on := 0, ground := .data}, {on := 1, ground := .data}], guard := none}) (v := _) rfl (by kernel_rfl) (by kernel_rfl) (by kernel_rfl) (fun _ _ _ h => h) (by kernel_rfl) (Or.inl ⟨by rfl, ?hy2003⟩) hS0 ?rest2003
           case hy2003 => (intro W hSw; obtain ⟨⟨y0, y1, y2, y3, y4⟩, hn, hl⟩ := hSw; have hc := (tk_store hn).1; have hln := tk_lt hn; go_simp; try (with_reducible rfl))
           try simp only [Act.put, List.setIfInBounds_toArray, List.set_cons_zero, List.set_cons_succ]
           refine' wpAnyD_take (i := 3) (oi := {dst := some 104, op := .fieldAddr 44 (.tmp 103) 2, type := 0, pos := "law.go:273", after := #[{on := 2, ground := .data}], guard := none}) (v := _) rfl (by kernel_rfl) (by kernel_rfl) (by kernel_rfl) (fun _ _ _ h => h) (by kernel_rfl) (Or.inl ⟨by rfl, ?hy2004⟩) hS0 ?rest2004
           case hy2004 => (intro W hSw; obtain ⟨⟨y0, y1, y2, y3, y4⟩, hn, hl⟩ := hSw; have hc := (tk_store hn).1; have hln := tk_lt hn; go_simp; try (with_reducible rfl))
           try simp only [Act.put, List.setIfInBounds_toArray, List.set_cons_zero, List.set_cons_succ]
           refine' wpAnyD_take (i := 4) (oi := {dst := some 105, op := .load 39 (.tmp 104), type := 39, pos := "law.go:273", after := #[{on := 3, ground := .data}], guard := none}) (v := _) rfl (by kernel_rfl) (by kernel_rfl) (by kernel_rfl) (fun _ _ _ h => h) (by kernel_rfl) (Or.inl ⟨by rfl, ?hy2005⟩) hS0 ?rest2005
           case hy2005 => (intro W hSw; obtain ⟨⟨y0, y1, y2, y3, y4⟩, hn, hl⟩ := hSw; have hc := (tk_store hn).1; have hln := tk_lt hn; go_simp; try (with_reducible rfl))
           try simp only [Act.put, List.setIfInBounds_toArray, List.set_cons_zero, List.set_cons_succ]
           refine' wpAnyD_take (i := 5) (oi := {dst := some 106, op := .load 50 (.tmp 13), type := 50, pos := "law.go:273", after := #[], guard := none}) (v := _) rfl (by kernel_rfl) (by kernel_rfl) (by kernel_rfl) (fun _ _ _ h => h) (by kernel_rfl) (Or.inl ⟨by rfl, ?hy2006⟩) hS0 ?rest2006
           case hy2006 => (intro W hSw; obtain ⟨⟨y0, y1, y2, y3, y4⟩, hn, hl⟩ := hSw; have hc := (tk_store hn).1; have hln := tk_lt hn; go_simp; try (with_reducible rfl))
           try simp only [Act.put, List.setIfInBounds_toArray, List.set_cons_zero, List.set_cons_succ]
           refine wpAnyD_two (i := 6) (j := 10) (oi := {dst := some 107, op := .call {callee := .value (.func 21), args := #[.tmp 105, .tmp 106], argTypes := #[39, 50]}, type := 60, pos := "law.go:273", after := #[{on := 4, ground := .data}, {on := 5, ground := .data}], guard := none}) (oj := {dst := some 18, op := .alloc 50, type := 0, pos := "law.go:273", after := #[], guard := none}) (by kernel_rfl) rfl rfl (fun K hK => ?tA) (fun K hK => ?tB)
           case tA =>
            go_simp
            refine (hth _).mono ?_
            rintro r w14 ⟨rfl, g14⟩
            have hS14 : Below wr.heap.size wr w14 := hB0.trans (g14.mono hB0.size)
            clear g14
            go_wp2_with fail
            refine hK.out _ _ (fun hD => HSD.out _ hS14) ?_
            clear hK K
            try simp only [Act.put, List.setIfInBounds_toArray, List.set_cons_zero, List.set_cons_succ]
            refine' wpAnyD_take (i := 7) (oi := {dst := some 100, op := .move (.tmp 107), type := 60, pos := "law.go:273", after := #[{on := 6, ground := .data}], guard := none}) (v := _) rfl (by kernel_rfl) (by kernel_rfl) (by kernel_rfl) (fun _ _ _ h => h) (by kernel_rfl) (Or.inl ⟨by rfl, ?hy2007⟩) (HSD.out _ hS14) ?rest2007
            case hy2007 => (intro W hSw; go_simp; try (with_reducible rfl))
            try simp only [Act.put, List.setIfInBounds_toArray, List.set_cons_zero, List.set_cons_succ]
            refine' wpAnyD_take (i := 8) (oi := {dst := some 108, op := .extract (.tmp 100) 0, type := 50, pos := "law.go:273", after := #[{on := 7, ground := .data}], guard := none}) (v := _) rfl (by kernel_rfl) (by kernel_rfl) (by kernel_rfl) (fun _ _ _ h => h) (by kernel_rfl) (Or.inl ⟨by rfl, ?hy2008⟩) (HSD.out _ hS14) ?rest2008
            case hy2008 => (intro W hSw; go_simp; try (with_reducible rfl))
            try simp only [Act.put, List.setIfInBounds_toArray, List.set_cons_zero, List.set_cons_succ]
            refine' wpAnyD_take (i := 9) (oi := {dst := some 109, op := .extract (.tmp 100) 1, type := 4, pos := "law.go:273", after := #[{on := 7, ground := .data}, {on := 11, ground := .gcOnly .lateStores}], guard := none}) (v := _) rfl (by kernel_rfl) (by kernel_rfl) (by kernel_rfl) (fun _ _ _ h => h) (by kernel_rfl) (Or.inl ⟨by rfl, ?hy2009⟩) (HSD.out _ hS14) ?rest2009
            case hy2009 => (intro W hSw; go_simp; try (with_reducible rfl))
            try simp only [Act.put, List.setIfInBounds_toArray, List.set_cons_zero, List.set_cons_succ]
            refine wpAnyD_one (i := 10) (o := {dst := some 18, op := .alloc 50, type := 0, pos := "law.go:273", after := #[], guard := none}) (by kernel_rfl) rfl (fun K hK => ?_)
            go_simp
            have hS15 : Below wr.heap.size wr (w14.alloc (.cells #[.int .u64 0, .int .u64 0, .int .u64 0] 50)) := hS14.trans (((Gr.refl w14).alloc _).below.mono hS14.size)
            refine hK.out _ _ (fun hD => HSD.out _ hS15) ?_
            clear hK K
            try simp only [Act.put, List.setIfInBounds_toArray, List.set_cons_zero, List.set_cons_succ]
            refine wpAnyD_one (i := 11) (o := {dst := none, op := .store 50 (.tmp 18) (.tmp 108), type := 0, pos := "law.go:273", after := #[{on := 10, ground := .data}, {on := 8, ground := .data}, {on := 6, ground := .chain}, {on := 0, ground := .phase}, {on := 1, ground := .phase}, {on := 2, ground := .phase}, {on := 3, ground := .phase}, {on := 4, ground := .phase}, {on := 5, ground := .phase}, {on := 6, ground := .phase}, {on := 7, ground := .phase}, {on := 8, ground := .phase}, {on := 9, ground := .textOnly .lateStores}, {on := 10, ground := .phase}], guard := none}) (by kernel_rfl) rfl (fun K hK => ?_)
            go_simp
            have hS16 : Below wr.heap.size wr (w14.alloc (.cells #[.int .u64 cv.1.1, .int .u64 cv.1.2.1, .int .u64 cv.1.2.2] 50)) := hS14.trans (((Gr.refl w14).alloc _).below.mono hS14.size)
            refine hK.out _ _ (fun hD => HSD.out _ hS16) ?_
            clear hK K
            try simp only [Act.put, List.setIfInBounds_toArray, List.set_cons_zero, List.set_cons_succ]
            refine wpAnyD_one (i := 12) (o := {dst := some 19, op := .assign (.tmp 109), type := 4, pos := "law.go:273", after := #[{on := 9, ground := .data}, {on := 11, ground := .chain}, {on := 0, ground := .phase}, {on := 1, ground := .phase}, {on := 2, ground := .phase}, {on := 3, ground := .phase}, {on := 4, ground := .phase}, {on := 5, ground := .phase}, {on := 6, ground := .phase}, {on := 7, ground := .phase}, {on := 8, ground := .phase}, {on := 9, ground := .phase}, {on := 10, ground := .phase}, {on := 11, ground := .phase}], guard := none}) (by kernel_rfl) rfl (fun K hK => ?_)
            go_simp
            refine hK.out _ _ (fun hD => HSD.out _ hS16) ?_
            clear hK K
            try simp only [Act.put, List.setIfInBounds_toArray, List.set_cons_zero, List.set_cons_succ]
            refine wpAnyD_done (by kernel_rfl) ?_ _
            go_wp2_with fail
            go_meet
            exact ⟨_, rfl, rfl, hS14.trans (((Gr.refl w14).alloc _).below.mono hS14.size), heap_new' _ _, hS14.size⟩
           case tB =>
            go_simp
            have hSa : Below wr.heap.size wr (wr.drew.alloc (.cells #[.int .u64 0, .int .u64 0, .int .u64 0] 50)) := hB0.trans (((Gr.refl wr.drew).alloc _).below.mono hB0.size)
            have hna := heap_new' wr.drew (.cells #[.int .u64 0, .int .u64 0, .int .u64 0] 50)
            refine hK.out _ _ (fun hD => HSD.out _ hSa) ?_
            clear hK K
            try simp only [Act.put, List.setIfInBounds_toArray, List.set_cons_zero, List.set_cons_succ]
            refine wpAnyD_one (i := 6) (o := {dst := some 107, op := .call {callee := .value (.func 21), args := #[.tmp 105, .tmp 106], argTypes := #[39, 50]}, type := 60, pos := "law.go:273", after := #[{on := 4, ground := .data}, {on := 5, ground := .data}], guard := none}) (by kernel_rfl) rfl (fun K hK => ?_)
            go_simp
            refine (hth _).mono ?_
            rintro r w14 ⟨rfl, g14⟩
            have hS14 : Below wr.heap.size wr w14 := hSa.trans (g14.mono hSa.size)
            have hbk : w14.heap[wr.heap.size]? = some (.cells #[.int .u64 0, .int .u64 0, .int .u64 0] 50 (0, 0)) := (g14.block _ (tk_lt hna)).trans hna
            clear g14 hna hSa
            go_wp2_with fail
            refine hK.out _ _ (fun hD => HSD.out _ hS14) ?_
            clear hK K
            try simp only [Act.put, List.setIfInBounds_toArray, List.set_cons_zero, List.set_cons_succ]
            refine' wpAnyD_take (i := 7) (oi := {dst := some 100, op := .move (.tmp 107), type := 60, pos := "law.go:273", after := #[{on := 6, ground := .data}], guard := none}) (v := _) rfl (by kernel_rfl) (by kernel_rfl) (by kernel_rfl) (fun _ _ _ h => h) (by kernel_rfl) (Or.inl ⟨by rfl, ?hy2010⟩) (HSD.out _ hS14) ?rest2010
            case hy2010 => (intro W hSw; go_simp; try (with_reducible rfl))
            try simp only [Act.put, List.setIfInBounds_toArray, List.set_cons_zero, List.set_cons_succ]
            refine' wpAnyD_take (i := 8) (oi := {dst := some 108, op := .extract (.tmp 100) 0, type := 50, pos := "law.go:273", after := #[{on := 7, ground := .data}], guard := none}) (v := _) rfl (by kernel_rfl) (by kernel_rfl) (by kernel_rfl) (fun _ _ _ h => h) (by kernel_rfl) (Or.inl ⟨by rfl, ?hy2011⟩) (HSD.out _ hS14) ?rest2011
            case hy2011 => (intro W hSw; go_simp; try (with_reducible rfl))
            try simp only [Act.put, List.setIfInBounds_toArray, List.set_cons_zero, List.set_cons_succ]
            refine' wpAnyD_take (i := 9) (oi := {dst := some 109, op := .extract (.tmp 100) 1, type := 4, pos := "law.go:273", after := #[{on := 7, ground := .data}, {on := 11, ground := .gcOnly .lateStores}], guard := none}) (v := _) rfl (by kernel_rfl) (by kernel_rfl) (by kernel_rfl) (fun _ _ _ h => h) (by kernel_rfl) (Or.inl ⟨by rfl, ?hy2012⟩) (HSD.out _ hS14) ?rest2012
            case hy2012 => (intro W hSw; go_simp; try (with_reducible rfl))
            try simp only [Act.put, List.setIfInBounds_toArray, List.set_cons_zero, List.set_cons_succ]
            have cb := (tk_store hbk).1
            have fb := (tk_store hbk).2
            have lb := tk_lt hbk
            refine wpAnyD_one (i := 11) (o := {dst := none, op := .store 50 (.tmp 18) (.tmp 108), type := 0, pos := "law.go:273", after := #[{on := 10, ground := .data}, {on := 8, ground := .data}, {on := 6, ground := .chain}, {on := 0, ground := .phase}, {on := 1, ground := .phase}, {on := 2, ground := .phase}, {on := 3, ground := .phase}, {on := 4, ground := .phase}, {on := 5, ground := .phase}, {on := 6, ground := .phase}, {on := 7, ground := .phase}, {on := 8, ground := .phase}, {on := 9, ground := .textOnly .lateStores}, {on := 10, ground := .phase}], guard := none}) (by kernel_rfl) rfl (fun K hK => ?_)
            go_simp
            obtain ⟨b0, k0⟩ := Df.tk_set hbk 0 (.int .u64 cv.1.1)
            obtain ⟨b1, k1⟩ := Df.tk_set b0 1 (.int .u64 cv.1.2.1)
            obtain ⟨b2, k2⟩ := Df.tk_set b1 2 (.int .u64 cv.1.2.2)
            have kk : Below wr.heap.size wr (((w14.setCell ⟨wr.heap.size, 0, none⟩ (.int .u64 cv.1.1)).setCell ⟨wr.heap.size, 1, none⟩ (.int .u64 cv.1.2.1)).setCell ⟨wr.heap.size, 2, none⟩ (.int .u64 cv.1.2.2)) := hS14.trans (((k0.trans k1 (fun _ _ h => h)).trans k2 (fun _ _ h => h)).below hS14.size (fun k h => by rw [h]; exact Nat.le_refl _))
            clear k0 k1 k2 b0 b1 cb fb lb hbk
            generalize (((w14.setCell ⟨wr.heap.size, 0, none⟩ (.int .u64 cv.1.1)).setCell ⟨wr.heap.size, 1, none⟩ (.int .u64 cv.1.2.1)).setCell ⟨wr.heap.size, 2, none⟩ (.int .u64 cv.1.2.2)) = w16 at kk b2 ⊢
            refine hK.out _ _ (fun hD => HSD.out _ kk) ?_
            clear hK K
            try simp only [Act.put, List.setIfInBounds_toArray, List.set_cons_zero, List.set_cons_succ]
            refine wpAnyD_one (i := 12) (o := {dst := some 19, op := .assign (.tmp 109), type := 4, pos := "law.go:273", after := #[{on := 9, ground := .data}, {on := 11, ground := .chain}, {on := 0, ground := .phase}, {on := 1, ground := .phase}, {on := 2, ground := .phase}, {on := 3, ground := .phase}, {on := 4, ground := .phase}, {on := 5, ground := .phase}, {on := 6, ground := .phase}, {on := 7, ground := .phase}, {on := 8, ground := .phase}, {on := 9, ground := .phase}, {on := 10, ground := .phase}, {on := 11, ground := .phase}], guard := none}) (by kernel_rfl) rfl (fun K hK => ?_)
            go_simp
            refine hK.out _ _ (fun hD => HSD.out _ kk) ?_
            clear hK K
            try simp only [Act.put, List.setIfInBounds_toArray, List.set_cons_zero, List.set_cons_succ]
            refine wpAnyD_done (by kernel_rfl) ?_ _
            go_wp2_with fail
            go_meet
            exact ⟨_, rfl, rfl, kk, b2, Nat.le_refl _⟩
          case rest =>
           obtain ⟨pb, rfl, rfl, HC⟩ := hcut
           clear hS0 hB0 hth HSD
           obtain ⟨⟨x0, x1, x2, x3, x4⟩, hnbk, hb1⟩ := HSV.out _ HC.out.1
           have HLB : Hid (Below nb w5 wc) := HL.out.2.2.trans (HC.out.1.mono (Nat.le_of_lt (tk_lt HL.out.2.1)))
           clear HSV HL
           cases ok with
           | false =>
            go_wp2
            go_ret
            exact ⟨rfl, HBk.out.trans ((HWN.out _ HLB.out).1.mono HBk.out.size)⟩
           | true =>
            obtain ⟨z, hz⟩ := Option.isSome_iff_exists.1 HCV.out.2.symm
            have hzv : z = cv := by rw [HCV.out.1, thv_some hz]
            subst hzv
            obtain ⟨b', hw', ha'⟩ := way_step HJ0.out.1 HJ0.out.2 HST.out hz
            have HWY : Hid (Wy PX (StG g) p0 q' b' ∧ thn3 b' s.2 = some z) := ⟨hw', ha'⟩
            clear hz hw' ha' HCV HST
            have hpk2 := (tk_store HC.out.2.1).1
            have hpl := tk_lt HC.out.2.1
            have hnc := (tk_store hnbk).1
            have hnf := (tk_store hnbk).2
            have hnl := tk_lt hnbk
            obtain ⟨e0, k0⟩ := Df.tk_set hnbk 0 (.int .u64 z.1.1)
            obtain ⟨e1, k1⟩ := Df.tk_set e0 1 (.int .u64 z.1.2.1)
            obtain ⟨e2, k2⟩ := Df.tk_set e1 2 (.int .u64 z.1.2.2)
            have HK2 : Hid ((((wc.setCell ⟨nb, 0, none⟩ (.int .u64 z.1.1)).setCell ⟨nb, 1, none⟩ (.int .u64 z.1.2.1)).setCell ⟨nb, 2, none⟩ (.int .u64 z.1.2.2)).heap[nb]? = some (.cells #[.int .u64 z.1.1, .int .u64 z.1.2.1, .int .u64 z.1.2.2] 50 (0, 0)) ∧ Below nb w5 (((wc.setCell ⟨nb, 0, none⟩ (.int .u64 z.1.1)).setCell ⟨nb, 1, none⟩ (.int .u64 z.1.2.1)).setCell ⟨nb, 2, none⟩ (.int .u64 z.1.2.2))) := ⟨e2, HLB.out.trans (((k0.trans k1 (fun _ _ h => h)).trans k2 (fun _ _ h => h)).below (Nat.le_of_lt hnl) (fun k h => by rw [h]; exact Nat.le_refl _))⟩
            clear e0 e1 e2 k0 k1 k2
            go_upto_region 28 with fail
            clear hpk2 hpl hnc hnf hnl hnbk x0 x1 x2 x3 x4 hb1
            generalize (((wc.setCell ⟨nb, 0, none⟩ (.int .u64 z.1.1)).setCell ⟨nb, 1, none⟩ (.int .u64 z.1.2.1)).setCell ⟨nb, 2, none⟩ (.int .u64 z.1.2.2)) = wn at *
            have hnc := (tk_store HK2.out.1).1
            have hnl := tk_lt HK2.out.1
            obtain ⟨ub, hub⟩ : ∃ b, b = wn.heap.size := ⟨_, rfl⟩
            obtain ⟨WU, hWU⟩ : ∃ W, W = wn.alloc (.cells #[.int .i64 (q' : Nat), .int .u64 z.1.1, .int .u64 z.1.2.1, .int .u64 z.1.2.2] 52) := ⟨_, rfl⟩
            have HU : Hid (Below wn.heap.size wn WU ∧ WU.heap[ub]? = some (.cells #[.int .i64 (q' : Nat), .int .u64 z.1.1, .int .u64 z.1.2.1, .int .u64 z.1.2.2] 52 (0, 0))) := by
             rw [hWU, hub]
             exact ⟨((Gr.refl wn).alloc _).below, heap_new' _ _⟩
            have HWU : Hid (wn.alloc (.cells #[.int .i64 (q' : Nat), .int .u64 z.1.1, .int .u64 z.1.2.1, .int .u64 z.1.2.2] 52) = WU ∧ wn.heap.size = ub) := ⟨hWU.symm, hub.symm⟩
            clear hWU hub
            go_upto_region 29 with fail
            rw [HWU.out.1, HWU.out.2]
            clear HWU hnc hnl
            have HNU : Hid (WU.heap[nb]? = some (.cells #[.int .u64 z.1.1, .int .u64 z.1.2.1, .int .u64 z.1.2.2] 50 (0, 0)) ∧ Below nb w5 WU) := ⟨(HU.out.1.block _ (tk_lt HK2.out.1)).trans HK2.out.1, HK2.out.2.trans (HU.out.1.mono (Nat.le_of_lt (tk_lt HK2.out.1)))⟩
            have HSU : Hid (∀ W, Below WU.heap.size WU W → W.heap[xb + 1]? = some (.cells #[.int .i64 s.1, .int .u64 s.2.1.1, .int .u64 s.2.1.2.1, .int .u64 s.2.1.2.2] 52 (0, 0)) ∧ W.heap[ub]? = some (.cells #[.int .i64 (q' : Nat), .int .u64 z.1.1, .int .u64 z.1.2.1, .int .u64 z.1.2.2] 52 (0, 0)) ∧ W.heap[nb]? = some (.cells #[.int .u64 z.1.1, .int .u64 z.1.2.1, .int .u64 z.1.2.2] 50 (0, 0))) := fun W hb => by
             have hk := (HWN.out _ (HNU.out.2.trans (hb.mono (Nat.le_of_lt (tk_lt HNU.out.1))))).1
             exact ⟨(HSDK.out _ hk).1, (hb.block _ (tk_lt HU.out.2)).trans HU.out.2, (hb.block _ (tk_lt HNU.out.1)).trans HNU.out.1⟩
            have HTU : Hid (∀ W, Below WU.heap.size WU W → TP w1.heap.size W tb n R ∧ w1.heap.size ≤ W.heap.size) := fun W hb => HTK.out _ (HWN.out _ (HNU.out.2.trans (hb.mono (Nat.le_of_lt (tk_lt HNU.out.1))))).1
            have hcq : cldB n R s ((q' : Int), z) = true := by
             have h := way_could HRS.out hpn hq' HWY.out.1 HWY.out.2
             rw [← HP0.out] at h
             exact h
            have hop : ccov Pc.bel (frt (allT n R (q' : Int) [s])) z = true := by
             have h := way_open HRS.out hpn hq' HWY.out.1 HWY.out.2
             rw [← HP0.out] at h
             exact h
            have hls : 0 < (bt n R s.1 (q' : Int)).length := by
             have h := way_least HRS.out hpn hq' HWY.out.1
             rw [← HP0.out] at h
             exact h
            have hfl := Nat.le_trans (frt_len (allT n R (q' : Int) [s])) (allT_len HR.out [s])
            have hbl := HR.out s.1 (q' : Int)
            have hco := fun W (hb : Below WU.heap.size WU W) => could_any s ((q' : Int), z) W (Or.inr ⟨tb, rfl, (HTU.out W hb).1⟩) (HTU.out W hb).2 (HR.out _ _)
            have hcq2 : (bt n R s.1 (q' : Int)).any (cldP s.2 z) = true := hcq
            simp only [hcq2] at hco
            have hfr := fun W b (hb : Below WU.heap.size WU W) (hn : W.heap[b]? = some (.cells #[.int .i64 s.1, .int .u64 s.2.1.1, .int .u64 s.2.1.2.1, .int .u64 s.2.1.2.2] 52 (0, 0))) => front_any (l := [s]) (q' : Int) W (Or.inr ⟨tb, rfl, (HTU.out W hb).1⟩) (HTU.out W hb).2 HR.out (M2 := W.heap.size) (sv := .slice (some ⟨b, 0, none⟩) 1 1) (Or.inl ⟨sm_row1 (c := 1) hn, (sm_row1 (c := 1) hn).blk⟩) (by simp)
            have hle := fun W (hb : Below WU.heap.size WU W) => least_any s.1 (q' : Int) W (Or.inr ⟨tb, rfl, (HTU.out W hb).1⟩) hbl
            clear hcq hcq2
            generalize frt (allT n R (q' : Int) [s]) = fr at *
            generalize bt n R s.1 (q' : Int) = bl at *
            have hB0 : Below WU.heap.size WU WU.drew := (Gr.refl WU).drew.below
            have hS0 := HSU.out _ hB0
            refine wp_regionD (S := fun W => W.heap[xb + 1]? = some (.cells #[.int .i64 s.1, .int .u64 s.2.1.1, .int .u64 s.2.1.2.1, .int .u64 s.2.1.2.2] 52 (0, 0)) ∧ W.heap[ub]? = some (.cells #[.int .i64 (q' : Nat), .int .u64 z.1.1, .int .u64 z.1.2.1, .int .u64 z.1.2.2] 52 (0, 0)) ∧ W.heap[nb]? = some (.cells #[.int .u64 z.1.1, .int .u64 z.1.2.1, .int .u64 z.1.2.2] 50 (0, 0))) (D := []) hmx ?_
            refine' wpAnyD_take (i := 0) (oi := {dst := some 121, op := .move (.tmp 7), type := 26, pos := "law.go:280", after := #[], guard := none}) (v := _) rfl (by kernel_rfl) (by kernel_rfl) (by kernel_rfl) (fun _ _ _ h => h) (by kernel_rfl) (Or.inl ⟨by rfl, ?hy46⟩) hS0 ?rest46
            case hy46 => (intro W hSw; go_simp; try (with_reducible rfl))
            try simp only [Act.put, List.setIfInBounds_toArray, List.set_cons_zero, List.set_cons_succ]
            refine' wpAnyD_take (i := 1) (oi := {dst := some 122, op := .load 52 (.tmp 4), type := 52, pos := "law.go:280", after := #[], guard := none}) (v := _) rfl (by kernel_rfl) (by kernel_rfl) (by kernel_rfl) (fun _ _ _ h => h) (by kernel_rfl) (Or.inl ⟨by rfl, ?hy47⟩) hS0 ?rest47
            case hy47 => (intro W hSw; have hc := (tk_store hSw.1).1; have hl := tk_lt hSw.1; go_simp; try (with_reducible rfl))
            try simp only [Act.put, List.setIfInBounds_toArray, List.set_cons_zero, List.set_cons_succ]
            refine' wpAnyD_take (i := 2) (oi := {dst := some 123, op := .load 52 (.tmp 20), type := 52, pos := "law.go:280", after := #[], guard := none}) (v := _) rfl (by kernel_rfl) (by kernel_rfl) (by kernel_rfl) (fun _ _ _ h => h) (by kernel_rfl) (Or.inl ⟨by rfl, ?hy48⟩) hS0 ?rest48
            case hy48 => (intro W hSw; have hc := (tk_store hSw.2.1).1; have hl := tk_lt hSw.2.1; go_simp; try (with_reducible rfl))
            try simp only [Act.put, List.setIfInBounds_toArray, List.set_cons_zero, List.set_cons_succ]
            refine wpAnyD_one (i := 3) (o := {dst := some 124, op := .call {callee := .value (.func 17), args := #[.tmp 121, .tmp 122, .tmp 123], argTypes := #[26, 52, 52]}, type := 4, pos := "law.go:280", after := #[{on := 0, ground := .data}, {on := 1, ground := .data}, {on := 2, ground := .data}], guard := none}) (by kernel_rfl) rfl (fun K hK => ?_)
            go_simp
            refine (hco _ hB0).mono ?_
            rintro r w3 ⟨rfl, hb3⟩
            have B3 : Below WU.heap.size WU w3 := hB0.trans (hb3.mono hB0.size)
            clear hb3
            go_wp2_with fail
            refine hK.out _ _ (fun hD => (HSU.out _ B3)) ?_
            clear hK K
            try simp only [Act.put, List.setIfInBounds_toArray, List.set_cons_zero, List.set_cons_succ]
            refine' wpAnyD_take (i := 4) (oi := {dst := some 125, op := .unOp .not 4 (.tmp 124), type := 4, pos := "law.go:280", after := #[{on := 3, ground := .data}], guard := none}) (v := _) rfl (by kernel_rfl) (by kernel_rfl) (by kernel_rfl) (fun _ _ _ h => h) (by kernel_rfl) (Or.inl ⟨by rfl, ?hy50⟩) (HSU.out _ B3) ?rest50
            case hy50 => (intro W hSw; go_simp; try (with_reducible rfl))
            try simp only [Act.put, List.setIfInBounds_toArray, List.set_cons_zero, List.set_cons_succ]
            refine' wpAnyD_take (i := 5) (oi := {dst := some 126, op := .move (.tmp 125), type := 4, pos := "law.go:280", after := #[{on := 4, ground := .data}, {on := 3, ground := .chain}], guard := none}) (v := _) rfl (by kernel_rfl) (by kernel_rfl) (by kernel_rfl) (fun _ _ _ h => h) (by kernel_rfl) (Or.inl ⟨by rfl, ?hy51⟩) (HSU.out _ B3) ?rest51
            case hy51 => (intro W hSw; go_simp; try (with_reducible rfl))
            try simp only [Act.put, List.setIfInBounds_toArray, List.set_cons_zero, List.set_cons_succ]
            refine' wpAnyD_take (i := 6) (oi := {dst := some 127, op := .move (.tmp 7), type := 26, pos := "law.go:280", after := #[{on := 5, ground := .guard}], guard := some (5, false)}) (v := _) rfl (by kernel_rfl) (by kernel_rfl) (by kernel_rfl) (fun _ _ _ h => h) (by kernel_rfl) (Or.inl ⟨by rfl, ?hy52⟩) (HSU.out _ B3) ?rest52
            case hy52 => (intro W hSw; go_simp; try (with_reducible rfl))
            try simp only [Act.put, List.setIfInBounds_toArray, List.set_cons_zero, List.set_cons_succ]
            refine' wpAnyD_take (i := 7) (oi := {dst := some 128, op := .move (.tmp 12), type := 3, pos := "law.go:280", after := #[{on := 5, ground := .guard}], guard := some (5, false)}) (v := _) rfl (by kernel_rfl) (by kernel_rfl) (by kernel_rfl) (fun _ _ _ h => h) (by kernel_rfl) (Or.inl ⟨by rfl, ?hy53⟩) (HSU.out _ B3) ?rest53
            case hy53 => (intro W hSw; go_simp; try (with_reducible rfl))
            try simp only [Act.put, List.setIfInBounds_toArray, List.set_cons_zero, List.set_cons_succ]
            refine' wpAnyD_take (i := 8) (oi := {dst := some 129, op := .load 52 (.tmp 4), type := 52, pos := "law.go:280", after := #[{on := 5, ground := .guard}], guard := some (5, false)}) (v := _) rfl (by kernel_rfl) (by kernel_rfl) (by kernel_rfl) (fun _ _ _ h => h) (by kernel_rfl) (Or.inl ⟨by rfl, ?hy54⟩) (HSU.out _ B3) ?rest54
            case hy54 => (intro W hSw; have hc := (tk_store hSw.1).1; have hl := tk_lt hSw.1; go_simp; try (with_reducible rfl))
            try simp only [Act.put, List.setIfInBounds_toArray, List.set_cons_zero, List.set_cons_succ]
            refine' wpAnyD_take (i := 11) (oi := {dst := some 132, op := .load 50 (.tmp 13), type := 50, pos := "law.go:280", after := #[{on := 5, ground := .guard}], guard := some (5, false)}) (v := _) rfl (by kernel_rfl) (by kernel_rfl) (by kernel_rfl) (fun _ _ _ h => h) (by kernel_rfl) (Or.inl ⟨by rfl, ?hy55⟩) (HSU.out _ B3) ?rest55
            case hy55 => (intro W hSw; have hc := (tk_store hSw.2.2).1; have hl := tk_lt hSw.2.2; go_simp; try (with_reducible rfl))
            try simp only [Act.put, List.setIfInBounds_toArray, List.set_cons_zero, List.set_cons_succ]
            refine wpAnyD_one (i := 9) (o := {dst := some 130, op := .buildSlice 49 1 #[(0, .tmp 129)], type := 49, pos := "law.go:280", after := #[{on := 8, ground := .data}, {on := 5, ground := .guard}], guard := some (5, false)}) (by kernel_rfl) rfl (fun K hK => ?_)
            rw [if_pos (by kernel_rfl)]
            go_simp
            have B9 : Below WU.heap.size WU (w3.alloc (.cells #[.int .i64 s.1, .int .u64 s.2.1.1, .int .u64 s.2.1.2.1, .int .u64 s.2.1.2.2] 52)) := B3.trans (((Gr.refl w3).alloc _).below.mono B3.size)
            have hn9 := heap_new' w3 (.cells #[.int .i64 s.1, .int .u64 s.2.1.1, .int .u64 s.2.1.2.1, .int .u64 s.2.1.2.2] 52)
            refine hK.out _ _ (fun hD => (HSU.out _ B9)) ?_
            clear hK K
            try simp only [Act.put, List.setIfInBounds_toArray, List.set_cons_zero, List.set_cons_succ]
            refine wpAnyD_one (i := 10) (o := {dst := some 131, op := .call {callee := .value (.func 19), args := #[.tmp 127, .tmp 128, .tmp 130], argTypes := #[26, 3, 49]}, type := 55, pos := "law.go:280", after := #[{on := 6, ground := .data}, {on := 7, ground := .data}, {on := 9, ground := .data}, {on := 5, ground := .chain}, {on := 5, ground := .guard}], guard := some (5, false)}) (by kernel_rfl) rfl (fun K hK => ?_)
            rw [if_pos (by kernel_rfl)]
            go_simp
            refine (hfr _ _ B9 hn9).mono ?_
            rintro r w10 ⟨v10, rfl, o10, hb10⟩
            have B10 : Below WU.heap.size WU w10 := B9.trans (hb10.mono B9.size)
            have L10 : Hid (Ls Pc.ET w10 v10 fr) := owns_ls (E := Pc.ET) o10
            clear hb10 o10 hn9
            go_wp2_with fail
            refine hK.out _ _ (fun hD => (HSU.out _ B10)) ?_
            clear hK K
            try simp only [Act.put, List.setIfInBounds_toArray, List.set_cons_zero, List.set_cons_succ]
            refine wpAnyD_one (i := 12) (o := {dst := some 133, op := .call {callee := .value (.func 18), args := #[.tmp 131, .tmp 132], argTypes := #[55, 50]}, type := 4, pos := "law.go:280", after := #[{on := 10, ground := .data}, {on := 11, ground := .data}, {on := 10, ground := .chain}, {on := 5, ground := .guard}], guard := some (5, false)}) (by kernel_rfl) rfl (fun K hK => ?_)
            rw [if_pos (by kernel_rfl)]
            go_simp
            refine (r5open_any v10 fr z w10 L10.out (by simp only [List.length_singleton] at hfl; omega)).mono ?_
            rintro r w12 ⟨rfl, g12⟩
            have B12 : Below WU.heap.size WU w12 := B10.trans (g12.below.mono B10.size)
            clear g12
            rw [hop]
            go_wp2_with fail
            refine hK.out _ _ (fun hD => (HSU.out _ B12)) ?_
            clear hK K
            try simp only [Act.put, List.setIfInBounds_toArray, List.set_cons_zero, List.set_cons_succ]
            refine' wpAnyD_take (i := 13) (oi := {dst := some 134, op := .unOp .not 4 (.tmp 133), type := 4, pos := "law.go:280", after := #[{on := 12, ground := .data}, {on := 5, ground := .guard}], guard := some (5, false)}) (v := _) rfl (by kernel_rfl) (by kernel_rfl) (by kernel_rfl) (fun _ _ _ h => h) (by kernel_rfl) (Or.inl ⟨by rfl, ?hy59⟩) (HSU.out _ B12) ?rest59
            case hy59 => (intro W hSw; go_simp; try (with_reducible rfl))
            try simp only [Act.put, List.setIfInBounds_toArray, List.set_cons_zero, List.set_cons_succ]
            refine' wpAnyD_take (i := 14) (oi := {dst := some 135, op := .pick (.tmp 126) (.const (.bool true)) (.tmp 134), type := 4, pos := "law.go:280", after := #[{on := 5, ground := .data}, {on := 13, ground := .data}], guard := none}) (v := _) rfl (by kernel_rfl) (by kernel_rfl) (by kernel_rfl) (fun _ _ _ h => h) (by kernel_rfl) (Or.inl ⟨by rfl, ?hy60⟩) (HSU.out _ B12) ?rest60
            case hy60 => (intro W hSw; go_simp; try (with_reducible rfl))
            try simp only [Act.put, List.setIfInBounds_toArray, List.set_cons_zero, List.set_cons_succ]
            refine' wpAnyD_take (i := 15) (oi := {dst := some 136, op := .move (.tmp 135), type := 4, pos := "law.go:280", after := #[{on := 14, ground := .data}, {on := 12, ground := .chain}], guard := none}) (v := _) rfl (by kernel_rfl) (by kernel_rfl) (by kernel_rfl) (fun _ _ _ h => h) (by kernel_rfl) (Or.inl ⟨by rfl, ?hy61⟩) (HSU.out _ B12) ?rest61
            case hy61 => (intro W hSw; go_simp; try (with_reducible rfl))
            try simp only [Act.put, List.setIfInBounds_toArray, List.set_cons_zero, List.set_cons_succ]
            refine' wpAnyD_take (i := 16) (oi := {dst := some 137, op := .move (.tmp 7), type := 26, pos := "law.go:280", after := #[{on := 15, ground := .guard}], guard := some (15, false)}) (v := _) rfl (by kernel_rfl) (by kernel_rfl) (by kernel_rfl) (fun _ _ _ h => h) (by kernel_rfl) (Or.inl ⟨by rfl, ?hy62⟩) (HSU.out _ B12) ?rest62
            case hy62 => (intro W hSw; go_simp; try (with_reducible rfl))
            try simp only [Act.put, List.setIfInBounds_toArray, List.set_cons_zero, List.set_cons_succ]
            refine' wpAnyD_take (i := 17) (oi := {dst := some 138, op := .fieldAddr 52 (.tmp 4) 0, type := 0, pos := "law.go:280", after := #[{on := 15, ground := .guard}], guard := some (15, false)}) (v := _) rfl (by kernel_rfl) (by kernel_rfl) (by kernel_rfl) (fun _ _ _ h => h) (by kernel_rfl) (Or.inl ⟨by rfl, ?hy63⟩) (HSU.out _ B12) ?rest63
            case hy63 => (intro W hSw; have hc := (tk_store hSw.1).1; have hl := tk_lt hSw.1; go_simp; try (with_reducible rfl))
            try simp only [Act.put, List.setIfInBounds_toArray, List.set_cons_zero, List.set_cons_succ]
            refine' wpAnyD_take (i := 18) (oi := {dst := some 139, op := .load 3 (.tmp 138), type := 3, pos := "law.go:280", after := #[{on := 17, ground := .data}, {on := 15, ground := .guard}], guard := some (15, false)}) (v := _) rfl (by kernel_rfl) (by kernel_rfl) (by kernel_rfl) (fun _ _ _ h => h) (by kernel_rfl) (Or.inl ⟨by rfl, ?hy64⟩) (HSU.out _ B12) ?rest64
            case hy64 => (intro W hSw; have hc := (tk_store hSw.1).1; have hl := tk_lt hSw.1; go_simp; try (with_reducible rfl))
            try simp only [Act.put, List.setIfInBounds_toArray, List.set_cons_zero, List.set_cons_succ]
            refine' wpAnyD_take (i := 19) (oi := {dst := some 140, op := .move (.tmp 12), type := 3, pos := "law.go:280", after := #[{on := 15, ground := .guard}], guard := some (15, false)}) (v := _) rfl (by kernel_rfl) (by kernel_rfl) (by kernel_rfl) (fun _ _ _ h => h) (by kernel_rfl) (Or.inl ⟨by rfl, ?hy65⟩) (HSU.out _ B12) ?rest65
            case hy65 => (intro W hSw; go_simp; try (with_reducible rfl))
            try simp only [Act.put, List.setIfInBounds_toArray, List.set_cons_zero, List.set_cons_succ]
            refine wpAnyD_one (i := 20) (o := {dst := some 141, op := .call {callee := .value (.func 12), args := #[.tmp 137, .tmp 139, .tmp 140], argTypes := #[26, 3, 3]}, type := 35, pos := "law.go:280", after := #[{on := 16, ground := .data}, {on := 18, ground := .data}, {on := 19, ground := .data}, {on := 15, ground := .chain}, {on := 15, ground := .guard}], guard := some (15, false)}) (by kernel_rfl) rfl (fun K hK => ?_)
            rw [if_pos (by kernel_rfl)]
            go_simp
            refine (hle _ B12).mono ?_
            rintro r w20 ⟨v20, rfl, o20, hb20⟩
            have B20 : Below WU.heap.size WU w20 := B12.trans (hb20.mono B12.size)
            obtain ⟨pp, cc, rfl⟩ := (owns_ls (E := Pc.ET) o20).form
            have hlz : ¬ (bl.length : Int) = 0 := by omega
            clear hb20 o20
            go_wp2_with fail
            refine hK.out _ _ (fun hD => (HSU.out _ B20)) ?_
            clear hK K
            try simp only [Act.put, List.setIfInBounds_toArray, List.set_cons_zero, List.set_cons_succ]
            refine' wpAnyD_take (i := 21) (oi := {dst := some 142, op := .call {callee := .builtin .len, args := #[.tmp 141], argTypes := #[35]}, type := 3, pos := "law.go:280", after := #[{on := 20, ground := .data}, {on := 15, ground := .guard}], guard := some (15, false)}) (v := _) rfl (by kernel_rfl) (by kernel_rfl) (by kernel_rfl) (fun _ _ _ h => h) (by kernel_rfl) (Or.inl ⟨by rfl, ?hy67⟩) (HSU.out _ B20) ?rest67
            case hy67 => (intro W hSw; go_simp; try (with_reducible rfl))
            try simp only [Act.put, List.setIfInBounds_toArray, List.set_cons_zero, List.set_cons_succ]
            refine' wpAnyD_take (i := 22) (oi := {dst := some 143, op := .binOp .eql 3 (.tmp 142) (.const (.int .i64 0)) 3, type := 4, pos := "law.go:280", after := #[{on := 21, ground := .data}, {on := 15, ground := .guard}], guard := some (15, false)}) (v := _) rfl (by kernel_rfl) (by kernel_rfl) (by kernel_rfl) (fun _ _ _ h => h) (by kernel_rfl) (Or.inl ⟨by rfl, ?hy68⟩) (HSU.out _ B20) ?rest68
            case hy68 => (intro W hSw; go_simp; try (with_reducible rfl))
            try simp only [Act.put, List.setIfInBounds_toArray, List.set_cons_zero, List.set_cons_succ]
            refine' wpAnyD_take (i := 23) (oi := {dst := some 144, op := .pick (.tmp 136) (.const (.bool true)) (.tmp 143), type := 4, pos := "law.go:280", after := #[{on := 15, ground := .data}, {on := 22, ground := .data}], guard := none}) (v := _) rfl (by kernel_rfl) (by kernel_rfl) (by kernel_rfl) (fun _ _ _ h => h) (by kernel_rfl) (Or.inl ⟨by rfl, ?hy69⟩) (HSU.out _ B20) ?rest69
            case hy69 => (intro W hSw; go_simp; try (with_reducible rfl))
            try simp only [Act.put, List.setIfInBounds_toArray, List.set_cons_zero, List.set_cons_succ]
            refine wpAnyD_done (by kernel_rfl) ?_ _
            go_wp2
            go_roundw
            case rel => exact ⟨i + 1, q', b', z, by omega, by omega, hq', by first | rfl | go_num, rfl, (HSU.out _ B20).2.2, HNU.out.2.trans (B20.mono (Nat.le_of_lt (tk_lt HNU.out.1))), HWY.out.1, HWY.out.2⟩
            case measure => simp [RowKit.intOf]; omega
     ·have hcond : ((i : Int) < (pk.length : Int) ∧ ¬ (i : Int) < 60) ∨ ¬ (i : Int) < (pk.length : Int) := by omega
      rcases hcond with ⟨hilz, hil4⟩ | hilz
      ·go_wp2
       go_ret
       exact ⟨rfl, HBk.out.trans ((HWN.out _ HJ.out.2.1).1.mono HBk.out.size)⟩
      ·go_wp2
       go_ret
       exact ⟨rfl, HBk.out.trans ((HWN.out _ HJ.out.2.1).1.mono HBk.out.size)⟩
  end Go.Proofs.YtjppkehnjnmbnaaGreat.Lf

namespace Go.Proofs.YtjppkehnjnmbnaaGreat
open Go.ChangeShapes Go.WideShapes Go.ChangeAt Go.RowKit Go.Joins
def laidL : List (String × DataW Unit) := []
theorem own : ownKnob Tryz.prog.godebug = none := by kernel_rfl
theorem laidOut : laidOutB Tryz.prog = true := by kernel_rfl
theorem witness {H : Type} {enc : TypeId × Value → H} {os : Os} {f : FuncId} {fn : Func} {s : OpenSpec} {conds : List PathCond} {apart : Bool} (args : Array Value)
    (hsh : ((World.laidAll Tryz.prog os laidL).forCall (fun _ _ => 0) ⟨#[], args, []⟩).Shaped Tryz.prog)
    (hok : Input.okWideB Tryz.prog ((World.laidAll Tryz.prog os laidL).forCall (fun _ _ => 0) ⟨#[], args, []⟩) f ⟨#[], args, []⟩ = true)
    (hrow : s.preRow enc Tryz.prog fn conds apart laidL ((World.laidAll Tryz.prog os laidL).forCall (fun _ _ => 0) ⟨#[], args, []⟩).memory args) :
    ∃ (w : World) (tape : Tape) (i : Input), w.os = os ∧ (w.forCall tape i).Shaped Tryz.prog ∧ i.vars = [] ∧ Input.okWide Tryz.prog (w.forCall tape i) .any w.heap.size f i ∧
     s.preRow enc Tryz.prog fn conds apart laidL (w.forCall tape i).memory i.args ∧ ({} : Assume).holds Tryz.prog (lone (Frame.enter Tryz.prog f i.args .normal) [] (w.forCall tape i)) :=
 ⟨World.laidAll Tryz.prog os laidL, fun _ _ => 0, ⟨#[], args, []⟩, World.laidAll_os _ _ _, hsh, (Input.okWide_of_okWideB (base := 0) hok).1, (Input.okWide_of_okWideB hok).2, hrow, by
  simp only [Assume.holds]
  exact ⟨by simp, by simp, by simp, by simp, by simp⟩⟩
theorem laid_met (os : Os) (args : Array Value) : laidMetH Tryz.prog laidL ((World.laidAll Tryz.prog os laidL).forCall (fun _ _ => 0) ⟨#[], args, []⟩).memory := by
 rw [MakeChecks.laidMetH_plain _ _ _ (by kernel_rfl)]
 exact laidMet_laidAll _ (by kernel_rfl) (by kernel_rfl)
theorem i64_bd {x : Int} (h : (Lit.int .i64 x).wf = true) : -9223372036854775808 ≤ x ∧ x ≤ 9223372036854775807 := by
 simpa [Lit.wf, IntKind.min, IntKind.max, IntKind.signed, IntKind.bits] using h
theorem has_lt {P : Program} {W : World} {r : Reach} {b0 : Nat} {t e : TypeId} {a : Addr} {len cap : Nat} (ht : P.underlying t = some (.slice e)) (hv : Value.okWide P W r b0 t (.slice (some a) len cap)) : a.spot = none ∧ a.block < W.heap.size := by
 simp only [Value.okWide, ht, Cell.okWide, Cell.ok] at hv
 obtain ⟨_, _, _, hs, row, cells, hsh, _⟩ := hv
 refine ⟨hs, ?_⟩
 unfold World.shape? at hsh
 split at hsh
 ·rename_i h
  exact (Array.getElem?_eq_some_iff.1 h).1
 ·cases hsh
theorem open_list {P : Program} {α : Type} [Inhabited α] (E : El α) {sT eT : TypeId} (hu : P.underlying sT = some (.slice eT)) (hc : P.cellsOf eT = E.k) (hk : 0 < E.k)
    {H : Type} {enc : TypeId × Value → H} {W : World} {r : Reach} {b0 base : Nat} {sp : Nat → Bool} {held : Bool} {v : Value} {d : DataW H} {p : List MemPlace}
    (hel : ∀ fuel cs y, cs.length = E.k → DataW.trod enc P W base sp held fuel eT cs = some y → ∃ x, cs = E.enc x)
    (hv : Value.okWide P W r b0 sT v) (h : DataW.Trod enc P W base sp held sT v d p) :
    (∀ x ∈ p, x.block < W.heap.size) ∧ ∃ ts : List α, Ls E W v ts ∧ ((d = .nil ∧ ts = []) ∨ ∃ elems spare, d = .slice elems spare ∧ elems.length = ts.length) := by
 obtain ⟨a0, len, cap, rfl⟩ := okWide_slice hu hv
 obtain ⟨fuel, hf⟩ := h
 refine ⟨DataW.trod_lt fuel _ _ _ hf, ?_⟩
 rcases Deep.open_slice hu hf with ⟨hcs, hx⟩ | ⟨a, len', cap', m, n, D, Pl, hcs, hb, hl, hm, hmm, hx, hall⟩
 ·simp [Value.cells] at hcs
  obtain ⟨rfl, rfl, rfl⟩ := hcs
  exact ⟨[], Or.inl ⟨rfl, rfl⟩, Or.inl ⟨congrArg Prod.fst hx, rfl⟩⟩
 ·simp [Value.cells] at hcs
  obtain ⟨rfl, rfl, rfl⟩ := hcs
  obtain ⟨hsp, hlt⟩ := has_lt hu hv
  obtain ⟨b, off, spot⟩ := a
  simp only at hsp hlt
  subst hsp
  have hlm : len ≤ m := by rw [hmm]; split <;> omega
  obtain ⟨V, hV⟩ := Deep.choose_lt (α := α) (p := fun i t => ∀ j u, j < E.k → (E.enc t)[j]? = some u → W.cell? ⟨b, off + i * E.k + j, none⟩ = some u) (n := len) (fun i hi => by
   obtain ⟨cs', h1, h2⟩ := hall i (by omega)
   rw [hc] at h1
   obtain ⟨_, hl3, hc'⟩ := World.cells?_some h1
   obtain ⟨x, rfl⟩ := hel _ _ _ hl3 h2
   refine ⟨x, fun j u hj hu' => ?_⟩
   have g0 := hc' j hj
   rw [Deep.add_add, addA] at g0
   rw [← Nat.add_assoc] at g0
   rw [g0]
   exact hu')
  refine ⟨(List.range len).map V, Or.inr ⟨b, off, cap, by simp, hlt, fun j u hj => ?_⟩, Or.inr ⟨_, _, congrArg Prod.fst hx, by simp⟩⟩
  have hjl : j < len * E.k := by
   have := (List.getElem?_eq_some_iff.1 hj).1
   rw [fl_length] at this
   simpa using this
  have hi : j / E.k < len := (Nat.div_lt_iff_lt_mul hk).2 hjl
  have hg := fl_get E ((List.range len).map V) (j / E.k) (j % E.k) (V (j / E.k)) (by simp [hi]) (Nat.mod_lt _ hk)
  rw [Nat.div_add_mod', hj] at hg
  have := hV (j / E.k) hi (j % E.k) u (Nat.mod_lt _ hk) hg.symm
  rwa [Nat.add_assoc, Nat.div_add_mod'] at this
theorem u64_bd {x : Int} (h : (Lit.int .u64 x).wf = true) : 0 ≤ x ∧ x ≤ 18446744073709551615 := by
 simpa [Lit.wf, IntKind.min, IntKind.max, IntKind.signed, IntKind.bits] using h
end Go.Proofs.YtjppkehnjnmbnaaGreat
namespace Go.Proofs.YtjppkehnjnmbnaaGreat.Df
open Go.ChangeShapes Go.WideShapes Go.ChangeAt Go.RowKit Go.Joins
theorem cell_in {W : World} {a : Addr} {u : Value} (h : W.cell? a = some u) : a.spot = none ∧ a.block < W.heap.size := by
 unfold World.cell? at h
 split at h
 ·rename_i hh
  refine ⟨?_, (Array.getElem?_eq_some_iff.1 hh).1⟩
  split at h
  ·cases h
  ·rename_i hs
   simpa using hs
 ·cases h
theorem weights_all {H : Type} {P : Program} {e : TypeId} {l : List (DataW H)} {d : DataW H} (hd : d ∈ l) {n : Nat} (hn : n ∈ d.weights P e) : n ∈ DataW.weightsAll P e l := by
 induction l with
 | nil => cases hd
 | cons x l ih =>
  simp only [DataW.weightsAll, List.mem_append]
  rcases List.mem_cons.1 hd with rfl | hd
  ·exact Or.inl hn
  ·exact Or.inr (ih hd)
def Wgt {H : Type} (P : Program) (t : TypeId) (d : DataW H) : Prop := ∀ n ∈ d.weights P t, n ≤ reachBytes
theorem trod_list {P : Program} {α : Type} [Inhabited α] (E : El α) (Pr : α → Prop) {sT eT : TypeId} (hu : P.underlying sT = some (.slice eT)) (hc : P.cellsOf eT = E.k) (hk : 0 < E.k)
    {H : Type} {enc : TypeId × Value → H} {W : World} {base : Nat} {sp : Nat → Bool} {held : Bool}
    (hel : ∀ fuel cs y, cs.length = E.k → DataW.trod enc P W base sp held fuel eT cs = some y → Wgt P eT y.1 → ∃ x, cs = E.enc x ∧ Pr x)
    (fuel : Nat) (cs : List Value) (y : DataW H × List MemPlace) (h : DataW.trod enc P W base sp held fuel sT cs = some y) (hw : Wgt P sT y.1) :
    ∃ (q : Option Addr) (c : Nat) (ts : List α), cs = [.slice q ts.length c] ∧ Lz E W.heap.size W (.slice q ts.length c) ts ∧ (∀ x ∈ ts, Pr x) ∧ ts.length * P.bytesOf eT ≤ reachBytes ∧ ts.length ≤ c := by
 rcases Deep.open_slice hu h with ⟨hcs, hx⟩ | ⟨a, len, cap, m, n, D, Pl, hcs, hb, hl, hm, hmm, hx, hall⟩
 ·exact ⟨none, 0, [], hcs, Lz.nil _ _ _, fun _ h => (by cases h), by simp, Nat.le_refl _⟩
 ·have hlm : len ≤ m := by rw [hmm]; split <;> omega
  have hws : Wgt P sT (.slice ((List.range len).map D) ((List.range (m - len)).map fun j => D (len + j))) := by rw [hx] at hw; exact hw
  have hsz : len * P.bytesOf eT ≤ reachBytes := by
   have h1 := hws (((List.range len).map D).length * P.bytesOf eT + ((List.range (m - len)).map fun j => D (len + j)).length * P.bytesOf eT) (by simp [DataW.weights, hu, Nat.add_mul])
   simp only [List.length_map, List.length_range] at h1
   omega
  by_cases h0 : len = 0
  ·subst h0
   exact ⟨some a, cap, [], hcs, Or.inr ⟨rfl, _, _, rfl⟩, fun _ h => (by cases h), by simp, Nat.zero_le _⟩
  ·obtain ⟨cs0, g1, _⟩ := hall 0 (by omega)
   rw [hc] at g1
   obtain ⟨_, hl0, hc0⟩ := World.cells?_some g1
   have g0 := hc0 0 hk
   rw [show (a.add (0 * E.k)).add 0 = a by simp [Addr.add]] at g0
   obtain ⟨u0, hu0⟩ : ∃ u, cs0[0]? = some u := ⟨cs0[0]'(by omega), by simp⟩
   obtain ⟨hsp, hlt⟩ := cell_in (g0.trans hu0)
   clear g0 hc0 hl0 g1 hu0
   obtain ⟨b, off, spot⟩ := a
   simp only at hsp hlt
   subst hsp
   obtain ⟨V, hV⟩ := Deep.choose_lt (α := α) (p := fun i t => (∀ j u, j < E.k → (E.enc t)[j]? = some u → W.cell? ⟨b, off + i * E.k + j, none⟩ = some u) ∧ Pr t) (n := len) (fun i hi => by
    obtain ⟨cs', h1, h2⟩ := hall i (by omega)
    rw [hc] at h1
    obtain ⟨_, hl3, hc'⟩ := World.cells?_some h1
    have hwi : Wgt P eT (D i) := fun n hn => hws n (by
     simp only [DataW.weights, hu, List.mem_cons, List.mem_append]
     exact Or.inr (Or.inl (weights_all (List.mem_map.2 ⟨i, List.mem_range.2 hi, rfl⟩) hn)))
    obtain ⟨x, rfl, hPr⟩ := hel _ _ _ hl3 h2 hwi
    refine ⟨x, fun j u hj hu' => ?_, hPr⟩
    have g0 := hc' j hj
    rw [Deep.add_add, addA] at g0
    rw [← Nat.add_assoc] at g0
    rw [g0]
    exact hu')
   refine ⟨some ⟨b, off, none⟩, cap, (List.range len).map V, by simpa using hcs, Or.inl ⟨Or.inr ⟨b, off, cap, rfl, hlt, fun j u hj => ?_⟩, fun k hk => ?_⟩, fun x hx => ?_, by simpa using hsz, by simpa using hl⟩
   ·have hjl : j < len * E.k := by
      have := (List.getElem?_eq_some_iff.1 hj).1
      rw [fl_length] at this
      simpa using this
    have hi : j / E.k < len := (Nat.div_lt_iff_lt_mul hk).2 hjl
    have hg := fl_get E ((List.range len).map V) (j / E.k) (j % E.k) (V (j / E.k)) (by simp [hi]) (Nat.mod_lt _ hk)
    rw [Nat.div_add_mod', hj] at hg
    have := (hV (j / E.k) hi).1 (j % E.k) u (Nat.mod_lt _ hk) hg.symm
    rwa [Nat.add_assoc, Nat.div_add_mod'] at this
   ·simp [Value.ownBlock] at hk
    omega
   ·obtain ⟨i, hi, rfl⟩ := List.mem_map.1 hx
    exact (hV i (List.mem_range.1 hi)).2
theorem c1i : Tryz.prog.cellsOf 3 = 1 := by kernel_rfl
theorem c1b : Tryz.prog.cellsOf 4 = 1 := by kernel_rfl
theorem c1u : Tryz.prog.cellsOf 37 = 1 := by kernel_rfl
theorem c3p : Tryz.prog.cellsOf 39 = 3 := by kernel_rfl
theorem c1o : Tryz.prog.cellsOf 87 = 1 := by kernel_rfl
theorem c1c : Tryz.prog.cellsOf 85 = 1 := by kernel_rfl
instance : Inhabited Opd := ⟨⟨0, 0⟩⟩
instance : Inhabited Con := ⟨⟨0, 0, (0, 0, 0)⟩⟩
instance : Inhabited Edg := ⟨⟨0, 0, 0, 0, false⟩⟩
instance : Inhabited NV := ⟨⟨⟨0, 0, 0, [], (0, 0, 0), 0, [], false⟩, none, 0, 0, none, 0, 0⟩⟩
section
variable {H : Type} {enc : TypeId × Value → H} {W : World} {base : Nat} {sp : Nat → Bool} {held : Bool}
theorem trod_i {fuel : Nat} {c : Value} {y : DataW H × List MemPlace} (h : DataW.trod enc Tryz.prog W base sp held fuel 3 [c] = some y) : ∃ n : Int, c = .int .i64 n ∧ I64 n := by
 obtain ⟨u, e, _, w⟩ := DataW.trod_int Tryz.underlying3 h
 simp at e
 exact ⟨u, e, i64_bd w⟩
theorem trod_u {fuel : Nat} {c : Value} {y : DataW H × List MemPlace} (h : DataW.trod enc Tryz.prog W base sp held fuel 37 [c] = some y) : ∃ n : Nat, c = .int .u64 (n : Nat) ∧ U64 n := by
 obtain ⟨u, e, _, w⟩ := DataW.trod_int Tryz.underlying37 h
 have b := u64_bd w
 simp at e
 exact ⟨u.toNat, by rw [e, Int.toNat_of_nonneg b.1], by unfold U64; omega⟩
set_option maxRecDepth 100000 in
theorem trod_pth (fuel : Nat) (c0 c1 c2 : Value) (y : DataW H × List MemPlace) (h : DataW.trod enc Tryz.prog W base sp held fuel 39 [c0, c1, c2] = some y) : ∃ p : Pth, c0 = .int .u64 (p.1 : Nat) ∧ c1 = .int .u64 (p.2.1 : Nat) ∧ c2 = .int .u64 (p.2.2 : Nat) ∧ PthT p := by
 obtain ⟨xs, k, _, _, _, hxl, hff⟩ := DataW.trod_struct Tryz.underlying39 h
 match xs, hxl with
 | [y0, y1, y2], _ =>
  have k0 : DataW.trod enc Tryz.prog W base sp held k 37 (([c0, c1, c2].drop 0).take (Tryz.prog.cellsOf 37)) = some y0 := hff 0 _ rfl
  have k1 : DataW.trod enc Tryz.prog W base sp held k 37 (([c0, c1, c2].drop 1).take (Tryz.prog.cellsOf 37)) = some y1 := hff 1 _ rfl
  have k2 : DataW.trod enc Tryz.prog W base sp held k 37 (([c0, c1, c2].drop 2).take (Tryz.prog.cellsOf 37)) = some y2 := hff 2 _ rfl
  rw [c1u] at k0 k1 k2
  obtain ⟨a, ea, ta⟩ := trod_u k0
  obtain ⟨b, eb, tb⟩ := trod_u k1
  obtain ⟨c, ec, tc⟩ := trod_u k2
  exact ⟨(a, b, c), ea, eb, ec, ta, tb, tc⟩
set_option maxRecDepth 100000 in
theorem trod_opd (fuel : Nat) (cs : List Value) (y : DataW H × List MemPlace) (hl : cs.length = 2) (h : DataW.trod enc Tryz.prog W base sp held fuel 138 cs = some y) : ∃ o : Opd, cs = EO.enc o ∧ OpdT o := by
 obtain ⟨xs, k, _, _, _, hxl, hff⟩ := DataW.trod_struct Tryz.underlying138 h
 match cs, hl, xs, hxl with
 | [c0, c1], _, [y0, y1], _ =>
  have k0 : DataW.trod enc Tryz.prog W base sp held k 3 (([c0, c1].drop 0).take (Tryz.prog.cellsOf 3)) = some y0 := hff 0 _ rfl
  have k1 : DataW.trod enc Tryz.prog W base sp held k 37 (([c0, c1].drop 1).take (Tryz.prog.cellsOf 37)) = some y1 := hff 1 _ rfl
  rw [c1i] at k0
  rw [c1u] at k1
  obtain ⟨a, rfl, ta⟩ := trod_i k0
  obtain ⟨b, rfl, tb⟩ := trod_u k1
  exact ⟨⟨a, b⟩, rfl, ta, tb⟩
set_option maxRecDepth 100000 in
theorem trod_con (fuel : Nat) (cs : List Value) (y : DataW H × List MemPlace) (hl : cs.length = 5) (h : DataW.trod enc Tryz.prog W base sp held fuel 92 cs = some y) : ∃ o : Con, cs = EC.enc o ∧ ConT o := by
 obtain ⟨xs, k, _, _, _, hxl, hff⟩ := DataW.trod_struct Tryz.underlying92 h
 match cs, hl, xs, hxl with
 | [c0, c1, c2, c3, c4], _, [y0, y1, y2], _ =>
  have k0 : DataW.trod enc Tryz.prog W base sp held k 3 (([c0, c1, c2, c3, c4].drop 0).take (Tryz.prog.cellsOf 3)) = some y0 := hff 0 _ rfl
  have k1 : DataW.trod enc Tryz.prog W base sp held k 3 (([c0, c1, c2, c3, c4].drop 1).take (Tryz.prog.cellsOf 3)) = some y1 := hff 1 _ rfl
  have k2 : DataW.trod enc Tryz.prog W base sp held k 39 (([c0, c1, c2, c3, c4].drop 2).take (Tryz.prog.cellsOf 39)) = some y2 := hff 2 _ rfl
  rw [c1i] at k0 k1
  rw [c3p] at k2
  obtain ⟨a, rfl, ta⟩ := trod_i k0
  obtain ⟨b, rfl, tb⟩ := trod_i k1
  obtain ⟨p, rfl, rfl, rfl, tp⟩ := trod_pth _ _ _ _ _ k2
  exact ⟨⟨a, b, p⟩, rfl, ta, tb, tp⟩
set_option maxRecDepth 100000 in
theorem trod_edg (fuel : Nat) (cs : List Value) (y : DataW H × List MemPlace) (hl : cs.length = 5) (h : DataW.trod enc Tryz.prog W base sp held fuel 94 cs = some y) : ∃ o : Edg, cs = ED.enc o ∧ EdgT o := by
 obtain ⟨xs, k, _, _, _, hxl, hff⟩ := DataW.trod_struct Tryz.underlying94 h
 match cs, hl, xs, hxl with
 | [c0, c1, c2, c3, c4], _, [y0, y1, y2, y3, y4], _ =>
  have k0 : DataW.trod enc Tryz.prog W base sp held k 3 (([c0, c1, c2, c3, c4].drop 0).take (Tryz.prog.cellsOf 3)) = some y0 := hff 0 _ rfl
  have k1 : DataW.trod enc Tryz.prog W base sp held k 3 (([c0, c1, c2, c3, c4].drop 1).take (Tryz.prog.cellsOf 3)) = some y1 := hff 1 _ rfl
  have k2 : DataW.trod enc Tryz.prog W base sp held k 3 (([c0, c1, c2, c3, c4].drop 2).take (Tryz.prog.cellsOf 3)) = some y2 := hff 2 _ rfl
  have k3 : DataW.trod enc Tryz.prog W base sp held k 3 (([c0, c1, c2, c3, c4].drop 3).take (Tryz.prog.cellsOf 3)) = some y3 := hff 3 _ rfl
  have k4 : DataW.trod enc Tryz.prog W base sp held k 4 (([c0, c1, c2, c3, c4].drop 4).take (Tryz.prog.cellsOf 4)) = some y4 := hff 4 _ rfl
  rw [c1i] at k0 k1 k2 k3
  rw [c1b] at k4
  obtain ⟨a, rfl, ta⟩ := trod_i k0
  obtain ⟨b, rfl, tb⟩ := trod_i k1
  obtain ⟨c, rfl, tc⟩ := trod_i k2
  obtain ⟨d, rfl, td⟩ := trod_i k3
  obtain ⟨e, he, _⟩ := DataW.trod_bool Tryz.underlying4 k4
  simp at he
  subst he
  exact ⟨⟨a, b, c, d, e⟩, rfl, ta, tb, tc, td⟩
end
end Go.Proofs.YtjppkehnjnmbnaaGreat.Df
namespace Go.Proofs.YtjppkehnjnmbnaaGreat.Df
open Go.ChangeShapes Go.WideShapes Go.ChangeAt Go.RowKit Go.Joins
section
variable {H : Type} {enc : TypeId × Value → H} {W : World} {base : Nat} {sp : Nat → Bool} {held : Bool}
def NodK2 (W : World) (x : NV) : Prop := NodT x.n ∧ NR W.heap.size W x ∧ x.n.code.length * 16 ≤ 140737488351232 ∧ x.n.conns.length * 40 ≤ 140737488351232 ∧ x.n.conns.length ≤ x.dc
def Sz (xs : List NV) (es : List Edg) : Prop := xs.length * 112 ≤ 140737488351232 ∧ es.length * 40 ≤ 140737488351232 ∧ ∀ x ∈ xs, x.n.code.length * 16 ≤ 140737488351232 ∧ x.n.conns.length * 40 ≤ 140737488351232
set_option maxRecDepth 100000 in
theorem trod_nod2 (fuel : Nat) (cs : List Value) (y : DataW H × List MemPlace) (hl : cs.length = 10) (h : DataW.trod enc Tryz.prog W base sp held fuel 89 cs = some y) (hw : Wgt Tryz.prog 89 y.1) : ∃ x : NV, cs = EV.enc x ∧ NodK2 W x := by
 obtain ⟨xs, k, _, hxy, _, hxl, hff⟩ := DataW.trod_struct Tryz.underlying89 h
 match cs, hl, xs, hxl with
 | [c0, c1, c2, c3, c4, c5, c6, c7, c8, c9], _, [y0, y1, y2, y3, y4, y5, y6, y7], _ =>
  have hwe : ∀ n ∈ DataW.weightsEach Tryz.prog [3, 3, 3, 87, 39, 37, 85, 4] [y0.1, y1.1, y2.1, y3.1, y4.1, y5.1, y6.1, y7.1], n ≤ reachBytes := fun n hn => hw n (by
   rw [hxy]
   simp only [DataW.weights, Tryz.underlying89]
   exact hn)
  have k0 : DataW.trod enc Tryz.prog W base sp held k 3 (([c0, c1, c2, c3, c4, c5, c6, c7, c8, c9].drop 0).take (Tryz.prog.cellsOf 3)) = some y0 := hff 0 _ rfl
  have k1 : DataW.trod enc Tryz.prog W base sp held k 3 (([c0, c1, c2, c3, c4, c5, c6, c7, c8, c9].drop 1).take (Tryz.prog.cellsOf 3)) = some y1 := hff 1 _ rfl
  have k2 : DataW.trod enc Tryz.prog W base sp held k 3 (([c0, c1, c2, c3, c4, c5, c6, c7, c8, c9].drop 2).take (Tryz.prog.cellsOf 3)) = some y2 := hff 2 _ rfl
  have k3 : DataW.trod enc Tryz.prog W base sp held k 87 (([c0, c1, c2, c3, c4, c5, c6, c7, c8, c9].drop 3).take (Tryz.prog.cellsOf 87)) = some y3 := hff 3 _ rfl
  have k4 : DataW.trod enc Tryz.prog W base sp held k 39 (([c0, c1, c2, c3, c4, c5, c6, c7, c8, c9].drop 4).take (Tryz.prog.cellsOf 39)) = some y4 := hff 4 _ rfl
  have k5 : DataW.trod enc Tryz.prog W base sp held k 37 (([c0, c1, c2, c3, c4, c5, c6, c7, c8, c9].drop 7).take (Tryz.prog.cellsOf 37)) = some y5 := hff 5 _ rfl
  have k6 : DataW.trod enc Tryz.prog W base sp held k 85 (([c0, c1, c2, c3, c4, c5, c6, c7, c8, c9].drop 8).take (Tryz.prog.cellsOf 85)) = some y6 := hff 6 _ rfl
  have k7 : DataW.trod enc Tryz.prog W base sp held k 4 (([c0, c1, c2, c3, c4, c5, c6, c7, c8, c9].drop 9).take (Tryz.prog.cellsOf 4)) = some y7 := hff 7 _ rfl
  rw [c1i] at k0 k1 k2
  rw [c1o] at k3
  rw [c3p] at k4
  rw [c1u] at k5
  rw [c1c] at k6
  rw [c1b] at k7
  obtain ⟨a, rfl, ta⟩ := trod_i k0
  obtain ⟨b, rfl, tb⟩ := trod_i k1
  obtain ⟨c, rfl, tc⟩ := trod_i k2
  obtain ⟨q3, d3, l3, e3, z3, p3, s3, _⟩ := trod_list EO OpdT Tryz.underlying87 (by kernel_rfl) (by decide) (fun fuel cs y hl h _ => trod_opd fuel cs y hl h) _ _ _ k3 (fun n hn => hwe n (DataW.weights_mem_each (j := 3) rfl rfl n hn))
  obtain ⟨p, rfl, rfl, rfl, tp⟩ := trod_pth _ _ _ _ _ k4
  obtain ⟨u, rfl, tu⟩ := trod_u k5
  obtain ⟨q6, d6, l6, e6, z6, p6, s6, t6⟩ := trod_list EC ConT Tryz.underlying85 (by kernel_rfl) (by decide) (fun fuel cs y hl h _ => trod_con fuel cs y hl h) _ _ _ k6 (fun n hn => hwe n (DataW.weights_mem_each (j := 6) rfl rfl n hn))
  obtain ⟨e, he, _⟩ := DataW.trod_bool Tryz.underlying4 k7
  simp at he e3 e6
  subst he e3 e6
  rw [show Tryz.prog.bytesOf 138 = 16 by kernel_rfl] at s3
  rw [show Tryz.prog.bytesOf 92 = 40 by kernel_rfl] at s6
  have hrb : reachBytes ≤ 140737488351232 := by decide
  exact ⟨⟨⟨a, b, c, l3, p, u, l6, e⟩, q3, l3.length, d3, q6, l6.length, d6⟩, rfl, ⟨ta, tb, tc, p3, tp, tu, p6⟩, ⟨z3, z6⟩, by simp only; omega, by simp only; omega, t6⟩
end
set_option maxRecDepth 100000 in
theorem open_graph2 {H : Type} {enc : TypeId × Value → H} {W : World} {r : Reach} {b0 base : Nat} {sp : Nat → Bool} {held : Bool} {v : Value} {d : DataW H} {p : List MemPlace} (hv : Value.okWide Tryz.prog W r b0 25 v) (h : DataW.Trod enc Tryz.prog W base sp held 25 v d p) (hw : Wgt Tryz.prog 25 d) :
    (∀ x ∈ p, x.block < W.heap.size) ∧ ∃ (a : Int) (nv ev : Value) (xs : List NV) (es : List Edg), v = .agg (gvc a nv ev) ∧ GphT (gof a xs es) ∧ GR W.heap.size W nv ev xs es ∧ Sz xs es ∧ Gcap ev xs := by
 have hlt : ∀ x ∈ p, x.block < W.heap.size := by
  obtain ⟨fuel, hf⟩ := h
  exact DataW.trod_lt fuel _ _ _ hf
 refine ⟨hlt, ?_⟩
 obtain ⟨c0, c1, c2, y0, y1, y2, m, rfl, rfl, rfl, h0, h1, h2⟩ := open_agg3 Tryz.underlying25 (by kernel_rfl) (by kernel_rfl) hv h
 have hwe : ∀ n ∈ DataW.weightsEach Tryz.prog [3, 22, 23] [y0.1, y1.1, y2.1], n ≤ reachBytes := fun n hn => hw n (by
  simp only [DataW.weights, Tryz.underlying25]
  exact hn)
 obtain ⟨a, rfl, ta⟩ := trod_i h0
 obtain ⟨q1, d1, l1, e1, z1, p1, s1, _⟩ := trod_list EV (NodK2 W) Tryz.underlying22 (by kernel_rfl) (by decide) (fun fuel cs y hl h hw => trod_nod2 fuel cs y hl h hw) _ _ _ h1 (fun n hn => hwe n (DataW.weights_mem_each (j := 1) rfl rfl n hn))
 obtain ⟨q2, d2, l2, e2, z2, p2, s2, t2⟩ := trod_list ED EdgT Tryz.underlying23 (by kernel_rfl) (by decide) (fun fuel cs y hl h _ => trod_edg fuel cs y hl h) _ _ _ h2 (fun n hn => hwe n (DataW.weights_mem_each (j := 2) rfl rfl n hn))
 simp at e1 e2
 subst e1 e2
 rw [show Tryz.prog.bytesOf 89 = 112 by kernel_rfl] at s1
 rw [show Tryz.prog.bytesOf 94 = 40 by kernel_rfl] at s2
 have hrb : reachBytes ≤ 140737488351232 := by decide
 refine ⟨a, _, _, l1, l2, rfl, ⟨ta, fun n hn => ?_, p2⟩, ⟨z1, z2, fun x hx => (p1 x hx).2.1, fun x hx => by have := (p1 x hx).2.2; omega, by omega, by omega⟩, ⟨by omega, by omega, fun x hx => ⟨(p1 x hx).2.2.1, (p1 x hx).2.2.2.1⟩⟩, ⟨fun p n c e => by simp only [Value.slice.injEq] at e; omega, fun x hx => ⟨(p1 x hx).2.2.2.2, by have := (p1 x hx).2.2.2.1; omega⟩⟩⟩
 obtain ⟨x, hx, rfl⟩ := List.mem_map.1 hn
 exact (p1 x hx).1
end Go.Proofs.YtjppkehnjnmbnaaGreat.Df

namespace Go.Proofs.YtjppkehnjnmbnaaGreat.Lf
open Go.ChangeShapes Go.WideShapes Go.ChangeAt Go.RowKit Go.Joins Go.Sort Pt
open Df (Gph gof GR Gcap NV Edg GphT EdgT)
section
variable {H : Type} {enc : TypeId × Value → H} {W : World} {base : Nat} {sp : Nat → Bool} {held : Bool}
theorem trod_w {fuel : Nat} {c : Value} {y : DataW H × List MemPlace} (h : DataW.trod enc Tryz.prog W base sp held fuel 37 [c] = some y) : ∃ n : Int, c = .int .u64 n ∧ (Lit.int .u64 n).wf = true := by
 obtain ⟨u, e, _, w⟩ := DataW.trod_int Tryz.underlying37 h
 simp at e
 exact ⟨u, e, w⟩
set_option maxRecDepth 100000 in
theorem trod_stamp (fuel : Nat) (cs : List Value) (y : DataW H × List MemPlace) (hl : cs.length = 4) (h : DataW.trod enc Tryz.prog W base sp held fuel 52 cs = some y) : ∃ x : Hf.Th, cs = EF.enc x ∧ True := by
 have hthree : Tryz.prog.cellsOf 50 = 3 := by kernel_rfl
 match cs, hl with
 | [c3, c4, c5, c6], _ =>
  obtain ⟨zs, k', _, _, _, hzl, hgg⟩ := DataW.trod_struct Tryz.underlying52 h
  match zs, hzl with
  | [z0, z1], _ =>
   have j0 : DataW.trod enc Tryz.prog W base sp held k' 3 (([c3, c4, c5, c6].drop 0).take (Tryz.prog.cellsOf 3)) = some z0 := hgg 0 _ rfl
   have j1 : DataW.trod enc Tryz.prog W base sp held k' 50 (([c3, c4, c5, c6].drop 1).take (Tryz.prog.cellsOf 50)) = some z1 := hgg 1 _ rfl
   rw [Df.c1i] at j0
   rw [hthree] at j1
   obtain ⟨u3, rfl, _⟩ := Df.trod_i j0
   simp only [List.drop_succ_cons, List.drop_zero, List.take_succ_cons, List.take_zero] at j1
   obtain ⟨ts, k2', _, _, _, htl, hhh⟩ := DataW.trod_struct Tryz.underlying50 j1
   match ts, htl with
   | [t0, t1, t2], _ =>
    have i0 : DataW.trod enc Tryz.prog W base sp held k2' 37 (([c4, c5, c6].drop 0).take (Tryz.prog.cellsOf 37)) = some t0 := hhh 0 _ rfl
    have i1 : DataW.trod enc Tryz.prog W base sp held k2' 37 (([c4, c5, c6].drop 1).take (Tryz.prog.cellsOf 37)) = some t1 := hhh 1 _ rfl
    have i2 : DataW.trod enc Tryz.prog W base sp held k2' 37 (([c4, c5, c6].drop 2).take (Tryz.prog.cellsOf 37)) = some t2 := hhh 2 _ rfl
    rw [Df.c1u] at i0 i1 i2
    obtain ⟨u4, rfl, w4⟩ := trod_w i0
    obtain ⟨u5, rfl, w5⟩ := trod_w i1
    obtain ⟨u6, rfl, w6⟩ := trod_w i2
    exact ⟨(u3, ⟨(u4, u5, u6), w4, w5, w6⟩), rfl, trivial⟩
end
theorem GphT.gpt {g : Gph} (h : GphT g) : Gpt g := fun n hn => ⟨(h.2.1 n hn).2.2.2.2.1, fun c hc => ((h.2.1 n hn).2.2.2.2.2.2 c hc).2.2⟩
end Go.Proofs.YtjppkehnjnmbnaaGreat.Lf
