import Derived.Test.YtghofmhlmkpkcaaDoorBFlt
import Derived.Test.YtghofmhlmkpkcaaDoorBGet
import Derived.Test.YtghofmhlmkpkcaaDoorBPut
namespace Go.Proofs.YtghofmhlmkpkcaaDoor.Wi
open Go.RowKit Go.Sort Go.Stop
attribute [local go_sem ↓] Go.wp_at_zero Go.wp_at_succ
set_option maxHeartbeats 2000000 in
theorem itoa5 (w : World) : Calls Tryd.prog 40 #[.int .i64 5] w fun e w' => e = .returned (.string ⟨#[53]⟩) ∧ w' = w := by
  go_enter Tryd.func40, Tryd.ntmps40
  go_wp2
  go_ret
  exact ⟨rfl, rfl⟩
set_option maxHeartbeats 2000000 in
set_option maxRecDepth 100000 in
theorem itoa31 (w : World) : Calls Tryd.prog 40 #[.int .i64 31] w fun e w' => e = .returned (.string ⟨#[51, 49]⟩) ∧ w' = w := by
  go_enter Tryd.func40, Tryd.ntmps40
  go_wp2
  go_ret
  exact ⟨rfl, rfl⟩
set_option maxHeartbeats 2000000 in
theorem errno31 (w : World) : Calls Tryd.prog 18 #[.int .i64 31] w fun e w' => e = .returned (.string ⟨#[101, 114, 114, 111, 114, 32, 51, 49]⟩) ∧ w' = w := by
  go_enter Tryd.func18, Tryd.ntmps18
  go_wp2_with (go_at_call 40; refine (itoa31 _).mono ?_; rintro r w4 ⟨rfl, rfl⟩)
  go_ret
  exact ⟨rfl, rfl⟩
theorem methodError (v : Value) (w : World) : (Go.method 294 51 v "Error").run Tryd.prog w = .ok (19, v) w := by kernel_rfl
theorem ferr_nil (w : World) : Calls Tryd.prog 19 #[.pointer none] w fun e w' => e = .returned (.string ⟨#[]⟩) ∧ w' = w := by
  go_enter Tryd.func19, Tryd.ntmps19
  go_wp2_with fail
  go_ret
  exact ⟨rfl, rfl⟩
theorem funw_nil (w : World) : Calls Tryd.prog 20 #[.pointer none] w fun e w' => e = .returned .nilIface ∧ w' = w := by
  go_enter Tryd.func20, Tryd.ntmps20
  go_wp2_with fail
  go_ret
  exact ⟨rfl, rfl⟩
set_option maxHeartbeats 4000000 in
set_option maxRecDepth 100000 in
theorem ferr_any {fb : Nat} (w : World) (hf : w.heap[fb]? = some (.cells #[.int .i64 5, .int .i64 31] 60 (0, 0))) : Calls Tryd.prog 19 #[.pointer (some ⟨fb, 0, none⟩)] w fun e w' => e = .returned (.string ⟨#[98, 97, 116, 99, 104, 58, 32, 97, 116, 32, 53, 58, 32, 101, 114, 114, 111, 114, 32, 51, 49]⟩) ∧ Gr w w' := by
  have hmx : Tryd.prog.follows .mixedOrders = true := by kernel_rfl
  have S0 : w.drew.cell? ⟨fb, 0, none⟩ = some (.int .i64 5) ∧ w.drew.cell? ⟨fb, 1, none⟩ = some (.int .i64 31) ∧ fb < w.drew.heap.size := ⟨(tk_store hf).1 0, (tk_store hf).1 1, (Array.getElem?_eq_some_iff.1 hf).1⟩
  clear hf
  go_enter Tryd.func19, Tryd.ntmps19
  go_upto_region 3 with fail
  refine wp_regionD (S := fun W => W.cell? ⟨fb, 0, none⟩ = some (.int .i64 5) ∧ W.cell? ⟨fb, 1, none⟩ = some (.int .i64 31) ∧ fb < W.heap.size) (D := []) hmx ?_
  refine' wpAnyD_take (i := 0) (oi := { dst := some 5, op := Go.Op.move (Go.Operand.tmp 0), type := 51, pos := "fault.go:21", after := #[], guard := none }) (v := _) rfl (by kernel_rfl) (by kernel_rfl) (by kernel_rfl) (fun _ _ _ h => h) (by kernel_rfl) (Or.inl ⟨by rfl, ?hy1⟩) S0 ?rest1
  case hy1 => (intro W hSw; (try dsimp only at hSw); obtain ⟨s1, s2, s3⟩ := hSw; go_simp; try (with_reducible rfl))
  try simp only [Act.put, List.setIfInBounds_toArray, List.set_cons_zero, List.set_cons_succ]
  refine' wpAnyD_take (i := 1) (oi := { dst := some 6, op := Go.Op.nilCheck (Go.Operand.tmp 5), type := 0, pos := "fault.go:21", after := #[{ on := 0, ground := Go.Ground.data }], guard := none }) (v := _) rfl (by kernel_rfl) (by kernel_rfl) (by kernel_rfl) (fun _ _ _ h => h) (by kernel_rfl) (Or.inl ⟨by rfl, ?hy2⟩) S0 ?rest2
  case hy2 => (intro W hSw; (try dsimp only at hSw); obtain ⟨s1, s2, s3⟩ := hSw; go_simp; try (with_reducible rfl))
  try simp only [Act.put, List.setIfInBounds_toArray, List.set_cons_zero, List.set_cons_succ]
  refine' wpAnyD_take (i := 2) (oi := { dst := some 7, op := Go.Op.fieldAddr 60 (Go.Operand.tmp 6) 0, type := 0, pos := "fault.go:21", after := #[{ on := 1, ground := Go.Ground.data }], guard := none }) (v := _) rfl (by kernel_rfl) (by kernel_rfl) (by kernel_rfl) (fun _ _ _ h => h) (by kernel_rfl) (Or.inl ⟨by rfl, ?hy3⟩) S0 ?rest3
  case hy3 => (intro W hSw; (try dsimp only at hSw); obtain ⟨s1, s2, s3⟩ := hSw; go_simp; try (with_reducible rfl))
  try simp only [Act.put, List.setIfInBounds_toArray, List.set_cons_zero, List.set_cons_succ]
  refine' wpAnyD_take (i := 3) (oi := { dst := some 8, op := Go.Op.load 3 (Go.Operand.tmp 7), type := 3, pos := "fault.go:21", after := #[{ on := 2, ground := Go.Ground.data }], guard := none }) (v := _) rfl (by kernel_rfl) (by kernel_rfl) (by kernel_rfl) (fun _ _ _ h => h) (by kernel_rfl) (Or.inl ⟨by rfl, ?hy4⟩) S0 ?rest4
  case hy4 => (intro W hSw; (try dsimp only at hSw); obtain ⟨s1, s2, s3⟩ := hSw; go_simp; try (with_reducible rfl))
  try simp only [Act.put, List.setIfInBounds_toArray, List.set_cons_zero, List.set_cons_succ]
  refine' wpAnyD_take (i := 7) (oi := { dst := some 12, op := Go.Op.move (Go.Operand.tmp 0), type := 51, pos := "fault.go:21", after := #[], guard := none }) (v := _) rfl (by kernel_rfl) (by kernel_rfl) (by kernel_rfl) (fun _ _ _ h => h) (by kernel_rfl) (Or.inl ⟨by rfl, ?hy5⟩) S0 ?rest5
  case hy5 => (intro W hSw; (try dsimp only at hSw); obtain ⟨s1, s2, s3⟩ := hSw; go_simp; try (with_reducible rfl))
  try simp only [Act.put, List.setIfInBounds_toArray, List.set_cons_zero, List.set_cons_succ]
  refine' wpAnyD_take (i := 8) (oi := { dst := some 13, op := Go.Op.nilCheck (Go.Operand.tmp 12), type := 0, pos := "fault.go:21", after := #[{ on := 7, ground := Go.Ground.data }], guard := none }) (v := _) rfl (by kernel_rfl) (by kernel_rfl) (by kernel_rfl) (fun _ _ _ h => h) (by kernel_rfl) (Or.inl ⟨by rfl, ?hy6⟩) S0 ?rest6
  case hy6 => (intro W hSw; (try dsimp only at hSw); obtain ⟨s1, s2, s3⟩ := hSw; go_simp; try (with_reducible rfl))
  try simp only [Act.put, List.setIfInBounds_toArray, List.set_cons_zero, List.set_cons_succ]
  refine' wpAnyD_take (i := 9) (oi := { dst := some 14, op := Go.Op.fieldAddr 60 (Go.Operand.tmp 13) 1, type := 0, pos := "fault.go:21", after := #[{ on := 8, ground := Go.Ground.data }], guard := none }) (v := _) rfl (by kernel_rfl) (by kernel_rfl) (by kernel_rfl) (fun _ _ _ h => h) (by kernel_rfl) (Or.inl ⟨by rfl, ?hy7⟩) S0 ?rest7
  case hy7 => (intro W hSw; (try dsimp only at hSw); obtain ⟨s1, s2, s3⟩ := hSw; go_simp; try (with_reducible rfl))
  try simp only [Act.put, List.setIfInBounds_toArray, List.set_cons_zero, List.set_cons_succ]
  refine' wpAnyD_take (i := 10) (oi := { dst := some 15, op := Go.Op.load 29 (Go.Operand.tmp 14), type := 29, pos := "fault.go:21", after := #[{ on := 9, ground := Go.Ground.data }], guard := none }) (v := _) rfl (by kernel_rfl) (by kernel_rfl) (by kernel_rfl) (fun _ _ _ h => h) (by kernel_rfl) (Or.inl ⟨by rfl, ?hy8⟩) S0 ?rest8
  case hy8 => (intro W hSw; (try dsimp only at hSw); obtain ⟨s1, s2, s3⟩ := hSw; go_simp; try (with_reducible rfl))
  try simp only [Act.put, List.setIfInBounds_toArray, List.set_cons_zero, List.set_cons_succ]
  refine wpAnyD_one (i := 4) (o := { dst := some 9, op := Go.Op.call { callee := Go.Callee.value (Go.Operand.func 40), args := #[Go.Operand.tmp 8], argTypes := #[3] }, type := 9, pos := "fault.go:21", after := #[{ on := 3, ground := Go.Ground.data }], guard := none }) (by kernel_rfl) rfl (fun K hK => ?_)
  rw [if_pos (by kernel_rfl)]
  go_simp
  refine (itoa5 _).mono ?_
  rintro e w4 ⟨rfl, rfl⟩
  dsimp only
  refine hK.out _ _ (fun hD => S0) ?_
  clear hK K
  try simp only [Act.put, List.setIfInBounds_toArray, List.set_cons_zero, List.set_cons_succ]
  refine' wpAnyD_take (i := 5) (oi := { dst := some 10, op := Go.Op.binOp Go.BinOp.add 9 (Go.Operand.const (Go.Value.string { data := #[98, 97, 116, 99, 104, 58, 32, 97, 116, 32] })) (Go.Operand.tmp 9) 9, type := 9, pos := "fault.go:21", after := #[{ on := 4, ground := Go.Ground.data }], guard := none }) (v := _) rfl (by kernel_rfl) (by kernel_rfl) (by kernel_rfl) (fun _ _ _ h => h) (by kernel_rfl) (Or.inl ⟨by rfl, ?hy10⟩) S0 ?rest10
  case hy10 => (intro W hSw; (try dsimp only at hSw); obtain ⟨s1, s2, s3⟩ := hSw; go_simp; try (with_reducible rfl))
  try simp only [Act.put, List.setIfInBounds_toArray, List.set_cons_zero, List.set_cons_succ]
  refine' wpAnyD_take (i := 6) (oi := { dst := some 11, op := Go.Op.binOp Go.BinOp.add 9 (Go.Operand.tmp 10) (Go.Operand.const (Go.Value.string { data := #[58, 32] })) 9, type := 9, pos := "fault.go:21", after := #[{ on := 5, ground := Go.Ground.data }], guard := none }) (v := _) rfl (by kernel_rfl) (by kernel_rfl) (by kernel_rfl) (fun _ _ _ h => h) (by kernel_rfl) (Or.inl ⟨by rfl, ?hy11⟩) S0 ?rest11
  case hy11 => (intro W hSw; (try dsimp only at hSw); obtain ⟨s1, s2, s3⟩ := hSw; go_simp; try (with_reducible rfl))
  try simp only [Act.put, List.setIfInBounds_toArray, List.set_cons_zero, List.set_cons_succ]
  refine wpAnyD_one (i := 11) (o := { dst := some 16, op := Go.Op.call { callee := Go.Callee.value (Go.Operand.func 18), args := #[Go.Operand.tmp 15], argTypes := #[29] }, type := 9, pos := "fault.go:21", after := #[{ on := 10, ground := Go.Ground.data }, { on := 4, ground := Go.Ground.chain }], guard := none }) (by kernel_rfl) rfl (fun K hK => ?_)
  rw [if_pos (by kernel_rfl)]
  go_simp
  refine (errno31 _).mono ?_
  rintro e w5 ⟨rfl, rfl⟩
  dsimp only
  refine hK.out _ _ (fun hD => S0) ?_
  clear hK K
  try simp only [Act.put, List.setIfInBounds_toArray, List.set_cons_zero, List.set_cons_succ]
  refine' wpAnyD_take (i := 12) (oi := { dst := some 17, op := Go.Op.binOp Go.BinOp.add 9 (Go.Operand.tmp 11) (Go.Operand.tmp 16) 9, type := 9, pos := "fault.go:21", after := #[{ on := 6, ground := Go.Ground.data }, { on := 11, ground := Go.Ground.data }], guard := none }) (v := _) rfl (by kernel_rfl) (by kernel_rfl) (by kernel_rfl) (fun _ _ _ h => h) (by kernel_rfl) (Or.inl ⟨by rfl, ?hy13⟩) S0 ?rest13
  case hy13 => (intro W hSw; (try dsimp only at hSw); obtain ⟨s1, s2, s3⟩ := hSw; go_simp; try (with_reducible rfl))
  try simp only [Act.put, List.setIfInBounds_toArray, List.set_cons_zero, List.set_cons_succ]
  refine wpAnyD_one (i := 13) (o := { dst := some 2, op := Go.Op.assign (Go.Operand.tmp 17), type := 9, pos := "fault.go:21", after := #[{ on := 12, ground := Go.Ground.data }, { on := 11, ground := Go.Ground.chain }, { on := 0, ground := Go.Ground.phase }, { on := 1, ground := Go.Ground.phase }, { on := 2, ground := Go.Ground.phase }, { on := 3, ground := Go.Ground.phase }, { on := 4, ground := Go.Ground.phase }, { on := 5, ground := Go.Ground.phase }, { on := 6, ground := Go.Ground.phase }, { on := 7, ground := Go.Ground.phase }, { on := 8, ground := Go.Ground.phase }, { on := 9, ground := Go.Ground.phase }, { on := 10, ground := Go.Ground.phase }, { on := 11, ground := Go.Ground.phase }, { on := 12, ground := Go.Ground.phase }], guard := none }) (by kernel_rfl) rfl (fun K hK => ?_)
  rw [if_pos (by kernel_rfl)]
  go_simp
  refine hK.out _ _ (fun hD => S0) ?_
  clear hK K
  try simp only [Act.put, List.setIfInBounds_toArray, List.set_cons_zero, List.set_cons_succ]
  refine wpAnyD_done (by kernel_rfl) ?_ _
  go_wp2
  go_ret
  exact ⟨rfl, (Gr.refl _).drew⟩
theorem f600 : form 600 = [216, 4] := by rw [form_great (by decide), form_small (by decide)]; rfl
theorem bput_ex : bput [(⟨3, 1, 0, 0, -1, by decide⟩ : Cx), (⟨3, 2, 0, 0, 300, by decide⟩ : Cx)] = ([2, 3, 1, 0, 0, 1, 3, 2, 0, 0, 216, 4], 0) := by
  have h1 : bgo none [(⟨3, 1, 0, 0, -1, by decide⟩ : Cx), (⟨3, 2, 0, 0, 300, by decide⟩ : Cx)] = 0 := by decide
  have e1 : fc (⟨3, 1, 0, 0, -1, by decide⟩ : Cx) = [3, 1, 0, 0, 1] := by
    show form 3 ++ (form 1 ++ (form 0 ++ (form 0 ++ form 1))) = _
    rw [form_small (v := 3) (by decide), form_small (v := 1) (by decide), form_small (v := 0) (by decide)]
    rfl
  have e2 : fc (⟨3, 2, 0, 0, 300, by decide⟩ : Cx) = [3, 2, 0, 0, 216, 4] := by
    show form 3 ++ (form 2 ++ (form 0 ++ (form 0 ++ form 600))) = _
    rw [form_small (v := 3) (by decide), form_small (v := 2) (by decide), form_small (v := 0) (by decide), f600]
    rfl
  unfold bput
  rw [if_pos h1, bts_ne (by simp), List.flatMap_cons, List.flatMap_cons, List.flatMap_nil, e1, e2, form_small (by decide)]
  rfl
theorem bget_ex : bget [1, 3, 1, 0, 0, 0] = .error (5, 31) := by kernel_rfl
theorem fl_map (l : List UInt8) : fl EB l = l.map bv := by
  induction l with
  | nil => rfl
  | cons x l ih => rw [fl_cons, ih]; rfl
theorem ls_lit {w : World} {b n : Nat} {cs : Array Value} {te : TypeId} (l : List UInt8) (h : w.heap[b]? = some (.cells cs te (0, 0))) (hc : cs.toList = l.map bv) (hn : n = l.length) (c : Nat) : Ls EB w (.slice (some ⟨b, 0, none⟩) n c) l := by
  subst hn
  refine Or.inr ⟨b, 0, c, rfl, (Array.getElem?_eq_some_iff.1 h).1, fun j u hj => ?_⟩
  rw [fl_map, ← hc] at hj
  rw [Nat.zero_add]
  simp only [World.cell?, h]
  simpa using hj
theorem ls_litC {w : World} {b n : Nat} {cs : Array Value} {te : TypeId} (l : List Cx) (h : w.heap[b]? = some (.cells cs te (0, 0))) (hc : cs.toList = fl EC l) (hn : n = l.length) (c : Nat) : Ls EC w (.slice (some ⟨b, 0, none⟩) n c) l := by
  subst hn
  refine Or.inr ⟨b, 0, c, rfl, (Array.getElem?_eq_some_iff.1 h).1, fun j u hj => ?_⟩
  rw [← hc] at hj
  rw [Nat.zero_add]
  simp only [World.cell?, h]
  simpa using hj
set_option maxHeartbeats 8000000 in
set_option maxRecDepth 100000 in
theorem taken_any (w : World) (hg : Ety w) : Calls Tryd.prog 7 #[] w fun e w' => e = .returned (.bool true) ∧ Below w.heap.size w w' := by
  have hst := @to_text
  have mE := methodError
  have hcat : ((⟨#[98, 97, 116, 99, 104, 58, 32, 97, 116, 32, 53, 58, 32]⟩ : ByteArray) ++ (⟨#[101, 114, 114, 111, 114, 32, 51, 49]⟩ : ByteArray)) = (⟨#[98, 97, 116, 99, 104, 58, 32, 97, 116, 32, 53, 58, 32, 101, 114, 114, 111, 114, 32, 51, 49]⟩ : ByteArray) := by kernel_rfl
  have HG := hid hg
  clear hg
  go_enter Tryd.func7, Tryd.ntmps7
  go_wp2_with fail
  have hls := ls_litC (w := w.alloc (.cells #[.int .i64 3, .int .u64 1, .int .u64 0, .int .u64 0, .int .i64 (-1), .int .i64 3, .int .u64 2, .int .u64 0, .int .u64 0, .int .i64 300] 43)) (n := 2) [(⟨3, 1, 0, 0, -1, by decide⟩ : Cx), (⟨3, 2, 0, 0, 300, by decide⟩ : Cx)] (heap_new' _ _) rfl rfl 2
  have hp := put_any _ hls (fun p n c h => by cases h; decide) (by decide)
  rw [bput_ex] at hp
  have hal := ((Gr.refl w).alloc (.cells #[.int .i64 3, .int .u64 1, .int .u64 0, .int .u64 0, .int .i64 (-1), .int .i64 3, .int .u64 2, .int .u64 0, .int .u64 0, .int .i64 300] 43)).below
  refine hp.mono ?_
  rintro r w1 ⟨d, rfl, hd, hb⟩
  have B1 := hid (hal.trans (hb.mono hal.size))
  have LD := hid (owns_ls (E := EB) hd)
  obtain ⟨pd, cd, rfl⟩ := LD.out.form
  clear hp hls hal hd hb
  go_wp2_with fail
  have hls := ls_lit (w := w1.alloc (.cells #[.int .u8 1, .int .u8 3, .int .u8 1, .int .u8 0, .int .u8 0, .int .u8 0] 5)) (n := 6) [1, 3, 1, 0, 0, 0] (heap_new' _ _) rfl rfl 6
  have hp := get_any _ hls (by decide)
  rw [bget_ex] at hp
  have hal := ((Gr.refl w1).alloc (.cells #[.int .u8 1, .int .u8 3, .int .u8 1, .int .u8 0, .int .u8 0, .int .u8 0] 5)).below
  refine hp.mono ?_
  rintro r w2 ⟨hb, fb, rfl, hfb, hf⟩
  have B2 := hid (hal.trans (hb.mono hal.size))
  have HF := hid hf
  clear hp hls hal hf hb hfb
  go_wp2_with fail
  have E2 : Hid (Ety w2) := (HG.out.below B1.out).below B2.out
  refine (fault_any _ E2.out HF.out).mono ?_
  rintro r w3 ⟨rfl, b3⟩
  have HF3 := hid ((b3.block fb (Array.getElem?_eq_some_iff.1 HF.out).1).trans HF.out)
  have B3 := hid b3
  clear b3
  go_wp2_with fail
  refine (ferr_any _ HF3.out).mono ?_
  rintro r w4 ⟨rfl, g4⟩
  have L4 := hid (((LD.out.below B2.out).below B3.out).below g4.below)
  have B4 := hid ((B1.out.trans (B2.out.mono B1.out.size)).trans ((B3.out.trans (g4.below.mono B3.out.size)).mono (Nat.le_trans B1.out.size B2.out.size)))
  clear g4
  go_wp2_with fail
  refine (errno31 _).mono ?_
  rintro r w5 ⟨rfl, rfl⟩
  have hct := hst L4.out
  simp only [List.length_cons, List.length_nil, Nat.reduceAdd] at hct
  clear hst
  go_wp2_with fail
  refine (ferr_nil _).mono ?_
  rintro r w6 ⟨rfl, rfl⟩
  go_wp2_with fail
  refine (funw_nil _).mono ?_
  rintro r w7 ⟨rfl, rfl⟩
  go_wp2_with fail
  go_ret
  exact ⟨rfl, B4.out⟩
end Go.Proofs.YtghofmhlmkpkcaaDoor.Wi
