import Derived.Test.YtijbmchgajhkeaaSuRef4
import Derived.Test.YtijbmchgajhkeaaSuKn
import Derived.Test.YtijbmchgajhkeaaLHold2
import Derived.Deep.CutBlock
import Derived.Deep.DeepCutAuto
namespace Go.Proofs.Ytijbmchgajhkeaa
open Go.RowKit Go.Sort Go.Maps Go.Shelf
attribute [local go_sem ↓] Go.wp_at_zero Go.wp_at_succ
/-- The mark. -/
def mkp : Tm := ⟨(1125899906842624, 2251799813685248, 4503599627370496), by decide⟩
/-- The list with its mark. -/
def Mkd (w1 : World) (F : List Tm) (g c : Nat) (W : World) : Prop := W.ownsRow w1.heap.size 32 3 (.slice (some ⟨g, 0, none⟩) (F.length + 1) c) (F.length + 1) (fl ET (F ++ [mkp])) ∧ Below w1.heap.size w1 W
set_option maxHeartbeats 8000000 in
set_option maxRecDepth 100000 in
theorem lready_any {S : Nat → Prop} {N sb : Nat} {A : List Ct} {v : Value} {F : List Tm} (w : World) (h : Su w S N sb A) (hN : N ≤ 100000000) (hv : Lw ET w v F) (hF : F.length ≤ 5864062014804) :
    Calls Try.prog 35 #[.pointer (some ⟨sb, 0, none⟩), v] w fun e w' => ∃ v', e = .returned (.tuple #[v', .bool true]) ∧ w'.ownsRow w.heap.size 32 3 v' (rdy A F).length (fl ET (rdy A F)) ∧ Below w.heap.size w w' := by
  have hmx : Try.prog.follows .mixedOrders = true := by kernel_rfl
  obtain ⟨pf, cf, rfl⟩ := hv.form
  obtain ⟨nF, hnF⟩ : ∃ nF, nF = F.length := ⟨_, rfl⟩
  rw [← hnF] at hv hF
  rw [← hnF]
  have HNF := hid hnF
  obtain ⟨w1, hw1⟩ : ∃ w1, w1 = w.alloc (.cells #[.int .u64 1125899906842624, .int .u64 2251799813685248, .int .u64 4503599627370496] 32) := ⟨_, rfl⟩
  obtain ⟨bm, hbm⟩ : ∃ bm, bm = w.heap.size := ⟨_, rfl⟩
  have G1 : Gr w w1 := by rw [hw1]; exact (Gr.refl _).alloc _
  have HXM : Hid (w1.heap[bm]? = some (.cells #[.int .u64 1125899906842624, .int .u64 2251799813685248, .int .u64 4503599627370496] 32 (0, 0))) := by rw [hw1, hbm]; exact heap_new' _ _
  have HS1 := hid (h.below G1.below)
  have HV1 := hid (hv.below G1.below)
  have HG1 := hid G1
  have hbd : (0 + F.length) * 24 ≤ 140737488355328 ∧ 0 + F.length ≤ maxLen ∧ (F.length + 1) * 24 ≤ 140737488355328 ∧ F.length + 1 ≤ maxLen := by unfold maxLen; omega
  have HBD := hid hbd
  clear h hv hnF G1 hbd
  go_enter Try.func35, Try.ntmps35
  go_upto_region 2 with fail
  rw [← hw1, ← hbm]
  clear hw1 hbm
  go_cut [7] (fun s7 w' => ∃ g c, s7 = .slice (some ⟨g, 0, none⟩) (nF + 1) c ∧ Hid (Mkd w1 F g c w'))
  case first =>
    have BD : Hid (Below w1.heap.size w1 w1.drew) := (Gr.refl _).drew.below
    refine wp_regionD (S := fun W => Below w1.heap.size w1 W) (D := []) hmx ?_
    generalize w1.drew = Wd at BD ⊢
    refine' wpAnyD_take (i := 1) (oi := { dst := some 11, op := Go.Op.move (Go.Operand.tmp 1), type := 23, pos := "law.go:59", after := #[], guard := none }) (v := _) rfl (by kernel_rfl) (by kernel_rfl) (by kernel_rfl) (fun _ _ _ h => h) (by kernel_rfl) (Or.inl ⟨by rfl, ?hy7001⟩) BD.out ?rest7001
    case hy7001 => (intro W hSw; go_simp; try (with_reducible rfl))
    try simp only [Act.put, List.setIfInBounds_toArray, List.set_cons_zero, List.set_cons_succ]
    refine' wpAnyD_take (i := 3) (oi := { dst := some 13, op := Go.Op.load 32 (Go.Operand.tmp 6), type := 32, pos := "law.go:59", after := #[], guard := none }) (v := _) rfl (by kernel_rfl) (by kernel_rfl) (by kernel_rfl) (fun _ _ _ h => h) (by kernel_rfl) (Or.inl ⟨by rfl, ?hy7002⟩) BD.out ?rest7002
    case hy7002 => (intro W hSw; have m0 := (hSw.block bm (Array.getElem?_eq_some_iff.1 HXM.out).1).trans HXM.out; obtain ⟨i0, i1, i2, i3⟩ := bx_cell (x := mkp) m0; simp only [mkp] at i0 i1 i2; go_simp; try (with_reducible rfl))
    try simp only [Act.put, List.setIfInBounds_toArray, List.set_cons_zero, List.set_cons_succ]
    refine wpAnyD_two (i := 0) (j := 4) (oi := { dst := some 10, op := Go.Op.buildSlice 23 0 #[], type := 23, pos := "law.go:59", after := #[], guard := none }) (oj := { dst := some 14, op := Go.Op.buildSlice 23 1 #[(0, Go.Operand.tmp 13)], type := 23, pos := "law.go:59", after := #[{ on := 3, ground := Go.Ground.data }], guard := none }) (by kernel_rfl) rfl rfl (fun K hK => ?_) (fun K hK => ?_)
    · go_simp
      have g7003 := (Gr.refl Wd).alloc (.cells #[] 32)
      have a7003 := heap_new' Wd (.cells #[] 32)
      obtain ⟨b7003, hb7003⟩ : ∃ b, b = Wd.heap.size := ⟨_, rfl⟩
      obtain ⟨V7003, hV7003⟩ : ∃ V, V = Wd.alloc (.cells #[] 32) := ⟨_, rfl⟩
      rw [← hV7003, ← hb7003]
      rw [← hV7003] at g7003 a7003
      rw [← hb7003] at a7003
      have B7003 := hid (BD.out.trans (g7003.below.mono BD.out.size))
      have O7003 : Hid (V7003.ownsRow w1.heap.size 32 3 (.slice (some ⟨b7003, 0, none⟩) 0 0) 0 []) := by
        rw [hV7003, hb7003]
        exact World.ownsRow_made Wd #[] 0 BD.out.size (Nat.zero_le _) rfl
      clear g7003 a7003 hV7003 hb7003
      refine hK.out _ _ (fun hD => B7003.out) ?_
      clear hK K
      try simp only [Act.put, List.setIfInBounds_toArray, List.set_cons_zero, List.set_cons_succ]
      refine wpAnyD_two (i := 2) (j := 4) (oi := { dst := some 12, op := Go.Op.call { callee := Go.Callee.builtin Go.Builtin.append, args := #[Go.Operand.tmp 10, Go.Operand.tmp 11], argTypes := #[23, 23] }, type := 23, pos := "law.go:59", after := #[{ on := 0, ground := Go.Ground.data }, { on := 1, ground := Go.Ground.data }], guard := none }) (oj := { dst := some 14, op := Go.Op.buildSlice 23 1 #[(0, Go.Operand.tmp 13)], type := 23, pos := "law.go:59", after := #[{ on := 3, ground := Go.Ground.data }], guard := none }) (by kernel_rfl) rfl rfl (fun K hK => ?_) (fun K hK => ?_)
      · refine step_appW ET Try.underlying23 infoTm rfl (by decide) rfl _ _ rfl w1.heap.size (.slice (some ⟨b7003, 0, none⟩) 0 0) 0 [] rfl O7003.out B7003.out.size _ F rfl (HV1.out.below B7003.out) HBD.out.1 HBD.out.2.1 ?_
        intro v7004 w7004 h7004 g7004
        have K7004 := Kp.grownBy (S := fun k => ((.slice (some ⟨b7003, 0, none⟩) 0 0) : Value).ownBlock = some k) g7004.out (fun _ h => h)
        have B7004 := hid (B7003.out.trans (K7004.below B7003.out.size (fun k hk => (O7003.out.lt k hk).1)))
        have O7004 : Hid (w7004.ownsRow w1.heap.size 32 3 v7004 F.length (fl ET F)) := owns_re h7004.out (by omega) (by simp)
        clear h7004 g7004 K7004
        refine hK.out _ _ (fun hD => B7004.out) ?_
        clear hK K
        try simp only [Act.put, List.setIfInBounds_toArray, List.set_cons_zero, List.set_cons_succ]
        refine wpAnyD_one (i := 4) (o := { dst := some 14, op := Go.Op.buildSlice 23 1 #[(0, Go.Operand.tmp 13)], type := 23, pos := "law.go:59", after := #[{ on := 3, ground := Go.Ground.data }], guard := none }) (by kernel_rfl) rfl (fun K hK => ?_)
        go_simp
        have g7005 := (Gr.refl w7004).alloc (.cells #[.int .u64 1125899906842624, .int .u64 2251799813685248, .int .u64 4503599627370496] 32)
        have a7005 := heap_new' w7004 (.cells #[.int .u64 1125899906842624, .int .u64 2251799813685248, .int .u64 4503599627370496] 32)
        obtain ⟨b7005, hb7005⟩ : ∃ b, b = w7004.heap.size := ⟨_, rfl⟩
        obtain ⟨V7005, hV7005⟩ : ∃ V, V = w7004.alloc (.cells #[.int .u64 1125899906842624, .int .u64 2251799813685248, .int .u64 4503599627370496] 32) := ⟨_, rfl⟩
        rw [← hV7005, ← hb7005]
        rw [← hV7005] at g7005 a7005
        rw [← hb7005] at a7005
        have B7005 := hid (B7004.out.trans (g7005.below.mono B7004.out.size))
        have M7005 : Hid (Ls ET V7005 (.slice (some ⟨b7005, 0, none⟩) 1 1) [mkp]) := ls_lit (E := ET) (l := [mkp]) a7005 rfl 1 1 rfl
        have O7005 := hid (owns_below O7004.out g7005.below)
        clear g7005 a7005 hV7005 hb7005
        refine hK.out _ _ (fun hD => B7005.out) ?_
        clear hK K
        try simp only [Act.put, List.setIfInBounds_toArray, List.set_cons_zero, List.set_cons_succ]
        refine wpAnyD_one (i := 5) (o := { dst := some 15, op := Go.Op.call { callee := Go.Callee.builtin Go.Builtin.append, args := #[Go.Operand.tmp 12, Go.Operand.tmp 14], argTypes := #[23, 23] }, type := 23, pos := "law.go:59", after := #[{ on := 2, ground := Go.Ground.data }, { on := 4, ground := Go.Ground.data }, { on := 2, ground := Go.Ground.chain }], guard := none }) (by kernel_rfl) rfl (fun K hK => ?_)
        refine step_appL ET Try.underlying23 infoTm rfl (by decide) rfl _ _ rfl w1.heap.size v7004 F.length _ rfl O7005.out B7005.out.size _ [mkp] rfl M7005.out HBD.out.2.2.1 HBD.out.2.2.2 ?_
        intro v5 w5 h5 g5
        have K5 := Kp.grownBy (S := fun k => (v7004 : Value).ownBlock = some k) g5.out (fun _ h => h)
        have B5 : Hid (Below w1.heap.size w1 w5) := B7005.out.trans (K5.below B7005.out.size (fun k hk => (O7005.out.lt k hk).1))
        have O5 : Hid (w5.ownsRow w1.heap.size 32 3 v5 (F.length + 1) (fl ET (F ++ [mkp]))) := by
          rw [fl_append]
          exact h5.out
        obtain ⟨g, c, hv5, _, _⟩ := owns_form0 (owns_base O5.out (Nat.zero_le _)) (Nat.succ_pos _)
        subst hv5
        clear h5 g5 K5
        refine hK.out _ _ (fun hD => B5.out) ?_
        clear hK K
        try simp only [Act.put, List.setIfInBounds_toArray, List.set_cons_zero, List.set_cons_succ]
        refine' wpAnyD_take (i := 6) (oi := { dst := some 7, op := Go.Op.assign (Go.Operand.tmp 15), type := 23, pos := "law.go:59", after := #[{ on := 5, ground := Go.Ground.data }, { on := 5, ground := Go.Ground.chain }, { on := 0, ground := Go.Ground.phase }, { on := 1, ground := Go.Ground.phase }, { on := 2, ground := Go.Ground.phase }, { on := 3, ground := Go.Ground.phase }, { on := 4, ground := Go.Ground.phase }, { on := 5, ground := Go.Ground.phase }], guard := none }) (v := _) rfl (by kernel_rfl) (by kernel_rfl) (by kernel_rfl) (fun _ _ _ h => h) (by kernel_rfl) (Or.inl ⟨by rfl, ?hy7006⟩) B5.out ?rest7006
        case hy7006 => (intro W hSw; go_simp; try (with_reducible rfl))
        try simp only [Act.put, List.setIfInBounds_toArray, List.set_cons_zero, List.set_cons_succ]
        refine wpAnyD_done (by kernel_rfl) ?_ _
        go_wp2_with fail
        go_meet
        exact ⟨g, c, by rw [HNF.out], O5.out, B5.out⟩
      · go_simp
        have g7007 := (Gr.refl V7003).alloc (.cells #[.int .u64 1125899906842624, .int .u64 2251799813685248, .int .u64 4503599627370496] 32)
        have a7007 := heap_new' V7003 (.cells #[.int .u64 1125899906842624, .int .u64 2251799813685248, .int .u64 4503599627370496] 32)
        obtain ⟨b7007, hb7007⟩ : ∃ b, b = V7003.heap.size := ⟨_, rfl⟩
        obtain ⟨V7007, hV7007⟩ : ∃ V, V = V7003.alloc (.cells #[.int .u64 1125899906842624, .int .u64 2251799813685248, .int .u64 4503599627370496] 32) := ⟨_, rfl⟩
        rw [← hV7007, ← hb7007]
        rw [← hV7007] at g7007 a7007
        rw [← hb7007] at a7007
        have B7007 := hid (B7003.out.trans (g7007.below.mono B7003.out.size))
        have M7007 : Hid (Ls ET V7007 (.slice (some ⟨b7007, 0, none⟩) 1 1) [mkp]) := ls_lit (E := ET) (l := [mkp]) a7007 rfl 1 1 rfl
        have O7007 := hid (owns_below O7003.out g7007.below)
        have N7007 : Hid (b7007 ≠ b7003) := fun e => by
          have h1 := (O7003.out.lt b7003 rfl).2
          omega
        clear g7007 a7007 hV7007 hb7007
        refine hK.out _ _ (fun hD => B7007.out) ?_
        clear hK K
        try simp only [Act.put, List.setIfInBounds_toArray, List.set_cons_zero, List.set_cons_succ]
        refine wpAnyD_one (i := 2) (o := { dst := some 12, op := Go.Op.call { callee := Go.Callee.builtin Go.Builtin.append, args := #[Go.Operand.tmp 10, Go.Operand.tmp 11], argTypes := #[23, 23] }, type := 23, pos := "law.go:59", after := #[{ on := 0, ground := Go.Ground.data }, { on := 1, ground := Go.Ground.data }], guard := none }) (by kernel_rfl) rfl (fun K hK => ?_)
        refine step_appW ET Try.underlying23 infoTm rfl (by decide) rfl _ _ rfl w1.heap.size (.slice (some ⟨b7003, 0, none⟩) 0 0) 0 [] rfl O7007.out B7007.out.size _ F rfl (HV1.out.below B7007.out) HBD.out.1 HBD.out.2.1 ?_
        intro v7008 w7008 h7008 g7008
        have K7008 := Kp.grownBy (S := fun k => ((.slice (some ⟨b7003, 0, none⟩) 0 0) : Value).ownBlock = some k) g7008.out (fun _ h => h)
        have B7008 := hid (B7007.out.trans (K7008.below B7007.out.size (fun k hk => (O7007.out.lt k hk).1)))
        have O7008 : Hid (w7008.ownsRow w1.heap.size 32 3 v7008 F.length (fl ET F)) := owns_re h7008.out (by omega) (by simp)
        have M7008 := hid (K7008.ls M7007.out (fun k hk e => N7007.out (by have h1 : b7007 = k := (by simpa [Value.ownBlock] using hk); have h2 : b7003 = k := (by simpa [Value.ownBlock] using e); rw [h1, h2])))
        clear h7008 g7008 K7008
        refine hK.out _ _ (fun hD => B7008.out) ?_
        clear hK K
        try simp only [Act.put, List.setIfInBounds_toArray, List.set_cons_zero, List.set_cons_succ]
        refine wpAnyD_one (i := 5) (o := { dst := some 15, op := Go.Op.call { callee := Go.Callee.builtin Go.Builtin.append, args := #[Go.Operand.tmp 12, Go.Operand.tmp 14], argTypes := #[23, 23] }, type := 23, pos := "law.go:59", after := #[{ on := 2, ground := Go.Ground.data }, { on := 4, ground := Go.Ground.data }, { on := 2, ground := Go.Ground.chain }], guard := none }) (by kernel_rfl) rfl (fun K hK => ?_)
        refine step_appL ET Try.underlying23 infoTm rfl (by decide) rfl _ _ rfl w1.heap.size v7008 F.length _ rfl O7008.out B7008.out.size _ [mkp] rfl M7008.out HBD.out.2.2.1 HBD.out.2.2.2 ?_
        intro v5 w5 h5 g5
        have K5 := Kp.grownBy (S := fun k => (v7008 : Value).ownBlock = some k) g5.out (fun _ h => h)
        have B5 : Hid (Below w1.heap.size w1 w5) := B7008.out.trans (K5.below B7008.out.size (fun k hk => (O7008.out.lt k hk).1))
        have O5 : Hid (w5.ownsRow w1.heap.size 32 3 v5 (F.length + 1) (fl ET (F ++ [mkp]))) := by
          rw [fl_append]
          exact h5.out
        obtain ⟨g, c, hv5, _, _⟩ := owns_form0 (owns_base O5.out (Nat.zero_le _)) (Nat.succ_pos _)
        subst hv5
        clear h5 g5 K5
        refine hK.out _ _ (fun hD => B5.out) ?_
        clear hK K
        try simp only [Act.put, List.setIfInBounds_toArray, List.set_cons_zero, List.set_cons_succ]
        refine' wpAnyD_take (i := 6) (oi := { dst := some 7, op := Go.Op.assign (Go.Operand.tmp 15), type := 23, pos := "law.go:59", after := #[{ on := 5, ground := Go.Ground.data }, { on := 5, ground := Go.Ground.chain }, { on := 0, ground := Go.Ground.phase }, { on := 1, ground := Go.Ground.phase }, { on := 2, ground := Go.Ground.phase }, { on := 3, ground := Go.Ground.phase }, { on := 4, ground := Go.Ground.phase }, { on := 5, ground := Go.Ground.phase }], guard := none }) (v := _) rfl (by kernel_rfl) (by kernel_rfl) (by kernel_rfl) (fun _ _ _ h => h) (by kernel_rfl) (Or.inl ⟨by rfl, ?hy7009⟩) B5.out ?rest7009
        case hy7009 => (intro W hSw; go_simp; try (with_reducible rfl))
        try simp only [Act.put, List.setIfInBounds_toArray, List.set_cons_zero, List.set_cons_succ]
        refine wpAnyD_done (by kernel_rfl) ?_ _
        go_wp2_with fail
        go_meet
        exact ⟨g, c, by rw [HNF.out], O5.out, B5.out⟩
    · go_simp
      have g7010 := (Gr.refl Wd).alloc (.cells #[.int .u64 1125899906842624, .int .u64 2251799813685248, .int .u64 4503599627370496] 32)
      have a7010 := heap_new' Wd (.cells #[.int .u64 1125899906842624, .int .u64 2251799813685248, .int .u64 4503599627370496] 32)
      obtain ⟨b7010, hb7010⟩ : ∃ b, b = Wd.heap.size := ⟨_, rfl⟩
      obtain ⟨V7010, hV7010⟩ : ∃ V, V = Wd.alloc (.cells #[.int .u64 1125899906842624, .int .u64 2251799813685248, .int .u64 4503599627370496] 32) := ⟨_, rfl⟩
      rw [← hV7010, ← hb7010]
      rw [← hV7010] at g7010 a7010
      rw [← hb7010] at a7010
      have B7010 := hid (BD.out.trans (g7010.below.mono BD.out.size))
      have M7010 : Hid (Ls ET V7010 (.slice (some ⟨b7010, 0, none⟩) 1 1) [mkp]) := ls_lit (E := ET) (l := [mkp]) a7010 rfl 1 1 rfl
      clear g7010 a7010 hV7010 hb7010
      refine hK.out _ _ (fun hD => B7010.out) ?_
      clear hK K
      try simp only [Act.put, List.setIfInBounds_toArray, List.set_cons_zero, List.set_cons_succ]
      refine wpAnyD_one (i := 0) (o := { dst := some 10, op := Go.Op.buildSlice 23 0 #[], type := 23, pos := "law.go:59", after := #[], guard := none }) (by kernel_rfl) rfl (fun K hK => ?_)
      go_simp
      have g7011 := (Gr.refl V7010).alloc (.cells #[] 32)
      have a7011 := heap_new' V7010 (.cells #[] 32)
      obtain ⟨b7011, hb7011⟩ : ∃ b, b = V7010.heap.size := ⟨_, rfl⟩
      obtain ⟨V7011, hV7011⟩ : ∃ V, V = V7010.alloc (.cells #[] 32) := ⟨_, rfl⟩
      rw [← hV7011, ← hb7011]
      rw [← hV7011] at g7011 a7011
      rw [← hb7011] at a7011
      have B7011 := hid (B7010.out.trans (g7011.below.mono B7010.out.size))
      have O7011 : Hid (V7011.ownsRow w1.heap.size 32 3 (.slice (some ⟨b7011, 0, none⟩) 0 0) 0 []) := by
        rw [hV7011, hb7011]
        exact World.ownsRow_made V7010 #[] 0 B7010.out.size (Nat.zero_le _) rfl
      have M7011 := hid (M7010.out.below g7011.below)
      have N7011 : Hid (b7010 ≠ b7011) := fun e => by
        have h1 := M7010.out.blk b7010 rfl
        omega
      clear g7011 a7011 hV7011 hb7011
      refine hK.out _ _ (fun hD => B7011.out) ?_
      clear hK K
      try simp only [Act.put, List.setIfInBounds_toArray, List.set_cons_zero, List.set_cons_succ]
      refine wpAnyD_one (i := 2) (o := { dst := some 12, op := Go.Op.call { callee := Go.Callee.builtin Go.Builtin.append, args := #[Go.Operand.tmp 10, Go.Operand.tmp 11], argTypes := #[23, 23] }, type := 23, pos := "law.go:59", after := #[{ on := 0, ground := Go.Ground.data }, { on := 1, ground := Go.Ground.data }], guard := none }) (by kernel_rfl) rfl (fun K hK => ?_)
      refine step_appW ET Try.underlying23 infoTm rfl (by decide) rfl _ _ rfl w1.heap.size (.slice (some ⟨b7011, 0, none⟩) 0 0) 0 [] rfl O7011.out B7011.out.size _ F rfl (HV1.out.below B7011.out) HBD.out.1 HBD.out.2.1 ?_
      intro v7012 w7012 h7012 g7012
      have K7012 := Kp.grownBy (S := fun k => ((.slice (some ⟨b7011, 0, none⟩) 0 0) : Value).ownBlock = some k) g7012.out (fun _ h => h)
      have B7012 := hid (B7011.out.trans (K7012.below B7011.out.size (fun k hk => (O7011.out.lt k hk).1)))
      have O7012 : Hid (w7012.ownsRow w1.heap.size 32 3 v7012 F.length (fl ET F)) := owns_re h7012.out (by omega) (by simp)
      have M7012 := hid (K7012.ls M7011.out (fun k hk e => N7011.out (by have h1 : b7010 = k := (by simpa [Value.ownBlock] using hk); have h2 : b7011 = k := (by simpa [Value.ownBlock] using e); rw [h1, h2])))
      clear h7012 g7012 K7012
      refine hK.out _ _ (fun hD => B7012.out) ?_
      clear hK K
      try simp only [Act.put, List.setIfInBounds_toArray, List.set_cons_zero, List.set_cons_succ]
      refine wpAnyD_one (i := 5) (o := { dst := some 15, op := Go.Op.call { callee := Go.Callee.builtin Go.Builtin.append, args := #[Go.Operand.tmp 12, Go.Operand.tmp 14], argTypes := #[23, 23] }, type := 23, pos := "law.go:59", after := #[{ on := 2, ground := Go.Ground.data }, { on := 4, ground := Go.Ground.data }, { on := 2, ground := Go.Ground.chain }], guard := none }) (by kernel_rfl) rfl (fun K hK => ?_)
      refine step_appL ET Try.underlying23 infoTm rfl (by decide) rfl _ _ rfl w1.heap.size v7012 F.length _ rfl O7012.out B7012.out.size _ [mkp] rfl M7012.out HBD.out.2.2.1 HBD.out.2.2.2 ?_
      intro v5 w5 h5 g5
      have K5 := Kp.grownBy (S := fun k => (v7012 : Value).ownBlock = some k) g5.out (fun _ h => h)
      have B5 : Hid (Below w1.heap.size w1 w5) := B7012.out.trans (K5.below B7012.out.size (fun k hk => (O7012.out.lt k hk).1))
      have O5 : Hid (w5.ownsRow w1.heap.size 32 3 v5 (F.length + 1) (fl ET (F ++ [mkp]))) := by
        rw [fl_append]
        exact h5.out
      obtain ⟨g, c, hv5, _, _⟩ := owns_form0 (owns_base O5.out (Nat.zero_le _)) (Nat.succ_pos _)
      subst hv5
      clear h5 g5 K5
      refine hK.out _ _ (fun hD => B5.out) ?_
      clear hK K
      try simp only [Act.put, List.setIfInBounds_toArray, List.set_cons_zero, List.set_cons_succ]
      refine' wpAnyD_take (i := 6) (oi := { dst := some 7, op := Go.Op.assign (Go.Operand.tmp 15), type := 23, pos := "law.go:59", after := #[{ on := 5, ground := Go.Ground.data }, { on := 5, ground := Go.Ground.chain }, { on := 0, ground := Go.Ground.phase }, { on := 1, ground := Go.Ground.phase }, { on := 2, ground := Go.Ground.phase }, { on := 3, ground := Go.Ground.phase }, { on := 4, ground := Go.Ground.phase }, { on := 5, ground := Go.Ground.phase }], guard := none }) (v := _) rfl (by kernel_rfl) (by kernel_rfl) (by kernel_rfl) (fun _ _ _ h => h) (by kernel_rfl) (Or.inl ⟨by rfl, ?hy7013⟩) B5.out ?rest7013
      case hy7013 => (intro W hSw; go_simp; try (with_reducible rfl))
      try simp only [Act.put, List.setIfInBounds_toArray, List.set_cons_zero, List.set_cons_succ]
      refine wpAnyD_done (by kernel_rfl) ?_ _
      go_wp2_with fail
      go_meet
      exact ⟨g, c, by rw [HNF.out], O5.out, B5.out⟩
  case rest =>
    obtain ⟨g, c, rfl, HK⟩ := hcut
    obtain ⟨w3, hw3⟩ : ∃ w3, w3 = wc := ⟨_, rfl⟩
    rw [← hw3] at HK ⊢
    clear hw3
    have HS3 := hid (HS1.out.below HK.out.2)
    have HV3 := hid (HV1.out.below HK.out.2)
    have hcap := (owns_cap HK.out.1).1
    have hnc : (nF : Int) ≤ (c : Int) := by have := HNF.out; omega
    have hnc2 : nF ≤ c := by have := HNF.out; omega
    have HL3 : Hid (Ls ET w3 (.slice (some ⟨g, 0, none⟩) (nF + 1) c) (F ++ [mkp])) := owns_lst (owns_re (by rw [HNF.out]; exact HK.out.1) (by rw [List.length_append]; rfl) rfl)
    have HC3 : Hid (Ls ET w3 (.slice (some ⟨g, 0, none⟩) nF c) F) := by
      have h := HL3.out.cut (k := nF) (by rw [List.length_append]; have := HNF.out; omega) c
      rw [HNF.out, List.take_left, ← HNF.out] at h
      exact h
    have hrd := ready_any _ F w3 HS3.out (by omega) HC3.out (by have := HNF.out; unfold maxLen; omega)
    clear hcap
    go_wp2_with fail
    refine hrd.mono ?_
    rintro e w4 ⟨v4, rfl, hr4, hb4, -⟩
    obtain ⟨p4, c4, hv4⟩ := owns_form hr4
    subst hv4
    have HR4 := hid hr4
    have HB4 := hid hb4
    have HBX : Hid (w4.heap[bm]? = some (.cells #[.int .u64 1125899906842624, .int .u64 2251799813685248, .int .u64 4503599627370496] 32 (0, 0))) := (hb4.block bm (Nat.lt_of_lt_of_le (Array.getElem?_eq_some_iff.1 HXM.out).1 HK.out.2.size)).trans ((HK.out.2.block bm (Array.getElem?_eq_some_iff.1 HXM.out).1).trans HXM.out)
    have HC4 := hid (HC3.out.below hb4)
    have HV4 := hid (HV3.out.below hb4)
    obtain ⟨b5, o5, c5, e5, z5, y0, y1, y2⟩ := (HL3.out.below hb4).at3 (j := nF) (t := mkp) (by rw [HNF.out]; simp)
    simp only [Value.slice.injEq, Option.some.injEq, Addr.mk.injEq, and_true] at e5
    obtain ⟨⟨rfl, rfl⟩, -, rfl⟩ := e5
    have hts : ∀ W, Gr w4 W → Calls Try.prog 8 #[.slice (some ⟨g, 0, none⟩) nF c, .slice pf nF cf] W fun e w' => e = .returned (.bool true) ∧ Gr W w' := fun W hW => times_eqW W (HC4.out.below hW.below) (HV4.out.below hW.below) (by have := HNF.out; omega)
    have heq : ∀ W, Sem.run Try.prog (Op.equalIn 10000 32 (.agg #[.int .u64 1125899906842624, .int .u64 2251799813685248, .int .u64 4503599627370496]) (.agg #[.int .u64 1125899906842624, .int .u64 2251799813685248, .int .u64 4503599627370496])) W = .ok true W := fun W => by rw [run_eqT]; simp [teq]
    have HFin : Hid (Below w.heap.size w w4) := HG1.out.below.trans ((HK.out.2.trans (hb4.mono HK.out.2.size)).mono HG1.out.size)
    have HZ3 : Hid (w.heap.size ≤ w3.heap.size) := Nat.le_trans HG1.out.size HK.out.2.size
    have hS0 : Gr w4 w4.drew := (Gr.refl w4).drew
    have hn0 : (0 : Int) ≤ (nF : Int) := by omega
    have hn1 : (nF : Int) < ((nF + 1 : Nat) : Int) := by omega
    have hn2 : (nF : Int) < (nF : Int) + 1 := by omega
    simp only [mkp, Nat.zero_add] at y0 y1 y2
    clear hrd hr4 hb4 HL3 HC3 HV3 HS3 HS1 HV1 HXM
    go_upto_region 4 with fail
    refine wp_regionD (S := fun W => Gr w4 W) (D := []) hmx ?_
    refine' wpAnyD_take (i := 0) (oi := { dst := some 22, op := Go.Op.move (Go.Operand.tmp 8), type := 23, pos := "law.go:61", after := #[], guard := none }) (v := _) rfl (by kernel_rfl) (by kernel_rfl) (by kernel_rfl) (fun _ _ _ h => h) (by kernel_rfl) (Or.inl ⟨by rfl, ?hy1⟩) hS0 ?rest1
    case hy1 => (intro W hSw; go_simp; try (with_reducible rfl))
    try simp only [Act.put, List.setIfInBounds_toArray, List.set_cons_zero, List.set_cons_succ]
    refine' wpAnyD_take (i := 1) (oi := { dst := some 23, op := Go.Op.move (Go.Operand.tmp 7), type := 23, pos := "law.go:61", after := #[], guard := none }) (v := _) rfl (by kernel_rfl) (by kernel_rfl) (by kernel_rfl) (fun _ _ _ h => h) (by kernel_rfl) (Or.inl ⟨by rfl, ?hy2⟩) hS0 ?rest2
    case hy2 => (intro W hSw; go_simp; try (with_reducible rfl))
    try simp only [Act.put, List.setIfInBounds_toArray, List.set_cons_zero, List.set_cons_succ]
    refine' wpAnyD_take (i := 2) (oi := { dst := some 24, op := Go.Op.move (Go.Operand.tmp 1), type := 23, pos := "law.go:61", after := #[], guard := none }) (v := _) rfl (by kernel_rfl) (by kernel_rfl) (by kernel_rfl) (fun _ _ _ h => h) (by kernel_rfl) (Or.inl ⟨by rfl, ?hy3⟩) hS0 ?rest3
    case hy3 => (intro W hSw; go_simp; try (with_reducible rfl))
    try simp only [Act.put, List.setIfInBounds_toArray, List.set_cons_zero, List.set_cons_succ]
    refine' wpAnyD_take (i := 3) (oi := { dst := some 25, op := Go.Op.call { callee := Go.Callee.builtin Go.Builtin.len, args := #[Go.Operand.tmp 24], argTypes := #[23] }, type := 3, pos := "law.go:61", after := #[{ on := 2, ground := Go.Ground.data }], guard := none }) (v := _) rfl (by kernel_rfl) (by kernel_rfl) (by kernel_rfl) (fun _ _ _ h => h) (by kernel_rfl) (Or.inl ⟨by rfl, ?hy4⟩) hS0 ?rest4
    case hy4 => (intro W hSw; go_simp; try (with_reducible rfl))
    try simp only [Act.put, List.setIfInBounds_toArray, List.set_cons_zero, List.set_cons_succ]
    refine' wpAnyD_take (i := 4) (oi := { dst := some 26, op := Go.Op.slice 23 (Go.Operand.tmp 23) none (some (Go.Operand.tmp 25)) none, type := 23, pos := "law.go:61", after := #[{ on := 1, ground := Go.Ground.data }, { on := 3, ground := Go.Ground.data }], guard := none }) (v := _) rfl (by kernel_rfl) (by kernel_rfl) (by kernel_rfl) (fun _ _ _ h => h) (by kernel_rfl) (Or.inl ⟨by rfl, ?hy5⟩) hS0 ?rest5
    case hy5 => (intro W hSw; go_simp; try (with_reducible rfl))
    try simp only [Act.put, List.setIfInBounds_toArray, List.set_cons_zero, List.set_cons_succ]
    refine' wpAnyD_take (i := 5) (oi := { dst := some 27, op := Go.Op.move (Go.Operand.tmp 1), type := 23, pos := "law.go:61", after := #[], guard := none }) (v := _) rfl (by kernel_rfl) (by kernel_rfl) (by kernel_rfl) (fun _ _ _ h => h) (by kernel_rfl) (Or.inl ⟨by rfl, ?hy6⟩) hS0 ?rest6
    case hy6 => (intro W hSw; go_simp; try (with_reducible rfl))
    try simp only [Act.put, List.setIfInBounds_toArray, List.set_cons_zero, List.set_cons_succ]
    refine wpAnyD_one (i := 6) (o := { dst := some 28, op := Go.Op.call { callee := Go.Callee.value (Go.Operand.func 8), args := #[Go.Operand.tmp 26, Go.Operand.tmp 27], argTypes := #[23, 23] }, type := 4, pos := "law.go:61", after := #[{ on := 4, ground := Go.Ground.data }, { on := 5, ground := Go.Ground.data }], guard := none }) (by kernel_rfl) rfl (fun K hK => ?_)
    go_simp
    refine (hts _ hS0).mono ?_
    rintro e w6 ⟨rfl, g6⟩
    have hS6 := hS0.trans g6
    clear g6
    go_wp2_with fail
    refine hK.out _ _ (fun hD => hS6) ?_
    clear hK K
    try simp only [Act.put, List.setIfInBounds_toArray, List.set_cons_zero, List.set_cons_succ]
    refine' wpAnyD_take (i := 7) (oi := { dst := some 29, op := Go.Op.move (Go.Operand.tmp 28), type := 4, pos := "law.go:61", after := #[{ on := 6, ground := Go.Ground.data }, { on := 6, ground := Go.Ground.chain }], guard := none }) (v := _) rfl (by kernel_rfl) (by kernel_rfl) (by kernel_rfl) (fun _ _ _ h => h) (by kernel_rfl) (Or.inl ⟨by rfl, ?hy8⟩) hS6 ?rest8
    case hy8 => (intro W hSw; go_simp; try (with_reducible rfl))
    try simp only [Act.put, List.setIfInBounds_toArray, List.set_cons_zero, List.set_cons_succ]
    refine' wpAnyD_take (i := 8) (oi := { dst := some 30, op := Go.Op.move (Go.Operand.tmp 7), type := 23, pos := "law.go:61", after := #[{ on := 7, ground := Go.Ground.guard }, { on := 16, ground := Go.Ground.gcOnly Go.Departure.lateStores }], guard := some (7, true) }) (v := _) rfl (by kernel_rfl) (by kernel_rfl) (by kernel_rfl) (fun _ _ _ h => h) (by kernel_rfl) (Or.inl ⟨by rfl, ?hy9⟩) hS6 ?rest9
    case hy9 => (intro W hSw; go_simp; try (with_reducible rfl))
    try simp only [Act.put, List.setIfInBounds_toArray, List.set_cons_zero, List.set_cons_succ]
    refine' wpAnyD_take (i := 9) (oi := { dst := some 31, op := Go.Op.move (Go.Operand.tmp 1), type := 23, pos := "law.go:61", after := #[{ on := 7, ground := Go.Ground.guard }], guard := some (7, true) }) (v := _) rfl (by kernel_rfl) (by kernel_rfl) (by kernel_rfl) (fun _ _ _ h => h) (by kernel_rfl) (Or.inl ⟨by rfl, ?hy10⟩) hS6 ?rest10
    case hy10 => (intro W hSw; go_simp; try (with_reducible rfl))
    try simp only [Act.put, List.setIfInBounds_toArray, List.set_cons_zero, List.set_cons_succ]
    refine' wpAnyD_take (i := 10) (oi := { dst := some 32, op := Go.Op.call { callee := Go.Callee.builtin Go.Builtin.len, args := #[Go.Operand.tmp 31], argTypes := #[23] }, type := 3, pos := "law.go:61", after := #[{ on := 9, ground := Go.Ground.data }, { on := 7, ground := Go.Ground.guard }], guard := some (7, true) }) (v := _) rfl (by kernel_rfl) (by kernel_rfl) (by kernel_rfl) (fun _ _ _ h => h) (by kernel_rfl) (Or.inl ⟨by rfl, ?hy11⟩) hS6 ?rest11
    case hy11 => (intro W hSw; go_simp; try (with_reducible rfl))
    try simp only [Act.put, List.setIfInBounds_toArray, List.set_cons_zero, List.set_cons_succ]
    refine' wpAnyD_take (i := 11) (oi := { dst := some 33, op := Go.Op.indexAddr 23 (Go.Operand.tmp 30) (Go.Operand.tmp 32), type := 0, pos := "law.go:61", after := #[{ on := 8, ground := Go.Ground.data }, { on := 10, ground := Go.Ground.data }, { on := 7, ground := Go.Ground.guard }, { on := 16, ground := Go.Ground.gcOnly Go.Departure.lateStores }], guard := some (7, true) }) (v := _) rfl (by kernel_rfl) (by kernel_rfl) (by kernel_rfl) (fun _ _ _ h => h) (by kernel_rfl) (Or.inl ⟨by rfl, ?hy12⟩) hS6 ?rest12
    case hy12 => (intro W hSw; go_simp; try (with_reducible rfl))
    try simp only [Act.put, List.setIfInBounds_toArray, List.set_cons_zero, List.set_cons_succ]
    refine' wpAnyD_take (i := 12) (oi := { dst := some 34, op := Go.Op.load 32 (Go.Operand.tmp 33), type := 32, pos := "law.go:61", after := #[{ on := 11, ground := Go.Ground.data }, { on := 7, ground := Go.Ground.guard }, { on := 16, ground := Go.Ground.gcOnly Go.Departure.lateStores }], guard := some (7, true) }) (v := _) rfl (by kernel_rfl) (by kernel_rfl) (by kernel_rfl) (fun _ _ _ h => h) (by kernel_rfl) (Or.inl ⟨by rfl, ?hy13⟩) hS6 ?rest13
    case hy13 => (intro W hSw; have h0 := (hSw.cell z5).trans y0; have h1 := (hSw.cell z5).trans y1; have h2 := (hSw.cell z5).trans y2; go_simp; try (with_reducible rfl))
    try simp only [Act.put, List.setIfInBounds_toArray, List.set_cons_zero, List.set_cons_succ]
    refine' wpAnyD_take (i := 13) (oi := { dst := some 35, op := Go.Op.load 32 (Go.Operand.tmp 6), type := 32, pos := "law.go:61", after := #[{ on := 7, ground := Go.Ground.guard }, { on := 16, ground := Go.Ground.gcOnly Go.Departure.lateStores }], guard := some (7, true) }) (v := _) rfl (by kernel_rfl) (by kernel_rfl) (by kernel_rfl) (fun _ _ _ h => h) (by kernel_rfl) (Or.inl ⟨by rfl, ?hy14⟩) hS6 ?rest14
    case hy14 => (intro W hSw; have m0 := (hSw.below.block bm (Array.getElem?_eq_some_iff.1 HBX.out).1).trans HBX.out; obtain ⟨i0, i1, i2, i3⟩ := bx_cell (x := mkp) m0; simp only [mkp] at i0 i1 i2; go_simp; try (with_reducible rfl))
    try simp only [Act.put, List.setIfInBounds_toArray, List.set_cons_zero, List.set_cons_succ]
    refine' wpAnyD_take (i := 14) (oi := { dst := some 36, op := Go.Op.binOp Go.BinOp.eql 32 (Go.Operand.tmp 34) (Go.Operand.tmp 35) 32, type := 4, pos := "law.go:61", after := #[{ on := 12, ground := Go.Ground.data }, { on := 13, ground := Go.Ground.data }, { on := 7, ground := Go.Ground.guard }, { on := 16, ground := Go.Ground.gcOnly Go.Departure.lateStores }], guard := some (7, true) }) (v := _) rfl (by kernel_rfl) (by kernel_rfl) (by kernel_rfl) (fun _ _ _ h => h) (by kernel_rfl) (Or.inl ⟨by rfl, ?hy15⟩) hS6 ?rest15
    case hy15 => (intro W hSw; go_simp; try (with_reducible rfl))
    try simp only [Act.put, List.setIfInBounds_toArray, List.set_cons_zero, List.set_cons_succ]
    refine' wpAnyD_take (i := 15) (oi := { dst := some 37, op := Go.Op.pick (Go.Operand.tmp 29) (Go.Operand.tmp 36) (Go.Operand.const (Go.Value.bool false)), type := 4, pos := "law.go:61", after := #[{ on := 7, ground := Go.Ground.data }, { on := 14, ground := Go.Ground.data }, { on := 16, ground := Go.Ground.gcOnly Go.Departure.lateStores }], guard := none }) (v := _) rfl (by kernel_rfl) (by kernel_rfl) (by kernel_rfl) (fun _ _ _ h => h) (by kernel_rfl) (Or.inl ⟨by rfl, ?hy16⟩) hS6 ?rest16
    case hy16 => (intro W hSw; go_simp; try (with_reducible rfl))
    try simp only [Act.put, List.setIfInBounds_toArray, List.set_cons_zero, List.set_cons_succ]
    refine' wpAnyD_take (i := 16) (oi := { dst := some 4, op := Go.Op.assign (Go.Operand.tmp 22), type := 23, pos := "law.go:61", after := #[{ on := 0, ground := Go.Ground.data }, { on := 7, ground := Go.Ground.chain }, { on := 0, ground := Go.Ground.phase }, { on := 1, ground := Go.Ground.textOnly Go.Departure.lateStores }, { on := 2, ground := Go.Ground.textOnly Go.Departure.lateStores }, { on := 3, ground := Go.Ground.textOnly Go.Departure.lateStoresUnsure }, { on := 4, ground := Go.Ground.textOnly Go.Departure.lateStoresUnsure }, { on := 5, ground := Go.Ground.textOnly Go.Departure.lateStores }, { on := 6, ground := Go.Ground.textOnly Go.Departure.lateStoresUnsure }, { on := 7, ground := Go.Ground.textOnly Go.Departure.lateStores }, { on := 8, ground := Go.Ground.textOnly Go.Departure.lateStores }, { on := 9, ground := Go.Ground.textOnly Go.Departure.lateStores }, { on := 10, ground := Go.Ground.textOnly Go.Departure.lateStoresUnsure }, { on := 11, ground := Go.Ground.textOnly Go.Departure.lateStores }, { on := 12, ground := Go.Ground.textOnly Go.Departure.lateStores }, { on := 13, ground := Go.Ground.textOnly Go.Departure.lateStores }, { on := 14, ground := Go.Ground.textOnly Go.Departure.lateStores }, { on := 15, ground := Go.Ground.textOnly Go.Departure.lateStores }], guard := none }) (v := _) rfl (by kernel_rfl) (by kernel_rfl) (by kernel_rfl) (fun _ _ _ h => h) (by kernel_rfl) (Or.inl ⟨by rfl, ?hy17⟩) hS6 ?rest17
    case hy17 => (intro W hSw; go_simp; try (with_reducible rfl))
    try simp only [Act.put, List.setIfInBounds_toArray, List.set_cons_zero, List.set_cons_succ]
    refine' wpAnyD_take (i := 17) (oi := { dst := some 5, op := Go.Op.assign (Go.Operand.tmp 37), type := 4, pos := "law.go:61", after := #[{ on := 15, ground := Go.Ground.data }, { on := 16, ground := Go.Ground.chain }, { on := 0, ground := Go.Ground.phase }, { on := 1, ground := Go.Ground.phase }, { on := 2, ground := Go.Ground.phase }, { on := 3, ground := Go.Ground.phase }, { on := 4, ground := Go.Ground.phase }, { on := 5, ground := Go.Ground.phase }, { on := 6, ground := Go.Ground.phase }, { on := 7, ground := Go.Ground.phase }, { on := 8, ground := Go.Ground.phase }, { on := 9, ground := Go.Ground.phase }, { on := 10, ground := Go.Ground.phase }, { on := 11, ground := Go.Ground.phase }, { on := 12, ground := Go.Ground.phase }, { on := 13, ground := Go.Ground.phase }, { on := 14, ground := Go.Ground.phase }, { on := 15, ground := Go.Ground.phase }, { on := 16, ground := Go.Ground.phase }], guard := none }) (v := _) rfl (by kernel_rfl) (by kernel_rfl) (by kernel_rfl) (fun _ _ _ h => h) (by kernel_rfl) (Or.inl ⟨by rfl, ?hy18⟩) hS6 ?rest18
    case hy18 => (intro W hSw; go_simp; try (with_reducible rfl))
    try simp only [Act.put, List.setIfInBounds_toArray, List.set_cons_zero, List.set_cons_succ]
    refine wpAnyD_done (by kernel_rfl) ?_ _
    go_wp2_with fail
    go_ret2
    exact ⟨_, rfl, owns_below (owns_base HR4.out HZ3.out) hS6.below, HFin.out.trans (hS6.below.mono HFin.out.size)⟩
end Go.Proofs.Ytijbmchgajhkeaa
