import Derived.Test.YtplbcamliiajdaaYRef3
namespace Go.Proofs.Ytplbcamliiajdaa
open Go.RowKit Go.Sort Go.Maps
attribute [local go_sem ↓] Go.wp_at_zero Go.wp_at_succ

/-- 'append(nil, l...)' at a step of a region that draws: of keys. -/
theorem step_nilLk {w : World} {ops : Array Oper} {o : Oper} {a : Act} {K : Act → World → Prop} {Q : Exit → Act → World → Prop} {E : Prop} (hgd : o.guard = none) (s x : Operand)
    (ho : o.op = .call { callee := .builtin .append, args := #[s, x], argTypes := #[45, 45] })
    (hs : a.eval s = .slice none 0 0) (v1 : Value) (ts : List Rk) (hx : a.eval x = v1) (hv : Lk w v1 ts) (hbig : ts.length ≤ 1000000)
    (h : ∀ p c w', Hid (w'.ownsRow w.heap.size 71 2 (.slice p ts.length c) ts.length (flatU ts) ∧ Below w.heap.size w w') → K (a.put o.dst (.slice p ts.length c)) w') :
    if Region.wanted o (yielded ops a.tmps) = true then Oper.wp Try.prog o a w K Q else E := by
  have hw : Region.wanted o (yielded ops a.tmps) = true := by simp [Region.wanted, hgd]
  rw [if_pos hw]
  obtain ⟨i0, hi, hz0, hz1, hz2⟩ := info_parts infoK
  rcases hv with ⟨rfl, rfl⟩ | ⟨b, off, c, rfl, _, hb, ht⟩
  · have hrun := run_append_owned_none (P := Try.prog) (w := w) w.heap.size 45 o.type 71 i0 2 Try.underlying45 hi (.slice none 0 0) 0 [] (World.ownsRow_nil _ _ _ _)
    unfold Oper.wp
    simp [execOp, ho, resolve, invoke, builtin, hs, hx, hrun, Result.andThen]
    exact h _ _ _ ⟨World.ownsRow_nil _ _ _ _, Below.refl _ _⟩
  · obtain ⟨v', w', hr, h2, h3, _, _⟩ := run_append_own_at (P := Try.prog) w w.heap.size 45 o.type 71 i0 _ 2 24 Try.underlying45 hi hz0 hz1 hz2 rfl (by decide) (.slice none 0 0) 0 [] (World.ownsRow_nil _ _ _ _) ⟨b, off, none⟩ ts.length c (flatU ts) (flatU_length ts) (fun j u hj => by rw [addP]; exact flatU_at ht j u hj) (flatU_one ts) (by unfold maxLen; omega) (by omega) (Nat.le_refl _)
    unfold Oper.wp execOp
    simp only [ho, resolve, invoke, builtin, Sem.run_bind, Sem.run_pure, Result.andThen_ok, List.map_toArray, List.map_cons, List.map_nil, hs, hx, hr]
    have h2' : w'.ownsRow w.heap.size 71 2 v' ts.length (flatU ts) := by simpa using h2
    obtain ⟨p, c', rfl, _⟩ := (owns_lk h2').form
    refine h p c' w' ⟨h2', (Kp.grownBy (S := fun _ => False) h3 (fun k hk => by simp [Value.ownBlock] at hk)).below (Nat.le_refl _) (fun _ h => h.elim)⟩
/-- .. of numbers. -/
theorem step_nilLn {w : World} {ops : Array Oper} {o : Oper} {a : Act} {K : Act → World → Prop} {Q : Exit → Act → World → Prop} {E : Prop} (hgd : o.guard = none) (s x : Operand)
    (ho : o.op = .call { callee := .builtin .append, args := #[s, x], argTypes := #[46, 46] })
    (hs : a.eval s = .slice none 0 0) (v1 : Value) (ts : List Int) (hx : a.eval x = v1) (hv : Ln w v1 ts) (hbig : ts.length ≤ 1000000)
    (h : ∀ p c w', Hid (w'.ownsRow w.heap.size 2 1 (.slice p ts.length c) ts.length (ts.map (Value.int .i64)) ∧ Below w.heap.size w w') → K (a.put o.dst (.slice p ts.length c)) w') :
    if Region.wanted o (yielded ops a.tmps) = true then Oper.wp Try.prog o a w K Q else E := by
  have hw : Region.wanted o (yielded ops a.tmps) = true := by simp [Region.wanted, hgd]
  rw [if_pos hw]
  obtain ⟨i0, hi, hz0, hz1, hz2⟩ := info_parts infoI
  rcases hv with ⟨rfl, rfl⟩ | ⟨b, off, c, rfl, hb, ht⟩
  · have hrun := run_append_owned_none (P := Try.prog) (w := w) w.heap.size 46 o.type 2 i0 1 Try.underlying46 hi (.slice none 0 0) 0 [] (World.ownsRow_nil _ _ _ _)
    unfold Oper.wp
    simp [execOp, ho, resolve, invoke, builtin, hs, hx, hrun, Result.andThen]
    exact h _ _ _ ⟨World.ownsRow_nil _ _ _ _, Below.refl _ _⟩
  · obtain ⟨v', w', hr, h2, h3, _, _⟩ := run_append_own_at (P := Try.prog) w w.heap.size 46 o.type 2 i0 _ 1 8 Try.underlying46 hi hz0 hz1 hz2 rfl (by decide) (.slice none 0 0) 0 [] (World.ownsRow_nil _ _ _ _) ⟨b, off, none⟩ ts.length c (ts.map (Value.int .i64)) (by simp) (fun j u hj => by
        rw [addP]
        rw [List.getElem?_map] at hj
        cases hq : ts[j]? with
        | none => rw [hq] at hj; cases hj
        | some z => rw [hq] at hj; cases hj; exact ht j z hq) (by simp [Value.oneCell']) (by unfold maxLen; omega) (by omega) (Nat.le_refl _)
    unfold Oper.wp execOp
    simp only [ho, resolve, invoke, builtin, Sem.run_bind, Sem.run_pure, Result.andThen_ok, List.map_toArray, List.map_cons, List.map_nil, hs, hx, hr]
    have h2' : w'.ownsRow w.heap.size 2 1 v' ts.length (ts.map (Value.int .i64)) := by simpa using h2
    obtain ⟨p, c', rfl⟩ := (owns_ln h2').form
    refine h p c' w' ⟨h2', (Kp.grownBy (S := fun _ => False) h3 (fun k hk => by simp [Value.ownBlock] at hk)).below (Nat.le_refl _) (fun _ h => h.elim)⟩

theorem rclear_any {r : Rf} {kind : Int} {N : List Rk} {C : List Int} (w : World) (h : RT w r kind N C) :
    Calls Try.prog 34 #[rp r] w fun e w' => e = .returned (.tuple #[]) ∧ RT w' ⟨r.b, .slice none 0 0, .slice none 0 0⟩ kind [] [] ∧ Kp (fun k => k = r.b) w w' := by
  obtain ⟨h1, h2⟩ := RT.setN h.blk (.slice none 0 0)
  obtain ⟨h3, h4⟩ := RT.setC h1 (.slice none 0 0)
  have k1 := h.c1
  have k1f := h.f1
  have k2 : (w.setCell ⟨r.b, 1, none⟩ (.slice none 0 0)).cell? ⟨r.b, 2, none⟩ = some r.c := by simp [World.cell?, h1]
  have k2f : (w.setCell ⟨r.b, 1, none⟩ (.slice none 0 0)).frozen? ⟨r.b, 2, none⟩ = false := by simp [World.frozen?, h1]
  have HP : Hid (RT ((w.setCell ⟨r.b, 1, none⟩ (.slice none 0 0)).setCell ⟨r.b, 2, none⟩ (.slice none 0 0)) ⟨r.b, .slice none 0 0, .slice none 0 0⟩ kind [] [] ∧ Kp (fun k => k = r.b) w ((w.setCell ⟨r.b, 1, none⟩ (.slice none 0 0)).setCell ⟨r.b, 2, none⟩ (.slice none 0 0))) :=
    ⟨⟨h3, World.ownsRow_nil _ _ _ _, World.ownsRow_nil _ _ _ _, rfl, by simp [Value.ownBlock], by simp [Value.ownBlock], fun g hg => by simp [Value.ownBlock] at hg, by simp, by simp, by simp⟩, h2.trans h4 (fun _ _ h => h)⟩
  clear h h1 h2 h3 h4
  go_enter Try.func34, Try.ntmps34
  go_wp2
  go_end0
  exact ⟨rfl, HP.out⟩

set_option maxHeartbeats 4000000 in
set_option maxRecDepth 100000 in
theorem rcopy_at {r : Rf} {kind : Int} {N : List Rk} {C : List Int} (w : World) (h : RT w r kind N C) :
    Calls Try.prog 33 #[rp r] w fun e w' => ∃ r' : Rf, e = .returned (rp r') ∧ r'.b = w.heap.size ∧ Hid (RT w' r' kind N C ∧ Below w.heap.size w w' ∧ ∀ k, r'.own k → w.heap.size ≤ k) := by
  have hmx : Try.prog.follows .mixedOrders = true := by kernel_rfl
  have HR : Hid (RT w r kind N C) := h
  have hfew := h.few
  have HLEN : Hid (C.length = N.length) := h.len
  have k0 := h.c0
  have hlt := h.lt
  clear h
  obtain ⟨W1, hW1⟩ : ∃ W1, W1 = w.alloc (.cells #[.int .i64 kind, .slice none 0 0, .slice none 0 0] 48) := ⟨_, rfl⟩
  have HR1 : Hid (RT W1 r kind N C) := by rw [hW1]; exact HR.out.gr ((Gr.refl _).alloc _)
  have HB1 : Hid (W1.heap[w.heap.size]? = some (.cells #[.int .i64 kind, .slice none 0 0, .slice none 0 0] 48 (0, 0))) := by rw [hW1]; exact heap_alloc_new _ _
  have HZ1 : Hid (W1.heap.size = w.heap.size + 1) := by rw [hW1]; simp [Hid]
  have HG1 : Hid (Below w.heap.size w W1) := by rw [hW1]; exact ((Gr.refl w).alloc _).below
  have q1 : W1.cell? ⟨w.heap.size, 1, none⟩ = some (.slice none 0 0) := by simp [World.cell?, HB1.out]
  have q1f : W1.frozen? ⟨w.heap.size, 1, none⟩ = false := by simp [World.frozen?, HB1.out]
  have q2 := HR1.out.c1
  have z1 := HR1.out.lt
  have z2 : w.heap.size < W1.heap.size := by rw [HZ1.out]; omega
  go_enter Try.func33, Try.ntmps33
  go_wp2_with fail
  rw [← hW1]
  clear hW1
  go_region_law (refine step_nilLk rfl _ _ rfl rfl r.n N rfl (HR1.out.gr (Gr.refl _).drew).ln (by omega) ?_
                 intro p5 c5' w5 H5
                 have c5 : w5.cell? ⟨w.heap.size, 1, none⟩ = some (.slice none 0 0) := (H5.out.2.cell (p := ⟨w.heap.size, 1, none⟩) z2).trans q1
                 have c5f : w5.frozen? ⟨w.heap.size, 1, none⟩ = false := (H5.out.2.frozen (p := ⟨w.heap.size, 1, none⟩) z2).trans q1f)
  all_goals (
    have H5B : Below W1.heap.size W1 w5 := (Gr.refl W1).drew.below.trans H5.out.2
    have HB5 : w5.heap[w.heap.size]? = some (.cells #[.int .i64 kind, .slice none 0 0, .slice none 0 0] 48 (0, 0)) := (H5.out.2.block _ z2).trans HB1.out
    obtain ⟨hs1, hs2⟩ := RT.setN (r := ⟨w.heap.size, .slice none 0 0, .slice none 0 0⟩) HB5 (.slice p5 N.length c5')
    have HK6 : Hid (Kp (fun k => k = w.heap.size) W1 (w5.setCell ⟨w.heap.size, 1, none⟩ (.slice p5 N.length c5'))) := (Kp.of_below (S := fun k => k = w.heap.size) H5B).trans hs2 (fun _ _ h => h)
    have HS1 : Hid ((w5.setCell ⟨w.heap.size, 1, none⟩ (.slice p5 N.length c5')).heap[w.heap.size]? = some (.cells #[.int .i64 kind, .slice p5 N.length c5', .slice none 0 0] 48 (0, 0))) := hs1
    have HN6 : Hid ((w5.setCell ⟨w.heap.size, 1, none⟩ (.slice p5 N.length c5')).ownsRow W1.heap.size 71 2 (.slice p5 N.length c5') N.length (flatU N)) := owns_kp hs2 H5.out.1 (fun k hk e => by have := (H5.out.1.lt k hk).1; have e' : k = w.heap.size := e; have := HZ1.out; simp at *; omega)
    have HR6 : Hid (RT (w5.setCell ⟨w.heap.size, 1, none⟩ (.slice p5 N.length c5')) r kind N C) := HR1.out.kp HK6.out (fun k hk e => by have := HR.out.own_lt k hk; omega)
    clear hs1 hs2 HB5 H5 H5B c5 c5f q1 q1f q2
    generalize w5.setCell ⟨w.heap.size, 1, none⟩ (.slice p5 N.length c5') = w6 at *
    have r2 : w6.cell? ⟨w.heap.size, 2, none⟩ = some (.slice none 0 0) := by simp [World.cell?, HS1.out]
    have r2f : w6.frozen? ⟨w.heap.size, 2, none⟩ = false := by simp [World.frozen?, HS1.out]
    have q6 := HR6.out.c2
    have z6 := HR6.out.lt
    have z66 : w.heap.size < w6.heap.size := Nat.lt_of_lt_of_le z2 HK6.out.size
    go_wp2_with fail
    go_region_law (refine step_nilLn rfl _ _ rfl rfl r.c C rfl (HR6.out.gr (Gr.refl _).drew).lc (by rw [HLEN.out]; omega) ?_
                   intro p7 c7' w7 H7
                   have c7 : w7.cell? ⟨w.heap.size, 2, none⟩ = some (.slice none 0 0) := (H7.out.2.cell (p := ⟨w.heap.size, 2, none⟩) z66).trans r2
                   have c7f : w7.frozen? ⟨w.heap.size, 2, none⟩ = false := (H7.out.2.frozen (p := ⟨w.heap.size, 2, none⟩) z66).trans r2f)
    all_goals (
      have H7B : Below w6.heap.size w6 w7 := (Gr.refl w6).drew.below.trans H7.out.2
      have HB7 : w7.heap[w.heap.size]? = some (.cells #[.int .i64 kind, .slice p5 N.length c5', .slice none 0 0] 48 (0, 0)) := (H7.out.2.block _ z66).trans HS1.out
      obtain ⟨hs1, hs2⟩ := RT.setC (r := ⟨w.heap.size, .slice none 0 0, .slice none 0 0⟩) HB7 (.slice p7 C.length c7')
      go_wp2
      go_ret
      have hz1 := HZ1.out
      have hz6 := HK6.out.size
      have n5 : ∀ k, (Value.slice p5 N.length c5').ownBlock = some k → W1.heap.size ≤ k ∧ k < w6.heap.size := fun k hk => HN6.out.lt k hk
      have n7 : ∀ k, (Value.slice p7 C.length c7').ownBlock = some k → w6.heap.size ≤ k := fun k hk => (H7.out.1.lt k hk).1
      refine ⟨⟨w.heap.size, .slice p5 N.length c5', .slice p7 C.length c7'⟩, rfl, rfl, ⟨?_, ?_, ?_⟩⟩
      · refine ⟨hs1, owns_base (owns_kp hs2 (owns_kp (Kp.of_below (S := fun _ => False) H7B) HN6.out (fun _ _ h => h)) (fun k hk e => by have := (n5 k hk).1; have e' : k = w.heap.size := e; omega)) (Nat.zero_le _), owns_base (owns_kp hs2 H7.out.1 (fun k hk e => by have := n7 k hk; have e' : k = w.heap.size := e; omega)) (Nat.zero_le _), HLEN.out, fun e => by have := (n5 _ e).1; simp at this; omega, fun e => by have := n7 _ e; simp at this; omega, fun g h1 h2 => by have := (n5 g h1).2; have := n7 g h2; omega, HR.out.nd, HR.out.bd, hfew⟩
      · exact ((HG1.out.trans (HK6.out.below (Nat.le_trans (Nat.le_succ _) (by rw [hz1]; exact Nat.le_refl _)) (fun k hk => by rw [hk]; exact Nat.le_refl _))).trans (H7B.mono (by omega))).trans (hs2.below (Nat.le_trans (by omega) H7B.size) (fun k hk => by have e' : k = w.heap.size := hk; omega))
      · intro k hk
        rcases hk with h | h | h
        · have e' : k = w.heap.size := h
          omega
        · have := (n5 k h).1; omega
        · have := n7 k h; omega))
theorem rcopy_any {r : Rf} {kind : Int} {N : List Rk} {C : List Int} (w : World) (h : RT w r kind N C) :
    Calls Try.prog 33 #[rp r] w fun e w' => ∃ r' : Rf, e = .returned (rp r') ∧ Hid (RT w' r' kind N C ∧ Below w.heap.size w w' ∧ ∀ k, r'.own k → w.heap.size ≤ k) :=
  (rcopy_at w h).mono fun _ _ ⟨r', h1, _, h3⟩ => ⟨r', h1, h3⟩
end Go.Proofs.Ytplbcamliiajdaa
