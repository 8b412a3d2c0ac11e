import Derived.Test.YtnpmmodcmfgbjaaGreatMRadd
namespace Go.Proofs.YtnpmmodcmfgbjaaGreat
open Go.RowKit Go.Sort Go.Maps
attribute [local go_sem ↓] Go.wp_at_zero Go.wp_at_succ

/-- 'append(nil, l...)' at a step of a region that draws, of any elements. -/
theorem step_nilL {P : Program} {α : Type} (E : El α) {e sT : TypeId} {z : Value} {bt : Nat} (hu : P.underlying sT = some (.slice e)) (hI : (P.info? e).map (fun i => (i.zero, i.size, i.bytes)) = some (some z, E.k, bt)) (hz : z.cells.size = E.k) (hk : 0 < E.k)
    {w : World} {ops : Array Oper} {o : Oper} {a : Act} {K : Act → World → Prop} {Q : Exit → Act → World → Prop} {X : Prop} (hgd : o.guard = none) (s x : Operand)
    (ho : o.op = .call { callee := .builtin .append, args := #[s, x], argTypes := #[sT, sT] })
    (hs : a.eval s = .slice none 0 0) (v1 : Value) (ts : List α) (hx : a.eval x = v1) (hv : Ls E w v1 ts) (hbig : ts.length * bt ≤ 140737488355328) (hmx : ts.length ≤ maxLen)
    (h : ∀ p c w', Hid (w'.ownsRow w.heap.size e E.k (.slice p ts.length c) ts.length (fl E ts) ∧ Below w.heap.size w w') → K (a.put o.dst (.slice p ts.length c)) w') :
    if Region.wanted o (yielded ops a.tmps) = true then Oper.wp P o a w K Q else X := by
  have hw : Region.wanted o (yielded ops a.tmps) = true := by simp [Region.wanted, hgd]
  rw [if_pos hw]
  obtain ⟨i0, hi, hz0, hz1, hz2⟩ := info_parts hI
  rcases hv with ⟨rfl, rfl⟩ | ⟨b, off, c, rfl, hb, ht⟩
  · have hrun := run_append_owned_none (P := P) (w := w) w.heap.size sT o.type e i0 E.k hu hi (.slice none 0 0) 0 [] (World.ownsRow_nil _ _ _ _)
    unfold Oper.wp
    simp [execOp, ho, resolve, invoke, builtin, hs, hx, hrun, Result.andThen]
    exact h _ _ _ ⟨World.ownsRow_nil _ _ _ _, Below.refl _ _⟩
  · obtain ⟨v', w', hr, h2, h3, _, _⟩ := run_append_own_at (P := P) w w.heap.size sT o.type e i0 _ E.k bt hu hi hz0 hz1 hz2 hz hk (.slice none 0 0) 0 [] (World.ownsRow_nil _ _ _ _) ⟨b, off, none⟩ ts.length c (fl E ts) (fl_length E ts) (fun j u hj => by rw [addA]; exact ht j u hj) (fl_oneCell E ts) (by omega) (by rw [Nat.zero_add]; exact hbig) (Nat.le_refl _)
    unfold Oper.wp execOp
    simp only [ho, resolve, invoke, builtin, Sem.run_bind, Sem.run_pure, Result.andThen_ok, List.map_toArray, List.map_cons, List.map_nil, hs, hx, hr]
    have h2' : w'.ownsRow w.heap.size e E.k v' ts.length (fl E ts) := by simpa using h2
    obtain ⟨p, c', rfl⟩ := (owns_ls (E := E) h2').form
    exact h p c' w' ⟨h2', (Kp.grownBy (S := fun _ => False) h3 (fun k hk => by simp [Value.ownBlock] at hk)).below (Nat.le_refl _) (fun _ h => h.elim)⟩

theorem rbeyond_any (n : Int) (w : World) : Calls Tryz.prog 49 #[.int .i64 n] w fun e w' => e = .returned (.bool (Tt.byd n)) ∧ w' = w := by
  unfold Tt.byd
  go_enter Tryz.func49, Tryz.ntmps49
  go_wp2
  all_goals (go_ret; refine ⟨?_, rfl⟩; simp_all)
theorem rnew_any (w : World) : Calls Tryz.prog 6 #[] w fun e w' => ∃ r : Rm, e = .returned (rmp r) ∧ r.b = w.heap.size ∧ RM w' r [] [] ∧ Below w.heap.size w w' ∧ ∀ k, r.own k → w.heap.size ≤ k := by
  go_enter Tryz.func6, Tryz.ntmps6
  go_wp2
  go_ret
  exact ⟨⟨w.heap.size, .slice none 0 0, .slice none 0 0⟩, rfl, rfl, ⟨heap_new' _ _, World.ownsRow_nil _ _ _ _, World.ownsRow_nil _ _ _ _, rfl, by simp [Value.ownBlock], by simp [Value.ownBlock], fun g hg => by simp [Value.ownBlock] at hg, List.Pairwise.nil, by simp⟩, ((Gr.refl w).alloc _).below, fun k hk => by
    rcases hk with h | h | h
    · exact Nat.le_of_eq h.symm
    · simp [Value.ownBlock] at h
    · simp [Value.ownBlock] at h⟩

set_option maxHeartbeats 4000000 in
set_option maxRecDepth 100000 in
theorem rcopy_any (w : World) (r : Rm) (T : List Tm) (N : List Int) (h : RM w r T N) :
    Calls Tryz.prog 18 #[rmp r] w fun e w' => ∃ r' : Rm, e = .returned (rmp r') ∧ Hid (RM w' r' T N ∧ Below w.heap.size w w' ∧ ∀ k, r'.own k → w.heap.size ≤ k) := by
  have hmx : Tryz.prog.follows .mixedOrders = true := by kernel_rfl
  obtain ⟨rb, vt, vn⟩ := r
  change Calls Tryz.prog 18 #[.pointer (some ⟨rb, 0, none⟩)] w _
  have HR : Hid (RM w ⟨rb, vt, vn⟩ T N) := h
  have hfew := h.few
  have HLEN : Hid (N.length = T.length) := h.len
  clear h
  obtain ⟨W1, hW1⟩ : ∃ W1, W1 = w.alloc (.cells #[.slice none 0 0, .slice none 0 0] 68) := ⟨_, rfl⟩
  have HR1 : Hid (RM W1 ⟨rb, vt, vn⟩ T N) := by rw [hW1]; exact HR.out.bel ((Gr.refl _).alloc _).below
  have HB1 : Hid (W1.heap[w.heap.size]? = some (.cells #[.slice none 0 0, .slice none 0 0] 68 (0, 0))) := by rw [hW1]; exact heap_new' _ _
  have HZ1 : Hid (W1.heap.size = w.heap.size + 1) := by rw [hW1]; simp [Hid]
  have HG1 : Hid (Below w.heap.size w W1) := by rw [hW1]; exact ((Gr.refl w).alloc _).below
  have q1 : W1.cell? ⟨w.heap.size, 0, none⟩ = some (.slice none 0 0) := by simp [World.cell?, HB1.out]
  have q1f : W1.frozen? ⟨w.heap.size, 0, none⟩ = false := by simp [World.frozen?, HB1.out]
  have q2 : W1.cell? ⟨rb, 0, none⟩ = some vt := HR1.out.c0
  have z1 : rb < W1.heap.size := HR1.out.lt
  have z2 : w.heap.size < W1.heap.size := by rw [HZ1.out]; omega
  go_enter Tryz.func18, Tryz.ntmps18
  go_wp2_with fail
  rw [← hW1]
  clear hW1
  go_region_law (refine step_nilL ET Tryz.underlying42 infoTm rfl (by decide) rfl _ _ rfl rfl vt T rfl (HR1.out.bel (Gr.refl _).drew.below).lsT (by omega) (by unfold maxLen; omega) ?_
                 intro p5 c5' w5 H5
                 have c5 : w5.cell? ⟨w.heap.size, 0, none⟩ = some (.slice none 0 0) := (H5.out.2.cell (p := ⟨w.heap.size, 0, none⟩) z2).trans q1
                 have c5f : w5.frozen? ⟨w.heap.size, 0, none⟩ = false := (H5.out.2.frozen (p := ⟨w.heap.size, 0, none⟩) z2).trans q1f)
  all_goals (
    have H5B : Below W1.heap.size W1 w5 := (Gr.refl W1).drew.below.trans H5.out.2
    have HB5 : w5.heap[w.heap.size]? = some (.cells #[.slice none 0 0, .slice none 0 0] 68 (0, 0)) := (H5.out.2.block _ z2).trans HB1.out
    obtain ⟨hs1, hs2⟩ := setT HB5 (.slice p5 T.length c5')
    have HK6 : Hid (Kp (fun k => k = w.heap.size) W1 (w5.setCell ⟨w.heap.size, 0, none⟩ (.slice p5 T.length c5'))) := (Kp.of_below (S := fun k => k = w.heap.size) H5B).trans hs2 (fun _ _ h => h)
    have HS1 : Hid ((w5.setCell ⟨w.heap.size, 0, none⟩ (.slice p5 T.length c5')).heap[w.heap.size]? = some (.cells #[.slice p5 T.length c5', .slice none 0 0] 68 (0, 0))) := hs1
    have HN6 : Hid ((w5.setCell ⟨w.heap.size, 0, none⟩ (.slice p5 T.length c5')).ownsRow W1.heap.size 37 3 (.slice p5 T.length c5') T.length (flT T)) := owns_kp hs2 H5.out.1 (fun k hk e => by have := (H5.out.1.lt k hk).1; have e' : k = w.heap.size := e; have := HZ1.out; simp at *; omega)
    have HR6 : Hid (RM (w5.setCell ⟨w.heap.size, 0, none⟩ (.slice p5 T.length c5')) ⟨rb, vt, vn⟩ T N) := HR1.out.kp HK6.out (fun k hk e => by have := HR.out.own_lt k hk; omega)
    clear hs1 hs2 HB5 H5 H5B c5 c5f q1 q1f q2
    generalize w5.setCell ⟨w.heap.size, 0, none⟩ (.slice p5 T.length c5') = w6 at *
    have r2 : w6.cell? ⟨w.heap.size, 1, none⟩ = some (.slice none 0 0) := by simp [World.cell?, HS1.out]
    have r2f : w6.frozen? ⟨w.heap.size, 1, none⟩ = false := by simp [World.frozen?, HS1.out]
    have q6 : w6.cell? ⟨rb, 1, none⟩ = some vn := HR6.out.c1
    have z6 : rb < w6.heap.size := HR6.out.lt
    have z66 : w.heap.size < w6.heap.size := Nat.lt_of_lt_of_le z2 HK6.out.size
    go_wp2_with fail
    go_region_law (refine step_nilL EI Tryz.underlying66 infoI rfl (by decide) rfl _ _ rfl rfl vn N rfl (HR6.out.bel (Gr.refl _).drew.below).lsN (by rw [HLEN.out]; omega) (by rw [HLEN.out]; unfold maxLen; omega) ?_
                   intro p7 c7' w7 H7
                   have c7 : w7.cell? ⟨w.heap.size, 1, none⟩ = some (.slice none 0 0) := (H7.out.2.cell (p := ⟨w.heap.size, 1, none⟩) z66).trans r2
                   have c7f : w7.frozen? ⟨w.heap.size, 1, none⟩ = false := (H7.out.2.frozen (p := ⟨w.heap.size, 1, none⟩) z66).trans r2f)
    all_goals (
      have H7B : Below w6.heap.size w6 w7 := (Gr.refl w6).drew.below.trans H7.out.2
      have HB7 : w7.heap[w.heap.size]? = some (.cells #[.slice p5 T.length c5', .slice none 0 0] 68 (0, 0)) := (H7.out.2.block _ z66).trans HS1.out
      obtain ⟨hs1, hs2⟩ := setN HB7 (.slice p7 N.length c7')
      go_wp2
      go_ret
      have hz1 := HZ1.out
      have hz6 := HK6.out.size
      have n5 : ∀ k, (Value.slice p5 T.length c5').ownBlock = some k → W1.heap.size ≤ k ∧ k < w6.heap.size := fun k hk => HN6.out.lt k hk
      have n7 : ∀ k, (Value.slice p7 N.length c7').ownBlock = some k → w6.heap.size ≤ k := fun k hk => (H7.out.1.lt k hk).1
      refine ⟨⟨w.heap.size, .slice p5 T.length c5', .slice p7 N.length c7'⟩, rfl, ⟨?_, ?_, ?_⟩⟩
      · refine ⟨hs1, owns_base (owns_kp hs2 (owns_kp (Kp.of_below (S := fun _ => False) H7B) HN6.out (fun _ _ h => h)) (fun k hk e => by have := (n5 k hk).1; have e' : k = w.heap.size := e; omega)) (Nat.zero_le _), owns_base (owns_kp hs2 H7.out.1 (fun k hk e => by have := n7 k hk; have e' : k = w.heap.size := e; omega)) (Nat.zero_le _), HLEN.out, fun e => by have := (n5 _ e).1; simp at this; omega, fun e => by have := n7 _ e; simp at this; omega, fun g h1 h2 => by have := (n5 g h1).2; have := n7 g h2; omega, HR.out.nd, hfew⟩
      · exact ((HG1.out.trans (HK6.out.below (Nat.le_trans (Nat.le_succ _) (by rw [hz1]; exact Nat.le_refl _)) (fun k hk => by rw [hk]; exact Nat.le_refl _))).trans (H7B.mono (by omega))).trans (hs2.below (Nat.le_trans (by omega) H7B.size) (fun k hk => by have e' : k = w.heap.size := hk; omega))
      · intro k hk
        rcases hk with h | h | h
        · have e' : k = w.heap.size := h
          omega
        · have := (n5 k h).1; omega
        · have := n7 k h; omega))
end Go.Proofs.YtnpmmodcmfgbjaaGreat
