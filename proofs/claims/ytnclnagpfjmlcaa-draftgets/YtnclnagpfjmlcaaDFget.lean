import Derived.Test.YtnclnagpfjmlcaaDFnod4
import Derived.Test.YtnclnagpfjmlcaaDGet
import Derived.Test.YtnclnagpfjmlcaaLStep
import Derived.Test.YtnclnagpfjmlcaaLHold
namespace Go.Proofs.Ytnclnagpfjmlcaa.Df
open Go.RowKit Go.Sort Wi
attribute [local go_sem ↓] Go.wp_at_zero Go.wp_at_succ

/-- How far the document's reading of a list has come, behind an error too, of any greatest length. -/
def Lm {α : Type} (most : Nat) (p : Pa α) (L : List UInt8) (ab e0 bd0 m : Nat) (i : Nat) (done : List α) (a e bd : Nat) : Prop := if e0 = 0 then (e = 0 ∧ i = done.length ∧ Rp p most L ab m done a) ∨ (e ≠ 0 ∧ lst most p L ab = .inl (e, bd)) else e = e0 ∧ bd = bd0
section
variable {α : Type} {most : Nat} {p : Pa α} {L : List UInt8} {ab e0 bd0 m i : Nat} {done : List α} {a bd : Nat}
theorem Lm.step {x : α} {a' e' bd' : Nat} (h : Lm most p L ab e0 bd0 m i done a 0 bd) (hi : i < m) (t : Tf p L a 0 bd x a' e' bd') : Lm most p L ab e0 bd0 m (i + 1) (done ++ [x]) a' e' bd' := by
  unfold Lm at h ⊢
  split
  · rename_i h0
    rw [if_pos h0] at h
    rcases h with ⟨_, h1, h2⟩ | ⟨h1, _⟩
    · cases hp : p L a with
      | inl z =>
        obtain ⟨r1, r2, r3⟩ := t.bad hp
        refine Or.inr ⟨r3, ?_⟩
        rw [h2.bad (by omega) hp, r1, r2]
      | inr z =>
        obtain ⟨rfl, rfl, r3⟩ := t.good hp
        exact Or.inl ⟨r3, by rw [List.length_append, List.length_singleton]; omega, h2.more (by omega) hp⟩
    · exact absurd rfl h1
  · rename_i h0; rw [if_neg h0] at h; exact absurd h.1.symm h0
theorem Lm.fin {e : Nat} (h : Lm most p L ab e0 bd0 m i done a e bd) (hi : e = 0 → i = m) : Tf (lst most p) L ab e0 bd0 done a e bd := by
  unfold Lm at h
  unfold Tf
  by_cases h0 : e0 = 0
  · rw [if_pos h0] at h ⊢
    rcases h with ⟨h0, h1, h2⟩ | ⟨h1, h2⟩
    · have := hi h0
      rw [h2.fin (by omega)]
      exact ⟨rfl, rfl, h0⟩
    · rw [h2]
      exact ⟨rfl, rfl, h1⟩
  · rw [if_neg h0] at h ⊢; exact h
theorem Lm.start {e : Nat} (hmo : most < 18446744073709551616) (ha : ab ≤ L.length) (t : Took (num most 2) L ab e0 bd0 0 m a e bd) : Lm most p L ab e0 bd0 m 0 [] a e bd := by
  unfold Took at t
  unfold Lm
  by_cases h0 : e0 = 0
  · rw [if_pos h0] at t ⊢
    cases hp : num most 2 L ab with
    | inl z =>
      rw [hp] at t
      obtain ⟨r1, r2, r3⟩ := t
      obtain ⟨_, _, h3⟩ := (fits_num (most := most) (over := 2) hmo (by decide)).fault L ab z.1 z.2 ha hp
      exact Or.inr ⟨by rw [r2]; exact h3, by rw [Rp.none hp, r2, r3]⟩
    | inr z =>
      rw [hp] at t
      obtain ⟨r1, r2, r3, _⟩ := t
      have hs := Rp.start (p := p) hp
      rw [← r1, ← r2] at hs
      exact Or.inl ⟨r3, rfl, hs⟩
  · rw [if_neg h0] at t ⊢
    exact t.2
end
theorem tf_edg {L : List UInt8} {a e bd a1 e1 bd1 a2 e2 bd2 a3 e3 bd3 a4 e4 bd4 a5 e5 bd5 : Nat} {x1 x2 x3 x4 : Int} {x5 : Bool} (h1 : Tf int L a e bd x1 a1 e1 bd1) (h2 : Tf int L a1 e1 bd1 x2 a2 e2 bd2) (h3 : Tf int L a2 e2 bd2 x3 a3 e3 bd3) (h4 : Tf int L a3 e3 bd3 x4 a4 e4 bd4) (h5 : Tf truth L a4 e4 bd4 x5 a5 e5 bd5) : Tf pedg L a e bd ⟨x1, x2, x3, x4, x5⟩ a5 e5 bd5 := by
  have := (h1.and (h2.and (h3.and (h4.and h5)))).map (fun z => (⟨z.1, z.2.1, z.2.2.1, z.2.2.2.1, z.2.2.2.2⟩ : Edg))
  exact this
/-- What stands while the document reads a graph. -/
structure Gz (w W : World) (v : Value) (L : List UInt8) (a e bd nb : Nat) (cs : Array Value) : Prop where
  ft : Ft W (w.heap.size + 1) v L a e bd
  kp : Below w.heap.size w W
  hr : W.heap[w.heap.size]? = some (.cells (gvc 0 (.slice none 0 0) (.slice none 0 0)) 25 (0, 0))
  hn : W.heap[nb]? = some (.cells cs 25 (0, 0))
  lt : w.heap.size + 1 < nb
  old : ∀ k, v.ownBlock = some k → k < w.heap.size
section
variable {w W W' : World} {a e bd nb : Nat} {v : Value} {L : List UInt8} {cs : Array Value}
theorem Gz.set (h : Gz w W v L a e bd nb cs) (i : Nat) (x : Value) : Gz w (W.setCell ⟨nb, i, none⟩ x) v L a e bd nb (cs.setIfInBounds i x) := by
  obtain ⟨h1, h2⟩ := tk_set h.hn i x
  have h3 := h.lt
  exact ⟨h.ft.kp h2 (by omega) (fun k hk e => by have := h.old k hk; omega), h.kp.trans (h2.below h.kp.size (fun k e => by omega)), (h2.block _ (tk_lt h.hr) (by omega)).trans h.hr, h1, h3, h.old⟩
theorem Gz.call (h : Gz w W v L a e bd nb cs) {a' e' bd' : Nat} (hr : Ft W' (w.heap.size + 1) v L a' e' bd') (hk : Kp (fun k => k = w.heap.size + 1) W W') : Gz w W' v L a' e' bd' nb cs := by
  have h3 := h.lt
  exact ⟨hr, h.kp.trans (hk.below h.kp.size (fun k e => by omega)), (hk.block _ (tk_lt h.hr) (by omega)).trans h.hr, (hk.block _ (tk_lt h.hn) (by omega)).trans h.hn, h3, h.old⟩
theorem Gz.kpS {S : Nat → Prop} {B : Nat} (h : Gz w W v L a e bd nb cs) (hk : Kp S W W') (hB : nb < B) (hS : ∀ k, S k → B ≤ k) : Gz w W' v L a e bd nb cs := by
  have h3 := h.lt
  exact ⟨h.ft.kp hk (fun e => by have := hS _ e; omega) (fun k hk e => by have := h.old k hk; have := hS _ e; omega), h.kp.trans (hk.below h.kp.size (fun k e => by have := hS _ e; omega)), (hk.block _ (tk_lt h.hr) (fun e => by have := hS _ e; omega)).trans h.hr, (hk.block _ (tk_lt h.hn) (fun e => by have := hS _ e; omega)).trans h.hn, h3, h.old⟩
theorem Gz.facts (h : Gz w W v L a e bd nb cs) : (W.cell? ⟨w.heap.size + 1, 1, none⟩ = some (.int .i64 (a : Nat)) ∧ W.cell? ⟨w.heap.size + 1, 2, none⟩ = some (.int .i64 (e : Nat)) ∧ W.cell? ⟨w.heap.size + 1, 3, none⟩ = some (.int .i64 (bd : Nat)) ∧ w.heap.size + 1 < W.heap.size) ∧ ((∀ i, W.cell? ⟨nb, i, none⟩ = cs[i]?) ∧ (∀ i, W.frozen? ⟨nb, i, none⟩ = false) ∧ nb < W.heap.size) ∧ ((∀ i, W.cell? ⟨w.heap.size, i, none⟩ = (gvc 0 (.slice none 0 0) (.slice none 0 0))[i]?) ∧ (∀ i, W.frozen? ⟨w.heap.size, i, none⟩ = false) ∧ w.heap.size < W.heap.size) ∧ ¬ nb = w.heap.size :=
  ⟨⟨h.ft.c1, h.ft.c2, h.ft.c3, h.ft.lt⟩, ⟨(tk_store h.hn).1, (tk_store h.hn).2, tk_lt h.hn⟩, ⟨(tk_store h.hr).1, (tk_store h.hr).2, tk_lt h.hr⟩, by have := h.lt; omega⟩
end
/-- What stands while the edges are read. -/
def Ez (w W : World) (v : Value) (L : List UInt8) (a e bd nb : Nat) (cs : Array Value) (B : Nat) (u : Value) (xs : List NV) (B2 : Nat) (u2 : Value) (done : List Edg) : Prop := Gz w W v L a e bd nb cs ∧ NL B W u xs ∧ W.ownsRow B2 69 5 u2 done.length (fl ED done) ∧ B2 ≤ W.heap.size ∧ nb < B ∧ B ≤ B2 ∧ ∀ k ∈ u.ownBlock.toList ++ xs.flatMap NV.bs, k < B2
section
variable {w W W' : World} {v : Value} {L : List UInt8} {a e bd nb : Nat} {cs : Array Value} {B : Nat} {u : Value} {xs : List NV} {B2 : Nat} {u2 : Value} {done : List Edg}
theorem Ez.call (h : Ez w W v L a e bd nb cs B u xs B2 u2 done) {a' e' bd' : Nat} (hr : Ft W' (w.heap.size + 1) v L a' e' bd') (hk : Kp (fun k => k = w.heap.size + 1) W W') : Ez w W' v L a' e' bd' nb cs B u xs B2 u2 done := by
  obtain ⟨h1, h2, h3, h4, h5, h6, h7⟩ := h
  have := h1.lt
  exact ⟨h1.call hr hk, h2.far hk (by omega), owns_far h3 hk (by omega), Nat.le_trans h4 hk.size, h5, h6, h7⟩
theorem Ez.kpE {S : Nat → Prop} (h : Ez w W v L a e bd nb cs B u xs B2 u2 done) (hk : Kp S W W') (hS : ∀ k, S k → B2 ≤ k) (hne : ∀ k, u2.ownBlock = some k → ¬ S k) : Ez w W' v L a e bd nb cs B u xs B2 u2 done := by
  obtain ⟨h1, h2, h3, h4, h5, h6, h7⟩ := h
  exact ⟨h1.kpS hk (by omega) hS, h2.kp hk (fun k hk2 e => by have := hS k e; have := h7 k hk2; omega), owns_kp hk h3 hne, Nat.le_trans h4 hk.size, h5, h6, h7⟩
theorem Ez.gr (h : Ez w W v L a e bd nb cs B u xs B2 u2 done) (hg : Gr W W') : Ez w W' v L a e bd nb cs B u xs B2 u2 done := h.kpE (S := fun _ => False) (Kp.of_gr hg) (fun _ h => h.elim) (fun _ _ h => h)
end
/-- .. and one edge. -/
def Eb (w W : World) (v : Value) (L : List UInt8) (a e bd nb : Nat) (cs : Array Value) (B : Nat) (u : Value) (xs : List NV) (B2 : Nat) (u2 : Value) (done : List Edg) (eb : Nat) (es : Array Value) : Prop := Ez w W v L a e bd nb cs B u xs B2 u2 done ∧ W.heap[eb]? = some (.cells es 69 (0, 0)) ∧ B2 ≤ eb ∧ ∀ k, u2.ownBlock = some k → k < eb
section
variable {w W W' : World} {v : Value} {L : List UInt8} {a e bd nb : Nat} {cs : Array Value} {B : Nat} {u : Value} {xs : List NV} {B2 : Nat} {u2 : Value} {done : List Edg} {eb : Nat} {es : Array Value}
theorem Eb.call (h : Eb w W v L a e bd nb cs B u xs B2 u2 done eb es) {a' e' bd' : Nat} (hr : Ft W' (w.heap.size + 1) v L a' e' bd') (hk : Kp (fun k => k = w.heap.size + 1) W W') : Eb w W' v L a' e' bd' nb cs B u xs B2 u2 done eb es := by
  obtain ⟨h1, h2, h3, h4⟩ := h
  have := h1.1.lt
  have := h1.2.2.2.2.1
  have := h1.2.2.2.2.2.1
  exact ⟨h1.call hr hk, (hk.block _ (tk_lt h2) (by omega)).trans h2, h3, h4⟩
theorem Eb.set (h : Eb w W v L a e bd nb cs B u xs B2 u2 done eb es) (i : Nat) (x : Value) : Eb w (W.setCell ⟨eb, i, none⟩ x) v L a e bd nb cs B u xs B2 u2 done eb (es.setIfInBounds i x) := by
  obtain ⟨h1, h2, h3, h4⟩ := h
  have s := tk_set h2 i x
  exact ⟨h1.kpE s.2 (fun k e => by omega) (fun k hk e => by have := h4 k hk; omega), s.1, h3, h4⟩
theorem Eb.new (h : Ez w W v L a e bd nb cs B u xs B2 u2 done) (es : Array Value) : Eb w (W.alloc (.cells es 69)) v L a e bd nb cs B u xs B2 u2 done W.heap.size es :=
  ⟨h.gr ((Gr.refl W).alloc _), heap_new' _ _, h.2.2.2.1, fun k hk => (owns_rd h.2.2.1 k hk).2⟩
theorem Eb.facts (h : Eb w W v L a e bd nb cs B u xs B2 u2 done eb es) : (∀ i, W.cell? ⟨eb, i, none⟩ = es[i]?) ∧ (∀ i, W.frozen? ⟨eb, i, none⟩ = false) ∧ eb < W.heap.size :=
  ⟨(tk_store h.2.1).1, (tk_store h.2.1).2, tk_lt h.2.1⟩
end
/-- What is told, out of how the reading went. -/
theorem get_of {L : List UInt8} {g : Gph} {a e bd : Nat} (t : Tf pgph L 0 0 0 g a e bd) : get L = if e = 0 then (if a < L.length then (none', 32, a) else (g, 0, 0)) else (none', e, bd) := by
  unfold get
  cases hp : pgph L 0 with
  | inl z =>
    obtain ⟨r1, r2, r3⟩ := t.bad hp
    rw [if_neg r3, r1, r2]
  | inr z =>
    obtain ⟨rfl, rfl, r3⟩ := t.good hp
    rw [if_pos r3]
theorem vg_none {base : Nat} {w : World} : VG base w (.agg #[.int .i64 0, .slice none 0 0, .slice none 0 0]) none' :=
  ⟨_, _, [], rfl, rfl, ⟨NL.nil _ _, World.ownsRow_nil _ _ _ _, fun k hk => by simp [Value.ownBlock] at hk⟩⟩
set_option maxHeartbeats 8000000 in
theorem rget_any {v : Value} {L : List UInt8} (w : World) (hL : Ls EB w v L) (hl : L.length ≤ 140737488355328) : Calls Try.prog 15 #[v] w (Got w L) := by
  have hmx : Try.prog.follows .mixedOrders = true := by kernel_rfl
  obtain ⟨p, c, rfl⟩ := hL.form
  have hown := hid hL.blk
  have F0 : Hid (Ft ((w.alloc (.cells #[.int .i64 0, .slice none 0 0, .slice none 0 0] 25)).alloc (.cells #[.slice p L.length c, .int .i64 0, .int .i64 0, .int .i64 0] 83)) (w.heap.size + 1) (.slice p L.length c) L 0 0 0 ∧ Gr w ((w.alloc (.cells #[.int .i64 0, .slice none 0 0, .slice none 0 0] 25)).alloc (.cells #[.slice p L.length c, .int .i64 0, .int .i64 0, .int .i64 0] 83)) ∧ ((w.alloc (.cells #[.int .i64 0, .slice none 0 0, .slice none 0 0] 25)).alloc (.cells #[.slice p L.length c, .int .i64 0, .int .i64 0, .int .i64 0] 83)).heap[w.heap.size]? = some (.cells (gvc 0 (.slice none 0 0) (.slice none 0 0)) 25 (0, 0))) := by
    have hg := ((Gr.refl w).alloc (.cells #[.int .i64 0, .slice none 0 0, .slice none 0 0] 25)).alloc (.cells #[.slice p L.length c, .int .i64 0, .int .i64 0, .int .i64 0] 83)
    exact ⟨⟨new2 w _ _, hL.below hg.below, Nat.zero_le _, fun e => by have := hL.blk _ e; omega, hl⟩, hg, new1 w _ _⟩
  clear hL
  go_enter Try.func15, Try.ntmps15
  go_wp2_with fail
  refine (fint_k _ F0.out.1).mono ?_
  rintro r w1 ⟨x1, u1, a1, e1, bd1, rfl, rfl, f1, k1, t1⟩
  have hs1 : w.heap.size + 1 < w1.heap.size := f1.lt
  obtain ⟨W, hW⟩ : ∃ W, W = w1.alloc (.cells #[.int .i64 x1, .slice none 0 0, .slice none 0 0] 25) := ⟨_, rfl⟩
  have G0 : Hid (Gz w W (.slice p L.length c) L a1 e1 bd1 w1.heap.size (gvc x1 (.slice none 0 0) (.slice none 0 0))) := by
    have g1 : Gr w1 W := by rw [hW]; exact (Gr.refl _).alloc _
    refine ⟨f1.below g1.below, ?_, (g1.below.block _ (by omega)).trans ((k1.block _ (tk_lt F0.out.2.2) (by omega)).trans F0.out.2.2), by rw [hW]; exact heap_new' _ _, hs1, hown.out⟩
    have hb := F0.out.2.1.below
    exact (hb.trans (k1.below hb.size (fun k e => by omega))).trans (g1.below.mono (by omega))
  have T1 := hid t1
  have hW' : Hid (w1.alloc (.cells #[.int .i64 x1, .slice none 0 0, .slice none 0 0] 25) = W) := hW.symm
  obtain ⟨nb, hnb⟩ : ∃ nb, nb = w1.heap.size := ⟨_, rfl⟩
  have HNB : Hid (nb = w1.heap.size) := hnb
  clear hW F0 f1 k1 t1 hnb
  go_wp2_with fail
  rw [hW'.out]
  rw [← HNB.out] at G0
  try rw [← HNB.out]
  clear hW' HNB
  refine (fnumber_any 24 2 _ G0.out.ft).mono ?_
  rintro r w2 ⟨m, a2, e2, bd2, rfl, f2, k2, t2⟩
  have hm := Took.ok (fits_num (most := 24) (over := 2) (by decide) (by decide)) (Nat.zero_le _) G0.out.ft.le t2
  have I2 : Hid (Lm 24 pnod L a1 e1 bd1 m 0 (([] : List NV).map NV.n) a2 e2 bd2) := Lm.start (by decide) G0.out.ft.le t2
  have G2 := hid (G0.out.call f2 k2)
  obtain ⟨B, hB, hB2⟩ : ∃ B, nb < B ∧ B ≤ w2.heap.size := ⟨_, tk_lt G2.out.hn, Nat.le_refl _⟩
  have hwm : wrap64 (m : Int) = (m : Int) := by unfold wrap64; omega
  obtain ⟨⟨c1, c0, c3, l0⟩, ⟨cn, fn, ln⟩, ⟨cr, fr, lr⟩, n0⟩ := G2.out.facts
  clear f2 k2 G0 t2
  go_wp2_with fail
  clear c1 c0 c3 l0 cn fn ln cr fr lr n0
  go_loopw [8] (fun s8 wr => ∃ (i : Nat) (xs : List NV) (q : Option Addr) (mm cc a3 e3 bd3 : Nat), i ≤ m ∧ s8 = .int .i64 (i : Nat) ∧ Hid (Gz w wr (.slice p L.length c) L a3 e3 bd3 nb (gvc x1 (.slice q mm cc) (.slice none 0 0)) ∧ NL B wr (.slice q mm cc) xs ∧ B ≤ wr.heap.size ∧ xs.length ≤ i ∧ Lm 24 pnod L a1 e1 bd1 m i (xs.map NV.n) a3 e3 bd3)) (fun s8 _ => m - (RowKit.intOf s8).toNat)
  case atStart => exact ⟨0, [], none, 0, 0, a2, e2, bd2, Nat.zero_le _, rfl, G2.out, NL.nil _ _, by omega, Nat.le_refl _, I2.out⟩
  case round =>
    clear G2 I2
    obtain ⟨i, xs, q, mm, cc, a3, e3, bd3, hi, rfl, HI⟩ := hrel
    obtain ⟨⟨c1, c0, c3, l0⟩, ⟨cn, fn, ln⟩, ⟨cr, fr, lr⟩, n0⟩ := HI.out.1.facts
    go_upto_region 5 with fail
    go_cut [29] (fun s29 w' => ∃ b : Bool, s29 = .bool b ∧ (b = true ↔ i < m ∧ e3 = 0) ∧ w' = wr)
    case first =>
      by_cases hlt2 : i < m
      · have hltz : (i : Int) < (m : Int) := by omega
        by_cases he3 : e3 = 0
        · have hz : (e3 : Int) = 0 := by omega
          go_wp2_with fail
          go_meet
          exact ⟨_, rfl, by simp [hlt2, he3], rfl⟩
        · have hz : ¬ (e3 : Int) = 0 := by omega
          go_wp2_with fail
          go_meet
          exact ⟨_, rfl, by simp [he3], rfl⟩
      · have hltz : ¬ (i : Int) < (m : Int) := by omega
        go_wp2_with fail
        go_meet
        exact ⟨_, rfl, by simp [hlt2], rfl⟩
    case rest =>
      obtain ⟨b, rfl, hb, rfl⟩ := hcut
      cases b with
      | true =>
        obtain ⟨hlt2, rfl⟩ := hb.1 rfl
        clear hb
        go_upto_region 7 with fail
        have hx24 : (xs.length + 1) * 112 ≤ 140737488355328 ∧ xs.length + 1 ≤ maxLen := ⟨by have := HI.out.2.2.2.1; omega, by have := HI.out.2.2.2.1; unfold maxLen; omega⟩
        have hS0 := HI.out.1.hn
        refine wp_regionD (S := fun W => W.heap[nb]? = some (.cells (gvc x1 (.slice q mm cc) (.slice none 0 0)) 25 (0, 0))) (D := [7]) hmx ?_
        refine' wpAnyD_take (i := 0) (oi := { dst := some 32, op := Go.Op.fieldAddr 25 (Go.Operand.tmp 6) 1, type := 0, pos := "ref.go:270", after := #[], guard := none }) (v := _) rfl (by kernel_rfl) (by kernel_rfl) (by kernel_rfl) (fun _ _ _ h => h) (by kernel_rfl) (Or.inl ⟨by rfl, ?hy1⟩) hS0 ?rest1
        case hy1 => (intro W hSw; go_simp; try (with_reducible rfl))
        try simp only [Act.put, List.setIfInBounds_toArray, List.set_cons_zero, List.set_cons_succ]
        refine' wpAnyD_take (i := 1) (oi := { dst := some 33, op := Go.Op.load 22 (Go.Operand.tmp 32), type := 22, pos := "ref.go:270", after := #[{ on := 0, ground := Go.Ground.data }], guard := none }) (v := _) rfl (by kernel_rfl) (by kernel_rfl) (by kernel_rfl) (fun _ _ _ h => h) (by kernel_rfl) (Or.inl ⟨by rfl, ?hy2⟩) hS0 ?rest2
        case hy2 => (intro W hSw; have hc := (tk_store hSw).1 1; have hl := tk_lt hSw; go_simp; try (with_reducible rfl))
        try simp only [Act.put, List.setIfInBounds_toArray, List.set_cons_zero, List.set_cons_succ]
        refine' wpAnyD_take (i := 2) (oi := { dst := some 34, op := Go.Op.move (Go.Operand.tmp 5), type := 81, pos := "ref.go:270", after := #[], guard := none }) (v := _) rfl (by kernel_rfl) (by kernel_rfl) (by kernel_rfl) (fun _ _ _ h => h) (by kernel_rfl) (Or.inl ⟨by rfl, ?hy3⟩) hS0 ?rest3
        case hy3 => (intro W hSw; go_simp; try (with_reducible rfl))
        try simp only [Act.put, List.setIfInBounds_toArray, List.set_cons_zero, List.set_cons_succ]
        refine wpAnyD_one (i := 3) (o := { dst := some 35, op := Go.Op.call { callee := Go.Callee.value (Go.Operand.func 32), args := #[Go.Operand.tmp 34], argTypes := #[81] }, type := 67, pos := "ref.go:270", after := #[{ on := 2, ground := Go.Ground.data }], guard := none }) (by kernel_rfl) rfl (fun K hK => ?_)
        go_simp
        refine (fnode_any _ (HI.out.1.ft.below (Gr.refl _).drew.below)).mono ?_
        rintro r w4 ⟨x4, a4, e4, bd4, rfl, o4, f4, k4, t4⟩
        have k4' : Kp (fun k => k = w.heap.size + 1) wc w4 := kp_then (Gr.refl _).drew k4
        have G4 := hid (HI.out.1.call f4 k4')
        have N4 := hid (And.intro (HI.out.2.1.far k4' (by have := HI.out.1.lt; omega)) (And.intro (Nat.le_trans HI.out.2.2.1 k4'.size) (And.intro o4 (And.intro t4 k4'.size))))
        have hS4 := G4.out.hn
        clear k4 k4' f4 o4 t4
        go_wp2_with fail
        refine hK.out _ _ (fun hD => hS4) ?_
        clear hK K
        try simp only [Act.put, List.setIfInBounds_toArray, List.set_cons_zero, List.set_cons_succ]
        refine wpAnyD_one (i := 4) (o := { dst := some 36, op := Go.Op.buildSlice 22 1 #[(0, Go.Operand.tmp 35)], type := 22, pos := "ref.go:270", after := #[{ on := 3, ground := Go.Ground.data }], guard := none }) (by kernel_rfl) rfl (fun K hK => ?_)
        go_simp
        refine hK.out _ _ (fun hD => (((Gr.refl w4).alloc _).below.block _ (tk_lt hS4)).trans hS4) ?_
        clear hK K
        try simp only [Act.put, List.setIfInBounds_toArray, List.set_cons_zero, List.set_cons_succ]
        refine wpAnyD_one (i := 5) (o := { dst := some 37, op := Go.Op.call { callee := Go.Callee.builtin Go.Builtin.append, args := #[Go.Operand.tmp 33, Go.Operand.tmp 36], argTypes := #[22, 22] }, type := 22, pos := "ref.go:270", after := #[{ on := 1, ground := Go.Ground.data }, { on := 4, ground := Go.Ground.data }, { on := 3, ground := Go.Ground.chain }], guard := none }) (by kernel_rfl) rfl (fun K hK => ?_)
        refine step_app1 EV Try.underlying22 infoV rfl (by decide) rfl _ _ rfl B _ xs.length _ rfl N4.out.1.row x4 rfl hx24.1 hx24.2 N4.out.2.1 _ rfl _ ?_
        intro g cap w6 h1 h2 h3
        have G6 := hid (G4.out.kpS (Kp.grownBy (S := fun k => (Value.slice q mm cc).ownBlock = some k) h2.out (fun _ h => h)) hB (fun k hk => (owns_rd N4.out.1.row k hk).1))
        have N6 := hid (nl_more N4.out.1 (M := wc.heap.size) (fun k hk => (HI.out.2.1.lt k hk).2) HI.out.2.2.1 N4.out.2.2.1 h1.out h2.out h3.out)
        have z6 := hid h2.out.size
        clear h1 h2 h3
        have hS6 := G6.out.hn
        refine hK.out _ _ (fun hD => hS6) ?_
        clear hK K
        try simp only [Act.put, List.setIfInBounds_toArray, List.set_cons_zero, List.set_cons_succ]
        refine' wpAnyD_take (i := 6) (oi := { dst := some 38, op := Go.Op.fieldAddr 25 (Go.Operand.tmp 6) 1, type := 0, pos := "ref.go:270", after := #[{ on := 0, ground := Go.Ground.phase }, { on := 1, ground := Go.Ground.phase }, { on := 2, ground := Go.Ground.phase }, { on := 3, ground := Go.Ground.phase }, { on := 4, ground := Go.Ground.phase }, { on := 5, ground := Go.Ground.phase }], guard := none }) (v := _) rfl (by kernel_rfl) (by kernel_rfl) (by kernel_rfl) (fun _ _ _ h => h) (by kernel_rfl) (Or.inl ⟨by rfl, ?hy7⟩) hS6 ?rest7
        case hy7 => (intro W hSw; go_simp; try (with_reducible rfl))
        try simp only [Act.put, List.setIfInBounds_toArray, List.set_cons_zero, List.set_cons_succ]
        refine wpAnyD_one (i := 7) (o := { dst := none, op := Go.Op.store 22 (Go.Operand.tmp 38) (Go.Operand.tmp 37), type := 0, pos := "ref.go:270", after := #[{ on := 6, ground := Go.Ground.data }, { on := 5, ground := Go.Ground.data }, { on := 5, ground := Go.Ground.chain }, { on := 0, ground := Go.Ground.phase }, { on := 1, ground := Go.Ground.phase }, { on := 2, ground := Go.Ground.phase }, { on := 3, ground := Go.Ground.phase }, { on := 4, ground := Go.Ground.phase }, { on := 5, ground := Go.Ground.phase }], guard := none }) (by kernel_rfl) rfl (fun K hK => ?_)
        have en := (tk_store hS6).1
        have en2 := (tk_store hS6).2
        have en3 := tk_lt hS6
        go_simp
        refine hK.out _ _ (fun hD => absurd (by decide) hD) ?_
        clear hK K
        try simp only [Act.put, List.setIfInBounds_toArray, List.set_cons_zero, List.set_cons_succ]
        refine wpAnyD_done (by kernel_rfl) ?_ _
        go_wp2_with fail
        go_roundw
        case rel =>
          have s9 := tk_set G6.out.hn 1 (.slice (some ⟨g, 0, none⟩) (xs.length + 1) cap)
          refine ⟨i + 1, xs ++ [x4], some ⟨g, 0, none⟩, xs.length + 1, cap, a4, e4, bd4, by omega, by go_num, G6.out.set 1 _, N6.out.far s9.2 hB, ?_, ?_, ?_⟩
          · have := s9.2.size; have := N4.out.2.1; have := z6.out; show B ≤ _; omega
          · rw [List.length_append, List.length_singleton]; have := HI.out.2.2.2.1; omega
          · rw [List.map_append, List.map_singleton]; exact HI.out.2.2.2.2.step hlt2 N4.out.2.2.2.1
        case measure => simp [RowKit.intOf]; omega
      | false =>
        have hex : e3 = 0 → i = m := fun h => by
          have h2 : ¬ (i < m ∧ e3 = 0) := fun hh => by have := hb.2 hh; cases this
          omega
        have TN := hid (HI.out.2.2.2.2.fin hex)
        clear hb hex
        go_wp2_with fail
        refine (fnumber_any 48 2 _ HI.out.1.ft).mono ?_
        rintro r w5 ⟨m2, a5, e5, bd5, rfl, f5, k5, t5⟩
        have hm2 := Took.ok (fits_num (most := 48) (over := 2) (by decide) (by decide)) (Nat.zero_le _) HI.out.1.ft.le t5
        have I5 : Hid (Lm 48 pedg L a3 e3 bd3 m2 0 [] a5 e5 bd5) := Lm.start (by decide) HI.out.1.ft.le t5
        have N5 := HI.out.2.1.far k5 (by have := HI.out.1.lt; omega)
        have hs5 := k5.size
        have G5 : Hid (Ez w w5 (.slice p L.length c) L a5 e5 bd5 nb (gvc x1 (.slice q mm cc) (.slice none 0 0)) B (.slice q mm cc) xs w5.heap.size (.slice none 0 0) []) := ⟨HI.out.1.call f5 k5, N5, World.ownsRow_nil _ _ _ _, Nat.le_refl _, hB, by have := HI.out.2.2.1; omega, fun k hk => (N5.lt k hk).2⟩
        have hwm2 : wrap64 (m2 : Int) = (m2 : Int) := by unfold wrap64; omega
        clear f5 k5 t5 N5 hwm c1 c0 c3 l0 cn fn ln cr fr lr n0
        obtain ⟨B2, hBB⟩ : ∃ B2, B2 = w5.heap.size := ⟨_, rfl⟩
        rw [← hBB] at G5
        clear hBB hs5
        obtain ⟨⟨c1, c0, c3, l0⟩, ⟨cn, fn, ln⟩, ⟨cr, fr, lr⟩, n0⟩ := G5.out.1.facts
        go_wp2_with fail
        clear c1 c0 c3 l0 cn fn ln cr fr lr n0
        go_loopw [9] (fun s9 wr => ∃ (i : Nat) (done : List Edg) (q2 : Option Addr) (m3 cc3 a6 e6 bd6 : Nat), i ≤ m2 ∧ s9 = .int .i64 (i : Nat) ∧ Hid (Ez w wr (.slice p L.length c) L a6 e6 bd6 nb (gvc x1 (.slice q mm cc) (.slice q2 m3 cc3)) B (.slice q mm cc) xs B2 (.slice q2 m3 cc3) done ∧ done.length ≤ i ∧ Lm 48 pedg L a3 e3 bd3 m2 i done a6 e6 bd6)) (fun s9 _ => m2 - (RowKit.intOf s9).toNat)
        case atStart => exact ⟨0, [], none, 0, 0, a5, e5, bd5, Nat.zero_le _, rfl, G5.out, Nat.le_refl _, I5.out⟩
        case round =>
          clear G5 I5
          obtain ⟨j, done, q2, m3, cc3, a6, e6, bd6, hj, rfl, HJ⟩ := hrel
          obtain ⟨⟨c1, c0, c3, l0⟩, ⟨cn, fn, ln⟩, ⟨cr, fr, lr⟩, n0⟩ := HJ.out.1.1.facts
          go_upto_region 10 with fail
          go_cut [51] (fun s51 w' => ∃ b : Bool, s51 = .bool b ∧ (b = true ↔ j < m2 ∧ e6 = 0) ∧ w' = wr)
          case first =>
            by_cases hlt2 : j < m2
            · have hltz : (j : Int) < (m2 : Int) := by omega
              by_cases he3 : e6 = 0
              · have hz : (e6 : Int) = 0 := by omega
                go_wp2_with fail
                go_meet
                exact ⟨_, rfl, by simp [hlt2, he3], rfl⟩
              · have hz : ¬ (e6 : Int) = 0 := by omega
                go_wp2_with fail
                go_meet
                exact ⟨_, rfl, by simp [he3], rfl⟩
            · have hltz : ¬ (j : Int) < (m2 : Int) := by omega
              go_wp2_with fail
              go_meet
              exact ⟨_, rfl, by simp [hlt2], rfl⟩
          case rest =>
            obtain ⟨b, rfl, hb, rfl⟩ := hcut
            cases b with
            | true =>
              obtain ⟨hlt2, rfl⟩ := hb.1 rfl
              clear hb
              go_wp2_with fail
              refine (fint_k _ HJ.out.1.1.ft).mono ?_
              rintro r w7 ⟨x7, u7, a7, e7, bd7, rfl, rfl, f7, k7, t7⟩
              have T7 := hid t7
              have E7 := hid (Eb.new (HJ.out.1.call f7 k7) #[.int .i64 x7, .int .i64 0, .int .i64 0, .int .i64 0, .bool false])
              obtain ⟨eb, heb⟩ : ∃ eb, eb = w7.heap.size := ⟨_, rfl⟩
              have HEB := hid heb
              rw [← heb] at E7
              clear f7 k7 t7 heb c1 c0 c3 l0 cn fn ln cr fr lr n0
              go_wp2_with fail
              rw [← HEB.out]
              clear HEB
              refine (fint_k _ E7.out.1.1.ft).mono ?_
              rintro r w8 ⟨x8, u8, a8, e8, bd8, rfl, rfl, f8, k8, t8⟩
              have T8 := hid t8
              have C8 := hid (E7.out.call f8 k8)
              have E8 := hid (C8.out.set 1 (.int .i64 x8))
              obtain ⟨oc, of, ol⟩ := C8.out.facts
              clear f8 k8 t8 E7
              go_wp2_with fail
              clear oc of ol C8
              refine (fint_k _ E8.out.1.1.ft).mono ?_
              rintro r w9 ⟨x9, u9, a9, e9, bd9, rfl, rfl, f9, k9, t9⟩
              have T9 := hid t9
              have C9 := hid (E8.out.call f9 k9)
              have E9 := hid (C9.out.set 2 (.int .i64 x9))
              obtain ⟨oc, of, ol⟩ := C9.out.facts
              clear f9 k9 t9 E8
              go_wp2_with fail
              clear oc of ol C9
              refine (fint_k _ E9.out.1.1.ft).mono ?_
              rintro r w10 ⟨x10, u10, a10, e10, bd10, rfl, rfl, f10, k10, t10⟩
              have T10 := hid t10
              have C10 := hid (E9.out.call f10 k10)
              have E10 := hid (C10.out.set 3 (.int .i64 x10))
              obtain ⟨oc, of, ol⟩ := C10.out.facts
              clear f10 k10 t10 E9
              go_wp2_with fail
              clear oc of ol C10
              refine (ftruth_k _ E10.out.1.1.ft).mono ?_
              rintro r w11 ⟨x11, u11, a11, e11, bd11, rfl, rfl, f11, k11, t11⟩
              have T11 := hid t11
              have C11 := hid (E10.out.call f11 k11)
              have E11 := hid (C11.out.set 4 (.bool x11))
              obtain ⟨oc, of, ol⟩ := C11.out.facts
              clear f11 k11 t11 E10
              obtain ⟨-, ⟨cn, fn, ln⟩, -, -⟩ := C11.out.1.1.facts
              have nob : ¬ nb = eb := by have h1 := C11.out.1.2.2.2.2.1; have h2 := C11.out.1.2.2.2.2.2.1; have h3 := C11.out.2.2.1; omega
              have nob' : ¬ eb = nb := fun h => nob h.symm
              clear C11
              have hx48 : Hid ((done.length + 1) * 40 ≤ 140737488355328 ∧ done.length + 1 ≤ maxLen) := ⟨by have := HJ.out.2.1; omega, by have := HJ.out.2.1; unfold maxLen; omega⟩
              go_wp2_with (at_builtin; refine wpApp1 ED Try.underlying23 infoD rfl (by decide) rfl _ _ rfl B2 _ done.length _ rfl E11.out.1.2.2.1 ⟨x7, x8, x9, x10, x11⟩ (by first | rfl | (go_simp; done)) hx48.out.1 hx48.out.2 E11.out.1.2.2.2.1 _ rfl _ ?_)
              intro g cap w12 h1 h2 h3
              have K12 := Kp.grownBy (S := fun k => (Value.slice q2 m3 cc3).ownBlock = some k) h2 (fun _ h => h)
              have hu := fun k hk => (owns_rd E11.out.1.2.2.1 k hk).1
              have G12 := hid (E11.out.1.1.kpS K12 (Nat.lt_of_lt_of_le E11.out.1.2.2.2.2.1 E11.out.1.2.2.2.2.2.1) hu)
              have N12 := hid (E11.out.1.2.1.kp K12 (fun k hk e => by have := hu k e; have := E11.out.1.2.2.2.2.2.2 k hk; omega))
              have O12 := hid h1
              have Z12 := hid (Nat.le_trans E11.out.1.2.2.2.1 h2.size)
              have Y12 := hid E11.out.1.2.2.2.2
              clear h1 h2 h3 K12 hu oc of ol nob nob' cn fn ln E11
              obtain ⟨cn, fn, ln⟩ := (⟨(tk_store G12.out.hn).1, (tk_store G12.out.hn).2, tk_lt G12.out.hn⟩ : _ ∧ _ ∧ _)
              go_wp2_with fail
              go_roundw
              case rel =>
                have s9 := tk_set G12.out.hn 2 (.slice (some ⟨g, 0, none⟩) (done.length + 1) cap)
                refine ⟨j + 1, done ++ [⟨x7, x8, x9, x10, x11⟩], some ⟨g, 0, none⟩, done.length + 1, cap, a11, e11, bd11, by omega, by go_num, ⟨G12.out.set 2 _, N12.out.far s9.2 Y12.out.1, ?_, Nat.le_trans Z12.out s9.2.size, Y12.out⟩, ?_, ?_⟩
                · exact owns_re (owns_far O12.out s9.2 (Nat.lt_of_lt_of_le Y12.out.1 Y12.out.2.1)) (by simp) (by rw [fl_append, fl_one])
                · rw [List.length_append, List.length_singleton]; have := HJ.out.2.1; omega
                · exact HJ.out.2.2.step hlt2 (tf_edg T7.out T8.out T9.out T10.out T11.out)
              case measure => simp [RowKit.intOf]; omega
            | false =>
              have hex : e6 = 0 → j = m2 := fun h => by
                have h2 : ¬ (j < m2 ∧ e6 = 0) := fun hh => by have := hb.2 hh; cases this
                omega
              have TE := (T1.out.and (TN.out.and (HJ.out.2.2.fin hex))).map (fun z => (⟨z.1, z.2.1, z.2.2⟩ : Gph))
              have GE := hid (get_of TE)
              clear hb hex TE TN T1
              have hae := HJ.out.1.1.ft.le
              by_cases he6 : e6 = 0
              · subst he6
                rw [if_pos rfl] at GE
                by_cases hre : a6 < L.length
                · have hrez : (a6 : Int) < (L.length : Int) := by omega
                  rw [if_pos hre] at GE
                  go_wp2_with fail
                  refine (fault_any a6 32 _ HJ.out.1.1.ft).mono ?_
                  rintro r w13 ⟨rfl, f13, k13⟩
                  have E13 := hid (HJ.out.1.call f13 k13)
                  clear f13 k13 HJ c1 c0 c3 l0 cn fn ln cr fr lr n0
                  obtain ⟨⟨c1, c0, c3, l0⟩, -, ⟨cr, fr, lr⟩, -⟩ := E13.out.1.facts
                  go_wp2_with fail
                  go_region
                  go_wp2_with fail
                  obtain ⟨wf, hwf⟩ : ∃ wf, wf = (((w13.setCell ⟨w.heap.size, 0, none⟩ (.int .i64 0)).setCell ⟨w.heap.size, 1, none⟩ (.slice none 0 0)).setCell ⟨w.heap.size, 2, none⟩ (.slice none 0 0)) := ⟨_, rfl⟩
                  rw [← hwf]
                  obtain ⟨hbf, hkf⟩ : wf.heap[w.heap.size]? = some (.cells #[.int .i64 0, .slice none 0 0, .slice none 0 0] 25 (0, 0)) ∧ Kp (fun k => k = w.heap.size) w13 wf := by
                    rw [hwf]
                    exact fill3 E13.out.1.hr _ _ _
                  clear hwf cr fr lr
                  obtain ⟨qf, -⟩ := tk_store hbf
                  have hlf := tk_lt hbf
                  have hbl : Hid (Below w.heap.size w wf) := E13.out.1.kp.trans (hkf.below E13.out.1.kp.size (fun k e => by omega))
                  refine bodyPost_ret (v := .tuple #[.agg #[.int .i64 0, .slice none 0 0, .slice none 0 0], .int .i64 32, .int .i64 (a6 : Nat)]) (by simp [results, Try.results15, go_sem, qf]) rfl ?_
                  rw [Got, GE.out]
                  refine ⟨hbl.out.trans ((Gr.refl wf).drew.below.mono hbl.out.size), _, rfl, vg_none⟩
                · have hrez : ¬ (a6 : Int) < (L.length : Int) := by omega
                  rw [if_neg hre] at GE
                  go_wp2_with fail
                  obtain ⟨wf, hwf⟩ : ∃ wf, wf = (((wc.setCell ⟨w.heap.size, 0, none⟩ (.int .i64 x1)).setCell ⟨w.heap.size, 1, none⟩ (.slice q mm cc)).setCell ⟨w.heap.size, 2, none⟩ (.slice q2 m3 cc3)) := ⟨_, rfl⟩
                  rw [← hwf]
                  obtain ⟨hbf, hkf⟩ : wf.heap[w.heap.size]? = some (.cells #[.int .i64 x1, .slice q mm cc, .slice q2 m3 cc3] 25 (0, 0)) ∧ Kp (fun k => k = w.heap.size) wc wf := by
                    rw [hwf]
                    exact fill3 HJ.out.1.1.hr _ _ _
                  clear hwf cr fr lr
                  obtain ⟨qf, -⟩ := tk_store hbf
                  have hlf := tk_lt hbf
                  have hbl : Hid (Below w.heap.size w wf) := HJ.out.1.1.kp.trans (hkf.below HJ.out.1.1.kp.size (fun k e => by omega))
                  refine bodyPost_ret (v := .tuple #[.agg #[.int .i64 x1, .slice q mm cc, .slice q2 m3 cc3], .int .i64 0, .int .i64 0]) (by simp [results, Try.results15, go_sem, qf]) rfl ?_
                  rw [Got, GE.out]
                  have hlo := HJ.out.1.1.lt
                  have hBB := HJ.out.1.2.2.2.2.2.1
                  refine ⟨hbl.out, _, rfl, _, _, xs, rfl, rfl, (HJ.out.1.2.1.far hkf (by omega)).base (by omega), owns_base (owns_far HJ.out.1.2.2.1 hkf (by omega)) (by omega), fun k hk e => ?_⟩
                  have h1 := (owns_rd HJ.out.1.2.2.1 k e).1
                  have h2 := HJ.out.1.2.2.2.2.2.2 k hk
                  omega
              · have hz : ¬ (e6 : Int) = 0 := by omega
                rw [if_neg he6] at GE
                go_wp2_with fail
                go_region
                go_wp2_with fail
                obtain ⟨wf, hwf⟩ : ∃ wf, wf = (((wc.setCell ⟨w.heap.size, 0, none⟩ (.int .i64 0)).setCell ⟨w.heap.size, 1, none⟩ (.slice none 0 0)).setCell ⟨w.heap.size, 2, none⟩ (.slice none 0 0)) := ⟨_, rfl⟩
                rw [← hwf]
                obtain ⟨hbf, hkf⟩ : wf.heap[w.heap.size]? = some (.cells #[.int .i64 0, .slice none 0 0, .slice none 0 0] 25 (0, 0)) ∧ Kp (fun k => k = w.heap.size) wc wf := by
                  rw [hwf]
                  exact fill3 HJ.out.1.1.hr _ _ _
                clear hwf cr fr lr
                obtain ⟨qf, -⟩ := tk_store hbf
                have hlf := tk_lt hbf
                have hbl : Hid (Below w.heap.size w wf) := HJ.out.1.1.kp.trans (hkf.below HJ.out.1.1.kp.size (fun k e => by omega))
                refine bodyPost_ret (v := .tuple #[.agg #[.int .i64 0, .slice none 0 0, .slice none 0 0], .int .i64 (e6 : Nat), .int .i64 (bd6 : Nat)]) (by simp [results, Try.results15, go_sem, qf]) rfl ?_
                rw [Got, GE.out]
                refine ⟨hbl.out.trans ((Gr.refl wf).drew.below.mono hbl.out.size), _, rfl, vg_none⟩
end Go.Proofs.Ytnclnagpfjmlcaa.Df
