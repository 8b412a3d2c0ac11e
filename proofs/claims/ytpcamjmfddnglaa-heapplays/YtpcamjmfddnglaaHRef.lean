import Derived.Test.YtpcamjmfddnglaaHOrd
namespace Go.Proofs.Ytpcamjmfddnglaa.Ht
open Go.RowKit Go.Sort Hp
attribute [local go_sem ↓] Go.wp_at_zero Go.wp_at_succ
/-- Things in a row. -/
def EV : El Th where
  k := 2
  enc x := [.int .i64 x.1, .int .i64 x.2]
  len _ := rfl
  one x u hu := by
    simp at hu
    rcases hu with rfl | rfl <;> rfl
theorem v_at {w : World} {v : Value} {ts : List Th} (h : Ls EV w v ts) {j : Nat} {x : Th} (hj : ts[j]? = some x) :
    ∃ b off c, v = .slice (some ⟨b, off, none⟩) ts.length c ∧ b < w.heap.size ∧ w.cell? ⟨b, off + j * 2, none⟩ = some (.int .i64 x.1) ∧ w.cell? ⟨b, off + j * 2 + 1, none⟩ = some (.int .i64 x.2) := by
  obtain ⟨b, off, c, hv, hb, hc⟩ := h.get hj
  exact ⟨b, off, c, hv, hb, hc 0 _ (by decide) rfl, hc 1 _ (by decide) rfl⟩
/-- The document's heap: its block and its list. -/
structure Rh (w : World) (rb : Nat) (o : Int) (v : Value) (R : List Th) : Prop where
  blk : w.heap[rb]? = some (.cells #[.int .i64 o, v] 47 (0, 0))
  own : w.ownsRow 0 26 2 v R.length (fl EV R)
  off : v.ownBlock ≠ some rb
section
variable {w w' : World} {rb : Nat} {o : Int} {v : Value} {R : List Th}
theorem Rh.lt (h : Rh w rb o v R) : rb < w.heap.size := (Array.getElem?_eq_some_iff.1 h.blk).1
theorem Rh.c0 (h : Rh w rb o v R) : w.cell? ⟨rb, 0, none⟩ = some (.int .i64 o) := by simp [World.cell?, h.blk]
theorem Rh.c1 (h : Rh w rb o v R) : w.cell? ⟨rb, 1, none⟩ = some v := by simp [World.cell?, h.blk]
theorem Rh.fz (h : Rh w rb o v R) (q : Nat) : w.frozen? ⟨rb, q, none⟩ = false := by simp [World.frozen?, h.blk]
theorem Rh.lst (h : Rh w rb o v R) : Ls EV w v R := owns_ls (E := EV) h.own
theorem Rh.row (h : Rh w rb o v R) : ∀ k, v.ownBlock = some k → k < w.heap.size := fun k hk => (h.own.lt k hk).2
theorem Rh.kp {S : Nat → Prop} (h : Rh w rb o v R) (hk : Kp S w w') (h1 : ¬ S rb) (h2 : ∀ k, v.ownBlock = some k → ¬ S k) : Rh w' rb o v R :=
  ⟨(hk.block rb h.lt h1).trans h.blk, owns_kp hk h.own h2, h.off⟩
theorem Rh.below (h : Rh w rb o v R) (hb' : Below w.heap.size w w') : Rh w' rb o v R := h.kp (S := fun _ => False) (Kp.of_below hb') (fun h => h) (fun _ _ h => h)
theorem Rh.gr (h : Rh w rb o v R) (hg : Gr w w') : Rh w' rb o v R := h.below hg.below
end
theorem rset {w : World} {rb : Nat} {a v : Value} (h : w.heap[rb]? = some (.cells #[a, v] 47 (0, 0))) (v2 : Value) :
    (w.setCell ⟨rb, 1, none⟩ v2).heap[rb]? = some (.cells #[a, v2] 47 (0, 0)) ∧ Kp (fun k => k = rb) w (w.setCell ⟨rb, 1, none⟩ v2) := by
  have e := setCell_eq_setRow w rb 1 _ _ _ v2 h
  rw [e]
  exact ⟨by rw [setRow_heap w rb _ _ _ _ h]; simp, rfl, rfl, rfl, by simp [World.setRow], fun k _ hne => setRow_other w rb k _ (by omega)⟩
/-- What the search has found among the first m. -/
def Mk (o : Int) (R : List Th) (m : Nat) (kk : Int) : Prop :=
  (kk = -1 ∧ m = 0) ∨ ∃ (k : Nat) (x : Th), kk = (k : Int) ∧ k < m ∧ R[k]? = some x ∧ ∀ (q : Nat) (y : Th), q < m → R[q]? = some y → okey o x < okey o y ∨ (okey o x = okey o y ∧ k ≤ q)
theorem Mk.take {o : Int} {R : List Th} {m : Nat} {kk : Int} {y : Th} (h : Mk o R m kk) (hy : R[m]? = some y) (hl : kk < 0 ∨ ∃ (k : Nat) (x : Th), kk = (k : Int) ∧ R[k]? = some x ∧ okey o y < okey o x) : Mk o R (m + 1) m := by
  refine Or.inr ⟨m, y, rfl, by omega, hy, fun q z hq hz => ?_⟩
  by_cases e : q = m
  · subst e; rw [hy] at hz; cases hz; omega
  · rcases h with ⟨h1, h2⟩ | ⟨k, x, h1, h2, h3, h5⟩
    · omega
    · rcases hl with hl | ⟨k', x', e1, e2, e3⟩
      · omega
      · have : k = k' := by omega
        subst this
        rw [h3] at e2; cases e2
        have := h5 q z (by omega) hz
        omega
theorem Mk.stay {o : Int} {R : List Th} {m k : Nat} {x y : Th} (h : Mk o R m k) (hx : R[k]? = some x) (hy : R[m]? = some y) (hl : ¬ okey o y < okey o x) : Mk o R (m + 1) k := by
  rcases h with ⟨h1, _⟩ | ⟨k', x', h1, h2, h3, h5⟩
  · omega
  · have : k = k' := by omega
    subst this
    rw [hx] at h3; cases h3
    refine Or.inr ⟨k, x, rfl, by omega, hx, fun q z hq hz => ?_⟩
    by_cases e : q = m
    · subst e; rw [hy] at hz; cases hz; omega
    · exact h5 q z (by omega) hz

set_option maxHeartbeats 2000000 in
set_option maxRecDepth 100000 in
theorem at_any {rb : Nat} {o : Int} {v : Value} {R : List Th} (w : World) (hR : Rh w rb o v R) (hl : R.length ≤ 140737488355328) :
    Calls Try.prog 50 #[.pointer (some ⟨rb, 0, none⟩)] w fun e w' => ∃ kk : Int, e = .returned (.int .i64 kk) ∧ Mk o R R.length kk ∧ Gr w w' := by
  have hmx : Try.prog.follows .mixedOrders = true := by kernel_rfl
  obtain ⟨pl, cl, rfl⟩ := hR.lst.form
  have HR : Hid (Rh w rb o (.slice pl R.length cl) R) := hR
  have k0 := hR.c0
  have k1 := hR.c1
  have kl := hR.lt
  have HFI : Hid (∀ (a b : Th) (W : World), Calls Try.prog 31 #[.int .i64 o, tv a, tv b] W fun e w' => e = .returned (.bool (decide (okey o a < okey o b))) ∧ Gr W w') := fun a b W => first_any o a b W
  clear hR
  go_enter Try.func50, Try.ntmps50
  go_wp2_with fail
  go_loopw [3, 4] (fun s3 s4 wr => ∃ (m : Nat) (kk : Int), m ≤ R.length ∧ s3 = .int .i64 kk ∧ s4 = .int .i64 m ∧ Hid (Mk o R m kk) ∧ Gr w wr) (fun _ s4 _ => R.length - (RowKit.intOf s4).toNat)
  case atStart => exact ⟨0, -1, Nat.zero_le _, rfl, rfl, Or.inl ⟨rfl, rfl⟩, Gr.refl _⟩
  case round =>
    obtain ⟨m, kk, hm, rfl, rfl, SS, hgr⟩ := hrel
    have r0 := (hgr.cell kl).trans k0
    have r1 := (hgr.cell kl).trans k1
    have rl := Nat.lt_of_lt_of_le kl hgr.size
    by_cases hlt : m < R.length
    · have hltz : (m : Int) < (R.length : Int) := by omega
      have m0 : (0 : Int) ≤ (m : Int) := by omega
      obtain ⟨y, hy⟩ : ∃ y, R[m]? = some y := ⟨R[m], by rw [List.getElem?_eq_getElem]⟩
      have HY := hid hy
      have HLS := hid ((HR.out.gr hgr).lst)
      by_cases hk0 : kk < 0
      · have SN := hid (SS.out.take hy (Or.inl hk0))
        go_wp2_with fail
        go_quiet (fail)
        go_wp2
        go_roundw
        case rel => exact ⟨m + 1, m, by omega, rfl, by go_num, SN.out, hgr.drewN _⟩
        case measure => simp [RowKit.intOf]; omega
      · obtain ⟨k, x, hke, hkm, hkx⟩ : ∃ (k : Nat) (x : Th), kk = (k : Int) ∧ k < m ∧ R[k]? = some x := by
          rcases SS.out with ⟨h, _⟩ | ⟨k, x, h1, h2, h3, _⟩
          · omega
          · exact ⟨k, x, h1, h2, h3⟩
        subst hke
        obtain ⟨b2, o2, c2, e2, z2, y0, y1⟩ := v_at HLS.out hy
        simp only [Value.slice.injEq] at e2
        obtain ⟨rfl, -, rfl⟩ := e2
        obtain ⟨b3, o3, c3, e3, z3, x0, x1⟩ := v_at HLS.out hkx
        simp only [Value.slice.injEq, Option.some.injEq, Addr.mk.injEq, and_true] at e3
        obtain ⟨⟨rfl, rfl⟩, -, rfl⟩ := e3
        have HKX := hid hkx
        have q0 : (0 : Int) ≤ (k : Int) := by omega
        have q1 : (k : Int) < (R.length : Int) := by omega
        have q2 : ¬ (k : Int) < 0 := by omega
        have S0 : (wr.drew.cell? ⟨b2, o2 + m * 2, none⟩ = some (.int .i64 y.1) ∧ wr.drew.cell? ⟨b2, o2 + m * 2 + 1, none⟩ = some (.int .i64 y.2) ∧ wr.drew.cell? ⟨b2, o2 + k * 2, none⟩ = some (.int .i64 x.1) ∧ wr.drew.cell? ⟨b2, o2 + k * 2 + 1, none⟩ = some (.int .i64 x.2) ∧ wr.drew.cell? ⟨rb, 0, none⟩ = some (.int .i64 o) ∧ wr.drew.cell? ⟨rb, 1, none⟩ = some (.slice (some ⟨b2, o2, none⟩) R.length cl) ∧ b2 < wr.drew.heap.size ∧ rb < wr.drew.heap.size) := ⟨y0, y1, x0, x1, r0, r1, z2, rl⟩
        have keepG : ∀ W W' : World, (W.cell? ⟨b2, o2 + m * 2, none⟩ = some (.int .i64 y.1) ∧ W.cell? ⟨b2, o2 + m * 2 + 1, none⟩ = some (.int .i64 y.2) ∧ W.cell? ⟨b2, o2 + k * 2, none⟩ = some (.int .i64 x.1) ∧ W.cell? ⟨b2, o2 + k * 2 + 1, none⟩ = some (.int .i64 x.2) ∧ W.cell? ⟨rb, 0, none⟩ = some (.int .i64 o) ∧ W.cell? ⟨rb, 1, none⟩ = some (.slice (some ⟨b2, o2, none⟩) R.length cl) ∧ b2 < W.heap.size ∧ rb < W.heap.size) → Gr W W' → (W'.cell? ⟨b2, o2 + m * 2, none⟩ = some (.int .i64 y.1) ∧ W'.cell? ⟨b2, o2 + m * 2 + 1, none⟩ = some (.int .i64 y.2) ∧ W'.cell? ⟨b2, o2 + k * 2, none⟩ = some (.int .i64 x.1) ∧ W'.cell? ⟨b2, o2 + k * 2 + 1, none⟩ = some (.int .i64 x.2) ∧ W'.cell? ⟨rb, 0, none⟩ = some (.int .i64 o) ∧ W'.cell? ⟨rb, 1, none⟩ = some (.slice (some ⟨b2, o2, none⟩) R.length cl) ∧ b2 < W'.heap.size ∧ rb < W'.heap.size) := by
          rintro W W' ⟨a0, a1, a2, a3, a4, a5, a6, a7⟩ hg
          exact ⟨(hg.cell a6).trans a0, (hg.cell a6).trans a1, (hg.cell a6).trans a2, (hg.cell a6).trans a3, (hg.cell a7).trans a4, (hg.cell a7).trans a5, Nat.lt_of_lt_of_le a6 hg.size, Nat.lt_of_lt_of_le a7 hg.size⟩
        have hfi := HFI.out y x
        have HGD : Hid (Gr w wr.drew) := hgr.drew
        clear hkx hy hk0 y0 y1 x0 x1 hgr
        by_cases hsz : okey o y < okey o x
        · have SN := hid (SS.out.take HY.out (Or.inr ⟨k, x, rfl, HKX.out, hsz⟩))
          rw [decide_eq_true hsz] at hfi
          clear hsz
          go_upto_region 5 with fail
          go_region_held3 (fun w' => w'.cell? ⟨b2, o2 + m * 2, none⟩ = some (.int .i64 y.1) ∧ w'.cell? ⟨b2, o2 + m * 2 + 1, none⟩ = some (.int .i64 y.2) ∧ w'.cell? ⟨b2, o2 + k * 2, none⟩ = some (.int .i64 x.1) ∧ w'.cell? ⟨b2, o2 + k * 2 + 1, none⟩ = some (.int .i64 x.2) ∧ w'.cell? ⟨rb, 0, none⟩ = some (.int .i64 o) ∧ w'.cell? ⟨rb, 1, none⟩ = some (.slice (some ⟨b2, o2, none⟩) R.length cl) ∧ b2 < w'.heap.size ∧ rb < w'.heap.size)
            (first | exact S0 | exact keepG _ _ (by assumption) (by assumption) | assumption)
            (first | (go_at_call 31; refine (hfi _).mono ?_; rintro e w5 ⟨rfl, hg5⟩))
          go_wp2
          go_roundw
          case rel => exact ⟨m + 1, m, by omega, rfl, by go_num, SN.out, HGD.out.trans hg5⟩
          case measure => simp [RowKit.intOf]; omega
        · have SN := hid (SS.out.stay HKX.out HY.out hsz)
          rw [decide_eq_false hsz] at hfi
          clear hsz
          go_upto_region 5 with fail
          go_region_held3 (fun w' => w'.cell? ⟨b2, o2 + m * 2, none⟩ = some (.int .i64 y.1) ∧ w'.cell? ⟨b2, o2 + m * 2 + 1, none⟩ = some (.int .i64 y.2) ∧ w'.cell? ⟨b2, o2 + k * 2, none⟩ = some (.int .i64 x.1) ∧ w'.cell? ⟨b2, o2 + k * 2 + 1, none⟩ = some (.int .i64 x.2) ∧ w'.cell? ⟨rb, 0, none⟩ = some (.int .i64 o) ∧ w'.cell? ⟨rb, 1, none⟩ = some (.slice (some ⟨b2, o2, none⟩) R.length cl) ∧ b2 < w'.heap.size ∧ rb < w'.heap.size)
            (first | exact S0 | exact keepG _ _ (by assumption) (by assumption) | assumption)
            (first | (go_at_call 31; refine (hfi _).mono ?_; rintro e w5 ⟨rfl, hg5⟩))
          go_wp2
          go_roundw
          case rel => exact ⟨m + 1, k, by omega, rfl, by go_num, SN.out, HGD.out.trans hg5⟩
          case measure => simp [RowKit.intOf]; omega
    · have hltz : ¬ (m : Int) < (R.length : Int) := by omega
      have hml : m = R.length := by omega
      subst hml
      go_wp2
      go_ret
      exact ⟨kk, rfl, SS.out, hgr⟩
end Go.Proofs.Ytpcamjmfddnglaa.Ht
