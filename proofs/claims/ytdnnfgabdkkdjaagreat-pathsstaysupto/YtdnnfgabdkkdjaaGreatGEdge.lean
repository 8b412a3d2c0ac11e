import Derived.Test.YtdnnfgabdkkdjaaGreatGSl
namespace Go.Proofs.YtdnnfgabdkkdjaaGreat.Df
open Go.RowKit Go.Sort
attribute [local go_sem ↓] Go.wp_at_zero Go.wp_at_succ
def eflaw (xs : List NV) (l : List Edg) (d : Edg) : Int := if hasO xs d.src d.out = false ∨ hasI xs d.dst d.inn = false ∨ anyw l d = true then 25 else match nat? xs d.dst with | some y => if y.n.kind = 6 ∧ d.keyed = false then 26 else 0 | none => 0
set_option maxHeartbeats 2000000 in
theorem edgeflaw_any {M : Nat} {v nv : Value} {l : List Edg} {xs : List NV} (d : Edg) (w : World) (hl : Lz ED M w v l) (hn : Lz EV M w nv xs) (hb : l.length ≤ 140737488351232) : Calls Tryz.prog 78 #[.agg (ecells d), v, nv] w fun r w' => r = .returned (.int .i64 (eflaw xs l d)) ∧ Below w.heap.size w w' := by
 have hmf : ∀ (fn : Fn) (first cap : Array Value) (w : World), (Instr.makeFunc fn first cap).run Tryz.prog w = .ok (.func fn first cap) w := fun _ _ _ _ => rfl
 have g0 := (Gr.refl w).alloc (.cells (ecells d) 94)
 have h1 := hasout_any d.src d.out (w.alloc (.cells (ecells d) 94)) (hn.below g0.below)
 have h2 := hasin_any d.dst d.inn (w.alloc (.cells (ecells d) 94)) (hn.below g0.below)
 have h3 := containsway_any d w.heap.size (w.alloc (.cells (ecells d) 94)) (hl.below g0.below) (heap_new' w (.cells (ecells d) 94)) hb
 have HN := hid (hn.below g0.below)
 have B0 := hid g0.below
 obtain ⟨p, c, rfl⟩ := hl.form
 obtain ⟨q, e, rfl⟩ := hn.form
 generalize hln : l.length = n at h3
 generalize hxn : xs.length = m at h1 h2 HN
 have HXN := hid hxn
 clear hl hn hb g0 hln hxn
 cases e1 : hasO xs d.src d.out with
 | false =>
  have HR : Hid (eflaw xs l d = 25) := if_pos (Or.inl e1)
  rw [e1] at h1
  clear e1 h2 h3
  go_enter Tryz.func78, Tryz.ntmps78
  go_wp2_with fail
  refine h1.mono ?_
  rintro r w1 ⟨rfl, rfl⟩
  go_wp2_with fail
  go_ret
  exact ⟨by rw [HR.out]; rfl, B0.out⟩
 | true =>
  rw [e1] at h1
  cases e2 : hasI xs d.dst d.inn with
  | false =>
   have HR : Hid (eflaw xs l d = 25) := if_pos (Or.inr (Or.inl e2))
   rw [e2] at h2
   clear e1 e2 h3
   go_enter Tryz.func78, Tryz.ntmps78
   go_wp2_with fail
   refine h1.mono ?_
   rintro r w1 ⟨rfl, rfl⟩
   go_wp2_with fail
   refine h2.mono ?_
   rintro r w1 ⟨rfl, rfl⟩
   go_wp2_with fail
   go_ret
   exact ⟨by rw [HR.out]; rfl, B0.out⟩
  | true =>
   rw [e2] at h2
   cases e3 : anyw l d with
   | true =>
    have HR : Hid (eflaw xs l d = 25) := if_pos (Or.inr (Or.inr e3))
    rw [e3] at h3
    clear e1 e2 e3
    go_enter Tryz.func78, Tryz.ntmps78
    go_wp2_with fail
    refine h1.mono ?_
    rintro r w1 ⟨rfl, rfl⟩
    go_wp2_with fail
    refine h2.mono ?_
    rintro r w1 ⟨rfl, rfl⟩
    go_wp2_with fail
    refine h3.mono ?_
    rintro r w1 ⟨rfl, b1⟩
    have B1 := hid (B0.out.trans (b1.mono B0.out.size))
    clear b1
    go_wp2_with fail
    go_ret
    exact ⟨by rw [HR.out]; rfl, B1.out⟩
   | false =>
    rw [e3] at h3
    obtain ⟨j, y, hj, hy⟩ : ∃ (j : Nat) (y : NV), d.dst = (j : Int) ∧ xs[j]? = some y := by
     unfold hasI nat? at e2
     by_cases h0 : 0 ≤ d.dst
     ·rw [if_pos h0] at e2
      cases e4 : xs[d.dst.toNat]? with
      | none => rw [e4] at e2; cases e2
      | some y => exact ⟨d.dst.toNat, y, by omega, e4⟩
     ·rw [if_neg h0] at e2; cases e2
    have HR : Hid (eflaw xs l d = if y.n.kind = 6 ∧ d.keyed = false then 26 else 0) := by
     show eflaw _ _ _ = _
     unfold eflaw
     rw [if_neg (by rw [e1, e2, e3]; simp), hj]
     unfold nat?
     rw [if_pos (by omega), Int.toNat_natCast, hy]
    have hjm : j < m := by
     have := (List.getElem?_eq_some_iff.1 hy).1
     have := HXN.out
     omega
    have HJ := hid (And.intro hj (And.intro hy hjm))
    clear e1 e2 e3 hj hy hjm
    go_enter Tryz.func78, Tryz.ntmps78
    go_wp2_with fail
    refine h1.mono ?_
    rintro r w1 ⟨rfl, rfl⟩
    go_wp2_with fail
    refine h2.mono ?_
    rintro r w1 ⟨rfl, rfl⟩
    go_wp2_with fail
    refine h3.mono ?_
    rintro r w1 ⟨rfl, b1⟩
    obtain ⟨hj, hy, hjm⟩ := HJ.out
    have hbx := (b1.block _ (tk_lt (heap_new' w (.cells (ecells d) 94)))).trans (heap_new' w (.cells (ecells d) 94))
    have cx := (tk_store hbx).1
    have lx := tk_lt hbx
    obtain ⟨b4, o4, c4, e4, z4, x0, -⟩ := ls_atV ((HN.out.below b1).ls hy) hy
    simp only [Value.slice.injEq] at e4
    obtain ⟨rfl, -, rfl⟩ := e4
    have B1 := hid (B0.out.trans (b1.mono B0.out.size))
    have hj0 : (0 : Int) ≤ (j : Int) := by omega
    have hjz : (j : Int) < (m : Int) := by omega
    obtain ⟨ds, dt, dd, di, dk⟩ := d
    simp only at hj
    subst hj
    clear b1 hbx hy h1 h2 h3
    by_cases k6 : y.n.kind = 6
    ·cases dk with
     | true =>
      go_wp2_with fail
      go_ret
      exact ⟨by rw [HR.out]; simp, B1.out⟩
     | false =>
      go_wp2_with fail
      go_ret
      exact ⟨by rw [HR.out]; simp [k6], B1.out⟩
    ·go_wp2_with fail
     go_ret
     exact ⟨by rw [HR.out]; simp [k6], B1.out⟩
end Go.Proofs.YtdnnfgabdkkdjaaGreat.Df
