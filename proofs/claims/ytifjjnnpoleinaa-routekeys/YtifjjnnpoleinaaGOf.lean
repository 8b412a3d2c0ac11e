import Derived.Test.YtifjjnnpoleinaaGQs
import Derived.BigQuiet
namespace Go.Proofs.Ytifjjnnpoleinaa.Df
open Go.RowKit Go.Sort
attribute [local go_sem ↓] Go.wp_at_zero Go.wp_at_succ

/-- Node and port of a place, and whether it is an in-place. -/
def ofN (ns : List Nod) (k : Int) : Int × Int × Bool := if k < 0 then (-1, -1, false) else match (spotsU ns ns.length)[k.toNat]? with
  | some s => ((s.1 : Nat), (s.2.1 : Nat), s.2.2)
  | none => (-1, -1, false)
set_option maxHeartbeats 2000000 in
theorem gof_any {B gb : Nat} {g : Gph} (k : Int) (w : World) (h : Gm B w gb g) : Calls Try.prog 8 #[.pointer (some ⟨gb, 0, none⟩), .int .i64 k] w fun r w' => r = .returned (.tuple #[.int .i64 (ofN g.nodes k).1, .int .i64 (ofN g.nodes k).2.1, .bool (ofN g.nodes k).2.2]) ∧ Gr w w' := by
  obtain ⟨nv, ev, fv, pv, ys, ss, h⟩ := h
  have cg := (tk_store h.rows.blk).1
  have lg := tk_lt h.rows.blk
  by_cases hk : 0 ≤ k ∧ k < (ss.length : Int)
  · obtain ⟨j, rfl⟩ : ∃ j : Nat, k = (j : Int) := ⟨k.toNat, by omega⟩
    have hj : j < ss.length := by omega
    obtain ⟨s, hs⟩ : ∃ s, ss[j]? = some s := ⟨ss[j], List.getElem?_eq_getElem hj⟩
    obtain ⟨h1, h2, h3⟩ := h.rows.shape j s hs
    have HR : Hid (ofN g.nodes (j : Int) = (s.nd, s.pt, s.inn)) := by
      show _ = _
      unfold ofN
      rw [if_neg (by omega), Int.toNat_natCast, h1]
      simp only [Int.toNat_of_nonneg h2, Int.toNat_of_nonneg h3]
    obtain ⟨b1, o1, c1, rfl, hb1, x1, x2, x3, x4⟩ := ls_atS (owns_ls (E := ES) h.rows.sp) hs
    have hc := among_any (j : Int) (ss.length : Int) w
    rw [decide_eq_true hk] at hc
    generalize ss.length = m at hc cg hj hk
    have hjz : (j : Int) < (m : Int) := by omega
    have hj0 : (0 : Int) ≤ (j : Int) := by omega
    obtain ⟨sn, sp, si, sq, sm, sc⟩ := s
    simp only [SV.ev] at x4
    rw [HR.out]
    clear h hs h1 h2 h3 hk hj HR
    go_enter Try.func8, Try.ntmps8
    go_wp2_with fail
    refine hc.mono ?_
    rintro r w1 ⟨rfl, rfl⟩
    clear hc
    go_upto_region 6 with fail
    go_quiet (fail)
    go_wp2_with fail
    refine bodyPost_ret (v := .tuple #[.int .i64 sn, .int .i64 sp, .bool si]) (by simp [results, Try.results8, go_sem]) rfl ?_
    exact ⟨rfl, ((Gr.refl _).alloc _).drewN _⟩
  · have HR : Hid (ofN g.nodes k = (-1, -1, false)) := by
      show _ = _
      unfold ofN
      by_cases h0 : k < 0
      · rw [if_pos h0]
      · rw [if_neg h0, List.getElem?_eq_none (by rw [← h.rows.len]; omega)]
    obtain ⟨p, n, c, rfl⟩ := owns_form h.rows.sp
    have hn := (owns_caps h.rows.sp _ _ _ rfl).1
    subst hn
    have hc := among_any k (ss.length : Int) w
    rw [decide_eq_false hk] at hc
    generalize ss.length = m at hc cg hk
    rw [HR.out]
    clear h HR
    go_enter Try.func8, Try.ntmps8
    go_wp2_with fail
    refine hc.mono ?_
    rintro r w1 ⟨rfl, rfl⟩
    clear hc
    go_wp2_with fail
    refine bodyPost_ret (v := .tuple #[.int .i64 (-1), .int .i64 (-1), .bool false]) (by simp [results, Try.results8, go_sem]) rfl ?_
    exact ⟨rfl, Gr.refl _⟩
end Go.Proofs.Ytifjjnnpoleinaa.Df
