import Derived.Test.YtcmgmgnmhhkdgaaLgLk0
import Derived.Test.YtcmgmgnmhhkdgaaLStep2
import Derived.Test.YtcmgmgnmhhkdgaaLHold
namespace Go.Proofs.Ytcmgmgnmhhkdgaa
open Go.RowKit Go.Sort Go.Maps Go.Shelf
attribute [local go_sem ↓] Go.wp_at_zero Go.wp_at_succ

/-- The document's ledger: its block, its row. -/
structure RL (w : World) (rb : Nat) (v : Value) (L : List Cg) : Prop where
  blk : w.heap[rb]? = some (.cells #[v] 53 (0, 0))
  row : w.ownsRow 0 47 5 v L.length (fl EC L)
  off : v.ownBlock ≠ some rb
section
variable {w w' : World} {rb : Nat} {v : Value} {L : List Cg}
theorem RL.lt (h : RL w rb v L) : rb < w.heap.size := (Array.getElem?_eq_some_iff.1 h.blk).1
theorem RL.c0 (h : RL w rb v L) : w.cell? ⟨rb, 0, none⟩ = some v := by simp [World.cell?, h.blk]
theorem RL.fz (h : RL w rb v L) : w.frozen? ⟨rb, 0, none⟩ = false := by simp [World.frozen?, h.blk]
theorem RL.ls (h : RL w rb v L) : Ls EC w v L := owns_ls (E := EC) h.row
theorem RL.kp {S : Nat → Prop} (h : RL w rb v L) (hk : Kp S w w') (h0 : ¬ S rb) (h1 : ∀ k, v.ownBlock = some k → ¬ S k) : RL w' rb v L :=
  ⟨(hk.block rb h.lt h0).trans h.blk, owns_kp hk h.row h1, h.off⟩
theorem RL.below (h : RL w rb v L) (hb : Below w.heap.size w w') : RL w' rb v L := h.kp (S := fun _ => False) (Kp.of_below hb) (fun h => h) (fun _ _ h => h)
theorem RL.gr (h : RL w rb v L) (hb : Gr w w') : RL w' rb v L := h.below hb.below
end
abbrev rp (rb : Nat) : Value := .pointer (some ⟨rb, 0, none⟩)
theorem smf_take_succ {L : List Cg} {i : Nat} {c : Cg} (h : L[i]? = some c) (s : Sm) : smf (L.take (i + 1)) s = smf (L.take i) s + if c.1 = s then c.2 else 0 := by
  rw [List.take_add_one, h, smf_append]
  simp [smf]
theorem smf_take_bd {L : List Cg} (h : Ones L) (hl : L.length ≤ 100000) (i : Nat) (s : Sm) : -100000 ≤ smf (L.take i) s ∧ smf (L.take i) s ≤ 100000 := by
  have h1 : Ones (L.take i) := fun o ho => h o (List.mem_of_mem_take ho)
  have h2 := smf_bd h1 s
  have h3 : (L.take i).length ≤ L.length := by rw [List.length_take]; exact Nat.min_le_right _ _
  omega
theorem wrap_ok {x : Int} (h : -200000 ≤ x ∧ x ≤ 200000) : IntKind.i64.wrap x = x := by rw [IntKind.wrap_i64]; omega
set_option maxHeartbeats 2000000 in
/-- Get: the sum. -/
theorem rget_any {rb : Nat} {v : Value} {L : List Cg} (s : Sm) (w : World) (h : RL w rb v L) (ho : Ones L) (hl : L.length ≤ 100000) :
    Calls Try.prog 30 #[rp rb, mv s] w fun e w' => e = .returned (.int .i64 (smf L s)) ∧ Gr w w' := by
  obtain ⟨p, c, rfl⟩ := owns_form h.row
  obtain ⟨W0, hW0⟩ : ∃ W, W = Tt.bx s w := ⟨_, rfl⟩
  have G0 : Gr w W0 := by rw [hW0]; exact (Gr.refl _).alloc _
  have z0 : w.heap.size < W0.heap.size := by rw [hW0]; simp
  obtain ⟨a0, a1, a2, a3⟩ : W0.cell? ⟨w.heap.size, 0, none⟩ = some (.int .i64 s.1.1) ∧ W0.cell? ⟨w.heap.size, 1, none⟩ = some (.int .u64 s.1.2.1) ∧ W0.cell? ⟨w.heap.size, 2, none⟩ = some (.int .u64 s.1.2.2.1) ∧ W0.cell? ⟨w.heap.size, 3, none⟩ = some (.int .u64 s.1.2.2.2) := by rw [hW0]; exact Tt.bx_cells s w
  have c0 := (G0.cell h.lt).trans h.c0
  have HL := hid (h.ls.below G0.below)
  have HG := hid G0
  have HB := hid (smf_take_bd ho hl)
  have HO := hid ho
  have heq := fun (x : Sm) W => run_eqS x s W
  clear h G0 ho
  go_enter Try.func30, Try.ntmps30
  go_upto_region 2 with fail
  rw [show w.alloc (.cells #[.int .i64 s.1.1, .int .u64 s.1.2.1, .int .u64 s.1.2.2.1, .int .u64 s.1.2.2.2] 35) = W0 from hW0.symm]
  clear hW0
  go_wp2_with fail
  go_loopw [5, 13] (fun s5 s13 wr => ∃ i : Nat, i ≤ L.length ∧ s13 = .int .i64 (i : Nat) ∧ s5 = .int .i64 (smf (L.take i) s) ∧ Gr W0 wr) (fun _ s13 _ => L.length - (RowKit.intOf s13).toNat)
  case atStart => exact ⟨0, Nat.zero_le _, rfl, rfl, Gr.refl _⟩
  case round =>
    obtain ⟨i, hi, rfl, rfl, hgr⟩ := hrel
    by_cases hlt : i < L.length
    · have hltz : (i : Int) < (L.length : Int) := by omega
      have hi0 : (0 : Int) ≤ (i : Int) := by omega
      obtain ⟨⟨t, m⟩, hx⟩ : ∃ x, L[i]? = some x := ⟨L[i], by simp⟩
      obtain ⟨b1, o1, c1, e1, z1, x0, x1, x2, x3, x4⟩ := (HL.out.below hgr.below).atC hx
      simp only [Value.slice.injEq] at e1
      obtain ⟨rfl, -, rfl⟩ := e1
      simp only at x0 x1 x2 x3 x4
      have d0 := (hgr.cell z0).trans a0
      have d1 := (hgr.cell z0).trans a1
      have d2 := (hgr.cell z0).trans a2
      have d3 := (hgr.cell z0).trans a3
      have z2 := Nat.lt_of_lt_of_le z0 hgr.size
      have hq := heq t
      have hs := smf_take_succ hx s
      have hb := HB.out i s
      have hm := HO.out _ (List.mem_of_getElem? hx)
      simp only at hs hm
      have HGR := hid hgr
      clear hx heq hgr a0 a1 a2 a3
      by_cases he : t = s
      · rw [decide_eq_true he] at hq
        rw [if_pos he] at hs
        have hw : IntKind.i64.wrap (smf (L.take i) s + m) = smf (L.take (i + 1)) s := by rw [hs]; exact wrap_ok (by rcases hm with rfl | rfl <;> omega)
        clear he hs hm hb
        go_wp2_with fail
        go_roundw
        case rel => exact ⟨i + 1, by omega, by go_num, by first | rfl | (rw [hw]) | go_num, HGR.out.alloc _⟩
        case measure => simp [RowKit.intOf]; omega
      · rw [decide_eq_false he] at hq
        rw [if_neg he, Int.add_zero] at hs
        clear he hm hb
        go_wp2_with fail
        go_roundw
        case rel => exact ⟨i + 1, by omega, by go_num, by rw [hs], HGR.out.alloc _⟩
        case measure => simp [RowKit.intOf]; omega
    · have hltz : ¬ (i : Int) < (L.length : Int) := by omega
      have hie : L.take i = L := List.take_of_length_le (by omega)
      rw [hie]
      go_wp2
      go_ret
      exact ⟨rfl, HG.out.trans hgr⟩
end Go.Proofs.Ytcmgmgnmhhkdgaa
