import Derived.Test.YtcmgmgnmhhkdgaaLgTal2
import Derived.Test.YtcmgmgnmhhkdgaaLgOrd
import Derived.Test.YtcmgmgnmhhkdgaaLStep
namespace Go.Proofs.Ytcmgmgnmhhkdgaa
open Go.RowKit Go.Sort Go.Maps
open Tt (Tl addc addf)
attribute [local go_sem ↓] Go.wp_at_zero Go.wp_at_succ

theorem hid {p : Prop} (h : p) : Hid p := h
/-- A ledger: its block, its tally. -/
structure Lg (w : World) (lb tb b n : Nat) (f : Sm → Int) : Prop where
  blk : w.heap[lb]? = some (.cells #[.pointer (some ⟨tb, 0, none⟩)] 62 (0, 0))
  tl : Tl w tb b 39 n f
abbrev nv (tb : Nat) : Value := .agg #[.pointer (some ⟨tb, 0, none⟩)]
abbrev lp (lb : Nat) : Value := .pointer (some ⟨lb, 0, none⟩)
section
variable {w w' : World} {lb tb b n : Nat} {f : Sm → Int}
theorem Lg.lt (h : Lg w lb tb b n f) : lb < w.heap.size := (Array.getElem?_eq_some_iff.1 h.blk).1
theorem Lg.c0 (h : Lg w lb tb b n f) : w.cell? ⟨lb, 0, none⟩ = some (.pointer (some ⟨tb, 0, none⟩)) := by simp [World.cell?, h.blk]
theorem Lg.ne1 (h : Lg w lb tb b n f) : lb ≠ tb := fun e => by
  have h1 := h.tl.blk
  rw [← e, h.blk] at h1
  simp at h1
theorem Lg.ne2 (h : Lg w lb tb b n f) : lb ≠ b := fun e => by
  obtain ⟨D, ⟨es, clock, hb, _⟩, _⟩ := h.tl.ta
  rw [← e, h.blk] at hb
  cases hb
theorem Lg.kp {S : Nat → Prop} (h : Lg w lb tb b n f) (hk : Kp S w w') (h0 : ¬ S lb) (h1 : ¬ S tb) (h2 : ¬ S b) : Lg w' lb tb b n f :=
  ⟨(hk.block lb h.lt h0).trans h.blk, h.tl.kp hk h1 h2⟩
theorem Lg.below (h : Lg w lb tb b n f) (hb : Below w.heap.size w w') : Lg w' lb tb b n f := h.kp (S := fun _ => False) (Kp.of_below hb) (fun h => h) (fun h => h) (fun h => h)
theorem Lg.gr (h : Lg w lb tb b n f) (hb : Gr w w') : Lg w' lb tb b n f := h.below hb.below
/-- The blocks of a ledger. -/
def Lo (lb tb b k : Nat) : Prop := k = lb ∨ k = tb ∨ k = b
theorem Lg.own (h : Lg w lb tb b n f) {k : Nat} (hk : Lo lb tb b k) : k < w.heap.size := by
  rcases hk with rfl | rfl | rfl
  · exact h.lt
  · exact h.tl.lt
  · exact h.tl.ta.lt
theorem Lg.bd (h : Lg w lb tb b n f) (s : Sm) : -2147483647 ≤ f s ∧ f s ≤ 2147483647 := h.tl.bd s
theorem Lg.sup (h : Lg w lb tb b n f) : ∃ ks, Sup f ks ∧ ks.length ≤ n := by
  obtain ⟨D, hown, h1, h2⟩ := h.tl.ta
  obtain ⟨ks, hks, hl⟩ := owns_sup hown h2
  exact ⟨ks, hks, by rw [hl]; exact hown.size_le⟩
end
theorem setCell_blk {w : World} {tb k : Nat} {cs : Array Value} {t : TypeId} {v : Value} (h : w.heap[tb]? = some (.cells cs t (0, 0))) :
    (w.setCell ⟨tb, k, none⟩ v).heap[tb]? = some (.cells (cs.setIfInBounds k v) t (0, 0)) ∧ Kp (fun j => j = tb) w (w.setCell ⟨tb, k, none⟩ v) ∧ (w.setCell ⟨tb, k, none⟩ v).heap.size = w.heap.size := by
  rw [setCell_eq_setRow w tb k _ _ _ _ h]
  exact ⟨setRow_heap _ tb _ _ _ _ h, ⟨rfl, rfl, rfl, by simp [World.setRow], fun j _ hne => setRow_other _ tb j _ (by omega)⟩, by simp [World.setRow]⟩
theorem nosums_any (w : World) : Calls Try.prog 29 #[] w fun e w' => ∃ tb b, e = .returned (nv tb) ∧ w.heap.size ≤ tb ∧ w.heap.size ≤ b ∧ Tl w' tb b 39 0 (fun _ => 0) ∧ Below w.heap.size w w' := by
  have hn : ∀ o, Calls Try.prog 38 #[fv 39] (w.alloc o) fun e w' => ∃ T B, e = .returned (.pointer (some ⟨T, 0, none⟩)) ∧ Tl w' T B 39 0 (fun _ => 0) ∧ Below (w.alloc o).heap.size (w.alloc o) w' ∧ w.heap.size < T ∧ w.heap.size < B := fun o => (Tt.new_any 39 (w.alloc o)).mono fun _ _ ⟨a, b, c⟩ => ⟨_, _, a, b, c.below, by simp; omega, by simp⟩
  go_enter Try.func29, Try.ntmps29
  go_wp2_with fail
  refine (hn _).mono ?_
  rintro e w1 ⟨T, B, rfl, ht, hg, hT, hB⟩
  have hz : w.heap.size < (w.alloc (.cells #[.pointer none] 60)).heap.size := by simp
  have hc := (hg.block w.heap.size hz).trans (heap_new' w _)
  have hz1 : w.heap.size < w1.heap.size := Nat.lt_of_lt_of_le hz hg.size
  have q0 : w1.cell? ⟨w.heap.size, 0, none⟩ = some (.pointer none) := by simp [World.cell?, hc]
  have q1 : w1.frozen? ⟨w.heap.size, 0, none⟩ = false := by simp [World.frozen?, hc]
  obtain ⟨b1, k1, z1⟩ := setCell_blk (k := 0) (v := .pointer (some ⟨T, 0, none⟩)) hc
  have q2 : (w1.setCell ⟨w.heap.size, 0, none⟩ (.pointer (some ⟨T, 0, none⟩))).cell? ⟨w.heap.size, 0, none⟩ = some (.pointer (some ⟨T, 0, none⟩)) := by simp [World.cell?, b1]
  have HT : Hid (Tl (w1.setCell ⟨w.heap.size, 0, none⟩ (.pointer (some ⟨T, 0, none⟩))) T B 39 0 (fun _ => 0)) := ht.kp k1 (by omega) (by omega)
  have HB1 : Hid (Below w.heap.size w (w1.setCell ⟨w.heap.size, 0, none⟩ (.pointer (some ⟨T, 0, none⟩)))) := (((Gr.refl w).alloc _).below.trans (hg.mono (by simp))).trans (k1.below (Nat.le_of_lt hz1) (fun k hk => by omega))
  clear ht hg hc k1 b1 z1 hz
  go_wp2_with fail
  refine bodyPost_ret (v := nv T) (by simp [results, Try.results29, go_sem, q2]) rfl ?_
  exact ⟨T, B, rfl, by omega, by omega, HT.out, HB1.out⟩
set_option maxHeartbeats 1000000 in
/-- A new one. -/
theorem new_any (w : World) : Calls Try.prog 18 #[] w fun e w' => ∃ lb tb b, e = .returned (lp lb) ∧ (∀ k, Lo lb tb b k → w.heap.size ≤ k) ∧ Lg w' lb tb b 0 (fun _ => 0) ∧ Below w.heap.size w w' := by
  have hn := nosums_any w
  go_enter Try.func18, Try.ntmps18
  go_wp2_with fail
  refine hn.mono ?_
  rintro e w1 ⟨T, B, rfl, hT, hB, ht, hb⟩
  go_wp2_with fail
  go_ret
  refine ⟨_, T, B, rfl, fun k hk => ?_, ⟨heap_new' _ _, ht.gr ((Gr.refl _).alloc _)⟩, hb.trans (((Gr.refl _).alloc _).below.mono hb.size)⟩
  have := hb.size
  rcases hk with rfl | rfl | rfl <;> omega
/-- The methods of what is embedded. -/
theorem sadd_any {tb b g n : Nat} {f : Sm → Int} (x : Sm) (v : Int) (w : World) (h : Tl w tb b g n f) (hn : n < maxLen) :
    Calls Try.prog 25 #[nv tb, mv x, .int .i64 v] w fun e w' => e = .returned (.int .i64 (addc f x v)) ∧ Tl w' tb b g (n + 1) (addf f x v) ∧ Kp (fun k => k = b) w w' := by
  have ha := fun o p => Tt.add_any x v _ (h.gr (((Gr.refl w).alloc o).alloc p)) hn
  have HG : Hid (∀ o p, Gr w ((w.alloc o).alloc p)) := fun o p => ((Gr.refl w).alloc o).alloc p
  clear h
  go_enter Try.func25, Try.ntmps25
  go_wp2_with fail
  refine (ha _ _).mono ?_
  rintro e w1 ⟨rfl, ht, hk⟩
  go_wp2
  go_ret
  exact ⟨rfl, ht, (Kp.of_gr (HG.out _ _)).trans hk (fun _ _ h => h)⟩
theorem ssum_any {tb b g n : Nat} {f : Sm → Int} (x : Sm) (w : World) (h : Tl w tb b g n f) :
    Calls Try.prog 24 #[nv tb, mv x] w fun e w' => e = .returned (.int .i64 (f x)) ∧ Gr w w' := by
  have ha := fun o p => Tt.get_any x _ (h.gr (((Gr.refl w).alloc o).alloc p))
  have HG : Hid (∀ o p, Gr w ((w.alloc o).alloc p)) := fun o p => ((Gr.refl w).alloc o).alloc p
  clear h
  generalize f x = c at *
  go_enter Try.func24, Try.ntmps24
  go_wp2_with fail
  refine (ha _ _).mono ?_
  rintro e w1 ⟨rfl, hg⟩
  go_wp2
  go_ret
  exact ⟨rfl, (HG.out _ _).trans hg⟩
theorem smany_any {tb b g n : Nat} {f : Sm → Int} (w : World) (h : Tl w tb b g n f) :
    Calls Try.prog 22 #[nv tb] w fun e w' => ∃ ks : List Sm, Sup f ks ∧ e = .returned (.int .i64 ks.length) ∧ Gr w w' := by
  have ha := fun o => Tt.len_any _ (h.gr ((Gr.refl w).alloc o))
  have HG : Hid (∀ o, Gr w (w.alloc o)) := fun o => (Gr.refl w).alloc o
  clear h
  go_enter Try.func22, Try.ntmps22
  go_wp2_with fail
  refine (ha _).mono ?_
  rintro e w1 ⟨ks, hks, rfl, rfl⟩
  go_wp2
  go_ret
  exact ⟨ks, hks, rfl, HG.out _⟩
theorem sempty_any {tb b g n : Nat} {f : Sm → Int} (w : World) (h : Tl w tb b g n f) :
    Calls Try.prog 28 #[nv tb] w fun e w' => ∃ b', e = .returned (.tuple #[]) ∧ w.heap.size ≤ b' ∧ Tl w' tb b' g 0 (fun _ => 0) ∧ Kp (fun k => k = tb) w w' := by
  have ha := fun o => Tt.clear_any _ (h.gr ((Gr.refl w).alloc o))
  have HG : Hid (∀ o, Gr w (w.alloc o)) := fun o => (Gr.refl w).alloc o
  clear h
  go_enter Try.func28, Try.ntmps28
  go_wp2_with fail
  refine (ha _).mono ?_
  rintro e w1 ⟨rfl, ht, hk⟩
  go_wp2
  go_end0
  exact ⟨_, rfl, by simp, ht, (Kp.of_gr (HG.out _)).trans hk (fun _ _ h => h)⟩
set_option maxHeartbeats 1000000 in
theorem scopied_any {tb b g n : Nat} {f : Sm → Int} (w : World) (h : Tl w tb b g n f) :
    Calls Try.prog 26 #[nv tb] w fun e w' => ∃ tb' b', e = .returned (nv tb') ∧ w.heap.size ≤ tb' ∧ w.heap.size ≤ b' ∧ Tl w' tb' b' g n f ∧ Below w.heap.size w w' := by
  have hn : ∀ o p, Calls Try.prog 36 #[.pointer (some ⟨tb, 0, none⟩)] ((w.alloc o).alloc p) fun e w' => ∃ T B, e = .returned (.pointer (some ⟨T, 0, none⟩)) ∧ Tl w' T B g n f ∧ Below ((w.alloc o).alloc p).heap.size ((w.alloc o).alloc p) w' ∧ w.heap.size + 1 < T ∧ w.heap.size + 1 < B := fun o p => (Tt.copy_any _ (h.gr (((Gr.refl w).alloc o).alloc p))).mono fun _ _ ⟨a, b, c⟩ => ⟨_, _, a, b, c.below, by simp, by simp⟩
  clear h
  go_enter Try.func26, Try.ntmps26
  go_wp2_with fail
  refine (hn _ _).mono ?_
  rintro e w1 ⟨T, B, rfl, ht, hg, hT, hB⟩
  have hz : w.heap.size + 1 < ((w.alloc (.cells #[.pointer (some ⟨tb, 0, none⟩)] 60)).alloc (.cells #[.pointer none] 60)).heap.size := by simp
  have hc := (hg.block (w.heap.size + 1) hz).trans (Tt.heap_alloc2_new w _ _)
  have hz1 : w.heap.size + 1 < w1.heap.size := Nat.lt_of_lt_of_le hz hg.size
  have q0 : w1.cell? ⟨w.heap.size + 1, 0, none⟩ = some (.pointer none) := by simp [World.cell?, hc]
  have q1 : w1.frozen? ⟨w.heap.size + 1, 0, none⟩ = false := by simp [World.frozen?, hc]
  obtain ⟨b1, k1, z1⟩ := setCell_blk (k := 0) (v := .pointer (some ⟨T, 0, none⟩)) hc
  have q2 : (w1.setCell ⟨w.heap.size + 1, 0, none⟩ (.pointer (some ⟨T, 0, none⟩))).cell? ⟨w.heap.size + 1, 0, none⟩ = some (.pointer (some ⟨T, 0, none⟩)) := by simp [World.cell?, b1]
  have HT : Hid (Tl (w1.setCell ⟨w.heap.size + 1, 0, none⟩ (.pointer (some ⟨T, 0, none⟩))) T B g n f) := ht.kp k1 (by omega) (by omega)
  have HB1 : Hid (Below w.heap.size w (w1.setCell ⟨w.heap.size + 1, 0, none⟩ (.pointer (some ⟨T, 0, none⟩)))) := ((((Gr.refl w).alloc _).alloc _).below.trans (hg.mono (by simp; omega))).trans (k1.below (by omega) (fun k hk => by omega))
  clear ht hg hc k1 b1 z1 hz
  go_wp2_with fail
  refine bodyPost_ret (v := nv T) (by simp [results, Try.results26, go_sem, q2]) rfl ?_
  exact ⟨T, B, rfl, by omega, by omega, HT.out, HB1.out⟩

set_option maxHeartbeats 1000000 in
theorem make_any {lb tb b n : Nat} {f : Sm → Int} (x : Sm) (w : World) (h : Lg w lb tb b n f) (hn : n < maxLen) :
    Calls Try.prog 13 #[lp lb, mv x] w fun e w' => e = .returned (.int .i64 (addc f x (1))) ∧ Lg w' lb tb b (n + 1) (addf f x (1)) ∧ Kp (fun k => k = b) w w' := by
  have hmx : Try.prog.follows .mixedOrders = true := by kernel_rfl
  obtain ⟨W0, hW0⟩ : ∃ W, W = (Tt.bx x w).drew := ⟨_, rfl⟩
  have HG : Hid (Gr w W0) := by rw [hW0]; exact ((Gr.refl _).alloc _).drew
  have HL := hid (h.gr HG.out)
  have hz0 : w.heap.size < W0.heap.size := by rw [hW0]; show _ < (Tt.bx x w).heap.size; simp
  have S0 : W0.cell? ⟨lb, 0, none⟩ = some (.pointer (some ⟨tb, 0, none⟩)) ∧ W0.cell? ⟨w.heap.size, 0, none⟩ = some (.int .i64 x.1.1) ∧ W0.cell? ⟨w.heap.size, 1, none⟩ = some (.int .u64 x.1.2.1) ∧ W0.cell? ⟨w.heap.size, 2, none⟩ = some (.int .u64 x.1.2.2.1) ∧ W0.cell? ⟨w.heap.size, 3, none⟩ = some (.int .u64 x.1.2.2.2) := by
    refine ⟨HL.out.c0, ?_⟩
    rw [hW0]
    exact Tt.bx_cells x w
  have hbz : b < w.heap.size := h.tl.ta.lt
  have hlb := HL.out.lt
  have hne := HL.out.ne2
  have keepK : ∀ W : World, Kp (fun k => k = b) W0 W → W.cell? ⟨lb, 0, none⟩ = some (.pointer (some ⟨tb, 0, none⟩)) ∧ W.cell? ⟨w.heap.size, 0, none⟩ = some (.int .i64 x.1.1) ∧ W.cell? ⟨w.heap.size, 1, none⟩ = some (.int .u64 x.1.2.1) ∧ W.cell? ⟨w.heap.size, 2, none⟩ = some (.int .u64 x.1.2.2.1) ∧ W.cell? ⟨w.heap.size, 3, none⟩ = some (.int .u64 x.1.2.2.2) := fun W hk =>
    ⟨(hk.cell hlb hne).trans S0.1, (hk.cell hz0 (by omega)).trans S0.2.1, (hk.cell hz0 (by omega)).trans S0.2.2.1, (hk.cell hz0 (by omega)).trans S0.2.2.2.1, (hk.cell hz0 (by omega)).trans S0.2.2.2.2⟩
  have ha := sadd_any x (1) W0 HL.out.tl hn
  clear h
  go_enter Try.func13, Try.ntmps13
  go_wp2_with fail
  go_region_held3 (fun W => W.cell? ⟨lb, 0, none⟩ = some (.pointer (some ⟨tb, 0, none⟩)) ∧ W.cell? ⟨w.heap.size, 0, none⟩ = some (.int .i64 x.1.1) ∧ W.cell? ⟨w.heap.size, 1, none⟩ = some (.int .u64 x.1.2.1) ∧ W.cell? ⟨w.heap.size, 2, none⟩ = some (.int .u64 x.1.2.2.1) ∧ W.cell? ⟨w.heap.size, 3, none⟩ = some (.int .u64 x.1.2.2.2))
    (first | (rw [← hW0]; exact S0) | exact keepK _ (by assumption) | assumption)
    (first | (go_at_call 25; rw [← hW0]; refine ha.mono ?_; rintro e w1 ⟨rfl, ht, hk⟩))
  go_wp2
  go_ret
  exact ⟨rfl, ⟨(hk.block lb hlb hne).trans HL.out.blk, ht⟩, (Kp.of_gr HG.out).trans hk (fun _ _ h => h)⟩
set_option maxHeartbeats 1000000 in
theorem use_any {lb tb b n : Nat} {f : Sm → Int} (x : Sm) (w : World) (h : Lg w lb tb b n f) (hn : n < maxLen) :
    Calls Try.prog 12 #[lp lb, mv x] w fun e w' => e = .returned (.int .i64 (addc f x (-1))) ∧ Lg w' lb tb b (n + 1) (addf f x (-1)) ∧ Kp (fun k => k = b) w w' := by
  have hmx : Try.prog.follows .mixedOrders = true := by kernel_rfl
  obtain ⟨W0, hW0⟩ : ∃ W, W = (Tt.bx x w).drew := ⟨_, rfl⟩
  have HG : Hid (Gr w W0) := by rw [hW0]; exact ((Gr.refl _).alloc _).drew
  have HL := hid (h.gr HG.out)
  have hz0 : w.heap.size < W0.heap.size := by rw [hW0]; show _ < (Tt.bx x w).heap.size; simp
  have S0 : W0.cell? ⟨lb, 0, none⟩ = some (.pointer (some ⟨tb, 0, none⟩)) ∧ W0.cell? ⟨w.heap.size, 0, none⟩ = some (.int .i64 x.1.1) ∧ W0.cell? ⟨w.heap.size, 1, none⟩ = some (.int .u64 x.1.2.1) ∧ W0.cell? ⟨w.heap.size, 2, none⟩ = some (.int .u64 x.1.2.2.1) ∧ W0.cell? ⟨w.heap.size, 3, none⟩ = some (.int .u64 x.1.2.2.2) := by
    refine ⟨HL.out.c0, ?_⟩
    rw [hW0]
    exact Tt.bx_cells x w
  have hbz : b < w.heap.size := h.tl.ta.lt
  have hlb := HL.out.lt
  have hne := HL.out.ne2
  have keepK : ∀ W : World, Kp (fun k => k = b) W0 W → W.cell? ⟨lb, 0, none⟩ = some (.pointer (some ⟨tb, 0, none⟩)) ∧ W.cell? ⟨w.heap.size, 0, none⟩ = some (.int .i64 x.1.1) ∧ W.cell? ⟨w.heap.size, 1, none⟩ = some (.int .u64 x.1.2.1) ∧ W.cell? ⟨w.heap.size, 2, none⟩ = some (.int .u64 x.1.2.2.1) ∧ W.cell? ⟨w.heap.size, 3, none⟩ = some (.int .u64 x.1.2.2.2) := fun W hk =>
    ⟨(hk.cell hlb hne).trans S0.1, (hk.cell hz0 (by omega)).trans S0.2.1, (hk.cell hz0 (by omega)).trans S0.2.2.1, (hk.cell hz0 (by omega)).trans S0.2.2.2.1, (hk.cell hz0 (by omega)).trans S0.2.2.2.2⟩
  have ha := sadd_any x (-1) W0 HL.out.tl hn
  clear h
  go_enter Try.func12, Try.ntmps12
  go_wp2_with fail
  go_region_held3 (fun W => W.cell? ⟨lb, 0, none⟩ = some (.pointer (some ⟨tb, 0, none⟩)) ∧ W.cell? ⟨w.heap.size, 0, none⟩ = some (.int .i64 x.1.1) ∧ W.cell? ⟨w.heap.size, 1, none⟩ = some (.int .u64 x.1.2.1) ∧ W.cell? ⟨w.heap.size, 2, none⟩ = some (.int .u64 x.1.2.2.1) ∧ W.cell? ⟨w.heap.size, 3, none⟩ = some (.int .u64 x.1.2.2.2))
    (first | (rw [← hW0]; exact S0) | exact keepK _ (by assumption) | assumption)
    (first | (go_at_call 25; rw [← hW0]; refine ha.mono ?_; rintro e w1 ⟨rfl, ht, hk⟩))
  go_wp2
  go_ret
  exact ⟨rfl, ⟨(hk.block lb hlb hne).trans HL.out.blk, ht⟩, (Kp.of_gr HG.out).trans hk (fun _ _ h => h)⟩
set_option maxHeartbeats 1000000 in
theorem get_any {lb tb b n : Nat} {f : Sm → Int} (x : Sm) (w : World) (h : Lg w lb tb b n f) :
    Calls Try.prog 11 #[lp lb, mv x] w fun e w' => e = .returned (.int .i64 (f x)) ∧ Gr w w' := by
  have hmx : Try.prog.follows .mixedOrders = true := by kernel_rfl
  obtain ⟨W0, hW0⟩ : ∃ W, W = (Tt.bx x w).drew := ⟨_, rfl⟩
  have HG : Hid (Gr w W0) := by rw [hW0]; exact ((Gr.refl _).alloc _).drew
  have HL := hid (h.gr HG.out)
  have hz0 : w.heap.size < W0.heap.size := by rw [hW0]; show _ < (Tt.bx x w).heap.size; simp
  have S0 : W0.cell? ⟨lb, 0, none⟩ = some (.pointer (some ⟨tb, 0, none⟩)) ∧ W0.cell? ⟨w.heap.size, 0, none⟩ = some (.int .i64 x.1.1) ∧ W0.cell? ⟨w.heap.size, 1, none⟩ = some (.int .u64 x.1.2.1) ∧ W0.cell? ⟨w.heap.size, 2, none⟩ = some (.int .u64 x.1.2.2.1) ∧ W0.cell? ⟨w.heap.size, 3, none⟩ = some (.int .u64 x.1.2.2.2) := by
    refine ⟨HL.out.c0, ?_⟩
    rw [hW0]
    exact Tt.bx_cells x w
  have hlb := HL.out.lt
  have keepK : ∀ W : World, Gr W0 W → W.cell? ⟨lb, 0, none⟩ = some (.pointer (some ⟨tb, 0, none⟩)) ∧ W.cell? ⟨w.heap.size, 0, none⟩ = some (.int .i64 x.1.1) ∧ W.cell? ⟨w.heap.size, 1, none⟩ = some (.int .u64 x.1.2.1) ∧ W.cell? ⟨w.heap.size, 2, none⟩ = some (.int .u64 x.1.2.2.1) ∧ W.cell? ⟨w.heap.size, 3, none⟩ = some (.int .u64 x.1.2.2.2) := fun W hk =>
    ⟨(hk.cell hlb).trans S0.1, (hk.cell hz0).trans S0.2.1, (hk.cell hz0).trans S0.2.2.1, (hk.cell hz0).trans S0.2.2.2.1, (hk.cell hz0).trans S0.2.2.2.2⟩
  have ha := ssum_any x W0 HL.out.tl
  clear h
  generalize f x = c at ha ⊢
  go_enter Try.func11, Try.ntmps11
  go_wp2_with fail
  go_region_held3 (fun W => W.cell? ⟨lb, 0, none⟩ = some (.pointer (some ⟨tb, 0, none⟩)) ∧ W.cell? ⟨w.heap.size, 0, none⟩ = some (.int .i64 x.1.1) ∧ W.cell? ⟨w.heap.size, 1, none⟩ = some (.int .u64 x.1.2.1) ∧ W.cell? ⟨w.heap.size, 2, none⟩ = some (.int .u64 x.1.2.2.1) ∧ W.cell? ⟨w.heap.size, 3, none⟩ = some (.int .u64 x.1.2.2.2))
    (first | (rw [← hW0]; exact S0) | exact keepK _ (by assumption) | assumption)
    (first | (go_at_call 24; rw [← hW0]; refine ha.mono ?_; rintro e w1 ⟨rfl, hg⟩))
  go_wp2
  go_ret
  exact ⟨rfl, HG.out.trans hg⟩
theorem len_any {lb tb b n : Nat} {f : Sm → Int} (w : World) (h : Lg w lb tb b n f) :
    Calls Try.prog 14 #[lp lb] w fun e w' => ∃ ks : List Sm, Sup f ks ∧ e = .returned (.int .i64 ks.length) ∧ Gr w w' := by
  have ha := smany_any w h.tl
  have c0 := h.c0
  clear h
  go_enter Try.func14, Try.ntmps14
  go_wp2_with fail
  refine ha.mono ?_
  rintro e w1 ⟨ks, hks, rfl, hg⟩
  go_wp2
  go_ret
  exact ⟨ks, hks, rfl, hg⟩
theorem clear_any {lb tb b n : Nat} {f : Sm → Int} (w : World) (h : Lg w lb tb b n f) :
    Calls Try.prog 17 #[lp lb] w fun e w' => ∃ b', e = .returned (.tuple #[]) ∧ w.heap.size ≤ b' ∧ Lg w' lb tb b' 0 (fun _ => 0) ∧ Kp (fun k => k = tb) w w' := by
  have ha := sempty_any w h.tl
  have c0 := h.c0
  have HL := hid h
  clear h
  go_enter Try.func17, Try.ntmps17
  go_wp2_with fail
  refine ha.mono ?_
  rintro e w1 ⟨b', rfl, hb', ht, hk⟩
  go_wp2
  go_end0
  exact ⟨b', rfl, hb', ⟨(hk.block lb HL.out.lt HL.out.ne1).trans HL.out.blk, ht⟩, hk⟩
theorem copy_any {lb tb b n : Nat} {f : Sm → Int} (w : World) (h : Lg w lb tb b n f) :
    Calls Try.prog 15 #[lp lb] w fun e w' => ∃ lb' tb' b', e = .returned (lp lb') ∧ (∀ k, Lo lb' tb' b' k → w.heap.size ≤ k) ∧ Lg w' lb' tb' b' n f ∧ Below w.heap.size w w' := by
  have ha := scopied_any w h.tl
  have c0 := h.c0
  clear h
  go_enter Try.func15, Try.ntmps15
  go_wp2_with fail
  refine ha.mono ?_
  rintro e w1 ⟨T, B, rfl, hT, hB, ht, hb⟩
  go_wp2
  go_ret
  refine ⟨_, T, B, rfl, fun k hk => ?_, ⟨heap_new' _ _, ht.gr ((Gr.refl _).alloc _)⟩, hb.trans (((Gr.refl _).alloc _).below.mono hb.size)⟩
  have := hb.size
  rcases hk with rfl | rfl | rfl <;> omega
end Go.Proofs.Ytcmgmgnmhhkdgaa
