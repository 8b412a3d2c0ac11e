import Derived.Test.YtijbmchgajhkeaaSuEq
namespace Go.Proofs.Ytijbmchgajhkeaa
open Go.RowKit Go.Sort Go.Maps Go.Shelf
attribute [local go_sem ↓] Go.wp_at_zero Go.wp_at_succ

theorem cg_cell {w : World} {b : Nat} {c : Ct} (h : w.heap[b]? = some (.cells #[.int .u64 c.1.1.1, .int .u64 c.1.1.2.1, .int .u64 c.1.1.2.2, .int .u64 c.2.1.1, .int .u64 c.2.2.1] 39 (0, 0))) : w.cell? ⟨b, 0, none⟩ = some (.int .u64 c.1.1.1) ∧ w.cell? ⟨b, 1, none⟩ = some (.int .u64 c.1.1.2.1) ∧ w.cell? ⟨b, 2, none⟩ = some (.int .u64 c.1.1.2.2) ∧ w.cell? ⟨b, 3, none⟩ = some (.int .u64 c.2.1.1) ∧ w.cell? ⟨b, 4, none⟩ = some (.int .u64 c.2.2.1) ∧ b < w.heap.size := by
  refine ⟨?_, ?_, ?_, ?_, ?_, (Array.getElem?_eq_some_iff.1 h).1⟩ <;> simp [World.cell?, h]
theorem cg_set {w : World} {b : Nat} {c d : Ct} (h : w.heap[b]? = some (.cells #[.int .u64 c.1.1.1, .int .u64 c.1.1.2.1, .int .u64 c.1.1.2.2, .int .u64 c.2.1.1, .int .u64 c.2.2.1] 39 (0, 0))) :
    (((((w.setCell ⟨b, 0, none⟩ (.int .u64 d.1.1.1)).setCell ⟨b, 1, none⟩ (.int .u64 d.1.1.2.1)).setCell ⟨b, 2, none⟩ (.int .u64 d.1.1.2.2)).setCell ⟨b, 3, none⟩ (.int .u64 d.2.1.1)).setCell ⟨b, 4, none⟩ (.int .u64 d.2.2.1)).heap[b]? = some (.cells #[.int .u64 d.1.1.1, .int .u64 d.1.1.2.1, .int .u64 d.1.1.2.2, .int .u64 d.2.1.1, .int .u64 d.2.2.1] 39 (0, 0)) ∧
    Kp (fun k => k = b) w (((((w.setCell ⟨b, 0, none⟩ (.int .u64 d.1.1.1)).setCell ⟨b, 1, none⟩ (.int .u64 d.1.1.2.1)).setCell ⟨b, 2, none⟩ (.int .u64 d.1.1.2.2)).setCell ⟨b, 3, none⟩ (.int .u64 d.2.1.1)).setCell ⟨b, 4, none⟩ (.int .u64 d.2.2.1)) := by
  obtain ⟨a0, k0, -⟩ := setCell_blk (k := 0) (v := .int .u64 d.1.1.1) h
  obtain ⟨a1, k1, -⟩ := setCell_blk (k := 1) (v := .int .u64 d.1.1.2.1) a0
  obtain ⟨a2, k2, -⟩ := setCell_blk (k := 2) (v := .int .u64 d.1.1.2.2) a1
  obtain ⟨a3, k3, -⟩ := setCell_blk (k := 3) (v := .int .u64 d.2.1.1) a2
  obtain ⟨a4, k4, -⟩ := setCell_blk (k := 4) (v := .int .u64 d.2.2.1) a3
  refine ⟨a4.trans ?_, (((k0.trans k1 fun _ _ h => h).trans k2 fun _ _ h => h).trans k3 fun _ _ h => h).trans k4 fun _ _ h => h⟩
  rfl
/-- The records in the order in which they are added. -/
def ord (back : Bool) (L : List Ct) : List Ct := if back then L.reverse else L
theorem ord_len (back : Bool) (L : List Ct) : (ord back L).length = L.length := by cases back <;> simp [ord]
theorem ord_perm (back : Bool) (L : List Ct) : (ord back L).Perm L := by
  cases back
  · exact List.Perm.refl _
  · exact List.reverse_perm L
theorem take_snoc {α : Type} {L : List α} {k : Nat} {x : α} (hx : L[k]? = some x) : L.take k ++ [x] = L.take (k + 1) := by rw [List.take_add_one, hx]; rfl
/-- How a Sums stands that was made behind w. -/
def Mde (w : World) (N sb : Nat) (A : List Ct) (w' : World) : Prop := Su w' (fun k => w.heap.size ≤ k) N sb A ∧ Below w.heap.size w w'
theorem Mde.add {w W W2 : World} {N sb : Nat} {A B : List Ct} (h : Mde w N sb A W) (hS : Su W2 (nw (fun k => w.heap.size ≤ k) W) (N + 3) sb B) (hK : Kp (fun k => w.heap.size ≤ k) W W2) : Mde w (N + 3) sb B W2 :=
  ⟨hS.wide fun _ hk => hk.elim (·.1) fun e => Nat.le_trans h.2.size e, h.2.trans (hK.below h.2.size fun _ h => h)⟩
theorem Mde.gr {w W W2 : World} {N sb : Nat} {A : List Ct} (h : Mde w N sb A W) (hg : Gr W W2) : Mde w N sb A W2 := ⟨h.1.below hg.below, h.2.trans (hg.below.mono h.2.size)⟩
set_option maxHeartbeats 4000000 in
set_option maxRecDepth 100000 in
theorem fill_any {v : Value} {L : List Ct} (back : Bool) (w : World) (hv : Ls EC w v L) (hL : L.length ≤ 300) :
    Calls Try.prog 6 #[v, .bool back] w fun e w' => ∃ sb, e = .returned (.pointer (some ⟨sb, 0, none⟩)) ∧ Hid (Mde w (3 * L.length) sb (ord back L) w') := by
  obtain ⟨p, c, rfl⟩ := hv.form
  obtain ⟨n, hn⟩ : ∃ n, n = L.length := ⟨_, rfl⟩
  rw [← hn] at hv hL
  rw [← hn]
  have HV := hid hv
  have HN := hid hn
  have hnw := snew_any w
  have h300 : ¬ (300 : Int) < (n : Int) := by omega
  clear hv hn
  go_enter Try.func6, Try.ntmps6
  go_wp2_with fail
  refine hnw.mono ?_
  rintro e w1 ⟨rfl, hS1, hg1⟩
  obtain ⟨sb, hsb⟩ : ∃ sb, sb = w.heap.size := ⟨_, rfl⟩
  rw [← hsb] at hS1
  rw [← hsb]
  have HM1 : Hid (Mde w 0 sb [] w1) := by
    refine ⟨?_, hg1.below⟩
    rw [hsb] at hS1
    rw [hsb]
    exact hS1
  clear hS1 hg1 hnw hsb
  go_wp2_with fail
  go_loopw [6, 7, 16] (fun _ _ s16 wr => ∃ k : Nat, k ≤ n ∧ s16 = .int .i64 (k : Nat) ∧ Hid (Mde w (3 * k) sb ((ord back L).take k) wr)) (fun _ _ s16 _ => n - (RowKit.intOf s16).toNat)
  case atStart => exact ⟨0, Nat.zero_le _, rfl, HM1.out⟩
  case round =>
    obtain ⟨k, hk, rfl, HI⟩ := hrel
    by_cases hlt : k < n
    · have hz : (k : Int) < (n : Int) := by omega
      have hk0 : (0 : Int) ≤ (k : Int) := by omega
      have hVr := HV.out.kept HI.out.2.size fun g hg => HI.out.2.block g (HV.out.blk g hg)
      obtain ⟨x, hx⟩ : ∃ x, L[k]? = some x := ⟨L[k]'(by have := HN.out; omega), by simp⟩
      obtain ⟨b1, o1, c1, e1, l1, x0, x1, x2, x3, x4⟩ := hVr.atC hx
      simp only [Value.slice.injEq] at e1
      obtain ⟨rfl, -, rfl⟩ := e1
      obtain ⟨W2, hW2⟩ : ∃ W2, W2 = wr.alloc (.cells #[.int .u64 x.1.1.1, .int .u64 x.1.1.2.1, .int .u64 x.1.1.2.2, .int .u64 x.2.1.1, .int .u64 x.2.2.1] 39) := ⟨_, rfl⟩
      obtain ⟨b3, hb3⟩ : ∃ b3, b3 = wr.heap.size := ⟨_, rfl⟩
      have G2 : Gr wr W2 := by rw [hW2]; exact (Gr.refl _).alloc _
      have hx3 : W2.heap[b3]? = some (.cells #[.int .u64 x.1.1.1, .int .u64 x.1.1.2.1, .int .u64 x.1.1.2.2, .int .u64 x.2.1.1, .int .u64 x.2.2.1] 39 (0, 0)) := by rw [hW2, hb3]; exact heap_new' _ _
      cases back with
      | false =>
        have hox : (ord false L)[k]? = some x := hx
        have HE : Hid ((ord false L).take k ++ [x] = (ord false L).take (k + 1)) := take_snoc hox
        have hadd := sadd_any x.1 x.2 W2 (HI.out.gr G2).1 (by omega)
        have HM2 := hid (HI.out.gr G2)
        obtain ⟨m0, m1, m2, m3, m4, m5⟩ := cg_cell hx3
        clear hx hox hVr hx3 G2
        go_upto_region 8 with fail
        rw [← hW2, ← hb3]
        clear hW2 hb3 x0 x1 x2 x3 x4 l1
        go_wp2_with fail
        refine hadd.mono ?_
        rintro e W3 ⟨rfl, hS3⟩
        have HM3 := hid (HM2.out.add hS3.out.1 hS3.out.2)
        clear hadd hS3
        go_wp2_with fail
        go_roundw
        case rel => exact ⟨k + 1, by omega, by simp, by have h := HM3.out; rw [show ((x.1, x.2) : Ct) = x from rfl, HE.out] at h; exact h⟩
        case measure => simp [RowKit.intOf]; omega
      | true =>
        obtain ⟨y, hy⟩ : ∃ y, L[n - 1 - k]? = some y := ⟨L[n - 1 - k]'(by have := HN.out; omega), by simp⟩
        obtain ⟨b4, o4, c4, e4, l4, y0, y1, y2, y3, y4⟩ := (hVr.below G2.below).atC hy
        simp only [Value.slice.injEq, Option.some.injEq, Addr.mk.injEq, and_true] at e4
        obtain ⟨⟨rfl, rfl⟩, -, rfl⟩ := e4
        obtain ⟨q, hq⟩ : ∃ q, q = n - 1 - k := ⟨_, rfl⟩
        rw [← hq] at y0 y1 y2 y3 y4
        have hqi : (n : Int) - 1 - (k : Int) = (q : Int) := by omega
        have hq0 : (0 : Int) ≤ (q : Int) := by omega
        have hqn : (q : Int) < (n : Int) := by omega
        have hox : (ord true L)[k]? = some y := by
          show L.reverse[k]? = some y
          rw [List.getElem?_reverse (by have := HN.out; omega), ← HN.out]
          exact hy
        have HE : Hid ((ord true L).take k ++ [y] = (ord true L).take (k + 1)) := take_snoc hox
        obtain ⟨m0, m1, m2, m3, m4, m5⟩ := cg_cell hx3
        have HX3 := hid hx3
        have hne : b1 ≠ b3 := by omega
        have fz : ∀ j, W2.frozen? ⟨b3, j, none⟩ = false := fun j => by simp [World.frozen?, hx3]
        have HIw : Hid (∀ W3, Kp (fun k => k = b3) W2 W3 → Mde w (3 * k) sb ((ord true L).take k) W3) := fun W3 hk3 => by
          refine ⟨((HI.out.1.cut.below G2.below).kp hk3 fun j hj e => ?_).wide fun j hj => hj.1, (HI.out.gr G2).2.trans (hk3.below (HI.out.gr G2).2.size fun j e => ?_)⟩
          · have := hj.2
            omega
          · rw [e, hb3]
            exact HI.out.2.size
        clear hx hox hVr hx3 G2 hy hq
        go_upto_region 8 with fail
        rw [← hW2, ← hb3]
        clear hW2 hb3 x0 x1 x2 x3 x4 l1
        go_upto_region 10 with fail
        obtain ⟨h5, k5⟩ := cg_set (d := y) HX3.out
        obtain ⟨W3, hW3⟩ : ∃ W3, W3 = (((((W2.setCell ⟨b3, 0, none⟩ (.int .u64 y.1.1.1)).setCell ⟨b3, 1, none⟩ (.int .u64 y.1.1.2.1)).setCell ⟨b3, 2, none⟩ (.int .u64 y.1.1.2.2)).setCell ⟨b3, 3, none⟩ (.int .u64 y.2.1.1)).setCell ⟨b3, 4, none⟩ (.int .u64 y.2.2.1)) := ⟨_, rfl⟩
        rw [← hW3] at h5 k5 ⊢
        clear hW3 m0 m1 m2 m3 m4 m5 y0 y1 y2 y3 y4 l4
        have HM3 := hid (HIw.out W3 k5)
        have hadd := sadd_any y.1 y.2 W3 HM3.out.1 (by omega)
        obtain ⟨m0, m1, m2, m3, m4, m5⟩ := cg_cell h5
        clear h5 k5
        go_wp2_with fail
        refine hadd.mono ?_
        rintro e W4 ⟨rfl, hS4⟩
        have HM4 := hid (HM3.out.add hS4.out.1 hS4.out.2)
        clear hadd hS4
        go_wp2_with fail
        go_roundw
        case rel => exact ⟨k + 1, by omega, by simp, by have h := HM4.out; rw [show ((y.1, y.2) : Ct) = y from rfl, HE.out] at h; exact h⟩
        case measure => simp [RowKit.intOf]; omega
    · have hz : ¬ ((k : Int) < (n : Int)) := by omega
      obtain rfl : k = n := by omega
      go_wp2
      go_ret
      exact ⟨sb, rfl, by have h := HI.out; rw [List.take_of_length_le (by rw [ord_len]; exact Nat.le_of_eq HN.out.symm)] at h; exact h⟩
end Go.Proofs.Ytijbmchgajhkeaa
