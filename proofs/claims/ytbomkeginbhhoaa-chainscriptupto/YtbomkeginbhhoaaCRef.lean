import Derived.Test.YtbomkeginbhhoaaCLeast
namespace Go.Proofs.Ytbomkeginbhhoaa
open Go.RowKit Go.Sort
attribute [local go_sem ↓] Go.wp_at_zero Go.wp_at_succ

/-- The document's chain: its number and its list. -/
structure RCh (w : World) (rb : Nat) (kind : Int) (v : Value) (l : List P2) : Prop where
  blk : w.heap[rb]? = some (.cells #[.int .i64 kind, v] 51 (0, 0))
  own : w.ownsRow 0 28 2 v l.length (flatP l)
  off : v.ownBlock ≠ some rb
section
variable {w w' : World} {rb : Nat} {kind : Int} {v : Value} {l : List P2}
theorem RCh.lt (h : RCh w rb kind v l) : rb < w.heap.size := (Array.getElem?_eq_some_iff.1 h.blk).1
theorem RCh.c0 (h : RCh w rb kind v l) : w.cell? ⟨rb, 0, none⟩ = some (.int .i64 kind) := by simp [World.cell?, h.blk]
theorem RCh.c1 (h : RCh w rb kind v l) : w.cell? ⟨rb, 1, none⟩ = some v := by simp [World.cell?, h.blk]
theorem RCh.fz (h : RCh w rb kind v l) : w.frozen? ⟨rb, 1, none⟩ = false := by simp [World.frozen?, h.blk]
theorem RCh.lst (h : RCh w rb kind v l) : Lst w v l := owns_lst h.own
theorem RCh.row (h : RCh w rb kind v l) : ∀ k, v.ownBlock = some k → k < w.heap.size := fun k hk => (h.own.lt k hk).2
theorem RCh.kp {S : Nat → Prop} (h : RCh w rb kind v l) (hk : Kp S w w') (h1 : ¬ S rb) (h2 : ∀ k, v.ownBlock = some k → ¬ S k) : RCh w' rb kind v l :=
  ⟨(hk.block rb h.lt h1).trans h.blk, owns_kp hk h.own h2, h.off⟩
theorem RCh.below (h : RCh w rb kind v l) (hb : Below w.heap.size w w') : RCh w' rb kind v l := h.kp (S := fun _ => False) (Kp.of_below hb) (fun h => h) (fun _ _ h => h)
theorem RCh.set {v2 : Value} {l2 : List P2} (h : RCh w rb kind v l) (ho : w.ownsRow 0 28 2 v2 l2.length (flatP l2)) (hoff : v2.ownBlock ≠ some rb) : RCh (w.setCell ⟨rb, 1, none⟩ v2) rb kind v2 l2 ∧ Kp (fun k => k = rb) w (w.setCell ⟨rb, 1, none⟩ v2) := by
  have e := setCell_eq_setRow w rb 1 _ _ _ v2 h.blk
  have hk : Kp (fun k => k = rb) w (w.setCell ⟨rb, 1, none⟩ v2) := by
    rw [e]
    exact ⟨rfl, rfl, rfl, by simp [World.setRow], fun k _ hne => setRow_other w rb k _ (by omega)⟩
  refine ⟨⟨?_, owns_kp hk ho (fun k hk he => hoff (he ▸ hk)), hoff⟩, hk⟩
  rw [e, setRow_heap w rb _ _ _ _ h.blk]
  simp
end
theorem ccov_take_succ {bel : P2 → P2 → Bool} {l : List P2} {x y : P2} {k : Nat} (h : l[k]? = some y) : ccov bel (l.take (k + 1)) x = (ccov bel (l.take k) x || bel y x) := take_any h

set_option maxHeartbeats 2000000 in
set_option maxRecDepth 100000 in
theorem rcovers_any {rb : Nat} {kind : Int} {v : Value} {l : List P2} (x : P2) (w : World) (hc : RCh w rb kind v l) (hl : l.length * 16 ≤ 140737488355328) :
    Calls Try.prog 31 #[.pointer (some ⟨rb, 0, none⟩), pv x] w fun e w' => e = .returned (.bool (ccov (rbel kind) l x)) ∧ Gr w w' := by
  have hmx : Try.prog.follows .mixedOrders = true := by kernel_rfl
  obtain ⟨pl, cl, rfl⟩ := hc.lst.form
  have BX0 := Bx.new w x
  have G0 : Gr w (w.alloc (.cells #[.int .i64 x.1, .int .i64 x.2] 28)) := (Gr.refl _).alloc _
  obtain ⟨bx, hbx⟩ : ∃ bx, bx = w.heap.size := ⟨_, rfl⟩
  have HC : Hid (RCh w rb kind (.slice pl l.length cl) l) := hc
  have HX : Hid (∀ W, Gr (w.alloc (.cells #[.int .i64 x.1, .int .i64 x.2] 28)) W → Bx W bx x) := fun W hW => by rw [hbx]; exact BX0.below hW.below BX0.1
  obtain ⟨r, hr⟩ : ∃ r, r = ccov (rbel kind) l x := ⟨_, rfl⟩
  rw [← hr]
  have HR : Hid (r = ccov (rbel kind) l x) := hr
  clear hc BX0 hr
  go_enter Try.func31, Try.ntmps31
  go_wp2_with fail
  rw [← hbx]
  clear hbx
  go_loopw [5] (fun s5 wr => ∃ k : Nat, k ≤ l.length ∧ s5 = .int .i64 k ∧ Hid (Gr (w.alloc (.cells #[.int .i64 x.1, .int .i64 x.2] 28)) wr ∧ ccov (rbel kind) (l.take k) x = false)) (fun s5 _ => l.length - (RowKit.intOf s5).toNat)
  case atStart => exact ⟨0, Nat.zero_le _, rfl, Gr.refl _, rfl⟩
  case round =>
    obtain ⟨k, hk, rfl, HI⟩ := hrel
    have G1 : Gr w wr := G0.trans HI.out.1
    have C1 := HC.out.below G1.below
    have k0 := C1.c0
    have k1 := C1.c1
    have kl := C1.lt
    by_cases hlt : k < l.length
    · have hltz : (k : Int) < (l.length : Int) := by omega
      obtain ⟨y, hy⟩ : ∃ y, l[k]? = some y := ⟨l[k], by simp⟩
      obtain ⟨b1, o1, c1, e1, z1, y1, y2⟩ := C1.lst.at2 hy
      simp only [Value.slice.injEq] at e1
      obtain ⟨rfl, -, rfl⟩ := e1
      obtain ⟨g1, g2⟩ := (HX.out wr HI.out.1).grown
      have g3 := cell_grown (a := ⟨b1, o1 + k * 2, none⟩) z1 y1
      have g4 := cell_grown (a := ⟨b1, o1 + k * 2 + 1, none⟩) z1 y2
      have g5 := cell_grown (a := ⟨rb, 0, none⟩) kl k0
      have g6 := cell_grown (a := ⟨rb, 1, none⟩) kl k1
      have HY : Hid (ccov (rbel kind) (l.take (k + 1)) x = (ccov (rbel kind) (l.take k) x || rbel kind y x)) := ccov_take_succ hy
      have HMY : Hid (y ∈ l) := List.mem_of_getElem? hy
      have hb := fun W => Below_any kind y x W
      clear hy y1 y2 C1
      cases hq : rbel kind y x with
      | true =>
        rw [hq] at hb
        have HQ : Hid (rbel kind y x = true) := hq
        clear hq
        go_wp2_with fail
        clear k0 k1
        go_quiet_grown (first | (go_at_call 20; refine Calls.grown_of (v := .bool true) (hb _)))
        go_wp2
        go_ret
        exact ⟨by rw [HR.out, ccov_true.2 ⟨y, HMY.out, HQ.out⟩]; rfl, (G1.drewN _).grown _⟩
      | false =>
        rw [hq] at hb
        have HQ : Hid (rbel kind y x = false) := hq
        clear hq
        go_wp2_with fail
        clear k0 k1
        go_quiet_grown (first | (go_at_call 20; refine Calls.grown_of (v := .bool false) (hb _)))
        go_wp2
        exact ⟨⟨k + 1, by omega, by go_num, (HI.out.1.drewN _).grown _, by rw [HY.out, HI.out.2, HQ.out]; rfl⟩, by simp [RowKit.intOf]; omega⟩
    · have hltz : ¬ (k : Int) < (l.length : Int) := by omega
      have h1 := HI.out.2
      rw [List.take_of_length_le (by omega)] at h1
      have H1 : Hid (ccov (rbel kind) l x = false) := h1
      clear h1
      go_wp2
      go_ret
      exact ⟨by rw [HR.out, H1.out]; rfl, G1⟩
end Go.Proofs.Ytbomkeginbhhoaa
