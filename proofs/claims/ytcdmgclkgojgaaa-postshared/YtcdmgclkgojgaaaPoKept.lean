import Derived.Test.YtcdmgclkgojgaaaPoLinkO
namespace Go.Proofs.Ytcdmgclkgojgaaa.Po
open Go.RowKit Go.Sort
attribute [local go_sem ↓] Go.wp_at_zero Go.wp_at_succ
theorem and_bounds (x : Int) (k : Nat) (hk : k < 9223372036854775808) : 0 ≤ bits .and .i64 x (k : Int) ∧ bits .and .i64 x (k : Int) ≤ (k : Int) := by
  have h : (BitVec.ofInt IntKind.i64.bits x &&& BitVec.ofInt IntKind.i64.bits (k : Int)).toNat ≤ k := by
    rw [BitVec.toNat_and]
    refine Nat.le_trans Nat.and_le_right ?_
    rw [BitVec.toNat_ofInt]
    show ((k : Int) % ((2 ^ 64 : Nat) : Int)).toNat ≤ k
    omega
  show 0 ≤ IntKind.i64.wrap ((BitVec.ofInt IntKind.i64.bits x &&& BitVec.ofInt IntKind.i64.bits (k : Int)).toNat : Int) ∧ IntKind.i64.wrap ((BitVec.ofInt IntKind.i64.bits x &&& BitVec.ofInt IntKind.i64.bits (k : Int)).toNat : Int) ≤ (k : Int)
  generalize (BitVec.ofInt IntKind.i64.bits x &&& BitVec.ofInt IntKind.i64.bits (k : Int)).toNat = n at h
  rw [IntKind.wrap_i64]
  omega
/-- Where a step goes. -/
def fo (x : Th) : Int := bits .and .i64 x.2.2.1 7
def ti (x : Th) : Int := bits .and .i64 x.2.2.2.1 7
theorem fo_bd (x : Th) : 0 ≤ fo x ∧ fo x ≤ 7 := and_bounds x.2.2.1 7 (by decide)
theorem ti_bd (x : Th) : 0 ≤ ti x ∧ ti x ≤ 7 := and_bounds x.2.2.2.1 7 (by decide)
/-- How many go on a link. -/
def cn (l : List Th) : Nat := (l.filter fun x => decide (fo x ≠ ti x)).length
theorem cn_nil : cn [] = 0 := rfl
theorem cn_take {l : List Th} {k : Nat} {x : Th} (h : l[k]? = some x) : cn (l.take (k + 1)) = cn (l.take k) + (if fo x ≠ ti x then 1 else 0) := by
  unfold cn
  rw [List.take_add_one, h]
  by_cases e : fo x = ti x <;> simp [e]
theorem cn_le (l : List Th) : cn l ≤ l.length := List.length_filter_le _ _
theorem cn_take_le (l : List Th) (k : Nat) : cn (l.take k) ≤ cn l := ((List.take_sublist k l).filter _).length_le
set_option maxHeartbeats 2000000 in
theorem kept_any (v : Value) (l : List Th) (w : World) (hL : Ls ET w v l) (hlen : l.length * 40 ≤ 140737488351232) :
    Calls Try.prog 19 #[v] w fun e w' => ∃ p c, e = .returned (.slice p (cn l) c) ∧ Below w.heap.size w w' := by
  have hmx : Try.prog.follows .mixedOrders = true := by kernel_rfl
  obtain ⟨pa, ca, rfl⟩ := hL.form
  have HL : Hid (Ls ET w (.slice pa l.length ca) l) := hL
  have hlb : l.length ≤ 3518437208784 := by omega
  clear hL hlen
  go_enter Try.func19, Try.ntmps19
  go_wp2_with fail
  go_loopw [3, 4] (fun s3 s4 wr => ∃ (i : Nat) (L : List Th) (p : Option Addr) (c : Nat), i ≤ l.length ∧ s4 = .int .i64 i ∧ s3 = .slice p (cn (l.take i)) c ∧ Hid (L.length = cn (l.take i) ∧ wr.ownsRow w.heap.size 28 5 (.slice p (cn (l.take i)) c) L.length (fl ET L) ∧ Below w.heap.size w wr)) (fun _ s4 _ => l.length - (RowKit.intOf s4).toNat)
  case atStart => exact ⟨0, [], none, 0, Nat.zero_le _, rfl, rfl, rfl, owns_nil _ _ _ _, (Gr.refl _).below⟩
  case round =>
    obtain ⟨i, L, p, c, hi, rfl, rfl, H⟩ := hrel
    by_cases hlt : i < l.length
    · have hltz : (i : Int) < (l.length : Int) := by omega
      have i0 : (0 : Int) ≤ (i : Int) := by omega
      obtain ⟨x, hx⟩ : ∃ x, l[i]? = some x := ⟨l[i], by rw [List.getElem?_eq_getElem]⟩
      have HCT := hid (cn_take hx)
      have HCL : Hid (cn (l.take i) ≤ i) := by
        have := cn_le (l.take i)
        rw [List.length_take] at this
        show _ ≤ _
        omega
      obtain ⟨b1, o1, c1, e1, z1, x0, x1, x2, x3, x4⟩ := ls_at (HL.out.below H.out.2.2) hx
      simp only [Value.slice.injEq] at e1
      obtain ⟨rfl, -, rfl⟩ := e1
      have hF : bits .and .i64 x.2.2.1 7 = fo x := rfl
      have hT : bits .and .i64 x.2.2.2.1 7 = ti x := rfl
      obtain ⟨nc, hnc⟩ : ∃ nc, nc = cn (l.take i) := ⟨_, rfl⟩
      rw [← hnc] at HCT HCL H ⊢
      have HNC := hid hnc
      clear hx hnc
      by_cases hne : fo x = ti x
      · have hneb : (fo x != ti x) = false := by simp [hne]
        have HE : Hid (cn (l.take (i + 1)) = nc) := by have := HCT.out; rw [if_neg (by simp [hne])] at this; exact this
        clear hne
        go_wp2_with fail
        go_quiet (fail)
        have H2 : Hid (L.length = nc ∧ (wr.drewN nq).ownsRow w.heap.size 28 5 (.slice p nc c) L.length (fl ET L) ∧ Below w.heap.size w (wr.drewN nq)) := ⟨H.out.1, owns_below H.out.2.1 ((Gr.refl wr).drewN nq).below, H.out.2.2.trans (((Gr.refl wr).drewN nq).below.mono H.out.2.2.size)⟩
        generalize wr.drewN nq = w2 at *
        clear x0 x1 x2 x3 x4 hF hT
        go_wp2_with fail
        go_roundw
        case rel => exact ⟨i + 1, L, p, c, hlt, by simp, by rw [HE.out], by show _ ∧ _; rw [HE.out]; exact H2.out⟩
        case measure => simp [RowKit.intOf]; omega
      · have hneb : (fo x != ti x) = true := by simp [hne]
        have HE : Hid (cn (l.take (i + 1)) = nc + 1) := by have := HCT.out; rw [if_pos hne] at this; exact this
        clear hne
        go_wp2_with fail
        go_quiet (fail)
        have H2 : Hid (L.length = nc ∧ (wr.drewN nq).ownsRow w.heap.size 28 5 (.slice p nc c) L.length (fl ET L) ∧ Below w.heap.size w (wr.drewN nq)) := ⟨H.out.1, owns_below H.out.2.1 ((Gr.refl wr).drewN nq).below, H.out.2.2.trans (((Gr.refl wr).drewN nq).below.mono H.out.2.2.size)⟩
        have x0 : (wr.drewN nq).cell? _ = _ := x0
        have x1 : (wr.drewN nq).cell? _ = _ := x1
        have x2 : (wr.drewN nq).cell? _ = _ := x2
        have x3 : (wr.drewN nq).cell? _ = _ := x3
        have x4 : (wr.drewN nq).cell? _ = _ := x4
        have z1 : b1 < (wr.drewN nq).heap.size := z1
        generalize wr.drewN nq = w2 at *
        clear hF hT
        go_wp2_with (at_builtin; refine wpApp1 ET Try.underlying22 infoO rfl (by decide) rfl _ _ rfl w.heap.size _ L.length _ rfl H2.out.2.1 x (by first | rfl | (go_simp; done)) (by have h1 := H2.out.1; have h2 := HCL.out; omega) (by have h1 := H2.out.1; have h2 := HCL.out; unfold maxLen; omega) H2.out.2.2.size _ rfl _ ?_)
        intro g cap w3 ho3 hg3 hn3
        have H3 : Hid ((L ++ [x]).length = nc + 1 ∧ w3.ownsRow w.heap.size 28 5 (.slice (some ⟨g, 0, none⟩) (nc + 1) cap) (L ++ [x]).length (fl ET (L ++ [x])) ∧ Below w.heap.size w w3) := by
          refine ⟨by simp [H2.out.1], ?_, H2.out.2.2.trans ((Kp.grownBy (S := fun k => w.heap.size ≤ k) hg3 (fun k hk => (H2.out.2.1.lt k hk).1)).below H2.out.2.2.size (fun _ h => h))⟩
          rw [← H2.out.1]
          exact owns_re ho3 (by simp) (by rw [fl_append, fl_one])
        have HLE := hid H2.out.1
        rw [HLE.out]
        clear ho3 hg3 hn3 x0 x1 x2 x3 x4 z1
        go_wp2_with fail
        go_roundw
        case rel => exact ⟨i + 1, L ++ [x], _, _, hlt, by simp, by rw [HE.out], by show _ ∧ _; rw [HE.out]; exact H3.out⟩
        case measure => simp [RowKit.intOf]; omega
    · have hltz : ¬ (i : Int) < (l.length : Int) := by omega
      have hil : l.take i = l := List.take_of_length_le (by omega)
      rw [hil] at H ⊢
      go_wp2
      go_ret
      exact ⟨⟨_, _, rfl⟩, H.out.2.2⟩
end Go.Proofs.Ytcdmgclkgojgaaa.Po
