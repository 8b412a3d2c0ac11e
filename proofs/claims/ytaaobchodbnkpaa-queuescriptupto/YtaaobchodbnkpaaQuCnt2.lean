import Derived.Test.YtaaobchodbnkpaaQuCnt
import Derived.Test.YtaaobchodbnkpaaLStep2
namespace Go.Proofs.Ytaaobchodbnkpaa.Qe
open Go.RowKit Go.Sort
attribute [local go_sem ↓] Go.wp_at_zero Go.wp_at_succ

set_option maxHeartbeats 1000000 in
theorem plist_any {S : Nat → Prop} {qb N K : Nat} {Q : Nat → List Ms} (i : Nat) (hi : i < N) (w : World) (h : Pq w S qb N K Q) (hbig : (2 * K + 1) * 48 ≤ 281474976710656) : Calls Try.prog 22 #[.pointer (some ⟨qb, 0, none⟩), .int .i64 (i : Nat)] w fun e w' => ∃ g c, e = .returned (.slice (some ⟨g, 0, none⟩) (Q i).length c) ∧ Hid (w.heap.size ≤ g ∧ w'.ownsRow w.heap.size 36 6 (.slice (some ⟨g, 0, none⟩) (Q i).length c) (Q i).length (fl EM (Q i)) ∧ Below w.heap.size w w') := by
  obtain ⟨rb, C, v, f, m, X, h⟩ := h
  have hp := isPlace_any (i : Int) w h.q
  have c0 := h.q.c0
  have hl := h.q.lt
  rw [show decide (Plc N (i : Int)) = true from decide_eq_true ⟨by omega, by omega⟩] at hp
  have hli := list_any w h.p hi (by have := h.x i hi; omega) (by have := h.k i hi; omega)
  have hl2 := h.p.blk.lt
  have a1 : (0 : Int) ≤ (i : Int) := by omega
  have a2 : (i : Int) < (N : Int) := by omega
  clear h hi hbig
  go_enter Try.func22, Try.ntmps22
  go_wp2_with fail
  refine hp.mono ?_
  rintro e w1 ⟨rfl, rfl⟩
  go_wp2_with fail
  refine hli.mono ?_
  rintro e w1 ⟨c, rfl, h1⟩
  go_wp2
  go_ret
  exact ⟨_, _, rfl, Nat.le_refl _, h1.out.1, h1.out.2⟩
/-- The counts of the first places. -/
def ctsTo (Q : Nat → List Ms) : Nat → List Cg
  | 0 => []
  | p + 1 => ctsTo Q p ++ cat (p : Int) (Q p)
theorem ctsTo_len (Q : Nat → List Ms) : ∀ p, (ctsTo Q p).length ≤ sumTo (fun i => (Q i).length) p := by
  intro p
  induction p with
  | zero => exact Nat.le_refl _
  | succ p ih =>
    rw [ctsTo, sumTo, List.length_append]
    have := cat_len (p : Int) (Q p)
    omega
theorem sumTo_mono (g : Nat → Nat) {a b : Nat} (h : a ≤ b) : sumTo g a ≤ sumTo g b := by
  induction b with
  | zero => rw [show a = 0 by omega]; exact Nat.le_refl _
  | succ b ih =>
    by_cases e : a = b + 1
    · rw [e]; exact Nat.le_refl _
    · have := ih (by omega)
      rw [show sumTo g (b + 1) = sumTo g b + g b from rfl]
      omega
theorem sumTo_at (g : Nat → Nat) {i n : Nat} (h : i < n) : g i ≤ sumTo g n := by
  have h1 := sumTo_mono g (show i + 1 ≤ n from h)
  rw [show sumTo g (i + 1) = sumTo g i + g i from rfl] at h1
  omega
/-- What Counts answers. -/
def Cnts (w : World) (L : List Cg) (e : Ending) (w' : World) : Prop :=
  ∃ u, e = .returned u ∧ (∃ q c, u = .slice q L.length c) ∧ Hid (w'.ownsRow w.heap.size 51 5 u L.length (fl EC L) ∧ Below w.heap.size w w')
set_option maxHeartbeats 4000000 in
theorem counts_any {S : Nat → Prop} {qb N K : Nat} {Q : Nat → List Ms} (w : World) (h : Pq w S qb N K Q) (hbig : (2 * K + 1) * 48 ≤ 281474976710656) (hT : tot N Q * 48 ≤ 140737488355328) : Calls Try.prog 14 #[.pointer (some ⟨qb, 0, none⟩)] w (Cnts w (ctsTo Q N)) := by
  have HLI : Hid (∀ (W : World) (i : Nat), Below w.heap.size w W → i < N → Calls Try.prog 22 #[.pointer (some ⟨qb, 0, none⟩), .int .i64 (i : Nat)] W fun e w' => ∃ g c, e = .returned (.slice (some ⟨g, 0, none⟩) (Q i).length c) ∧ Hid (W.heap.size ≤ g ∧ w'.ownsRow W.heap.size 36 6 (.slice (some ⟨g, 0, none⟩) (Q i).length c) (Q i).length (fl EM (Q i)) ∧ Below W.heap.size W w')) := fun W i hB hi => plist_any i hi W (h.below hB) hbig
  have HTB : Hid (∀ j, j ≤ N → (ctsTo Q j).length * 48 ≤ 140737488355328) := fun j hj => by
    have h1 := ctsTo_len Q j
    have h2 := sumTo_mono (fun i => (Q i).length) hj
    unfold tot at hT
    show _ ≤ _
    omega
  have HQB : Hid (∀ i, i < N → (Q i).length * 48 ≤ 140737488355328) := fun i hi => by
    have h1 := sumTo_at (fun i => (Q i).length) hi
    unfold tot at hT
    show _ ≤ _
    omega
  have hN := h.n
  have hpl : Calls Try.prog 28 #[.pointer (some ⟨qb, 0, none⟩)] w fun e w' => e = .returned (.int .i64 (N : Nat)) ∧ w' = w := by
    obtain ⟨rb, C, v, f, m, X, h⟩ := h
    exact places_any w h.q
  clear h hbig hT
  unfold Cnts
  go_enter Try.func14, Try.ntmps14
  go_wp2_with fail
  refine hpl.mono ?_
  rintro e w1 ⟨rfl, rfl⟩
  clear hpl
  go_wp2_with fail
  go_loopw [3, 7] (fun s3 s7 wr => ∃ j : Nat, j ≤ N ∧ s7 = .int .i64 (j : Nat) ∧ (∃ q m c, s3 = .slice q m c) ∧ Hid (wr.ownsRow w1.heap.size 51 5 s3 (ctsTo Q j).length (fl EC (ctsTo Q j)) ∧ Below w1.heap.size w1 wr)) (fun _ s7 _ => N - (RowKit.intOf s7).toNat)
  case atStart => exact ⟨0, Nat.zero_le _, rfl, ⟨_, _, _, rfl⟩, World.ownsRow_nil _ _ _ _, (Gr.refl _).below⟩
  case round =>
    obtain ⟨j, hj, rfl, ⟨q3, m3, c3, rfl⟩, HC⟩ := hrel
    by_cases hlt : j < N
    · have hz : (j : Int) < (N : Int) := by omega
      have hc := HLI.out wr j HC.out.2 hlt
      obtain ⟨n, hn⟩ : ∃ n, n = (Q j).length := ⟨_, rfl⟩
      rw [← hn] at hc
      have HN := hid hn
      have HM : Hid (m3 = (ctsTo Q j).length) := by
        show _ = _
        rcases owns_form HC.out.1 with ⟨e, e2⟩ | ⟨g5, c5', e, _⟩
        · cases e; exact e2.symm
        · cases e; rfl
      clear hn
      go_wp2_with fail
      refine hc.mono ?_
      rintro e w2 ⟨g, c, rfl, hR⟩
      have HR := hid (And.intro hR.out.1 (And.intro hR.out.2.1 hR.out.2.2))
      clear hR hc
      have hca := countsAt_any (j : Int) (Q j) w2 (base := wr.heap.size) (g := g) (cap := c) (by rw [← HN.out]; exact HR.out.2.1) (HQB.out j hlt)
      rw [← HN.out] at hca
      go_wp2_with fail
      refine hca.mono ?_
      rintro e w3 ⟨u2, rfl, ⟨q, c2, rfl⟩, hR2⟩
      have HR2 := hid hR2.out
      have HB3 : Hid (Below w1.heap.size w1 w3) := by
        have h1 := HC.out.2.trans (HR.out.2.2.mono HC.out.2.size)
        exact h1.trans (HR2.out.2.below h1.size (fun k hk => by have := own_eq hk; have := HR.out.1; have := HC.out.2.size; omega))
      have HO3 : Hid (w3.ownsRow w1.heap.size 51 5 (.slice q3 m3 c3) m3 (fl EC (ctsTo Q j))) := by
        have h1 := owns_below HC.out.1 HR.out.2.2
        refine owns_re (owns_kp HR2.out.2 h1 (fun k hk e => ?_)) HM.out.symm rfl
        have h2 := (HC.out.1.lt k hk).2
        have h3 := own_eq e
        have h4 := HR.out.1
        omega
      have HL3 : Hid (Ls EC w3 (.slice q (cat (j : Int) (Q j)).length c2) (cat (j : Int) (Q j))) := owns_ls (E := EC) HR2.out.1
      have HBB : Hid ((m3 + (cat (j : Int) (Q j)).length) * 40 ≤ 140737488355328 ∧ m3 + (cat (j : Int) (Q j)).length ≤ maxLen) := by
        have h1 := HTB.out (j + 1) hlt
        rw [ctsTo, List.length_append, ← HM.out] at h1
        exact ⟨by omega, by unfold maxLen; omega⟩
      clear hR2 hca
      go_wp2_with (at_builtin; refine wpAppL EC Try.underlying45 infoC rfl (by decide) rfl _ _ rfl w1.heap.size _ m3 _ rfl HO3.out _ (cat (j : Int) (Q j)) rfl HL3.out HBB.out.1 HBB.out.2 HB3.out.size ?_)
      intro v4 w4 ho4 hg4
      have HO4 := hid ho4
      have HB4 : Hid (Below w1.heap.size w1 w4) := HB3.out.trans ((Kp.grownBy (S := fun k => w1.heap.size ≤ k) hg4 (fun k hk => (HO3.out.lt k hk).1)).below HB3.out.size (fun _ h => h))
      obtain ⟨q4, n4, c4, rfl⟩ : ∃ q4 n4 c4, v4 = .slice q4 n4 c4 := by
        rcases owns_form ho4 with ⟨rfl, _⟩ | ⟨g, cap, rfl, _⟩
        · exact ⟨_, _, _, rfl⟩
        · exact ⟨_, _, _, rfl⟩
      clear ho4 hg4
      go_wp2_with fail
      go_roundw
      case rel =>
        refine ⟨j + 1, hlt, by simp, ⟨_, _, _, rfl⟩, ?_, HB4.out⟩
        rw [ctsTo]
        exact owns_re HO4.out (by rw [List.length_append, ← HM.out]) (by rw [fl_append])
      case measure => simp [RowKit.intOf]; omega
    · have hz : ¬ ((j : Int) < (N : Int)) := by omega
      have hjN : j = N := by omega
      subst hjN
      go_wp2
      go_ret
      have hm : m3 = (ctsTo Q j).length := by
        rcases owns_form HC.out.1 with ⟨e, e2⟩ | ⟨g5, c5', e, _⟩
        · cases e; exact e2.symm
        · cases e; rfl
      refine ⟨_, rfl, ⟨q3, c3, by rw [hm]; rfl⟩, HC.out.1, HC.out.2⟩
end Go.Proofs.Ytaaobchodbnkpaa.Qe
