import Derived.Test.YtbomkeginbhhoaaCRef4
namespace Go.Proofs.Ytbomkeginbhhoaa
open Go.RowKit Go.Sort
attribute [local go_sem ↓] Go.wp_at_zero Go.wp_at_succ

set_option maxHeartbeats 4000000 in
set_option maxRecDepth 100000 in
theorem joined_any {cb fb ff rb : Nat} {kind : Int} {v rv u : Value} {L l : List P2} (w : World) (hc : Ch w cb fb ff v L) (hr : RCh w rb kind rv L) (hf : Fns kind fb ff) (hu : Lst w u l)
    (hcr : cb ≠ rb) (hvr : v.ownBlock ≠ some rb) (hrc : rv.ownBlock ≠ some cb) (hvv : ∀ g, v.ownBlock = some g → rv.ownBlock ≠ some g) (hap : ∀ k, u.ownBlock = some k → k ≠ cb ∧ k ≠ rb ∧ v.ownBlock ≠ some k)
    (hl : (L.length + l.length + 1) * 16 ≤ 140737488355328) :
    Calls Try.prog 30 #[.pointer (some ⟨cb, 0, none⟩), .pointer (some ⟨rb, 0, none⟩), u] w fun e w' => e = .returned (.bool true) ∧ ∃ v' rv', Ch w' cb fb ff v' (cjoin (rbel kind) (rfst kind) L l) ∧ RCh w' rb kind rv' (cjoin (rbel kind) (rfst kind) L l) ∧
      Kp (fun k => k = cb ∨ v.ownBlock = some k ∨ k = rb) w w' ∧ (∀ g, v'.ownBlock = some g → v.ownBlock = some g ∨ w.heap.size ≤ g) ∧ (∀ g, rv'.ownBlock = some g → rv.ownBlock = some g ∨ w.heap.size ≤ g) ∧ ∀ g, v'.ownBlock = some g → rv'.ownBlock ≠ some g := by
  have HU : Hid (Lst w u l) := hu
  have HC : Hid (Ch w cb fb ff v L) := hc
  have HRC : Hid (RCh w rb kind rv L) := hr
  have HAP : Hid (∀ k, u.ownBlock = some k → k ≠ cb ∧ k ≠ rb ∧ v.ownBlock ≠ some k) := hap
  have HVV : Hid (∀ g, v.ownBlock = some g → rv.ownBlock ≠ some g) := hvv
  have HVR : Hid (v.ownBlock ≠ some rb) := hvr
  have HRR : Hid (rv.ownBlock ≠ some cb) := hrc
  obtain ⟨pu, cu, rfl⟩ := hu.form
  clear hu hc hr hap hvv hvr hrc
  go_enter Try.func30, Try.ntmps30
  go_wp2_with (at_builtin; refine wpAppL rfl _ _ rfl w.heap.size (.slice none 0 0) 0 [] rfl (World.ownsRow_nil _ _ _ _) (.slice pu l.length cu) l rfl HU.out (by omega) (Nat.le_refl _) ?_)
  intro v1 w1 ho1 hg1
  have b1 : Below w.heap.size w w1 := (Kp.grownBy (S := fun _ => False) hg1 (fun k hk => by simp [Value.ownBlock] at hk)).below (Nat.le_refl _) (fun _ h => h.elim)
  have HO1 : Hid (w1.ownsRow w.heap.size 28 2 v1 l.length (flatP l)) := owns_re ho1 (by simp) (flatP_length _)
  have z1 := b1.size
  clear ho1 hg1
  go_wp2_with (at_builtin; refine wpApp1 rfl _ _ rfl w.heap.size v1 l.length _ rfl HO1.out (-77, 0) (by first | rfl | simp) (by omega) z1 ?_)
  intro g cap w2 ho2 hg2 hl2
  have b2 : Below w.heap.size w w2 := b1.trans ((Kp.grownBy (S := fun k => w.heap.size ≤ k) hg2 (fun k hk => (HO1.out.lt k hk).1)).below z1 (fun _ h => h))
  have HO2 : Hid (w2.ownsRow w.heap.size 28 2 (.slice (some ⟨g, 0, none⟩) (l.length + 1) cap) (l.length + 1) (flatP (l ++ [(-77, 0)]))) := owns_re ho2 (by rw [flatP_append, flatP_one]) (by rw [flatP_length]; simp)
  obtain ⟨hcp1, hcp2⟩ : l.length + 1 ≤ cap ∧ cap ≤ maxLen := by
    obtain ⟨_, ⟨h0, _⟩ | ⟨g', cap', cur, hv, _, _, hn, hm, _⟩⟩ := HO2.out
    · cases h0
    · cases hv; exact ⟨hn, hm⟩
  unfold maxLen at hcp2
  have hgw : w.heap.size ≤ g := (HO2.out.lt g rfl).1
  have hgl : g < w2.heap.size := (HO2.out.lt g rfl).2
  have LF2 : Hid (Lst w2 (.slice (some ⟨g, 0, none⟩) (l.length + 1) cap) (l ++ [(-77, 0)])) := owns_lst (ts := l ++ [(-77, 0)]) (by rw [List.length_append]; exact HO2.out)
  have LC2 : Hid (Lst w2 (.slice (some ⟨g, 0, none⟩) l.length cap) l) := by
    have h := LF2.out.cut (k := l.length) (by simp)
    rw [List.take_left'] at h
    · exact h
    · rfl
  have y1 : (l.length : Int) ≤ (cap : Int) := by omega
  have y2 : (0 : Int) ≤ (l.length : Int) := by omega
  have y3 : ¬ cap = 0 := by omega
  have hclt := HC.out.lt
  have hrlt := HRC.out.lt
  have hj := join_any (bel := rbel kind) (fst := rfst kind) w2 (HC.out.below b2) LC2.out (fun k hk => by
    have hk' : k = g := by simpa [Value.ownBlock] using hk.symm
    subst hk'
    exact ⟨by omega, fun e => by have := HC.out.row _ e; omega⟩) (by omega) hf.b hf.f
  clear ho2 hg2 hl2
  go_wp2_with fail
  refine hj.mono ?_
  rintro e w3 ⟨rfl, v3, c3, t3⟩
  have z2 := b2.size
  have K3 : Hid (Kp (fun k => k = cb ∨ v.ownBlock = some k) w w3) := (Kp.of_below b2).trans t3.1 (fun _ _ h => h)
  have hng : ¬ (g = cb ∨ v.ownBlock = some g) := by
    rintro (e | e)
    · omega
    · have := HC.out.row _ e; omega
  have C3 : Hid (Ch w3 cb fb ff v3 (cjoin (rbel kind) (rfst kind) L l)) := c3
  have V3 : Hid (∀ q, v3.ownBlock = some q → v.ownBlock = some q ∨ w.heap.size ≤ q) := fun q hq => (t3.2 q hq).imp id (fun h => Nat.le_trans z2 h)
  have HVG : Hid (v3.ownBlock ≠ some g) := fun e => by
    rcases t3.2 g e with h | h
    · exact hng (Or.inr h)
    · omega
  have HO3 : Hid (w3.ownsRow w.heap.size 28 2 (.slice (some ⟨g, 0, none⟩) (l.length + 1) cap) (l.length + 1) (flatP (l ++ [(-77, 0)]))) := owns_kp t3.1 HO2.out (fun k hk => by
    have hk' : k = g := by simpa [Value.ownBlock] using hk.symm
    rw [hk']; exact hng)
  have R3 : RCh w3 rb kind rv L := HRC.out.kp K3.out (fun h => by rcases h with h | h; exact hcr h.symm; exact HVR.out h) (fun k hk h => by
    rcases h with h | h
    · exact HRR.out (h ▸ hk)
    · exact HVV.out k h hk)
  have U3 : Lst w3 (.slice pu l.length cu) l := K3.out.lst HU.out (fun k hk h => by
    obtain ⟨h1, h2, h3⟩ := HAP.out k hk
    rcases h with h | h
    · exact h1 h
    · exact h3 h)
  have z3 := K3.out.size
  have hrj := rjoin_any w3 R3 U3 (fun k hk => (HAP.out k hk).2.1) (by omega)
  have HU3 : Hid (Lst w3 (.slice pu l.length cu) l) := U3
  have hgl3 : g < w3.heap.size := (HO3.out.lt g rfl).2
  clear hj c3 t3 R3 U3 hng LF2 LC2 HO2 b2 hgl HO1 b1 z1
  go_wp2_with fail
  refine hrj.mono ?_
  rintro e w4 ⟨rfl, rv4, r4, k4, g4⟩
  have K4 : Hid (Kp (fun k => k = cb ∨ v.ownBlock = some k ∨ k = rb) w w4) := ((K3.out.trans (Kp.refl (fun _ => False) w3) (fun _ _ h => (h : False).elim)).block |> fun hb => ⟨K3.out.os, K3.out.tape, K3.out.output, K3.out.size, fun k hk hn => hb k hk (fun h => hn (h.imp id Or.inl))⟩ : Kp (fun k => k = cb ∨ v.ownBlock = some k ∨ k = rb) w w3).trans k4 (fun _ _ h => Or.inr (Or.inr h))
  have C4 : Hid (Ch w4 cb fb ff v3 (cjoin (rbel kind) (rfst kind) L l)) := C3.out.kp k4 hcr (fun k hk e => by
    subst e
    rcases V3.out _ hk with h | h
    · exact HVR.out h
    · omega)
  have R4 : Hid (RCh w4 rb kind rv4 (cjoin (rbel kind) (rfst kind) L l)) := r4
  have HO4 : Hid (w4.ownsRow w.heap.size 28 2 (.slice (some ⟨g, 0, none⟩) (l.length + 1) cap) (l.length + 1) (flatP (l ++ [(-77, 0)]))) := owns_kp k4 HO3.out (fun k hk e => by
    have hk' : k = g := by simpa [Value.ownBlock] using hk.symm
    omega)
  have U4 : Hid (Lst w4 (.slice pu l.length cu) l) := k4.lst HU3.out (fun k hk h => (HAP.out k hk).2.1 h)
  have G4 : Hid (∀ q, rv4.ownBlock = some q → rv.ownBlock = some q ∨ w3.heap.size ≤ q) := g4
  have L4 : Hid (Lst w4 (.slice (some ⟨g, 0, none⟩) (l.length + 1) cap) (l ++ [(-77, 0)])) := owns_lst (ts := l ++ [(-77, 0)]) (by rw [List.length_append]; exact HO4.out)
  have LC4 : Hid (Lst w4 (.slice (some ⟨g, 0, none⟩) l.length cap) l) := by
    have h := L4.out.cut (k := l.length) (by simp)
    rw [List.take_left' rfl] at h
    exact h
  have hsm := same_any _ _ l l w4 LC4.out U4.out (by unfold maxLen; omega)
  rw [decide_eq_true rfl] at hsm
  generalize cnum (rbel kind) (rfst kind) L l = N at *
  clear hrj r4 k4 g4 HO3 HU3
  go_wp2_with fail
  refine hsm.mono ?_
  rintro e w5 ⟨rfl, hg5⟩
  have HO5 : Hid (w5.ownsRow w.heap.size 28 2 (.slice (some ⟨g, 0, none⟩) (l.length + 1) cap) (l.length + 1) (flatP (l ++ [(-77, 0)]))) := owns_below HO4.out hg5.below
  have L5 := L4.out.below hg5.below
  obtain ⟨b2, o2, c2, e2, zz, x1, x2⟩ := L5.at2 (j := l.length) (t := (-77, 0)) (by simp)
  simp only [Value.slice.injEq, Option.some.injEq, Addr.mk.injEq, and_true] at e2
  obtain ⟨⟨rfl, rfl⟩, -, rfl⟩ := e2
  rw [Nat.zero_add] at x1
  have y5 : (l.length : Int) < (l.length : Int) + 1 := by omega
  have y6 : (l.length : Int) < ((l.length + 1 : Nat) : Int) := by omega
  have HG5 : Hid (Gr w4 w5) := hg5
  clear hsm x2 L5 hg5
  go_wp2_with fail
  go_loopw [10] (fun s10 wr => ∃ (i : Nat) (M : List P2), i ≤ l.length + 1 ∧ s10 = .int .i64 i ∧ M.length = l.length + 1 ∧ Hid (wr.ownsRow 0 28 2 (.slice (some ⟨g, 0, none⟩) (l.length + 1) cap) (l.length + 1) (flatP M) ∧ Kp (fun k => k = g) w5 wr)) (fun s10 _ => l.length + 1 - (RowKit.intOf s10).toNat)
  case atStart => exact ⟨0, l ++ [(-77, 0)], Nat.zero_le _, rfl, by simp, owns_base HO5.out (Nat.zero_le _), Kp.refl _ _⟩
  case round =>
    clear x1 y5 y6
    obtain ⟨i, M, hi, rfl, hM, HI⟩ := hrel
    by_cases hlt : i < l.length + 1
    · have hltz : (i : Int) < (l.length : Int) + 1 := by omega
      have hltz2 : (i : Int) < ((l.length + 1 : Nat) : Int) := by omega
      obtain ⟨y, hy⟩ : ∃ y, M[i]? = some y := ⟨M[i]'(by omega), by simp⟩
      obtain ⟨b3, o3, c3, e3, z3', x1, x2⟩ := (owns_lst (ts := M) (by rw [hM]; exact HI.out.1)).at2 hy
      simp only [Value.slice.injEq, Option.some.injEq, Addr.mk.injEq, and_true] at e3
      obtain ⟨⟨rfl, rfl⟩, -, rfl⟩ := e3
      rw [Nat.zero_add] at x1 x2
      obtain ⟨f1, f2⟩ : wr.frozen? ⟨g, i * 2, none⟩ = false ∧ wr.frozen? ⟨g, i * 2 + 1, none⟩ = false := by
        obtain ⟨_, ⟨h0, _⟩ | ⟨g', cap', cur, hv, _, hgg, _⟩⟩ := id HI.out.1
        · cases h0
        · cases hv; simp [World.frozen?, hgg]
      clear hy
      go_wp2
      obtain ⟨ho3, hk3⟩ := owns_set2 (k := i) (501, (i : Int)) HI.out.1
      exact ⟨⟨i + 1, M.set i (501, (i : Int)), by omega, by go_num, by simp [hM], ho3, HI.out.2.trans hk3 (fun _ _ h => h)⟩, by simp [RowKit.intOf]; omega⟩
    · have hltz : ¬ (i : Int) < (l.length : Int) + 1 := by omega
      have hltz2 : ¬ (i : Int) < ((l.length + 1 : Nat) : Int) := by omega
      go_wp2
      go_ret
      have hk := HI.out.2
      have zg := HG5.out.size
      have K5 : Kp (fun k => k = g) w4 wr := (Kp.of_below HG5.out.below).trans hk (fun _ _ h => h)
      have hgne : ∀ q, v3.ownBlock = some q → q ≠ g := fun q hq e => by
        subst e
        exact HVG.out hq
      refine ⟨rfl, v3, C4.out.kp K5 (by omega) hgne, rv4, R4.out.kp K5 (by omega) (fun q hq e => by
        subst e
        rcases G4.out _ hq with h | h
        · have := HRC.out.row _ h; omega
        · omega), K4.out.trans K5 (fun j hj h => by omega), V3.out, fun q hq => (G4.out q hq).imp id (fun h => Nat.le_trans z3 h), fun q hq h => ?_⟩
      rcases G4.out q h with h1 | h1
      · rcases V3.out q hq with h2 | h2
        · exact HVV.out q h2 h1
        · have := HRC.out.row _ h1; omega
      · have := C3.out.row q hq; omega
end Go.Proofs.Ytbomkeginbhhoaa
