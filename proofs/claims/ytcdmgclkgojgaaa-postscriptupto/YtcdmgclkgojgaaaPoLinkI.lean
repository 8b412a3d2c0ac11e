import Derived.Test.YtcdmgclkgojgaaaPoBaseI
import Derived.Deep.RegionLaw
import Derived.Deep.RegionWith
namespace Go.Proofs.Ytcdmgclkgojgaaa.Pi
open Go.RowKit Go.Sort
attribute [local go_sem ↓] Go.wp_at_zero Go.wp_at_succ

theorem infoI : (Try.prog.info? 3).map (fun i => (i.zero, i.size, i.bytes)) = some (some (.int .i64 0), 1, 8) := by kernel_rfl
/-- A row's value: none, or all of a block. -/
theorem owns_form {w : World} {e s n : Nat} {v : Value} {xs : List Value} (h : w.ownsRow 0 e s v n xs) : (v = .slice none 0 0 ∧ n = 0) ∨ ∃ g cap, v = .slice (some ⟨g, 0, none⟩) n cap ∧ n ≤ cap ∧ cap ≤ maxLen ∧ g < w.heap.size := by
  obtain ⟨h1, ⟨h0, h2⟩ | ⟨g', cap', cur, hv, _, hh, hn, hm, _⟩⟩ := h
  · exact Or.inl ⟨h0, h2⟩
  · exact Or.inr ⟨g', cap', hv, hn, hm, (Array.getElem?_eq_some_iff.1 hh).1⟩

set_option maxHeartbeats 2000000 in
theorem on_any {hb o tk : Nat} {v : Value} {X : List Th} (w : World) (hown : w.ownsRow 0 3 1 v X.length (fl ET X)) (hle : tk ≤ X.length) :
    ∃ p c, Ls ET w (.slice p (X.length - tk : Nat) c) (X.drop tk) ∧ ∀ W : World, hb < W.heap.size → W.cell? ⟨hb, o, none⟩ = some v → W.cell? ⟨hb, o + 1, none⟩ = some (.int .i64 (tk : Nat)) → Calls Try.prog 53 #[.pointer (some ⟨hb, o, none⟩)] W fun e w' => e = .returned (.slice p (X.length - tk : Nat) c) ∧ ∃ m, w' = W.drewN m := by
  have hmx : Try.prog.follows .mixedOrders = true := by kernel_rfl
  have HL : Hid (Ls ET w v X) := owns_ls (E := ET) hown
  rcases owns_form hown with ⟨rfl, h0⟩ | ⟨g, cap, rfl, h1, h2, h3⟩
  · have ht : tk = 0 := by omega
    have hX : X = [] := List.eq_nil_of_length_eq_zero h0
    subst ht; subst hX
    refine ⟨none, 0, Ls.nil _, fun W hl c0 c1 => ?_⟩
    clear hown h0 hle
    go_enter Try.func53, Try.ntmps53
    go_wp2_with fail
    go_quiet (fail)
    go_wp2
    go_ret
    exact ⟨rfl, _, rfl⟩
  · have a1 : (0 : Int) ≤ (tk : Int) := by omega
    have a2 : (tk : Int) ≤ (X.length : Int) := by omega
    have a3 : (X.length : Int) ≤ (cap : Int) := by omega
    unfold maxLen at h2
    clear hown
    by_cases hc : cap = tk
    · have hX : X.length = tk := by omega
      have HX : Hid (X.length = tk) := hX
      subst hc
      have HL2 := hid (HL.out.void (k := cap) (by omega) 0)
      refine ⟨some ⟨g, 0, none⟩, 0, HL2.out, fun W hl c0 c1 => ?_⟩
      clear hX hle
      generalize X.length = n at *
      go_enter Try.func53, Try.ntmps53
      go_wp2_with fail
      go_quiet (fail)
      go_wp2
      go_ret
      refine ⟨?_, _, rfl⟩
      rw [show n - cap = 0 by have := HX.out; omega]
      rfl
    · have HL2 := hid (HL.out.tail (k := tk) (cap - tk))
      have hc2 : ¬ (cap - tk = 0) := by omega
      refine ⟨some ⟨g, tk, none⟩, cap - tk, ?_, fun W hl c0 c1 => ?_⟩
      · have := HL2.out
        rw [show 0 + tk * ET.k = tk by simp [ET]] at this
        exact this
      clear hle HL HL2
      generalize X.length = n at *
      go_enter Try.func53, Try.ntmps53
      go_wp2_with fail
      go_quiet (fail)
      go_wp2
      go_ret
      exact ⟨rfl, _, rfl⟩

theorem owns_nil (w : World) (base e s : Nat) : w.ownsRow base e s (.slice none 0 0) 0 [] := ⟨by simp, Or.inl ⟨rfl, rfl⟩⟩
set_option maxHeartbeats 2000000 in
theorem copied_any {hb o tk : Nat} {v : Value} {X : List Th} (w : World) (hl : hb < w.heap.size) (c0 : w.cell? ⟨hb, o, none⟩ = some v) (c1 : w.cell? ⟨hb, o + 1, none⟩ = some (.int .i64 (tk : Nat))) (hown : w.ownsRow 0 3 1 v X.length (fl ET X)) (hle : tk ≤ X.length) (hbig : X.length * 8 ≤ 140737488355328) :
    Calls Try.prog 51 #[.pointer (some ⟨hb, o, none⟩)] w fun e w' => ∃ v', e = .returned (.agg #[v', .int .i64 0]) ∧ w'.ownsRow w.heap.size 3 1 v' (X.drop tk).length (fl ET (X.drop tk)) ∧ Below w.heap.size w w' := by
  have hmx : Try.prog.follows .mixedOrders = true := by kernel_rfl
  obtain ⟨p, c, hL, hon⟩ := on_any (hb := hb) (o := o) (tk := tk) w hown hle
  obtain ⟨b1, hb1⟩ : ∃ b1, b1 = w.heap.size := ⟨_, rfl⟩
  obtain ⟨W1, hW1⟩ : ∃ W1, W1 = w.alloc (.cells #[.slice none 0 0, .int .i64 0] 94) := ⟨_, rfl⟩
  have G1 : Gr w W1 := by rw [hW1]; exact (Gr.refl _).alloc _
  have hon1 := hon W1 (Nat.lt_of_lt_of_le hl G1.size) ((G1.cell hl).trans c0) ((G1.cell hl).trans c1)
  have HBX : Hid (W1.heap[b1]? = some (.cells #[.slice none 0 0, .int .i64 0] 94 (0, 0))) := by rw [hW1, hb1]; exact heap_new' _ _
  have HL1 : Hid (Ls ET w (.slice p (X.length - tk) c) (X.drop tk)) := hL
  have HG1 : Hid (Gr w W1) := G1
  have HB1 : Hid (w.heap.size ≤ b1 ∧ b1 < W1.heap.size) := ⟨by omega, (Array.getElem?_eq_some_iff.1 HBX.out).1⟩
  have HN : Hid ((X.drop tk).length = X.length - tk) := by show _ = _; simp
  have HBG : Hid ((0 + (X.drop tk).length) * 8 ≤ 140737488355328 ∧ 0 + (X.drop tk).length ≤ maxLen) := by
    constructor
    · refine Nat.le_trans (Nat.mul_le_mul_right _ ?_) hbig
      simp
    · unfold maxLen; simp; omega
  clear hon hL G1 c0 c1 hown
  go_enter Try.func51, Try.ntmps51
  go_upto_region 1 with fail
  rw [← hW1, ← hb1]
  clear hW1 hb1
  go_wp2_with fail
  refine hon1.mono ?_
  rintro e w1 ⟨rfl, m1, hm1⟩
  have hg1 : Gr W1 w1 := by rw [hm1]; exact (Gr.refl _).drewN _
  clear hm1
  have HG2 : Hid (Gr W1 w1) := hg1
  have HLW : Hid (Ls ET w1 (.slice p (X.length - tk) c) (X.drop tk)) := HL1.out.below (HG1.out.trans hg1).below
  have hsz : Hid (w.heap.size ≤ w1.heap.size) := (HG1.out.trans hg1).size
  clear hg1 hon1
  go_wp2_with (at_builtin; refine wpAppL ET Try.underlying63 infoI rfl (by decide) rfl _ _ rfl w1.heap.size _ 0 [] rfl (owns_nil _ _ _ _) _ (X.drop tk) rfl HLW.out HBG.out.1 HBG.out.2 (Nat.le_refl _) ?_)
  intro v2 w2 ho2 hg2
  have hB2 : Below w1.heap.size w1 w2 := (Kp.grownBy (S := fun _ => False) hg2 (fun k hk => by simp [Value.ownBlock] at hk)).below (Nat.le_refl _) (fun _ h => h.elim)
  have hbl : b1 < w1.heap.size := Nat.lt_of_lt_of_le HB1.out.2 HG2.out.size
  have hbk : w2.heap[b1]? = some (.cells #[.slice none 0 0, .int .i64 0] 94 (0, 0)) := (hB2.block b1 hbl).trans ((HG2.out.below.block b1 HB1.out.2).trans HBX.out)
  have k0 : w2.cell? ⟨b1, 0, none⟩ = some (.slice none 0 0) := by simp [World.cell?, hbk]
  have k1 : w2.cell? ⟨b1, 1, none⟩ = some (.int .i64 0) := by simp [World.cell?, hbk]
  have f0 : w2.frozen? ⟨b1, 0, none⟩ = false := by simp [World.frozen?, hbk]
  have f1 : w2.frozen? ⟨b1, 1, none⟩ = false := by simp [World.frozen?, hbk]
  have hbl2 : b1 < w2.heap.size := Nat.lt_of_lt_of_le hbl hB2.size
  have HO2 := hid ho2
  have HB2 := hid hB2
  have HBK := hid hbk
  obtain ⟨p2, n2, c2, rfl⟩ : ∃ p2 n2 c2, v2 = .slice p2 n2 c2 := by
    rcases owns_form (owns_base ho2 (Nat.zero_le _)) with ⟨rfl, _⟩ | ⟨g, cap, rfl, _⟩
    · exact ⟨_, _, _, rfl⟩
    · exact ⟨_, _, _, rfl⟩
  clear ho2 hg2 hB2 hbk
  go_wp2
  obtain ⟨e1, e2, e3⟩ := setCell_blk (k := 0) (v := .slice p2 n2 c2) HBK.out
  obtain ⟨e4, e5, e6⟩ := setCell_blk (k := 1) (v := .int .i64 0) e1
  have HK := hid (e2.trans e5 (fun _ _ h => h))
  generalize (w2.setCell ⟨b1, 0, none⟩ (.slice p2 n2 c2)).setCell ⟨b1, 1, none⟩ (.int .i64 0) = w3 at *
  have q0 : w3.cell? ⟨b1, 0, none⟩ = some (.slice p2 n2 c2) := by simp [World.cell?, e4]
  have q1 : w3.cell? ⟨b1, 1, none⟩ = some (.int .i64 0) := by simp [World.cell?, e4]
  clear e1 e2 e3 e4 e5 e6
  refine bodyPost_ret (v := .agg #[.slice p2 n2 c2, .int .i64 0]) (by simp [results, Try.results51, go_sem, q0, q1]) rfl ?_
  have hne : ∀ k, (Value.slice p2 n2 c2).ownBlock = some k → ¬ k = b1 := by
    intro k hk e
    have h1 := HO2.out.lt k hk
    omega
  refine ⟨.slice p2 n2 c2, rfl, ?_, ?_⟩
  · exact owns_base (owns_re (owns_kp HK.out HO2.out hne) (by simp) (by simp)) hsz.out
  · have h1 : Kp (fun k => k = b1) w w2 := (Kp.of_gr (HG1.out.trans HG2.out)).trans (T := fun k => k = b1) (Kp.of_below HB2.out) (fun _ _ h => h)
    exact (h1.trans HK.out (fun _ _ h => h)).below (Nat.le_refl _) (fun k h => by have := HB1.out.1; omega)
/-- clear(s[i:i+1]) within a row. -/
theorem owns_clear1 {P : Program} {α : Type} {E : El α} {w : World} {base : Nat} {e sT : TypeId} {z : Value} {g N cap i : Nat} {M : List α} (ty : TypeId) (c : Nat) (hu : P.underlying sT = some (.slice e)) (hz : ∀ u : World, (zeroValue e).run P u = .ok z u) (z0 : α) (hz0 : (Builtin.zeroCells z.cells 1).toList = E.enc z0)
    (h : w.ownsRow base e E.k (.slice (some ⟨g, 0, none⟩) N cap) N (fl E M)) (hM : M.length = N) (hi : i < N) :
    ∃ w', (Builtin.clear_ #[sT] ty #[.slice (some ⟨g, i * E.k, none⟩) 1 c]).run P w = .ok (.tuple #[]) w' ∧ w'.ownsRow base e E.k (.slice (some ⟨g, 0, none⟩) N cap) N (fl E (M.set i z0)) ∧ Kp (fun k => k = g) w w' := by
  obtain ⟨hlen, ⟨h0, _⟩ | ⟨g', cap', cur, hv, hbs, hgg, hn, hm, hcs, htk⟩⟩ := id h
  · cases h0
  cases hv
  have hsz : (Builtin.zeroCells z.cells 1).size = E.k := by rw [← Array.length_toList, hz0, E.len]
  have hNc : N * E.k ≤ cap * E.k := Nat.mul_le_mul_right _ hn
  have hik : (i + 1) * E.k ≤ N * E.k := Nat.mul_le_mul_right _ hi
  rw [Nat.succ_mul] at hik
  have hrun := run_clear_row w sT ty e z g (i * E.k) 1 c cur e hu (hz w) (by omega) hgg (by rw [hsz, hcs]; omega) (fun v hv => by rw [hz0] at hv; exact E.one z0 v hv)
  refine ⟨_, hrun, ⟨by rw [fl_length, List.length_set, hM], Or.inr ⟨g, cap, _, rfl, hbs, setRow_heap w g _ _ _ _ hgg, hn, hm, ?_, ?_⟩⟩, ⟨rfl, rfl, rfl, by simp [World.setRow], fun j _ hne => setRow_other w g j _ hne⟩⟩
  · simp only [List.size_toArray, List.length_append, List.length_take, List.length_drop, Array.length_toList, hsz]
    omega
  · rw [List.toList_toArray, hz0, hsz, ← fl_set E M i z0 (by omega), ← htk, Nat.succ_mul]
    have hle : i * E.k ≤ cur.toList.length := by rw [Array.length_toList]; omega
    rw [List.take_take, Nat.min_eq_left (by omega), List.append_assoc, List.append_assoc, List.take_append, List.take_of_length_le (by rw [List.length_take]; omega), List.length_take, Nat.min_eq_left hle, List.take_append, E.len, List.drop_take]
    congr 2
    · exact List.take_of_length_le (by rw [E.len]; omega)
    · congr 1
      omega
theorem zeroI (u : World) : (zeroValue 3).run Try.prog u = .ok (.int .i64 0) u := by kernel_rfl
theorem zcI : (Builtin.zeroCells (.int .i64 0 : Value).cells 1).toList = ET.enc tz := by kernel_rfl
end Go.Proofs.Ytcdmgclkgojgaaa.Pi
