import Derived.Test.YtnpmmodcmfgbjaaGreatMScr
namespace Go.Proofs.YtnpmmodcmfgbjaaGreat
open Go.RowKit Go.Sort

section
variable {w0 W W' : World} {m nT nU nD : Nat} {M : Nat → Ml} {R : Nat → Rd} {VT VU VD VX : Nat → Value} {CT CU : Nat → List Tm} {CD : Nat → List Dl} {ow : Nat → Nat} {sM sR : Value} {kb : Nat} {sT sU sD sX : Value}
/-- Apply on both; what was answered is put into the book. -/
theorem Scr.apply (h : Scr w0 W m nT nU nD M R VT VU VD VX CT CU CD ow sM sR kb sT sU sD sX) {i : Nat} (hi : i < m) {M' : Ml} {R' : Rd} {vo wt sD' sX' : Value} {d : List Dl} (nw : Nat → Nat)
    (hm : M'.ok W') (hF : IsFr M'.f M'.fr) (hmb : M'.mb = (M i).mb) (hM : ∀ k, M'.own k → (k < W.heap.size ∧ ow k = 3 + 2 * i) ∨ (W.heap.size ≤ k ∧ nw k = 3 + 2 * i))
    (hr : R'.ok W') (hc : cn R'.T R'.N = M'.f) (hrb : R'.r.b = (R i).r.b) (hR : ∀ k, R'.r.own k → (k < W.heap.size ∧ ow k = 4 + 2 * i) ∨ (W.heap.size ≤ k ∧ nw k = 4 + 2 * i))
    (hbk : W'.heap[kb]? = some (.cells #[sT, sU, sD', sX'] 34 (0, 0)))
    (hD : W'.ownsRow 0 38 1 sD' (nD + 1) ((List.range nD).map VD ++ [vo])) (hDt : ∀ k, sD'.ownBlock = some k → (k < W.heap.size ∧ ow k = 17) ∨ (W.heap.size ≤ k ∧ nw k = 17))
    (hX : W'.ownsRow 0 38 1 sX' (nD + 1) ((List.range nD).map VX ++ [wt])) (hXt : ∀ k, sX'.ownBlock = some k → (k < W.heap.size ∧ ow k = 18) ∨ (W.heap.size ≤ k ∧ nw k = 18))
    (hvo : W'.ownsRow 0 54 4 vo d.length (fl ED d)) (hvot : ∀ k, vo.ownBlock = some k → W.heap.size ≤ k ∧ nw k = 22 + 4 * nD)
    (hwt : W'.ownsRow 0 54 4 wt d.length (fl ED d)) (hwtt : ∀ k, wt.ownBlock = some k → W.heap.size ≤ k ∧ nw k = 23 + 4 * nD)
    (K : Kp (fun k => (ow k = 3 + 2 * i ∨ ow k = 4 + 2 * i) ∨ ow k = 2 ∨ ow k = 17 ∨ ow k = 18) W W') :
    ∃ V1 V2 C' ow', (∀ p, p < nD → C' p = CD p) ∧ C' nD = d ∧ Scr w0 W' m nT nU (nD + 1) (fun j => if j = i then M' else M j) (fun j => if j = i then R' else R j) VT VU V1 V2 CT CU C' ow' sM sR kb sT sU sD' sX' := by
  have h5 := h.five
  have hz := K.size
  have tag : ∀ {t k : Nat}, (k < W.heap.size ∧ ow k = t) ∨ (W.heap.size ≤ k ∧ nw k = t) → ext ow W.heap.size nw k = t := fun hh => by
    rcases hh with ⟨h1, h2⟩ | ⟨h1, h2⟩
    · rw [ext_lt h1]; exact h2
    · rw [ext_ge h1]; exact h2
  have keepR : ∀ {e : TypeId} {s : Nat} {u : Value} {n : Nat} {xs : List Value} {t : Nat}, ¬ ((t = 3 + 2 * i ∨ t = 4 + 2 * i) ∨ t = 2 ∨ t = 17 ∨ t = 18) → W.ownsRow 0 e s u n xs ∧ Tg ow t u → W'.ownsRow 0 e s u n xs ∧ Tg (ext ow W.heap.size nw) t u := fun h1 h3 =>
    keep_row (A := fun t => (t = 3 + 2 * i ∨ t = 4 + 2 * i) ∨ t = 2 ∨ t = 17 ∨ t = 18) K nw h1 h3
  have ptr : ∀ (f g : Nat → Nat), (∀ j, f j = g j) → ((List.range m).map fun j => Value.pointer (some ⟨f j, 0, none⟩)) = (List.range m).map fun j => Value.pointer (some ⟨g j, 0, none⟩) := fun f g hfg => List.map_congr_left fun j _ => by rw [hfg]
  refine ⟨fun p => if p = nD then vo else VD p, fun p => if p = nD then wt else VX p, fun p => if p = nD then d else CD p, ext ow W.heap.size nw, fun p hp => by simp only [if_neg (show ¬ p = nD by omega)], by simp only [if_true], ?_⟩
  refine ⟨fun j hj => ?_, fun j hj => ?_, ?_, ?_, ⟨hbk, by rw [ext_lt h.kbl]; exact h.bk.2⟩, keepR (by omega) h.bT, keepR (by omega) h.bU, ⟨?_, fun k hk => tag (hDt k hk)⟩, ⟨?_, fun k hk => tag (hXt k hk)⟩, fun p hp => keepR (by omega) (h.pT p hp), fun p hp => keepR (by omega) (h.pU p hp), fun p hp => ?_, fun p hp => ?_,
    h.keep_old nw, Nat.le_trans h.size hz, h.keep_bl (A := fun t => (t = 3 + 2 * i ∨ t = 4 + 2 * i) ∨ t = 2 ∨ t = 17 ∨ t = 18) K (by omega), h.five⟩
  · by_cases e : j = i
    · subst e
      simp only [if_true]
      exact ⟨hm, hF, fun k hk => tag (hM k hk)⟩
    · simp only [if_neg e]
      exact h.keep_mu (A := fun t => (t = 3 + 2 * i ∨ t = 4 + 2 * i) ∨ t = 2 ∨ t = 17 ∨ t = 18) K nw hj (by omega)
  · by_cases e : j = i
    · subst e
      simp only [if_true]
      exact ⟨hr, fun k hk => tag (hR k hk), hc⟩
    · simp only [if_neg e]
      exact h.keep_rm (A := fun t => (t = 3 + 2 * i ∨ t = 4 + 2 * i) ∨ t = 2 ∨ t = 17 ∨ t = 18) K nw hj (by omega)
  · rw [ptr (fun j => (if j = i then M' else M j).mb) (fun j => (M j).mb) (fun j => by by_cases e : j = i; (subst e; simp only [if_true]; exact hmb); (simp only [if_neg e]))]
    exact keepR (by omega) h.ms
  · rw [ptr (fun j => (if j = i then R' else R j).r.b) (fun j => (R j).r.b) (fun j => by by_cases e : j = i; (subst e; simp only [if_true]; exact hrb); (simp only [if_neg e]))]
    exact keepR (by omega) h.rs
  · rw [map_one VD _ nD (fun p hp => by simp only [if_neg (show ¬ p = nD by omega)])]
    simp only [if_true]
    exact hD
  · rw [map_one VX _ nD (fun p hp => by simp only [if_neg (show ¬ p = nD by omega)])]
    simp only [if_true]
    exact hX
  · by_cases e : p = nD
    · subst e
      simp only [if_true]
      exact ⟨hvo, fun k hk => tag (Or.inr (hvot k hk))⟩
    · simp only [if_neg e]
      exact keepR (by omega) (h.pD p (by omega))
  · by_cases e : p = nD
    · subst e
      simp only [if_true]
      exact ⟨hwt, fun k hk => tag (Or.inr (hwtt k hk))⟩
    · simp only [if_neg e]
      exact keepR (by omega) (h.pX p (by omega))

/-- One more of both. -/
theorem Scr.copy {W1 W2 W3 W4 : World} (h : Scr w0 W m nT nU nD M R VT VU VD VX CT CU CD ow sM sR kb sT sU sD sX) (h5 : m < 5) {i : Nat} (hi : i < m) {M' : Ml} {R' : Rd} {sM' sR' : Value} (hf : M'.f = (M i).f) (hfr : M'.fr = (M i).fr) (hT : R'.T = (R i).T) (hN : R'.N = (R i).N)
    (b1 : Below W.heap.size W W1) (hm : M'.ok W1) (hM : ∀ k, M'.own k → W.heap.size ≤ k)
    (k2 : Kp (fun q => sM.ownBlock = some q) W1 W2) (hs : W2.ownsRow 0 24 1 sM' (m + 1) (((List.range m).map fun i => .pointer (some ⟨(M i).mb, 0, none⟩)) ++ [.pointer (some ⟨M'.mb, 0, none⟩)])) (hsl : ∀ g, sM'.ownBlock = some g → sM.ownBlock = some g ∨ W1.heap.size ≤ g)
    (b3 : Below W2.heap.size W2 W3) (hr : R'.ok W3) (hR : ∀ k, R'.r.own k → W2.heap.size ≤ k)
    (k4 : Kp (fun q => sR.ownBlock = some q) W3 W4) (ht : W4.ownsRow 0 27 1 sR' (m + 1) (((List.range m).map fun i => .pointer (some ⟨(R i).r.b, 0, none⟩)) ++ [.pointer (some ⟨R'.r.b, 0, none⟩)])) (htl : ∀ g, sR'.ownBlock = some g → sR.ownBlock = some g ∨ W3.heap.size ≤ g) :
    ∃ ow', Scr w0 W4 (m + 1) nT nU nD (fun j => if j = m then M' else M j) (fun j => if j = m then R' else R j) VT VU VD VX CT CU CD ow' sM' sR' kb sT sU sD sX := by
  have z1 := b1.size
  have z2 := k2.size
  have z3 := b3.size
  have z4 := k4.size
  obtain ⟨nw, hnw⟩ : ∃ nw : Nat → Nat, nw = fun k => if k < W1.heap.size then 3 + 2 * m else if k < W2.heap.size then 0 else if k < W3.heap.size then 4 + 2 * m else 1 := ⟨_, rfl⟩
  have hml : ∀ g, sM.ownBlock = some g → g < W.heap.size := owns_lt h.ms.1
  have hrl : ∀ g, sR.ownBlock = some g → g < W.heap.size := owns_lt h.rs.1
  have K : Kp (fun k => ow k = 0 ∨ ow k = 1) W W4 :=
    (((Kp.of_below b1 : Kp (fun k => ow k = 0 ∨ ow k = 1) W W1).trans k2 (fun q _ e => Or.inl (h.ms.2 q e))).trans (Kp.of_below b3 : Kp (fun _ => False) W2 W3) (fun _ _ e => e.elim)).trans k4 (fun q _ e => Or.inr (h.rs.2 q e))
  have keepR : ∀ {e : TypeId} {s : Nat} {u : Value} {n : Nat} {xs : List Value} {t : Nat}, t ≠ 0 → t ≠ 1 → W.ownsRow 0 e s u n xs ∧ Tg ow t u → W4.ownsRow 0 e s u n xs ∧ Tg (ext ow W.heap.size nw) t u := fun h1 h2 h3 =>
    keep_row (A := fun t => t = 0 ∨ t = 1) K nw (by omega) h3
  have hm4 : M'.ok W4 := Ml.kp (Mu.below (Ml.kp hm k2 (fun k hk e => by have := hM k hk; have := hml k e; omega)) b3) k4 (fun k hk e => by have := hM k hk; have := hrl k e; omega)
  have hr4 : R'.ok W4 := hr.kp k4 (fun k hk e => by have := hR k hk; have := hrl k e; omega)
  have ptrM : ((List.range (m + 1)).map fun j => Value.pointer (some ⟨(if j = m then M' else M j).mb, 0, none⟩)) = ((List.range m).map fun j => Value.pointer (some ⟨(M j).mb, 0, none⟩)) ++ [.pointer (some ⟨M'.mb, 0, none⟩)] := by
    rw [map_one (fun j => Value.pointer (some ⟨(M j).mb, 0, none⟩)) _ m (fun j hj => by simp only [if_neg (show ¬ j = m by omega)])]
    simp only [if_true]
  have ptrR : ((List.range (m + 1)).map fun j => Value.pointer (some ⟨(if j = m then R' else R j).r.b, 0, none⟩)) = ((List.range m).map fun j => Value.pointer (some ⟨(R j).r.b, 0, none⟩)) ++ [.pointer (some ⟨R'.r.b, 0, none⟩)] := by
    rw [map_one (fun j => Value.pointer (some ⟨(R j).r.b, 0, none⟩)) _ m (fun j hj => by simp only [if_neg (show ¬ j = m by omega)])]
    simp only [if_true]
  refine ⟨ext ow W.heap.size nw, ⟨fun j hj => ?_, fun j hj => ?_, ⟨?_, fun g hg => ?_⟩, ⟨?_, fun g hg => ?_⟩, ⟨?_, by rw [ext_lt h.kbl]; exact h.bk.2⟩, keepR (by omega) (by omega) h.bT, keepR (by omega) (by omega) h.bU, keepR (by omega) (by omega) h.bD, keepR (by omega) (by omega) h.bX,
    fun p hp => keepR (by omega) (by omega) (h.pT p hp), fun p hp => keepR (by omega) (by omega) (h.pU p hp), fun p hp => keepR (by omega) (by omega) (h.pD p hp), fun p hp => keepR (by omega) (by omega) (h.pX p hp), h.keep_old nw, Nat.le_trans h.size K.size, h.keep_bl (A := fun t => t = 0 ∨ t = 1) K (by omega), h5⟩⟩
  · by_cases e : j = m
    · subst e
      simp only [if_true]
      refine ⟨hm4, by rw [hf, hfr]; exact (h.mu i hi).2.1, fun k hk => ?_⟩
      rw [ext_ge (hM k hk), hnw]
      simp only [if_pos (Ml.lt hm k hk)]
    · simp only [if_neg e]
      exact h.keep_mu (A := fun t => t = 0 ∨ t = 1) K nw (by omega) (by omega)
  · by_cases e : j = m
    · subst e
      simp only [if_true]
      refine ⟨hr4, fun k hk => ?_, by rw [hT, hN, hf]; exact (h.rm i hi).2.2⟩
      have a1 := hR k hk
      have a2 := hr.own_lt k hk
      rw [ext_ge (by omega), hnw]
      simp only [if_neg (show ¬ k < W1.heap.size by omega), if_neg (show ¬ k < W2.heap.size by omega), if_pos a2]
    · simp only [if_neg e]
      exact h.keep_rm (A := fun t => t = 0 ∨ t = 1) K nw (by omega) (by omega)
  · rw [ptrM]
    exact owns_kp k4 (owns_below hs b3) (fun q hq e => by
      rcases hsl q hq with h1 | h1
      · have a1 := h.ms.2 q h1; have a2 := h.rs.2 q e; omega
      · have := hrl q e; omega)
  · rcases hsl g hg with h1 | h1
    · rw [ext_lt (hml g h1)]; exact h.ms.2 g h1
    · have := owns_lt hs g hg
      rw [ext_ge (by omega), hnw]
      simp only [if_neg (show ¬ g < W1.heap.size by omega), if_pos this]
  · rw [ptrR]
    exact ht
  · rcases htl g hg with h1 | h1
    · rw [ext_lt (hrl g h1)]; exact h.rs.2 g h1
    · rw [ext_ge (by omega), hnw]
      simp only [if_neg (show ¬ g < W1.heap.size by omega), if_neg (show ¬ g < W2.heap.size by omega), if_neg (show ¬ g < W3.heap.size by omega)]
  · exact (K.block kb h.kbl (fun e => by rw [h.bk.2] at e; omega)).trans h.bk.1

/-- The book out of what the script holds. -/
theorem Scr.book (h : Scr w0 W m nT nT nD M R VT VU VD VX CT CU CD ow sM sR kb sT sU sD sX) (hC : ∀ p, p < nT → CU p = CT p) (h1 : nT ≤ 1048576) (h2 : nD ≤ 1048576) (h3 : ∀ p, p < nT → (CT p).length ≤ 1048576) (h4 : ∀ p, p < nD → (CD p).length ≤ 1048576) :
    Bk W kb nT nD sT sU sD sX VT VU VD VX CT CD ∧ ∀ q, SqF nT VT q ∨ SqF nD VD q → w0.heap.size ≤ q := by
  refine ⟨⟨h.bk.1, h.bT.1, h.bU.1, h.bD.1, h.bX.1, ⟨fun i hi => (h.pT i hi).1, fun i j hi hj hne g hg e => ?_⟩, ⟨fun i hi => (h.pD i hi).1, fun i j hi hj hne g hg e => ?_⟩, fun i hi => ?_, fun i hi => owns_ls (h.pX i hi).1, ?_, ?_, ⟨h1, h2⟩, h3, h4⟩, ?_⟩
  · have a1 := (h.pT i hi).2 g hg; have a2 := (h.pT j hj).2 g e; omega
  · have a1 := (h.pD i hi).2 g hg; have a2 := (h.pD j hj).2 g e; omega
  · rw [← hC i hi]; exact owns_ls (h.pU i hi).1
  · rintro q ⟨i, hi, e1⟩ ⟨j, hj, e2⟩
    have a1 := (h.pT i hi).2 q e1; have a2 := (h.pD j hj).2 q e2; omega
  · intro q hq
    have hq' : 20 ≤ ow q := by
      rcases hq with ⟨i, hi, e1⟩ | ⟨i, hi, e1⟩
      · have a1 := (h.pT i hi).2 q e1; omega
      · have a1 := (h.pD i hi).2 q e1; omega
    exact ⟨fun e => by rw [e, h.bk.2] at hq'; omega, fun e => by have := h.bT.2 q e; omega, fun e => by have := h.bD.2 q e; omega⟩
  · intro q hq
    have hq' : 20 ≤ ow q := by
      rcases hq with ⟨i, hi, e1⟩ | ⟨i, hi, e1⟩
      · have a1 := (h.pT i hi).2 q e1; omega
      · have a1 := (h.pD i hi).2 q e1; omega
    rcases Nat.lt_or_ge q w0.heap.size with hl | hl
    · have := h.old q hl; omega
    · exact hl
end
/-- The first state. -/
theorem Scr.init {w0 w2 w3 : World} {mb tb b cb : Nat} {r : Rm} (hb : Below w0.heap.size w0 w2) (hm : Mu w2 mb tb b cb 0 (.slice none 0 0) (fun _ => 0) []) (hz : w0.heap.size ≤ mb ∧ w0.heap.size ≤ tb ∧ w0.heap.size ≤ b ∧ w0.heap.size ≤ cb)
    (hb3 : Below (w2.heap.size + 1) (w2.alloc (.cells #[.pointer (some ⟨mb, 0, none⟩)] 24)) w3) (hr : RM w3 r [] []) (hro : ∀ k, r.own k → w2.heap.size + 1 ≤ k) :
    ∃ ow, Scr w0 ((w3.alloc (.cells #[.pointer (some ⟨r.b, 0, none⟩)] 27)).alloc (.cells #[.slice none 0 0, .slice none 0 0, .slice none 0 0, .slice none 0 0] 34)) 1 0 0 0
      (fun _ => ⟨mb, tb, b, cb, 0, .slice none 0 0, fun _ => 0, []⟩) (fun _ => ⟨r, [], []⟩) (fun _ => .slice none 0 0) (fun _ => .slice none 0 0) (fun _ => .slice none 0 0) (fun _ => .slice none 0 0) (fun _ => []) (fun _ => []) (fun _ => []) ow (.slice (some ⟨w2.heap.size, 0, none⟩) 1 1) (.slice (some ⟨w3.heap.size, 0, none⟩) 1 1) (w3.heap.size + 1) (.slice none 0 0) (.slice none 0 0) (.slice none 0 0) (.slice none 0 0) := by
  have z0 := hb.size
  have z3 : w2.heap.size + 1 ≤ w3.heap.size := by have := hb3.size; simpa using this
  obtain ⟨M0, hM0⟩ : ∃ M0 : Ml, M0 = ⟨mb, tb, b, cb, 0, .slice none 0 0, fun _ => 0, []⟩ := ⟨_, rfl⟩
  have hMok : M0.ok w2 := by rw [hM0]; exact hm
  have hMz : ∀ k, M0.own k → w0.heap.size ≤ k := by
    intro k hk
    rw [hM0] at hk
    rcases hk with rfl | rfl | rfl | rfl | hk
    · exact hz.1
    · exact hz.2.1
    · exact hz.2.2.1
    · exact hz.2.2.2
    · simp [Value.ownBlock] at hk
  have g1 : Below w2.heap.size w2 w3 := ((Gr.refl w2).alloc _).below.trans (hb3.mono (Nat.le_succ _))
  have g2 : Gr w3 ((w3.alloc (.cells #[.pointer (some ⟨r.b, 0, none⟩)] 27)).alloc (.cells #[.slice none 0 0, .slice none 0 0, .slice none 0 0, .slice none 0 0] 34)) := ((Gr.refl w3).alloc _).alloc _
  have hsl : w3.heap[w2.heap.size]? = some (.cells #[.pointer (some ⟨mb, 0, none⟩)] 24 (0, 0)) := (hb3.block w2.heap.size (Nat.lt_succ_self _)).trans (heap_new' w2 _)
  rw [← hM0]
  have nilTg : ∀ (ow : Nat → Nat) (t : Nat), Tg ow t (.slice none 0 0) := fun ow t g hg => by simp [Value.ownBlock] at hg
  refine ⟨fun k => if k < w0.heap.size then 14 else if k < w2.heap.size then 3 else if k = w2.heap.size then 0 else if k < w3.heap.size then 4 else if k = w3.heap.size then 1 else 2, ⟨fun i hi => ?_, fun i hi => ?_, ⟨?_, fun g hg => ?_⟩, ⟨?_, fun g hg => ?_⟩, ⟨?_, ?_⟩, ⟨World.ownsRow_nil _ _ _ _, nilTg _ _⟩, ⟨World.ownsRow_nil _ _ _ _, nilTg _ _⟩, ⟨World.ownsRow_nil _ _ _ _, nilTg _ _⟩, ⟨World.ownsRow_nil _ _ _ _, nilTg _ _⟩,
    fun p hp => absurd hp (Nat.not_lt_zero _), fun p hp => absurd hp (Nat.not_lt_zero _), fun p hp => absurd hp (Nat.not_lt_zero _), fun p hp => absurd hp (Nat.not_lt_zero _), fun k hk => if_pos hk, ?_, ?_, by decide⟩⟩
  · have hi0 : i = 0 := by omega
    subst hi0
    refine ⟨Mu.below (Mu.below hMok g1) g2.below, by rw [hM0]; exact IsFr.nil, fun k hk => ?_⟩
    have a1 := hMz k hk
    have a2 := Ml.lt hMok k hk
    simp only [if_neg (show ¬ k < w0.heap.size by omega), if_pos a2]
  · have hi0 : i = 0 := by omega
    subst hi0
    refine ⟨hr.bel g2.below, fun k hk => ?_, ?_⟩
    · have a1 := hro k hk
      have a2 := hr.own_lt k hk
      simp only [if_neg (show ¬ k < w0.heap.size by omega), if_neg (show ¬ k < w2.heap.size by omega), if_neg (show ¬ k = w2.heap.size by omega), if_pos a2]
    · rw [hM0]; funext t; simp [cn]
  · refine ⟨rfl, Or.inr ⟨w2.heap.size, 1, #[.pointer (some ⟨mb, 0, none⟩)], rfl, Nat.zero_le _, (g2.below.block w2.heap.size (by omega)).trans hsl, Nat.le_refl _, by unfold maxLen; omega, rfl, by rw [hM0]; rfl⟩⟩
  · have : g = w2.heap.size := by simpa [Value.ownBlock] using hg.symm
    subst this
    simp only [if_neg (show ¬ w2.heap.size < w0.heap.size by omega), if_neg (show ¬ w2.heap.size < w2.heap.size by omega), if_true]
  · refine ⟨rfl, Or.inr ⟨w3.heap.size, 1, #[.pointer (some ⟨r.b, 0, none⟩)], rfl, Nat.zero_le _, (((Gr.refl _).alloc _).below.block w3.heap.size (by simp)).trans (heap_new' w3 _), Nat.le_refl _, by unfold maxLen; omega, rfl, rfl⟩⟩
  · have : g = w3.heap.size := by simpa [Value.ownBlock] using hg.symm
    subst this
    simp only [if_neg (show ¬ w3.heap.size < w0.heap.size by omega), if_neg (show ¬ w3.heap.size < w2.heap.size by omega), if_neg (show ¬ w3.heap.size = w2.heap.size by omega), if_neg (show ¬ w3.heap.size < w3.heap.size by omega), if_true]
  · have := heap_new' (w3.alloc (.cells #[.pointer (some ⟨r.b, 0, none⟩)] 27)) (.cells #[.slice none 0 0, .slice none 0 0, .slice none 0 0, .slice none 0 0] 34)
    simpa using this
  · simp only [if_neg (show ¬ w3.heap.size + 1 < w0.heap.size by omega), if_neg (show ¬ w3.heap.size + 1 < w2.heap.size by omega), if_neg (show ¬ w3.heap.size + 1 = w2.heap.size by omega), if_neg (show ¬ w3.heap.size + 1 < w3.heap.size by omega), if_neg (show ¬ w3.heap.size + 1 = w3.heap.size by omega)]
  · have := g2.size; omega
  · exact (hb.trans (g1.mono z0)).trans (g2.below.mono (by omega))
end Go.Proofs.YtnpmmodcmfgbjaaGreat
