import Derived.Test.YtbomkeginbhhoaaCFn
namespace Go.Proofs.Ytbomkeginbhhoaa
open Go.RowKit Go.Sort
attribute [local go_sem ↓] Go.wp_at_zero Go.wp_at_succ

/-- A pair's two cells. -/
def encP (x : P2) : List Value := [.int .i64 x.1, .int .i64 x.2]
def flatP (l : List P2) : List Value := l.flatMap encP
theorem flatP_nil : flatP [] = [] := rfl
theorem flatP_cons (t : P2) (ts : List P2) : flatP (t :: ts) = encP t ++ flatP ts := rfl
theorem flatP_append (a b : List P2) : flatP (a ++ b) = flatP a ++ flatP b := by simp [flatP]
theorem flatP_one (t : P2) : flatP [t] = encP t := by simp [flatP]
theorem flatP_length (ts : List P2) : (flatP ts).length = ts.length * 2 := by
  induction ts with
  | nil => rfl
  | cons t ts ih => rw [flatP_cons, List.length_append, ih]; simp [encP]; omega
theorem flatP_get (ts : List P2) (j i : Nat) (t : P2) (h : ts[j]? = some t) (hi : i < 2) : (flatP ts)[j * 2 + i]? = (encP t)[i]? := by
  induction ts generalizing j with
  | nil => simp at h
  | cons s ts ih =>
    rw [flatP_cons]
    cases j with
    | zero =>
      simp at h; subst h
      rw [Nat.zero_mul, Nat.zero_add, List.getElem?_append_left (by simp [encP]; omega)]
    | succ j =>
      rw [List.getElem?_append_right (by simp [encP]; omega), show (j + 1) * 2 + i - (encP s).length = j * 2 + i by simp [encP]; omega]
      exact ih j (by simpa using h)
theorem flatP_oneCell (ts : List P2) : ∀ u ∈ flatP ts, u.oneCell' = true := by
  intro u hu
  simp only [flatP, List.mem_flatMap] at hu
  obtain ⟨t, _, hu⟩ := hu
  simp [encP] at hu
  rcases hu with rfl | rfl <;> rfl
theorem flatP_take (l : List P2) (k : Nat) : (flatP l).take (k * 2) = flatP (l.take k) := by
  induction l generalizing k with
  | nil => simp [flatP]
  | cons x l ih =>
    cases k with
    | zero => simp [flatP]
    | succ k =>
      rw [flatP_cons, List.take_succ_cons, flatP_cons, List.take_append, ← ih k]
      simp [encP]
      rw [show (k + 1) * 2 = k * 2 + 2 by omega]
      simp
theorem flatP_drop (l : List P2) (k : Nat) : (flatP l).drop (k * 2) = flatP (l.drop k) := by
  induction l generalizing k with
  | nil => simp [flatP]
  | cons x l ih =>
    cases k with
    | zero => simp [flatP]
    | succ k =>
      rw [flatP_cons, List.drop_succ_cons, ← ih k, show (k + 1) * 2 = k * 2 + 2 by omega]
      simp [encP]

/-- The pairs lie there, two cells each. -/
def PairsAt (w : World) (b off : Nat) (ts : List P2) : Prop := ∀ j u, (flatP ts)[j]? = some u → w.cell? ⟨b, off + j, none⟩ = some u
theorem PairsAt.two {w : World} {b off : Nat} {ts : List P2} (h : PairsAt w b off ts) {j : Nat} {t : P2} (hj : ts[j]? = some t) :
    w.cell? ⟨b, off + j * 2, none⟩ = some (.int .i64 t.1) ∧ w.cell? ⟨b, off + j * 2 + 1, none⟩ = some (.int .i64 t.2) := by
  refine ⟨?_, ?_⟩
  · exact h (j * 2) _ (by have := flatP_get ts j 0 t hj (by omega); simpa [encP] using this)
  · exact h (j * 2 + 1) _ (by have := flatP_get ts j 1 t hj (by omega); simpa [encP] using this)
/-- A slice value that reads as these pairs. -/
def Lst (w : World) (v : Value) (ts : List P2) : Prop :=
  (ts = [] ∧ v = .slice none 0 0) ∨ ∃ b off c, v = .slice (some ⟨b, off, none⟩) ts.length c ∧ b < w.heap.size ∧ PairsAt w b off ts
theorem Lst.kept {w w' : World} {v : Value} {ts : List P2} (h : Lst w v ts) (hs : w.heap.size ≤ w'.heap.size) (hb : ∀ g, v.ownBlock = some g → w'.heap[g]? = w.heap[g]?) : Lst w' v ts := by
  rcases h with h | ⟨b, off, c, hv, hbs, ht⟩
  · exact Or.inl h
  · refine Or.inr ⟨b, off, c, hv, Nat.lt_of_lt_of_le hbs hs, fun j u hj => ?_⟩
    have := hb b (by rw [hv]; rfl)
    rw [World.cell?_of_block (a := ⟨b, off + j, none⟩) this]
    exact ht j u hj
theorem Lst.blk {w : World} {v : Value} {ts : List P2} (h : Lst w v ts) : ∀ g, v.ownBlock = some g → g < w.heap.size := by
  intro g hg
  rcases h with ⟨_, rfl⟩ | ⟨b, off, c, rfl, hbs, _⟩
  · simp [Value.ownBlock] at hg
  · simp [Value.ownBlock] at hg; omega
theorem Lst.below {w w' : World} {v : Value} {ts : List P2} (h : Lst w v ts) (hb : Below w.heap.size w w') : Lst w' v ts :=
  h.kept hb.size fun g hg => hb.block g (h.blk g hg)
theorem Lst.nil (w : World) : Lst w (.slice none 0 0) [] := Or.inl ⟨rfl, rfl⟩
theorem Lst.form {w : World} {v : Value} {ts : List P2} (h : Lst w v ts) : ∃ p c, v = .slice p ts.length c := by
  rcases h with ⟨rfl, rfl⟩ | ⟨b, off, c, hv, _, _⟩
  · exact ⟨_, _, rfl⟩
  · exact ⟨_, _, hv⟩
theorem Lst.at2 {w : World} {v : Value} {ts : List P2} (h : Lst w v ts) {j : Nat} {t : P2} (hj : ts[j]? = some t) :
    ∃ b off c, v = .slice (some ⟨b, off, none⟩) ts.length c ∧ b < w.heap.size ∧ w.cell? ⟨b, off + j * 2, none⟩ = some (.int .i64 t.1) ∧ w.cell? ⟨b, off + j * 2 + 1, none⟩ = some (.int .i64 t.2) := by
  rcases h with ⟨rfl, _⟩ | ⟨b, off, c, hv, hb, ht⟩
  · simp at hj
  · obtain ⟨h1, h2⟩ := ht.two hj
    exact ⟨b, off, c, hv, hb, h1, h2⟩
theorem addP (b off i : Nat) : (⟨b, off, none⟩ : Addr).add i = ⟨b, off + i, none⟩ := by unfold Addr.add; split <;> simp_all
theorem owns_lst {w : World} {base : Nat} {e : TypeId} {v : Value} {ts : List P2} (h : w.ownsRow base e 2 v ts.length (flatP ts)) : Lst w v ts := by
  rcases h.2 with ⟨hv, h0⟩ | ⟨g, cap, cur, hv, hg, hh, _, _, _, htake⟩
  · exact Or.inl ⟨List.eq_nil_of_length_eq_zero h0, hv⟩
  · refine Or.inr ⟨g, 0, cap, hv, (Array.getElem?_eq_some_iff.1 hh).1, fun j u hj => ?_⟩
    have := h.cells (g := g) (by rw [hv]; rfl) j u hj
    rw [addP] at this
    exact this

/-- A predicate over pairs, at every later world. -/
def PredG (g : Nat) (lb : Array Value) (p : P2 → Bool) (w : World) : Prop := ∀ (W : World) (x : P2), Gr w W → Calls Try.prog g (#[pv x] ++ lb) W fun e w' => e = .returned (.bool (p x)) ∧ Gr W w'
/-- The first place, or -1. -/
def idxv (p : P2 → Bool) (l : List P2) : Int := if l.findIdx p < l.length then (l.findIdx p : Int) else -1
theorem idxv_hit {p : P2 → Bool} {l : List P2} {k : Nat} {x : P2} (hx : l[k]? = some x) (hp : p x = true) (hn : ∀ j y, j < k → l[j]? = some y → p y = false) : idxv p l = (k : Int) := by
  obtain ⟨hk, rfl⟩ := List.getElem?_eq_some_iff.1 hx
  have : l.findIdx p = k := by
    rw [List.findIdx_eq hk]
    exact ⟨hp, fun j hj => by simpa using hn j _ hj (List.getElem?_eq_getElem (Nat.lt_trans hj hk))⟩
  unfold idxv
  rw [this, if_pos hk]
theorem idxv_miss {p : P2 → Bool} {l : List P2} (hn : ∀ j y, j < l.length → l[j]? = some y → p y = false) : idxv p l = -1 := by
  have : l.findIdx p = l.length := by
    rw [List.findIdx_eq_length]
    intro x hx
    obtain ⟨j, hj⟩ := List.mem_iff_getElem?.1 hx
    exact hn j x (List.getElem?_eq_some_iff.1 hj).1 hj
  unfold idxv
  rw [this, if_neg (Nat.lt_irrefl _)]
theorem idxv_neg (p : P2 → Bool) (l : List P2) : decide (0 ≤ idxv p l) = l.any p := by
  unfold idxv
  by_cases h : l.findIdx p < l.length
  · rw [if_pos h]
    have : l.any p = true := by
      rw [List.findIdx_lt_length] at h
      simpa using h
    rw [this]; simp
  · rw [if_neg h]
    have : l.any p = false := by
      rw [List.findIdx_lt_length] at h
      simpa using h
    rw [this]; simp

set_option maxHeartbeats 2000000 in
set_option maxRecDepth 100000 in
theorem indexFunc_any (v : Value) (l : List P2) (g : Nat) (lb : Array Value) (p : P2 → Bool) (w : World) (hv : Lst w v l) (hl : l.length ≤ maxLen) (eg : ∀ args w, (callFunc g args).run Try.prog w = .ok (.enter g args) w) (hp : PredG g lb p w) :
    Calls Try.prog 61 #[v, .func (.func g) #[] lb] w fun e w' => e = .returned (.int .i64 (idxv p l)) ∧ Gr w w' := by
  unfold maxLen at hl
  obtain ⟨pl, cl, rfl⟩ := hv.form
  have HL : Hid (Lst w (.slice pl l.length cl) l) := hv
  have HP : Hid (PredG g lb p w) := hp
  clear hv hp
  obtain ⟨r, hr⟩ : ∃ r, r = idxv p l := ⟨_, rfl⟩
  rw [← hr]
  have HRR : Hid (r = idxv p l) := hr
  clear hr
  go_enter Try.func61, Try.ntmps61
  go_wp2_with fail
  go_loopw [5, 8] (fun s5 s8 wr => ∃ k : Nat, k ≤ l.length ∧ s8 = .int .i64 k ∧ Gr w wr ∧ Hid (∀ j y, j < k → l[j]? = some y → p y = false)) (fun _ s8 _ => l.length - (RowKit.intOf s8).toNat)
  case atStart => exact ⟨0, Nat.zero_le _, rfl, Gr.refl _, fun j _ hj => absurd hj (Nat.not_lt_zero _)⟩
  case round =>
    obtain ⟨k, hk, rfl, hgr, A⟩ := hrel
    by_cases hlt : k < l.length
    · have hltz : (k : Int) < (l.length : Int) := by omega
      obtain ⟨x, hx⟩ : ∃ x, l[k]? = some x := ⟨l[k], by simp⟩
      obtain ⟨b1, o1, c1, e1, z1, x1, x2⟩ := (HL.out.below hgr.below).at2 hx
      simp only [Value.slice.injEq] at e1
      obtain ⟨rfl, -, rfl⟩ := e1
      have HX : Hid (l[k]? = some x) := hx
      clear hx
      have hcall := HP.out wr x hgr
      cases hq : p x with
      | true =>
        rw [hq] at hcall
        go_wp2_with (go_at_fn g; refine hcall.mono ?_; rintro e w' ⟨rfl, hb'⟩)
        go_ret
        exact ⟨by rw [HRR.out, idxv_hit HX.out hq A.out]; rfl, hgr.trans hb'⟩
      | false =>
        rw [hq] at hcall
        go_wp2_with (go_at_fn g; refine hcall.mono ?_; rintro e w' ⟨rfl, hb'⟩)
        refine ⟨⟨k + 1, by omega, by go_num, hgr.trans hb', fun j y hj hy => ?_⟩, by simp [RowKit.intOf]; omega⟩
        by_cases e : j = k
        · subst e
          have := HX.out
          rw [hy] at this
          cases this; exact hq
        · exact A.out j y (by omega) hy
    · have hltz : ¬ (k : Int) < (l.length : Int) := by omega
      have hk' : k = l.length := by omega
      subst hk'
      go_wp2
      go_ret
      exact ⟨by rw [HRR.out, idxv_miss A.out]; rfl, hgr⟩

set_option maxHeartbeats 2000000 in
theorem containsFunc_any (v : Value) (l : List P2) (g : Nat) (lb : Array Value) (p : P2 → Bool) (w : World) (hv : Lst w v l) (hl : l.length ≤ maxLen) (eg : ∀ args w, (callFunc g args).run Try.prog w = .ok (.enter g args) w) (hp : PredG g lb p w) :
    Calls Try.prog 47 #[v, .func (.func g) #[] lb] w fun e w' => e = .returned (.bool (l.any p)) ∧ Gr w w' := by
  have h := indexFunc_any v l g lb p w hv hl eg hp
  rw [← idxv_neg]
  generalize idxv p l = r at h ⊢
  go_enter Try.func47, Try.ntmps47
  go_wp2_with fail
  refine h.mono ?_
  rintro e w1 ⟨rfl, hg⟩
  go_wp2
  go_ret
  exact ⟨by first | rfl | simp, hg⟩
end Go.Proofs.Ytbomkeginbhhoaa
