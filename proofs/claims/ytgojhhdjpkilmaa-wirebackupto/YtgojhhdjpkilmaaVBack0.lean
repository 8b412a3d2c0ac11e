import Derived.Test.YtgojhhdjpkilmaaVGot
import Derived.Test.YtgojhhdjpkilmaaVPuts
namespace Go.Proofs.Ytgojhhdjpkilmaa.Wi
open Go.RowKit Go.Sort
attribute [local go_sem ↓] Go.wp_at_zero Go.wp_at_succ

theorem pre_mono (os : List Opw) {i k : Nat} (h : i ≤ k) : (pre os i).length ≤ (pre os k).length := by
  induction k with
  | zero => rw [Nat.le_zero.1 h]; exact Nat.le_refl _
  | succ k ih =>
    rcases Nat.lt_or_eq_of_le h with h1 | h1
    · have h2 := ih (by omega)
      cases ho : os[k]? with
      | none =>
        have e : os.take (k + 1) = os.take k := by
          have hn := List.getElem?_eq_none_iff.1 ho
          rw [List.take_of_length_le (by omega), List.take_of_length_le hn]
        unfold pre at *
        rw [e]
        exact h2
      | some o =>
        rw [pre_succ ho, List.length_append]
        omega
    · rw [h1]
      exact Nat.le_refl _
theorem all_drop {os : List Opw} {i : Nat} {o : Opw} (h : os[i]? = some o) : (pre os os.length).drop (pre os i).length = piece o ++ (os.drop (i + 1)).flatMap piece := by
  have hi := (List.getElem?_eq_some_iff.1 h).1
  have e : pre os os.length = pre os i ++ (os.drop i).flatMap piece := by
    unfold pre
    rw [List.take_length, ← List.flatMap_append, List.take_append_drop]
  rw [e, List.drop_left, List.drop_eq_getElem_cons hi, List.flatMap_cons]
  rw [List.getElem?_eq_getElem hi] at h
  simp at h
  rw [h]
theorem takes_full {os : List Opw} {i : Nat} {o : Opw} (h : os[i]? = some o) : Takes o ((pre os os.length).drop (pre os i).length) true := Or.inl ⟨rfl, _, all_drop h⟩
theorem takes_cut {os : List Opw} {i sh : Nat} {o : Opw} (h : os[i]? = some o) (hs : (pre os (i + 1)).length ≤ sh) : Takes o (((pre os os.length).take sh).drop (pre os i).length) true := by
  refine Or.inl ⟨rfl, ((os.drop (i + 1)).flatMap piece).take (sh - (pre os (i + 1)).length), ?_⟩
  have hp := pre_succ h
  rw [List.drop_take, all_drop h, List.take_append, List.take_of_length_le (by rw [hp, List.length_append] at hs; omega)]
  congr 2
  rw [hp, List.length_append]
  omega
theorem takes_short {os : List Opw} {i sh : Nat} {o : Opw} (h : os[i]? = some o) (h1 : (pre os i).length ≤ sh) (hs : sh < (pre os (i + 1)).length) : Takes o (((pre os os.length).take sh).drop (pre os i).length) false := by
  refine Or.inr ⟨rfl, sh - (pre os i).length, ?_, ?_⟩
  · rw [pre_succ h, List.length_append] at hs
    omega
  · rw [pre_succ h, List.length_append] at hs
    rw [List.drop_take, all_drop h, List.take_append_of_le_length (by omega)]
theorem endl_get (os : List Opw) {n i : Nat} (h : i < n) : (endl os n)[i]? = some (pre os (i + 1)).length := by simp [endl, h]
theorem ln_at {w : World} {v : Value} {ts : List Nat} (h : Ls EN w v ts) {j x : Nat} (hj : ts[j]? = some x) :
    ∃ b off c, v = .slice (some ⟨b, off, none⟩) ts.length c ∧ b < w.heap.size ∧ w.cell? ⟨b, off + j, none⟩ = some (.int .i64 (x : Nat)) := by
  obtain ⟨b, off, c, hv, hb, hc⟩ := h.get hj
  have h0 := hc 0 _ (by decide) rfl
  exact ⟨b, off, c, hv, hb, by simpa [EN] using h0⟩
/-- What is known as things are read back. -/
structure BackI (w wr : World) (rb : Nat) (dr d ve : Value) (A : List UInt8) (L : List UInt8) (os : List Opw) (at_ e : Nat) : Prop where
  rd : Rd wr rb dr L at_ e
  ld : Ls EB wr d A
  le : Ls EN wr ve (endl os os.length)
  nd : d.ownBlock ≠ some rb
  nv : ve.ownBlock ≠ some rb
  ge : w.heap.size ≤ rb
  bl : Below w.heap.size w wr
theorem BackI.kp {w wr w' : World} {rb at_ e at2 e2 : Nat} {dr d ve : Value} {A L : List UInt8} {os : List Opw} (h : BackI w wr rb dr d ve A L os at_ e) (hr : Rd w' rb dr L at2 e2) (hk : Kp (fun k => k = rb) wr w') : BackI w w' rb dr d ve A L os at2 e2 :=
  ⟨hr, hk.ls h.ld (fun k hk e => h.nd (e ▸ hk)), hk.ls h.le (fun k hk e => h.nv (e ▸ hk)), h.nd, h.nv, h.ge, h.bl.trans (hk.below h.bl.size (fun k hk => by subst hk; exact h.ge))⟩
/-- One call is read. -/
theorem BackI.got {w wr : World} {rb at_ : Nat} {dr d ve : Value} {A L : List UInt8} {os : List Opw} {o : Opw} {f : Bool} (h : BackI w wr rb dr d ve A L os at_ 0) (hO : OkOp w o) (hf : Takes o (L.drop at_) f) (W : World) (hg : Gr wr W) :
    Calls Try.prog 22 #[.pointer (some ⟨rb, 0, none⟩), ov o] W fun r w' => ∃ b, r = .returned (.bool b) ∧ (f = true → b = true) ∧ BackI w w' rb dr d ve A L os (at_ + tkN o f) (tkE f) := by
  have hbW : Below w.heap.size w W := h.bl.trans (hg.below.mono h.bl.size)
  refine (got_any o W (h.rd.gr hg) (fun W2 hk => hO.below (hbW.trans (hk.below hbW.size (fun k hk => by subst hk; exact h.ge)))) f hf).mono ?_
  rintro r w' ⟨b, rfl, h1, h2, h3⟩
  exact ⟨b, rfl, h1, h.kp h2 ((Kp.of_gr hg).trans h3 (fun _ _ h => h))⟩
end Go.Proofs.Ytgojhhdjpkilmaa.Wi
