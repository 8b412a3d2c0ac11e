import Derived.Test.YtbomkeginbhhoaaCScr4
import Derived.Test.YtbomkeginbhhoaaCTurn
import Derived.Test.YtbomkeginbhhoaaCJoinO
namespace Go.Proofs.Ytbomkeginbhhoaa
open Go.RowKit Go.Sort

/-- How many could have come in. -/
def tot (ls : List (List P2)) : Nat := (ls.map fun l => l.length + 1).sum
theorem tot_append (a b : List (List P2)) : tot (a ++ b) = tot a + tot b := by simp [tot]
theorem tot_len (a : List (List P2)) : a.length ≤ tot a := by
  induction a with
  | nil => simp
  | cons x a ih => rw [show x :: a = [x] ++ a from rfl, tot_append, List.length_append]; simp [tot] at ih ⊢; omega
/-- One step of a script. -/
structure Opr where
  kind : Int
  on : Int
  x : P2
  u : Value
  l : List P2
/-- The script lies there. -/
def ScriptAt (w : World) (v : Value) (os : List Opr) : Prop := ∃ p c, v = .slice p os.length c ∧ ∀ i o, os[i]? = some o → ∃ b off, p = some ⟨b, off, none⟩ ∧ b < w.heap.size ∧ w.cell? ⟨b, off + i * 5, none⟩ = some (.int .i64 o.kind) ∧ w.cell? ⟨b, off + i * 5 + 1, none⟩ = some (.int .i64 o.on) ∧
  w.cell? ⟨b, off + i * 5 + 2, none⟩ = some (.int .i64 o.x.1) ∧ w.cell? ⟨b, off + i * 5 + 3, none⟩ = some (.int .i64 o.x.2) ∧ w.cell? ⟨b, off + i * 5 + 4, none⟩ = some o.u ∧ (Lst w o.u o.l ∨ Od o.u o.l)

theorem lz_form {w : World} {v : Value} {l : List P2} (h : Lst w v l ∨ Od v l) : ∃ p c, v = .slice p l.length c := by
  rcases h with h | h
  · exact h.form
  · exact h.form
theorem tot_step {os : List Opr} {k : Nat} {o : Opr} (h : os[k]? = some o) : tot ((os.take (k + 1)).map Opr.l) = tot ((os.take k).map Opr.l) + (o.l.length + 1) := by
  rw [List.take_add_one, h, List.map_append, tot_append]
  simp [tot]
theorem tot_le (os : List Opr) (k : Nat) : tot ((os.take k).map Opr.l) ≤ tot (os.map Opr.l) := by
  conv => rhs; rw [← List.take_append_drop k os, List.map_append, tot_append]
  omega

/-- What holds behind k steps. -/
def Inv (w : World) (r : Int) (fb ff : Nat) (os : List Opr) (k : Nat) (wr : World) (s5 s6 s7 : Value) : Prop :=
  ∃ (m nb : Nat) (cb rb : Nat → Nat) (v rv : Nat → Value) (L : Nat → List P2) (V Wv : Nat → Value) (D : Nat → List P2) (ow : Nat → Nat), 1 ≤ m ∧ nb ≤ k ∧ (∀ i, i < m → (L i).length ≤ tot ((os.take k).map Opr.l)) ∧ (∀ p, p < nb → (D p).length ≤ tot ((os.take k).map Opr.l)) ∧ Scr w wr r fb ff m nb cb rb v rv L V Wv D ow s5 s6 s7

section
variable {w W W1 W2 W3 W4 : World} {r : Int} {fb ff m nb : Nat} {cb rb : Nat → Nat} {v rv : Nat → Value} {L : Nat → List P2} {V Wv : Nat → Value} {D : Nat → List P2} {ow : Nat → Nat} {sC sR sB : Value} {os : List Opr} {k c : Nat}

theorem Inv.same (hm1 : 1 ≤ m) (hnb : nb ≤ k) (hL : ∀ i, i < m → (L i).length ≤ tot ((os.take k).map Opr.l)) (hD : ∀ p, p < nb → (D p).length ≤ tot ((os.take k).map Opr.l)) (hT : tot ((os.take (k + 1)).map Opr.l) = tot ((os.take k).map Opr.l) + (c + 1))
    (h : Scr w W r fb ff m nb cb rb v rv L V Wv D ow sC sR sB) : Inv w r fb ff os (k + 1) W sC sR sB :=
  ⟨m, nb, cb, rb, v, rv, L, V, Wv, D, ow, hm1, by omega, fun i hi => by have := hL i hi; omega, fun p hp => by have := hD p hp; omega, h⟩

/-- A call on chain i and on the document's. -/
theorem Inv.step (hm1 : 1 ≤ m) (hnb : nb ≤ k) (hL : ∀ i, i < m → (L i).length ≤ tot ((os.take k).map Opr.l)) (hD : ∀ p, p < nb → (D p).length ≤ tot ((os.take k).map Opr.l)) (hT : tot ((os.take (k + 1)).map Opr.l) = tot ((os.take k).map Opr.l) + (c + 1))
    (h : Scr w W r fb ff m nb cb rb v rv L V Wv D ow sC sR sB) {i : Nat} (hi : i < m) {v' rv' : Value} {L' : List P2} (hl : L'.length ≤ (L i).length + c + 1) (hc : Ch W1 (cb i) fb ff v' L') (hr : RCh W1 (rb i) r rv' L')
    (hk : Kp (fun q => q = cb i ∨ (v i).ownBlock = some q ∨ q = rb i) W W1) (hv : ∀ g, v'.ownBlock = some g → (v i).ownBlock = some g ∨ W.heap.size ≤ g) (hrv : ∀ g, rv'.ownBlock = some g → (rv i).ownBlock = some g ∨ W.heap.size ≤ g) (hne : ∀ g, v'.ownBlock = some g → rv'.ownBlock ≠ some g) :
    Inv w r fb ff os (k + 1) W1 sC sR sB := by
  obtain ⟨c1, c2, c3⟩ := h.ch i hi
  obtain ⟨r1, r2, r3⟩ := h.rf i hi
  have hk' : Kp (fun q => ow q = 3 + 2 * i ∨ ow q = 4 + 2 * i) W W1 := ⟨hk.os, hk.tape, hk.output, hk.size, fun q hq hn => hk.block q hq (fun e => by
    rcases e with e | e | e
    · exact hn (Or.inl (by rw [e]; exact c2))
    · exact hn (Or.inl (c3 q e))
    · exact hn (Or.inr (by rw [e]; exact r2)))⟩
  obtain ⟨ow', hS⟩ := h.step hi hc hr hk' hv hrv hne
  refine ⟨m, nb, cb, rb, _, _, _, V, Wv, D, ow', hm1, by omega, fun j hj => ?_, fun p hp => by have := hD p hp; omega, hS⟩
  have := hL j hj
  have := hL i hi
  by_cases e : j = i
  · simp only [if_pos e]; omega
  · simp only [if_neg e]; omega

/-- One behind the other: first the chain, then the document's. -/
theorem Inv.two (hm1 : 1 ≤ m) (hnb : nb ≤ k) (hL : ∀ i, i < m → (L i).length ≤ tot ((os.take k).map Opr.l)) (hD : ∀ p, p < nb → (D p).length ≤ tot ((os.take k).map Opr.l)) (hT : tot ((os.take (k + 1)).map Opr.l) = tot ((os.take k).map Opr.l) + (c + 1))
    (h : Scr w W r fb ff m nb cb rb v rv L V Wv D ow sC sR sB) {i : Nat} (hi : i < m) {v' rv' : Value} {L' : List P2} (hl : L'.length ≤ (L i).length + c + 1) (hc : Ch W1 (cb i) fb ff v' L') (ht : Turn (cb i) (v i) v' W W1) (hr : RCh W2 (rb i) r rv' L')
    (hk : Kp (fun q => q = rb i) W1 W2) (hrv : ∀ g, rv'.ownBlock = some g → (rv i).ownBlock = some g ∨ W1.heap.size ≤ g) (hb : Below W2.heap.size W2 W3) : Inv w r fb ff os (k + 1) W3 sC sR sB := by
  obtain ⟨c1, c2, c3⟩ := h.ch i hi
  obtain ⟨r1, r2, r3⟩ := h.rf i hi
  have hz := ht.1.size
  have hvr : ∀ g, v'.ownBlock = some g → g ≠ rb i := fun g hg e => by
    rcases ht.2 g hg with h1 | h1
    · have := c3 g h1; rw [e, r2] at this; omega
    · have := r1.lt; omega
  have hcr : ¬ cb i = rb i := fun e => by rw [e, r2] at c2; omega
  refine Inv.step hm1 hnb hL hD hT h hi (v' := v') (rv' := rv') hl ((hc.kp hk hcr hvr).below hb) (hr.below hb) ?_ ht.2 (fun g hg => ?_) (fun g hg e => ?_)
  · refine (Kp.trans (S := fun q => q = cb i ∨ (v i).ownBlock = some q ∨ q = rb i) ⟨ht.1.os, ht.1.tape, ht.1.output, ht.1.size, fun q hq hn => ht.1.block q hq (fun e => hn (e.imp id Or.inl))⟩ hk (fun q _ e => Or.inr (Or.inr e))).trans (Kp.of_below (S := fun _ => False) hb) (fun _ _ e => e.elim)
  · rcases hrv g hg with h1 | h1
    · exact Or.inl h1
    · exact Or.inr (Nat.le_trans hz h1)
  · have := hc.row g hg
    rcases hrv g e with h1 | h1
    · rcases ht.2 g hg with h2 | h2
      · have e1 := r3 g h1; have e2 := c3 g h2; omega
      · have := r1.row g h1; omega
    · omega

/-- A page is put down. -/
theorem Inv.page (hm1 : 1 ≤ m) (hnb : nb ≤ k) (hL : ∀ i, i < m → (L i).length ≤ tot ((os.take k).map Opr.l)) (hD : ∀ p, p < nb → (D p).length ≤ tot ((os.take k).map Opr.l)) (hT : tot ((os.take (k + 1)).map Opr.l) = tot ((os.take k).map Opr.l) + (c + 1))
    (h : Scr w W r fb ff m nb cb rb v rv L V Wv D ow sC sR sB) {i : Nat} (hi : i < m) {a b wt sB' : Value} (b1 : Below W.heap.size W W1) (b2 : Below W1.heap.size W1 W2) (b3 : Below W2.heap.size W2 W3)
    (hw : W1.ownsRow W.heap.size 28 2 wt (L i).length (flatP (L i))) (ha : W2.ownsRow W1.heap.size 28 2 a (L i).length (flatP (L i))) (hb : W3.ownsRow W2.heap.size 28 2 b (L i).length (flatP (L i)))
    (hs : W4.ownsRow 0 58 3 sB' (nb + 1) (((List.range nb).flatMap fun p => [V (2 * p), V (2 * p + 1), Wv p]) ++ [a, b, wt])) (hk : Kp (fun q => sB.ownBlock = some q) W3 W4) (hsl : ∀ g, sB'.ownBlock = some g → sB.ownBlock = some g ∨ W3.heap.size ≤ g) :
    Inv w r fb ff os (k + 1) W4 sC sR sB' := by
  obtain ⟨ow', hS⟩ := h.page (V' := fun j => if j = 2 * nb then a else if j = 2 * nb + 1 then b else V j) (Wv' := fun p => if p = nb then wt else Wv p) (D' := fun p => if p = nb then L i else D p) (a := a) (b := b) (wt := wt) (d := L i)
    (fun j hj => by rw [if_neg (by omega), if_neg (by omega)]) (by rw [if_pos rfl]) (by rw [if_neg (by omega), if_pos rfl]) (fun p hp => by rw [if_neg (by omega)]) (by rw [if_pos rfl]) (fun p hp => by rw [if_neg (by omega)]) (by rw [if_pos rfl]) b1 b2 b3 hw ha hb hs hk hsl
  refine ⟨m, nb + 1, cb, rb, v, rv, L, _, _, _, ow', hm1, by omega, fun j hj => by have := hL j hj; omega, fun p hp => ?_, hS⟩
  by_cases e : p = nb
  · simp only [if_pos e]; have := hL i hi; omega
  · simp only [if_neg e]; have := hD p (by omega); omega

/-- A chain is copied. -/
theorem Inv.copy (hnb : nb ≤ k) (hL : ∀ i, i < m → (L i).length ≤ tot ((os.take k).map Opr.l)) (hD : ∀ p, p < nb → (D p).length ≤ tot ((os.take k).map Opr.l)) (hT : tot ((os.take (k + 1)).map Opr.l) = tot ((os.take k).map Opr.l) + (c + 1))
    (h : Scr w W r fb ff m nb cb rb v rv L V Wv D ow sC sR sB) (hm : m < 5) {i : Nat} (hi : i < m) {cn rn : Nat} {vn rvn sC' sR' : Value}
    (b1 : Below W.heap.size W W1) (hc : Ch W1 cn fb ff vn (L i)) (hc1 : W.heap.size ≤ cn) (hc2 : ∀ g, vn.ownBlock = some g → W.heap.size ≤ g)
    (k2 : Kp (fun q => sC.ownBlock = some q) W1 W2) (hs : W2.ownsRow 0 23 1 sC' (m + 1) (((List.range m).map fun i => .pointer (some ⟨cb i, 0, none⟩)) ++ [.pointer (some ⟨cn, 0, none⟩)])) (hsl : ∀ g, sC'.ownBlock = some g → sC.ownBlock = some g ∨ W1.heap.size ≤ g)
    (b3 : Below W2.heap.size W2 W3) (hr : RCh W3 rn r rvn (L i)) (hr1 : W2.heap.size ≤ rn) (hr2 : ∀ g, rvn.ownBlock = some g → W2.heap.size ≤ g)
    (k4 : Kp (fun q => sR.ownBlock = some q) W3 W4) (ht : W4.ownsRow 0 49 1 sR' (m + 1) (((List.range m).map fun i => .pointer (some ⟨rb i, 0, none⟩)) ++ [.pointer (some ⟨rn, 0, none⟩)])) (htl : ∀ g, sR'.ownBlock = some g → sR.ownBlock = some g ∨ W3.heap.size ≤ g) :
    Inv w r fb ff os (k + 1) W4 sC' sR' sB := by
  obtain ⟨ow', hS⟩ := h.copy hm (i := i) (cb2 := fun j => if j = m then cn else cb j) (rb2 := fun j => if j = m then rn else rb j) (v2 := fun j => if j = m then vn else v j) (rv2 := fun j => if j = m then rvn else rv j) (L2 := fun j => if j = m then L i else L j) (sC' := sC') (sR' := sR')
    (fun j hj => by rw [if_neg (by omega)]) (fun j hj => by rw [if_neg (by omega)]) (fun j hj => by rw [if_neg (by omega)]) (fun j hj => by rw [if_neg (by omega)]) (fun j hj => by rw [if_neg (by omega)]) (by rw [if_pos rfl])
    b1 (by simp only [if_true]; exact hc) (by simp only [if_true]; exact hc1) (by simp only [if_true]; exact hc2) k2 (by simp only [if_true]; exact hs) hsl b3 (by simp only [if_true]; exact hr) (by simp only [if_true]; exact hr1) (by simp only [if_true]; exact hr2) k4 (by simp only [if_true]; exact ht) htl
  refine ⟨m + 1, nb, _, _, _, _, _, V, Wv, D, ow', by omega, by omega, fun j hj => ?_, fun p hp => by have := hD p hp; omega, hS⟩
  by_cases e : j = m
  · simp only [if_pos e]; have := hL i hi; omega
  · simp only [if_neg e]; have := hL j (by omega); omega
end
end Go.Proofs.Ytbomkeginbhhoaa
