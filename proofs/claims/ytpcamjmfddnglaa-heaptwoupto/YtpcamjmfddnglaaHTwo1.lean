import Derived.Test.YtpcamjmfddnglaaHSrt
namespace Go.Proofs.Ytpcamjmfddnglaa.Hs
open Go.RowKit Go.Sort Hp
attribute [local go_sem ↓] Go.wp_at_zero Go.wp_at_succ

abbrev sz (s : Th) : Int := (s.size : Int)
abbrev fS : Nat := 13
abbrev fA : Nat := 14
theorem shorter_ok : FnOk 13 (key sz) := by
  refine ⟨enters_of Try.func13 (by kernel_rfl) rfl, fun a b W => ?_⟩
  go_enter Try.func13, Try.ntmps13
  go_wp2
  go_ret
  exact ⟨by first | rfl | simp [key, sz], Gr.refl _⟩
theorem always_ok : FnOk 14 (fun _ _ => true) := by
  refine ⟨enters_of Try.func14 (by kernel_rfl) rfl, fun a b W => ?_⟩
  go_enter Try.func14, Try.ntmps14
  go_wp2
  go_ret
  exact ⟨rfl, Gr.refl _⟩
theorem infoS : (Try.prog.info? 9).map (fun i => (i.zero, i.size, i.bytes)) = some (some (.string ByteArray.empty), 1, 16) := by kernel_rfl
/-- 'append(own, s)' where own is of texts. -/
theorem wpAppS {w : World} {ops : Array Oper} {rest : List Oper} {o : Oper} {a : Act} {Q : Exit → Act → World → Prop} (hgd : o.guard = none) (s x : Operand)
    (ho : o.op = .call { callee := .builtin .append, args := #[s, x], argTypes := #[33, 33] })
    (v : Value) (n : Nat) (xs : List Value) (hs : a.eval s = v) (hown : w.ownsRow 0 9 1 v n xs)
    (t : ByteArray) (hx : a.eval x = .slice (some ⟨w.heap.size, 0, none⟩) 1 1) (hbig : n ≤ 1048576)
    (h : ∀ g cap w', w'.ownsRow 0 9 1 (.slice (some ⟨g, 0, none⟩) (n + 1) cap) (n + 1) (xs ++ ES.enc t) → w.grownBy w' v.ownBlock → (v.ownBlock = some g ∨ w.heap.size ≤ g) → wpList Try.prog ops Q rest (a.put o.dst (.slice (some ⟨g, 0, none⟩) (n + 1) cap)) w') :
    wpList Try.prog ops Q (o :: rest) a (w.alloc (.cells #[.string t] 9)) :=
  wpApp1 ES Try.underlying33 infoS rfl (by decide) hgd s x ho 0 v n xs hs hown t hx (by omega) (by unfold maxLen; omega) (Nat.zero_le _) _ rfl _ h

/-- New blocks get this tag. -/
def upd (ow : Nat → Nat) (n t : Nat) : Nat → Nat := fun k => if k < n then ow k else t
theorem upd_old {ow : Nat → Nat} {n t k : Nat} (h : k < n) : upd ow n t k = ow k := if_pos h
theorem upd_new {ow : Nat → Nat} {n t k : Nat} (h : n ≤ k) : upd ow n t k = t := if_neg (by omega)
/-- A row's blocks have this tag. -/
def Tag (ow : Nat → Nat) (v : Value) (t : Nat) : Prop := ∀ k, v.ownBlock = some k → ow k = t
theorem Tag.keep {ow : Nat → Nat} {v : Value} {t n u : Nat} (h : Tag ow v t) (hl : ∀ k, v.ownBlock = some k → k < n) : Tag (upd ow n u) v t := fun k hk => (upd_old (hl k hk)).trans (h k hk)
theorem Tag.new {ow : Nat → Nat} {v v' : Value} {t n : Nat} (h : Tag ow v t) (hl : ∀ k, v.ownBlock = some k → k < n) (hn : ∀ g, v'.ownBlock = some g → v.ownBlock = some g ∨ n ≤ g) : Tag (upd ow n t) v' t := fun k hk => by
  rcases hn k hk with h1 | h1
  · exact (upd_old (hl k h1)).trans (h k h1)
  · exact upd_new h1
/-- Two heaps and two lists of texts. -/
structure T2 (w : World) (l : List ByteArray) (h1 h2 : Nat) (v1 v2 vo vd : Value) (P1 P2 L1 L2 : List It) (n1 n2 : Nat) (O D : List ByteArray) (ow : Nat → Nat) (wr : World) : Prop where
  q1 : Hq wr h1 fS v1 sz L1 n1
  g2 : Hb wr h2 fA v2 L2 n2
  p1 : (P1 ++ L1).Perm (l.take n1).zipIdx
  p2 : (P2 ++ L2).Perm (l.take n2).zipIdx
  fs : ∀ i t, P1[i]? = some t → ∀ x ∈ P1.drop (i + 1) ++ L1, sz t.1 < sz x.1 ∨ (sz t.1 = sz x.1 ∧ t.2 < x.2)
  o : wr.ownsRow 0 9 1 vo O.length (fl ES O)
  d : wr.ownsRow 0 9 1 vd D.length (fl ES D)
  t1 : ow h1 = 1
  t2 : Tag ow v1 2
  t3 : ow h2 = 3
  t4 : Tag ow v2 4
  t5 : Tag ow vo 5
  t6 : Tag ow vd 6
  old : ∀ k, k < w.heap.size → ow k = 0
  bl : Below w.heap.size w wr
section
variable {w wr w' : World} {l : List ByteArray} {h1 h2 : Nat} {v1 v2 vo vd : Value} {P1 P2 L1 L2 : List It} {n1 n2 : Nat} {O D : List ByteArray} {ow : Nat → Nat}
theorem T2.below (h : T2 w l h1 h2 v1 v2 vo vd P1 P2 L1 L2 n1 n2 O D ow wr) (hb : Below wr.heap.size wr w') : T2 w l h1 h2 v1 v2 vo vd P1 P2 L1 L2 n1 n2 O D ow w' :=
  ⟨h.q1.below hb, h.g2.below hb, h.p1, h.p2, h.fs, owns_below h.o hb, owns_below h.d hb, h.t1, h.t2, h.t3, h.t4, h.t5, h.t6, h.old, h.bl.trans (hb.mono h.bl.size)⟩
theorem T2.gr (h : T2 w l h1 h2 v1 v2 vo vd P1 P2 L1 L2 n1 n2 O D ow wr) (hb : Gr wr w') : T2 w l h1 h2 v1 v2 vo vd P1 P2 L1 L2 n1 n2 O D ow w' := h.below hb.below
/-- The first heap is turned. -/
theorem T2.one (h : T2 w l h1 h2 v1 v2 vo vd P1 P2 L1 L2 n1 n2 O D ow wr) {v1' : Value} {P1' L1' : List It} {n1' : Nat} (q : Hq w' h1 fS v1' sz L1' n1') (ht : Turn h1 v1 v1' wr w') (hp : (P1' ++ L1').Perm (l.take n1').zipIdx)
    (hf : ∀ i t, P1'[i]? = some t → ∀ x ∈ P1'.drop (i + 1) ++ L1', sz t.1 < sz x.1 ∨ (sz t.1 = sz x.1 ∧ t.2 < x.2)) : T2 w l h1 h2 v1' v2 vo vd P1' P2 L1' L2 n1' n2 O D (upd ow wr.heap.size 2) w' := by
  have hS : ∀ k, (k = h1 ∨ v1.ownBlock = some k) → ow k = 1 ∨ ow k = 2 := fun k hk => by
    rcases hk with rfl | hk
    · exact Or.inl h.t1
    · exact Or.inr (h.t2 k hk)
  have hz := h.bl.size
  refine ⟨q, h.g2.kp ht.1 (fun e => ?_) (fun k hk e => ?_), hp, h.p2, hf, owns_kp ht.1 h.o (fun k hk e => ?_), owns_kp ht.1 h.d (fun k hk e => ?_), (upd_old h.q1.h.lt).trans h.t1, h.t2.new h.q1.h.row ht.2, (upd_old h.g2.lt).trans h.t3, h.t4.keep h.g2.row, h.t5.keep (fun k hk => (h.o.lt k hk).2), h.t6.keep (fun k hk => (h.d.lt k hk).2), fun k hk => (upd_old (by omega)).trans (h.old k hk), h.bl.trans (ht.1.below hz (fun k hk => ?_))⟩
  · have := hS _ e; have := h.t3; omega
  · have := hS _ e; have := h.t4 k hk; omega
  · have := hS _ e; have := h.t5 k hk; omega
  · have := hS _ e; have := h.t6 k hk; omega
  · have h2 := hS _ hk
    by_cases hkw : k < w.heap.size
    · have := h.old k hkw; omega
    · omega
/-- The second heap is turned. -/
theorem T2.two (h : T2 w l h1 h2 v1 v2 vo vd P1 P2 L1 L2 n1 n2 O D ow wr) {v2' : Value} {P2' L2' : List It} {n2' : Nat} (q : Hb w' h2 fA v2' L2' n2') (ht : Turn h2 v2 v2' wr w') (hp : (P2' ++ L2').Perm (l.take n2').zipIdx) : T2 w l h1 h2 v1 v2' vo vd P1 P2' L1 L2' n1 n2' O D (upd ow wr.heap.size 4) w' := by
  have hS : ∀ k, (k = h2 ∨ v2.ownBlock = some k) → ow k = 3 ∨ ow k = 4 := fun k hk => by
    rcases hk with rfl | hk
    · exact Or.inl h.t3
    · exact Or.inr (h.t4 k hk)
  have hz := h.bl.size
  refine ⟨h.q1.kp ht.1 (fun e => ?_) (fun k hk e => ?_), q, h.p1, hp, h.fs, owns_kp ht.1 h.o (fun k hk e => ?_), owns_kp ht.1 h.d (fun k hk e => ?_), (upd_old h.q1.h.lt).trans h.t1, h.t2.keep h.q1.h.row, (upd_old h.g2.lt).trans h.t3, h.t4.new h.g2.row ht.2, h.t5.keep (fun k hk => (h.o.lt k hk).2), h.t6.keep (fun k hk => (h.d.lt k hk).2), fun k hk => (upd_old (by omega)).trans (h.old k hk), h.bl.trans (ht.1.below hz (fun k hk => ?_))⟩
  · have := hS _ e; have := h.t1; omega
  · have := hS _ e; have := h.t2 k hk; omega
  · have := hS _ e; have := h.t5 k hk; omega
  · have := hS _ e; have := h.t6 k hk; omega
  · have h2 := hS _ hk
    by_cases hkw : k < w.heap.size
    · have := h.old k hkw; omega
    · omega
/-- The first list grows. -/
theorem T2.out (h : T2 w l h1 h2 v1 v2 vo vd P1 P2 L1 L2 n1 n2 O D ow wr) {x : ByteArray} {g cap : Nat} (ho : w'.ownsRow 0 9 1 (.slice (some ⟨g, 0, none⟩) (O.length + 1) cap) (O.length + 1) (fl ES O ++ ES.enc x)) (hk : Kp (fun k => vo.ownBlock = some k) wr w') (hg : vo.ownBlock = some g ∨ wr.heap.size ≤ g) :
    T2 w l h1 h2 v1 v2 (.slice (some ⟨g, 0, none⟩) (O.length + 1) cap) vd P1 P2 L1 L2 n1 n2 (O ++ [x]) D (upd ow wr.heap.size 5) w' := by
  have hz := h.bl.size
  have hn : ∀ q, (Value.slice (some ⟨g, 0, none⟩) (O.length + 1) cap).ownBlock = some q → vo.ownBlock = some q ∨ wr.heap.size ≤ q := fun q hq => by have := own_eq hq; subst this; exact hg
  refine ⟨h.q1.kp hk (fun e => ?_) (fun k hk e => ?_), h.g2.kp hk (fun e => ?_) (fun k hk e => ?_), h.p1, h.p2, h.fs, by rw [fl_append, fl_one, List.length_append]; exact ho, owns_kp hk h.d (fun k hk e => ?_), (upd_old h.q1.h.lt).trans h.t1, h.t2.keep h.q1.h.row, (upd_old h.g2.lt).trans h.t3, h.t4.keep h.g2.row, h.t5.new (fun k hk => (h.o.lt k hk).2) hn, h.t6.keep (fun k hk => (h.d.lt k hk).2), fun k hk => (upd_old (by omega)).trans (h.old k hk), h.bl.trans (hk.below hz (fun k hk => ?_))⟩
  · have := h.t5 _ e; have := h.t1; omega
  · have := h.t5 _ e; have := h.t2 k hk; omega
  · have := h.t5 _ e; have := h.t3; omega
  · have := h.t5 _ e; have := h.t4 k hk; omega
  · have := h.t5 _ e; have := h.t6 k hk; omega
  · have h2 := h.t5 _ hk
    by_cases hkw : k < w.heap.size
    · have := h.old k hkw; omega
    · omega
/-- The second list grows. -/
theorem T2.odd (h : T2 w l h1 h2 v1 v2 vo vd P1 P2 L1 L2 n1 n2 O D ow wr) {x : ByteArray} {g cap : Nat} (ho : w'.ownsRow 0 9 1 (.slice (some ⟨g, 0, none⟩) (D.length + 1) cap) (D.length + 1) (fl ES D ++ ES.enc x)) (hk : Kp (fun k => vd.ownBlock = some k) wr w') (hg : vd.ownBlock = some g ∨ wr.heap.size ≤ g) :
    T2 w l h1 h2 v1 v2 vo (.slice (some ⟨g, 0, none⟩) (D.length + 1) cap) P1 P2 L1 L2 n1 n2 O (D ++ [x]) (upd ow wr.heap.size 6) w' := by
  have hz := h.bl.size
  have hn : ∀ q, (Value.slice (some ⟨g, 0, none⟩) (D.length + 1) cap).ownBlock = some q → vd.ownBlock = some q ∨ wr.heap.size ≤ q := fun q hq => by have := own_eq hq; subst this; exact hg
  refine ⟨h.q1.kp hk (fun e => ?_) (fun k hk e => ?_), h.g2.kp hk (fun e => ?_) (fun k hk e => ?_), h.p1, h.p2, h.fs, owns_kp hk h.o (fun k hk e => ?_), by rw [fl_append, fl_one, List.length_append]; exact ho, (upd_old h.q1.h.lt).trans h.t1, h.t2.keep h.q1.h.row, (upd_old h.g2.lt).trans h.t3, h.t4.keep h.g2.row, h.t5.keep (fun k hk => (h.o.lt k hk).2), h.t6.new (fun k hk => (h.d.lt k hk).2) hn, fun k hk => (upd_old (by omega)).trans (h.old k hk), h.bl.trans (hk.below hz (fun k hk => ?_))⟩
  · have := h.t6 _ e; have := h.t1; omega
  · have := h.t6 _ e; have := h.t2 k hk; omega
  · have := h.t6 _ e; have := h.t3; omega
  · have := h.t6 _ e; have := h.t4 k hk; omega
  · have := h.t6 _ e; have := h.t5 k hk; omega
  · have h2 := h.t6 _ hk
    by_cases hkw : k < w.heap.size
    · have := h.old k hkw; omega
    · omega
end
theorem zip_take {l : List ByteArray} {i : Nat} {x : ByteArray} (h : l[i]? = some x) : (l.take (i + 1)).zipIdx = (l.take i).zipIdx ++ [(x, i)] := by
  have hl := (List.getElem?_eq_some_iff.1 h).1
  rw [List.take_add_one, h, Option.toList_some, List.zipIdx_append]
  simp [Nat.min_eq_left (Nat.le_of_lt hl)]
end Go.Proofs.Ytpcamjmfddnglaa.Hs
