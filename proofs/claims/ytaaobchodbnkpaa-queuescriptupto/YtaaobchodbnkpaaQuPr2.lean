import Derived.Test.YtaaobchodbnkpaaQuPr
namespace Go.Proofs.Ytaaobchodbnkpaa.Qe
open Go.RowKit Go.Sort

/-- A row whose block bears the mark j. -/
def Ow (w : World) (tag : Nat → Nat) (j : Nat) (e : TypeId) (s : Nat) (v : Value) (n : Nat) (xs : List Value) : Prop := w.ownsRow 0 e s v n xs ∧ ∀ g, v.ownBlock = some g → tag g = j
theorem Ow.nx {A : Nat → Prop} {w w' : World} {tag tag' : Nat → Nat} {j : Nat} {e : TypeId} {s n : Nat} {v : Value} {xs : List Value} (h : Ow w tag j e s v n xs) (hn : Nx A tag tag' w w') (hj : ¬ A j) : Ow w' tag' j e s v n xs :=
  ⟨owns_kp hn.kp h.1 (fun k hk hA => hj (by rw [← h.2 k hk]; exact hA)), fun g hg => (hn.old g (h.1.lt g hg).2).trans (h.2 g hg)⟩
theorem Ow.new {w w' : World} {tag : Nat → Nat} {j : Nat} {e : TypeId} {s n : Nat} {v : Value} {xs : List Value} (h : w'.ownsRow w.heap.size e s v n xs) : Ow w' (tg tag w j) j e s v n xs :=
  ⟨owns_base h (Nat.zero_le _), fun g hg => tg_new (h.lt g hg).1⟩
/-- A list of messages, of changes, that was answered and bears the mark t. -/
def Lm (w : World) (tag : Nat → Nat) (t : Nat) (u : Value) (l : List Ms) : Prop := Ow w tag t 36 6 u l.length (fl EM l)
def Lc (w : World) (tag : Nat → Nat) (t : Nat) (u : Value) (l : List Cg) : Prop := Ow w tag t 51 5 u l.length (fl EC l)
section
variable {w w' : World} {tag : Nat → Nat} {a b qb rb N K : Nat} {Q : Nat → List Ms} {L : List Ms}
theorem Pr.drainP (h : Pr w tag a b qb rb N K Q L) (p : Int) (t : Nat) (hK : (2 * K + 1) * 48 ≤ 140737488355328) : Calls Try.prog 10 #[.pointer (some ⟨qb, 0, none⟩), .int .i64 p] w fun e w' => ∃ u, e = .returned (.tuple #[u, .int .i64 (pe N p : Nat)]) ∧ (∃ q c, u = .slice q (atp L p).length c) ∧ Hid (Lm w' (tg tag w t) t u (atp L p) ∧ Pt w' (tg tag w t) a qb N K (drn N Q p) ∧ Nx (fun k => k = a) tag (tg tag w t) w w') := by
  refine (drain_any p w h.p (by omega)).mono ?_
  rintro e w' ⟨u, he, hf, hR⟩
  rw [h.rel.list] at hf hR
  obtain ⟨h1, h2, h3⟩ := hR.out
  refine ⟨u, he, hf, Ow.new h1, Pq.mono h2 (fun k _ hs => ?_) (Nat.le_refl _), ⟨h3, fun _ hk => tg_old hk⟩⟩
  rw [tg_old hs.2]; exact hs.1
theorem Pr.drainR {tagP : Nat → Nat} {wP : World} (h : Pr w tag a b qb rb N K Q L) (hab : a ≠ b) (p : Int) (t : Nat) (hK : (2 * K + 1) * 48 ≤ 140737488355328) (hP : Pt wP tagP a qb N K (drn N Q p)) (hn : Nx (fun k => k = a) tag tagP w wP) : Calls Try.prog 32 #[.pointer (some ⟨rb, 0, none⟩), .int .i64 p] wP fun e w' => ∃ u, e = .returned (.tuple #[u, .int .i64 (pe N p : Nat)]) ∧ (∃ q c, u = .slice q (atp L p).length c) ∧ Hid (∃ tag', Lm w' tag' t u (atp L p) ∧ Pr w' tag' a b qb rb N K (drn N Q p) (rdn N L p) ∧ Nx (fun k => k = b) tagP tag' wP w') := by
  obtain ⟨v, h1⟩ := h.r.nx hn (fun e => hab e.symm)
  have hle := h.le
  refine (rdrain_any p wP h1.old (by omega)).mono ?_
  rintro e w' ⟨u, he, hf, hR⟩
  rw [h.rel.rls, h.rel.list] at hf hR
  obtain ⟨v', mid, m1, m2, r1, r2, r3⟩ := hR.out
  obtain ⟨tag', ht⟩ : ∃ tag' : Nat → Nat, tag' = fun k => if k < wP.heap.size then tagP k else if k < mid then t else b := ⟨_, rfl⟩
  have t1 : ∀ k, k < wP.heap.size → tag' k = tagP k := fun k hk => by rw [ht]; simp only; rw [if_pos hk]
  have t2 : ∀ k, wP.heap.size ≤ k → k < mid → tag' k = t := fun k hk hk2 => by rw [ht]; simp only; rw [if_neg (by omega), if_pos hk2]
  have t3 : ∀ k, wP.heap.size ≤ k → mid ≤ k → tag' k = b := fun k hk hk2 => by rw [ht]; simp only; rw [if_neg (by omega), if_neg (by omega)]
  have hn2 : Nx (fun k => k = b) tagP tag' wP w' := ⟨r3.mono (fun _ h => h.1), t1⟩
  refine ⟨u, he, hf, tag', ⟨owns_base r1 (Nat.zero_le _), fun g hg => t2 g (r1.lt g hg).1 (m2 g hg)⟩, ⟨hP.nx hn2 hab, ⟨v', r2.mono (fun k _ hs => ?_)⟩, h.rel.drain p, by have := rdn_le N L p; omega⟩, hn2⟩
  rcases hs with hs | hs
  · rw [t1 k hs.2]; exact hs.1
  · exact t3 k (Nat.le_trans m1 hs.1) hs.1
/-- Lists and counts of both, each new. -/
theorem Pr.listP (h : Pr w tag a b qb rb N K Q L) (p : Int) (t : Nat) (hK : (2 * K + 1) * 48 ≤ 140737488355328) : Calls Try.prog 22 #[.pointer (some ⟨qb, 0, none⟩), .int .i64 p] w fun e w' => ∃ u, e = .returned u ∧ (∃ q c, u = .slice q (atp L p).length c) ∧ Hid (Lm w' (tg tag w t) t u (atp L p) ∧ Below w.heap.size w w') := by
  refine (qlist_any p w h.p (by omega)).mono ?_
  rintro e w' ⟨u, he, hf, h1, h2⟩
  rw [h.rel.list] at hf h1
  exact ⟨u, he, hf, Ow.new h1, h2⟩
theorem Pr.listR (h : Pr w tag a b qb rb N K Q L) (p : Int) (t : Nat) (hK : (2 * K + 1) * 48 ≤ 140737488355328) : Calls Try.prog 23 #[.pointer (some ⟨rb, 0, none⟩), .int .i64 p] w fun e w' => ∃ u, e = .returned u ∧ (∃ q c, u = .slice q (atp L p).length c) ∧ Hid (Lm w' (tg tag w t) t u (atp L p) ∧ Below w.heap.size w w') := by
  obtain ⟨v, h1⟩ := h.r
  have hle := h.le
  refine (rlist_any p w h1 (by omega)).mono ?_
  rintro e w' ⟨u, he, hf, h1, h2⟩
  exact ⟨u, he, hf, Ow.new h1, h2⟩
theorem Pr.cntP (h : Pr w tag a b qb rb N K Q L) (t : Nat) (hK : (2 * K + 1) * 48 ≤ 140737488355328) : Calls Try.prog 14 #[.pointer (some ⟨qb, 0, none⟩)] w fun e w' => ∃ u, e = .returned u ∧ (∃ q c, u = .slice q (ctsTo (fun p : Nat => atp L (p : Int)) N).length c) ∧ Hid (Lc w' (tg tag w t) t u (ctsTo (fun p : Nat => atp L (p : Int)) N) ∧ Below w.heap.size w w') := by
  have hle := h.le
  refine (counts_any w h.p (by omega) (by rw [h.rel.tot]; omega)).mono ?_
  rintro e w' ⟨u, he, hf, hR⟩
  rw [h.rel.cts] at hf hR
  exact ⟨u, he, hf, Ow.new hR.out.1, hR.out.2⟩
theorem Pr.cntR (h : Pr w tag a b qb rb N K Q L) (hN : N ≤ 192) (t : Nat) (hK : K ≤ 1000000) : Calls Try.prog 21 #[.pointer (some ⟨rb, 0, none⟩)] w fun e w' => ∃ u, e = .returned u ∧ (∃ q c, u = .slice q (ctsTo (fun p : Nat => atp L (p : Int)) N).length c) ∧ Hid (Lc w' (tg tag w t) t u (ctsTo (fun p : Nat => atp L (p : Int)) N) ∧ Below w.heap.size w w') := by
  obtain ⟨v, h1⟩ := h.r
  have hle := h.le
  refine (rcounts_any w h1 hN (by omega)).mono ?_
  rintro e w' ⟨u, he, hf, hR⟩
  exact ⟨u, he, hf, Ow.new hR.out.1, hR.out.2⟩
/-- Copies of both. -/
theorem Pr.copyP (h : Pr w tag a b qb rb N K Q L) (j : Nat) (hK : (2 * K + 1) * 48 ≤ 140737488355328) : Calls Try.prog 18 #[.pointer (some ⟨qb, 0, none⟩)] w fun e w' => ∃ x, e = .returned (.pointer (some ⟨x, 0, none⟩)) ∧ Hid (Pt w' (tg tag w j) j x N K Q ∧ Below w.heap.size w w') := by
  refine (copy_any w h.p (by omega)).mono ?_
  rintro e w' ⟨x, he, hR⟩
  exact ⟨x, he, Pq.mono hR.out.2.1 (fun k _ hs => tg_new hs) (Nat.le_refl _), hR.out.2.2⟩
theorem Pr.copyR (h : Pr w tag a b qb rb N K Q L) (j : Nat) (hK : (2 * K + 1) * 48 ≤ 140737488355328) : Calls Try.prog 19 #[.pointer (some ⟨rb, 0, none⟩)] w fun e w' => ∃ x, e = .returned (.pointer (some ⟨x, 0, none⟩)) ∧ Hid (Rq w' (tg tag w j) j x N L ∧ Below w.heap.size w w') := by
  obtain ⟨v, h1⟩ := h.r
  have hle := h.le
  refine (rcopy_any w h1 (by omega)).mono ?_
  rintro e w' ⟨x, he, hR⟩
  obtain ⟨_, ⟨v', h2⟩, h3⟩ := hR.out
  exact ⟨x, he, ⟨v', h2.mono (fun k _ hs => tg_new hs)⟩, h3⟩
theorem Pr.totP (h : Pr w tag a b qb rb N K Q L) (hK : K ≤ 1000000) : Calls Try.prog 13 #[.pointer (some ⟨qb, 0, none⟩)] w fun e w' => e = .returned (.int .i64 (L.length : Nat)) ∧ w' = w := by
  have := total_any w h.p (by omega)
  rwa [h.rel.tot] at this
theorem Pr.lenP (h : Pr w tag a b qb rb N K Q L) (p : Int) : Calls Try.prog 11 #[.pointer (some ⟨qb, 0, none⟩), .int .i64 p] w fun e w' => e = .returned (.int .i64 ((atp L p).length : Nat)) ∧ w' = w := by
  have := len_any p w h.p
  rwa [h.rel.list] at this
end
end Go.Proofs.Ytaaobchodbnkpaa.Qe
