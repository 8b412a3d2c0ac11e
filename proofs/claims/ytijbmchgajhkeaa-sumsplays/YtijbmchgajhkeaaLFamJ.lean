import Derived.Test.YtijbmchgajhkeaaLRow
import Derived.Laws.AppendOwnNone
namespace Go.Proofs.Ytijbmchgajhkeaa
open Go.RowKit Go.Sort

section
variable {α : Type} {E : El α} {e : TypeId}
theorem owns_re0 {w : World} {s : Nat} {v : Value} {n n' : Nat} {xs xs' : List Value} (h : w.ownsRow 0 e s v n xs) (hn : n = n') (hx : xs = xs') : w.ownsRow 0 e s v n' xs' := by subst hn; subst hx; exact h
/-- An owned row's form. -/
theorem owns_form0 {w : World} {s : Nat} {v : Value} {n : Nat} {xs : List Value} (h : w.ownsRow 0 e s v n xs) (hn : 0 < n) : ∃ g cap, v = .slice (some ⟨g, 0, none⟩) n cap ∧ n ≤ cap ∧ cap ≤ maxLen := by
  obtain ⟨_, ⟨_, h1⟩ | ⟨g', cap', cur, hv, _, _, hn, hm, _⟩⟩ := h
  · omega
  · exact ⟨g', cap', hv, hn, hm⟩
theorem owns_frozen0 {w : World} {s g n n' cap : Nat} {xs : List Value} (h : w.ownsRow 0 e s (.slice (some ⟨g, 0, none⟩) n' cap) n xs) (q : Nat) : w.frozen? ⟨g, q, none⟩ = false := by
  obtain ⟨_, ⟨h0, _⟩ | ⟨g', cap', cur, hv, _, hgg, _⟩⟩ := h
  · cases h0
  · cases hv
    simp [World.frozen?, hgg]
/-- One cell of an owned row is set. -/
theorem owns_cell0 {w : World} {s g n cap q : Nat} {xs : List Value} (u : Value) (h : w.ownsRow 0 e s (.slice (some ⟨g, 0, none⟩) n cap) n xs) :
    (w.setCell ⟨g, q, none⟩ u).ownsRow 0 e s (.slice (some ⟨g, 0, none⟩) n cap) n (xs.set q u) ∧ Kp (fun k => k = g) w (w.setCell ⟨g, q, none⟩ u) := by
  obtain ⟨h1, ⟨h0, _⟩ | ⟨g', cap', cur, hv, hg, hh, h2, h3, h4, h5⟩⟩ := h
  · cases h0
  · cases hv
    have e1 := setCell_eq_setRow w g q _ _ _ u hh
    have hk1 : Kp (fun k => k = g) w (w.setCell ⟨g, q, none⟩ u) := by
      rw [e1]
      exact ⟨rfl, rfl, rfl, by simp [World.setRow], fun q _ hne => setRow_other _ g q _ (by omega)⟩
    refine ⟨⟨by simpa using h1, Or.inr ⟨g, cap, _, rfl, hg, by rw [e1]; exact setRow_heap _ g _ _ _ _ hh, h2, h3, ?_, ?_⟩⟩, hk1⟩
    · simp [h4]
    · rw [Array.toList_setIfInBounds, List.take_set, h5]

variable (E e) in
/-- Lists of the call's own, no two in one block. -/
structure Fam (W : World) (n : Nat) (V : Nat → Value) (C : Nat → List α) : Prop where
  own : ∀ i, i < n → W.ownsRow 0 e E.k (V i) (C i).length (fl E (C i))
  far : ∀ i j, i < n → j < n → i ≠ j → ∀ g, (V i).ownBlock = some g → (V j).ownBlock ≠ some g
theorem Fam.kp {S : Nat → Prop} {W W' : World} {n : Nat} {V : Nat → Value} {C : Nat → List α} (h : Fam E e W n V C) (hk : Kp S W W') (hS : ∀ i, i < n → ∀ g, (V i).ownBlock = some g → ¬ S g) : Fam E e W' n V C :=
  ⟨fun i hi => owns_kp hk (h.own i hi) (hS i hi), h.far⟩
theorem Fam.below {W W' : World} {n : Nat} {V : Nat → Value} {C : Nat → List α} (h : Fam E e W n V C) (hb : Below W.heap.size W W') : Fam E e W' n V C := h.kp (S := fun _ => False) (Kp.of_below hb) (fun _ _ _ _ h => h)
theorem Fam.lt {W : World} {n : Nat} {V : Nat → Value} {C : Nat → List α} (h : Fam E e W n V C) {i : Nat} (hi : i < n) : ∀ g, (V i).ownBlock = some g → g < W.heap.size := fun g hg => ((h.own i hi).lt g hg).2
variable (mk : Nat → Nat → α)
/-- The marks of list k, n of them. -/
def mks (k n : Nat) : List α := (List.range n).map (mk k)
theorem mks_len (k n : Nat) : (mks mk k n).length = n := by simp [mks]
theorem mks_succ (k n : Nat) : mks mk k (n + 1) = mks mk k n ++ [mk k n] := by simp [mks, List.range_succ]
theorem mks_get {k n j : Nat} (h : j < n) : (mks mk k n)[j]? = some (mk k j) := by simp [mks, h]
/-- Behind k lists and i of the next one. -/
def stage (C : Nat → List α) (k i j : Nat) : List α := if j < k then mks mk j (C j).length else if j = k then mks mk k i ++ (C k).drop i else C j
theorem stage_len (C : Nat → List α) (k i j : Nat) (hi : i ≤ (C k).length) : (stage mk C k i j).length = (C j).length := by
  unfold stage
  split
  · rw [mks_len]
  · split
    · rename_i h; subst h; simp [mks_len]; omega
    · rfl
theorem stage_zero (C : Nat → List α) : stage mk C 0 0 = C := by
  funext j
  unfold stage
  rw [if_neg (Nat.not_lt_zero _)]
  split
  · rename_i h; subst h; simp [mks]
  · rfl
theorem stage_next (C : Nat → List α) (k : Nat) : stage mk C k (C k).length = stage mk C (k + 1) 0 := by
  funext j
  unfold stage
  by_cases h1 : j < k
  · rw [if_pos h1, if_pos (by omega)]
  · rw [if_neg h1]
    by_cases h2 : j = k
    · subst h2; rw [if_pos rfl, if_pos (by omega)]; simp
    · rw [if_neg h2, if_neg (by omega)]
      split
      · rename_i h; subst h; simp [mks]
      · rfl
theorem stage_step (C : Nat → List α) (k i : Nat) (hi : i < (C k).length) (j : Nat) : stage mk C k (i + 1) j = if j = k then (stage mk C k i k).set i (mk k i) else stage mk C k i j := by
  unfold stage
  by_cases h1 : j < k
  · rw [if_pos h1, if_neg (by omega), if_pos h1]
  · rw [if_neg h1]
    by_cases h2 : j = k
    · rw [if_pos h2, if_pos h2, if_neg (Nat.lt_irrefl _), if_pos rfl]
      have hd : (C k).drop i = (C k)[i] :: (C k).drop (i + 1) := List.drop_eq_getElem_cons hi
      rw [hd, List.set_append_right _ _ (by rw [mks_len]; omega), mks_len, Nat.sub_self, List.set_cons_zero, mks_succ, List.append_assoc]
      rfl
    · rw [if_neg h2, if_neg h2, if_neg h1, if_neg h2]
theorem stage_full (C : Nat → List α) (n : Nat) (j : Nat) (h : j < n) : stage mk C n 0 j = mks mk j (C j).length := by
  unfold stage
  rw [if_pos h]
/-- A store into list k. -/
theorem Fam.set {W W' : World} {n k g len cap i : Nat} {V : Nat → Value} {D D' : Nat → List α} (h : Fam E e W n V D) (hk : k < n) (hV : V k = .slice (some ⟨g, 0, none⟩) len cap) (x : α) (hD : ∀ j, D' j = if j = k then (D k).set i x else D j)
    (h1 : W'.ownsRow 0 e E.k (.slice (some ⟨g, 0, none⟩) len cap) (D k).length (fl E ((D k).set i x))) (h2 : Kp (fun q => q = g) W W') : Fam E e W' n V D' ∧ Kp (fun q => (V k).ownBlock = some q) W W' := by
  have hkk : Kp (fun q => (V k).ownBlock = some q) W W' := ⟨h2.os, h2.tape, h2.output, h2.size, fun q hq hn => h2.block q hq (fun e => hn (by rw [hV, e]; rfl))⟩
  refine ⟨⟨fun j hj => ?_, h.far⟩, hkk⟩
  rw [hD j]
  by_cases hjk : j = k
  · subst hjk
    rw [if_pos rfl, hV, List.length_set]
    exact h1
  · rw [if_neg hjk]
    exact owns_kp hkk (h.own j hj) (fun q hq e => h.far j k hj hk hjk q hq e)

end

section
variable {α : Type} (E : El α) (e eS : TypeId) (mk : Nat → Nat → α) (d : Nat)
/-- Behind k lists that were grown. -/
structure Grw (w2 : World) (N : Nat) (V : Nat → Value) (n : Nat → Nat) (W : World) (k : Nat) (X : Nat → Value) (s : Value) : Prop where
  big : ∀ i, i < k → Ls E W (X i) (mks mk i (n i + d))
  old : ∀ i, i < k → Ls E W (V i) (mks mk i (n i))
  rest : ∀ i, k ≤ i → i < N → W.ownsRow 0 e E.k (V i) (n i) (fl E (mks mk i (n i)))
  lie : ∀ i, i < k → ∀ g, (X i).ownBlock = some g → (V i).ownBlock = some g ∨ w2.heap.size ≤ g
  more : W.ownsRow w2.heap.size eS 1 s k ((List.range k).map X)
  mfar : ∀ g, s.ownBlock = some g → ∀ i, i < k → (X i).ownBlock ≠ some g
  kp : Kp (fun q => ∃ i, i < N ∧ (V i).ownBlock = some q) w2 W

variable {E e eS mk d}
theorem Grw.step {w2 : World} {N : Nat} {V : Nat → Value} {n : Nat → Nat} {W W1 W3 : World} {k : Nat} {X : Nat → Value} {s s' x : Value} (h : Grw E e eS mk d w2 N V n W k X s) (hk : k < N)
    (hfar : ∀ i j, i < N → j < N → i ≠ j → ∀ g, (V i).ownBlock = some g → (V j).ownBlock ≠ some g) (hlow : ∀ i, i < N → ∀ g, (V i).ownBlock = some g → g < w2.heap.size)
    (hx : Ls E W1 x (mks mk k (n k + d))) (hxl : ∀ g, x.ownBlock = some g → (V k).ownBlock = some g ∨ W.heap.size ≤ g) (hV : Ls E W1 (V k) (mks mk k (n k))) (h1 : Kp (fun q => (V k).ownBlock = some q) W W1)
    (hm : W3.ownsRow w2.heap.size eS 1 s' (k + 1) ((List.range k).map X ++ [x])) (h3 : Kp (fun q => s.ownBlock = some q) W1 W3) (hs : ∀ g, s'.ownBlock = some g → s.ownBlock = some g ∨ W1.heap.size ≤ g) :
    Grw E e eS mk d w2 N V n W3 (k + 1) (fun i => if i = k then x else X i) s' := by
  have hsl : ∀ g, s.ownBlock = some g → w2.heap.size ≤ g ∧ g < W.heap.size := fun g hg => h.more.lt g hg
  have hVs : ∀ i, i < N → ∀ q, (V i).ownBlock = some q → ¬ s.ownBlock = some q := fun i hi q hq e => by have := (hsl q e).1; have := hlow i hi q hq; omega
  have hXk : ∀ i, i < k → ∀ q, (X i).ownBlock = some q → ¬ (V k).ownBlock = some q := fun i hi q hq e => by
    rcases h.lie i hi q hq with h' | h'
    · exact hfar i k (by omega) hk (by omega) q h' e
    · have := hlow k hk q e; omega
  have hxs : ∀ q, x.ownBlock = some q → ¬ s.ownBlock = some q := fun q hq e => by
    rcases hxl q hq with h' | h'
    · exact hVs k hk q h' e
    · have := (hsl q e).2; omega
  refine ⟨fun i hi => ?_, fun i hi => ?_, fun i hi hiN => ?_, fun i hi g hg => ?_, ?_, fun g hg i hi => ?_, ?_⟩
  · by_cases e : i = k
    · subst e
      rw [if_pos rfl]
      exact h3.ls hx hxs
    · rw [if_neg e]
      exact h3.ls (h1.ls (h.big i (by omega)) (hXk i (by omega))) (fun q hq e' => h.mfar q e' i (by omega) hq)
  · by_cases e : i = k
    · subst e
      exact h3.ls hV (hVs i hk)
    · exact h3.ls (h1.ls (h.old i (by omega)) (fun q hq e' => hfar i k (by omega) hk e q hq e')) (hVs i (by omega))
  · exact owns_kp h3 (owns_kp h1 (h.rest i (by omega) hiN) (fun q hq e' => hfar i k hiN hk (by omega) q hq e')) (hVs i hiN)
  · by_cases e : i = k
    · subst e
      rw [if_pos rfl] at hg
      rcases hxl g hg with h' | h'
      · exact Or.inl h'
      · exact Or.inr (Nat.le_trans h.kp.size h')
    · rw [if_neg e] at hg
      exact h.lie i (by omega) g hg
  · have e : (List.range (k + 1)).map (fun i => if i = k then x else X i) = (List.range k).map X ++ [x] := by
      rw [List.range_succ, List.map_append]
      congr 1
      · refine List.map_congr_left fun i hi => ?_
        rw [if_neg (by have := List.mem_range.1 hi; omega)]
      · simp
    rw [e]
    exact hm
  · intro e
    by_cases ei : i = k
    · subst ei
      rw [if_pos rfl] at e
      rcases hs g hg with h' | h'
      · exact hxs g e h'
      · have := hx.blk g e; omega
    · rw [if_neg ei] at e
      rcases hs g hg with h' | h'
      · exact h.mfar g h' i (by omega) e
      · have := (h.big i (by omega)).blk g e; have := h1.size; omega
  · refine (h.kp.trans h1 (fun q _ e => ⟨k, hk, e⟩)).trans h3 (fun q hq e => ?_)
    have := (hsl q e).1; omega


end
/-- 'append' onto a list of the call's own: the new one, and the old one reads as it did. -/
theorem app_keep {P : Program} (w : World) (t ty e : TypeId) (i : TypeInfo) (z : Value) (size bytes : Nat) (ht : P.underlying t = some (.slice e)) (hi : P.info? e = some i) (hz : i.zero = some z)
    (hsize : i.size = size) (hby : i.bytes = bytes) (hzs : z.cells.size = size) (hsz : 0 < size)
    (v : Value) (n : Nat) (xs : List Value) (hown : w.ownsRow 0 e size v n xs)
    (ad : Addr) (m c : Nat) (news : List Value) (hl : news.length = m * size) (hnews : ∀ j u, news[j]? = some u → w.cell? (ad.add j) = some u) (h1 : ∀ u ∈ news, u.oneCell' = true)
    (hm : 0 < m) (h63 : n + m ≤ maxLen) (hbytes : (n + m) * bytes ≤ 140737488355328) :
    ∃ g cap w', (Builtin.append_ #[t, t] ty #[v, .slice (some ad) m c]).run P w = .ok (.slice (some ⟨g, 0, none⟩) (n + m) cap) w' ∧ w'.ownsRow 0 e size (.slice (some ⟨g, 0, none⟩) (n + m) cap) (n + m) (xs ++ news) ∧ w.grownBy w' v.ownBlock ∧
      (v.ownBlock = some g ∨ g = w.heap.size) ∧ ∀ q, v.ownBlock = some q → ∀ j u, xs[j]? = some u → w'.cell? ⟨q, j, none⟩ = some u := by
  obtain ⟨g, cap, w', hr, h2, h3, h4, _⟩ := run_append_lies (P := P) w t ty 0 e i z size bytes ht hi hz hsize hby hzs hsz v n xs hown ad m c news hl hnews h1 hm h63 hbytes (Nat.zero_le _) _ rfl
  refine ⟨g, cap, w', hr, h2, h3, h4, ?_⟩
  subst hsize
  subst hby
  obtain ⟨hlx, ⟨rfl, _⟩ | ⟨g0, cap0, cur, rfl, _, hg0, hnc, hcm, hcs, htk⟩⟩ := id hown
  · intro q hq
    simp [Value.ownBlock] at hq
  · intro q hq j u hu
    have hq' : q = g0 := by simpa [Value.ownBlock] using hq.symm
    subst hq'
    by_cases hroom : n + m ≤ cap0
    · have hfit : n * i.size + news.length ≤ cur.size := by rw [hl, hcs, ← Nat.add_mul]; exact Nat.mul_le_mul_right _ hroom
      have hr2 := run_append_room (P := P) w t ty e i ht hi q n cap0 cur hg0 ad m c news hl hnews h1 hroom hfit
      rw [hr] at hr2
      simp only [Result.ok.injEq, Value.slice.injEq, Option.some.injEq, Addr.mk.injEq, and_true] at hr2
      obtain ⟨⟨rfl, _⟩, _⟩ := hr2
      have := h2.cells (g := g) rfl j u (by rw [List.getElem?_append_left (List.getElem?_eq_some_iff.1 hu).1]; exact hu)
      rw [addA, Nat.zero_add] at this
      exact this
    · have holds : ∀ j u, xs[j]? = some u → w.cell? ((⟨q, 0, none⟩ : Addr).add j) = some u := hown.cells (g := q) rfl
      have hr2 := run_append_grow (P := P) w t ty e i z ht hi hz ⟨q, 0, none⟩ n cap0 xs hown.1 holds ad m c news hl hnews (by omega) (by unfold maxLen at h63; omega) (growslice_fits (by omega) hbytes)
      rw [hr] at hr2
      simp only [Result.ok.injEq] at hr2
      obtain ⟨_, rfl⟩ := hr2
      have hql : q < w.heap.size := (Array.getElem?_eq_some_iff.1 hg0).1
      have hb := ((Gr.refl w).drew.alloc (.cells (xs.toArray ++ news.toArray ++ Builtin.zeroCells z.cells (grownCap w (n + m) cap0 e - (n + m))) e)).cell (b := q) (o := j) hql
      rw [hb]
      have := holds j u hu
      rw [addA, Nat.zero_add] at this
      exact this


/-- 'append(own, x)', with the old list, of any elements. -/
theorem wpAppKeep1 {P : Program} {α : Type} (E : El α) {e sT : TypeId} {z : Value} {bt : Nat} (hu : P.underlying sT = some (.slice e)) (hI : (P.info? e).map (fun i => (i.zero, i.size, i.bytes)) = some (some z, E.k, bt)) (hz : z.cells.size = E.k) (hk0 : 0 < E.k)
    {w : World} {ops : Array Oper} {rest : List Oper} {o : Oper} {a : Act} {Q : Exit → Act → World → Prop} (hgd : o.guard = none) (s y : Operand)
    (ho : o.op = .call { callee := .builtin .append, args := #[s, y], argTypes := #[sT, sT] })
    (v : Value) (n : Nat) (l : List α) (hs : a.eval s = v) (hown : w.ownsRow 0 e E.k v n (fl E l))
    (x : α) (hx : a.eval y = .slice (some ⟨w.heap.size, 0, none⟩) 1 1) (hbig : (n + 1) * bt ≤ 140737488355328) (hmx : n + 1 ≤ maxLen)
    (cs : Array Value) (hcs : cs.toList = E.enc x) (te : TypeId)
    (h : ∀ g cap w', w'.ownsRow 0 e E.k (.slice (some ⟨g, 0, none⟩) (n + 1) cap) (n + 1) (fl E l ++ E.enc x) → Kp (fun q => v.ownBlock = some q) w w' → (v.ownBlock = some g ∨ w.heap.size ≤ g) → (∀ q, v.ownBlock = some q → ∀ j u, (fl E l)[j]? = some u → w'.cell? ⟨q, j, none⟩ = some u) → wpList P ops Q rest (a.put o.dst (.slice (some ⟨g, 0, none⟩) (n + 1) cap)) w') :
    wpList P ops Q (o :: rest) a (w.alloc (.cells cs te)) := by
  obtain ⟨i0, hi, hz0, hz1, hz2⟩ := info_parts hI
  have hown' := hown.alloc (.cells cs te)
  obtain ⟨g, cap, w', hr, h2, h3, h4, h5⟩ := app_keep (P := P) (w.alloc (.cells cs te)) sT o.type e i0 _ E.k bt hu hi hz0 hz1 hz2 hz hk0 v n (fl E l) hown' ⟨w.heap.size, 0, none⟩ 1 1 (E.enc x) (by rw [E.len, Nat.one_mul]) (by have := World.news_of_block (heap_new' w (.cells cs te)); rw [hcs] at this; exact this) (E.one x) (by decide) hmx hbig
  refine wpList_plain hgd fun K hK => ?_
  unfold Oper.wp execOp
  simp only [ho, resolve, invoke, builtin, Sem.run_bind, Sem.run_pure, Result.andThen_ok, List.map_toArray, List.map_cons, List.map_nil, hs, hx, hr]
  have hk : Kp (fun q => v.ownBlock = some q) w w' := (Kp.of_below ((Gr.refl w).alloc _).below).trans (Kp.grownBy (S := fun q => v.ownBlock = some q) h3 (fun _ h => h)) (fun _ _ h => h)
  refine hK _ _ (h g cap w' h2 hk (h4.imp id (fun e => by rw [e]; simp)) h5)

end Go.Proofs.Ytijbmchgajhkeaa
