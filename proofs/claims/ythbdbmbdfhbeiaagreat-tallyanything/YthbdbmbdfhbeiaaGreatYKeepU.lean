import Derived.Test.YthbdbmbdfhbeiaaGreatYFamU
import Derived.Deep.AppendLies
import Derived.Laws.AppendOwnNone
namespace Go.Proofs.YthbdbmbdfhbeiaaGreat
open Go.RowKit Go.Sort

theorem addP (b off i : Nat) : (⟨b, off, none⟩ : Addr).add i = ⟨b, off + i, none⟩ := by unfold Addr.add; split <;> simp_all
/-- 'append' onto a list of the call's own: the new one, and the old one reads as it did. -/
theorem app_keep {P : Program} (w : World) (t ty e : TypeId) (i : TypeInfo) (z : Value) (size bytes : Nat) (ht : P.underlying t = some (.slice e)) (hi : P.info? e = some i) (hz : i.zero = some z)
    (hsize : i.size = size) (hby : i.bytes = bytes) (hzs : z.cells.size = size) (hsz : 0 < size)
    (v : Value) (n : Nat) (xs : List Value) (hown : w.ownsRow 0 e size v n xs)
    (ad : Addr) (m c : Nat) (news : List Value) (hl : news.length = m * size) (hnews : ∀ j u, news[j]? = some u → w.cell? (ad.add j) = some u) (h1 : ∀ u ∈ news, u.oneCell' = true)
    (hm : 0 < m) (h63 : n + m ≤ maxLen) (hbytes : (n + m) * bytes ≤ 140737488355328) :
    ∃ g cap w', (Builtin.append_ #[t, t] ty #[v, .slice (some ad) m c]).run P w = .ok (.slice (some ⟨g, 0, none⟩) (n + m) cap) w' ∧ w'.ownsRow 0 e size (.slice (some ⟨g, 0, none⟩) (n + m) cap) (n + m) (xs ++ news) ∧ w.grownBy w' v.ownBlock ∧
      (v.ownBlock = some g ∨ g = w.heap.size) ∧ ∀ q, v.ownBlock = some q → ∀ j u, xs[j]? = some u → w'.cell? ⟨q, j, none⟩ = some u := by
  obtain ⟨g, cap, w', hr, h2, h3, h4, _⟩ := run_append_lies (P := P) w t ty 0 e i z size bytes ht hi hz hsize hby hzs hsz v n xs hown ad m c news hl hnews h1 hm h63 hbytes (Nat.zero_le _) _ rfl
  refine ⟨g, cap, w', hr, h2, h3, h4, ?_⟩
  subst hsize
  subst hby
  obtain ⟨hlx, ⟨rfl, _⟩ | ⟨g0, cap0, cur, rfl, _, hg0, hnc, hcm, hcs, htk⟩⟩ := id hown
  · intro q hq
    simp [Value.ownBlock] at hq
  · intro q hq j u hu
    have hq' : q = g0 := by simpa [Value.ownBlock] using hq.symm
    subst hq'
    by_cases hroom : n + m ≤ cap0
    · have hfit : n * i.size + news.length ≤ cur.size := by rw [hl, hcs, ← Nat.add_mul]; exact Nat.mul_le_mul_right _ hroom
      have hr2 := run_append_room (P := P) w t ty e i ht hi q n cap0 cur hg0 ad m c news hl hnews h1 hroom hfit
      rw [hr] at hr2
      simp only [Result.ok.injEq, Value.slice.injEq, Option.some.injEq, Addr.mk.injEq, and_true] at hr2
      obtain ⟨⟨rfl, _⟩, _⟩ := hr2
      have := h2.cells (g := g) rfl j u (by rw [List.getElem?_append_left (List.getElem?_eq_some_iff.1 hu).1]; exact hu)
      rw [addP, Nat.zero_add] at this
      exact this
    · have holds : ∀ j u, xs[j]? = some u → w.cell? ((⟨q, 0, none⟩ : Addr).add j) = some u := hown.cells (g := q) rfl
      have hr2 := run_append_grow (P := P) w t ty e i z ht hi hz ⟨q, 0, none⟩ n cap0 xs hown.1 holds ad m c news hl hnews (by omega) (by unfold maxLen at h63; omega) (growslice_fits (by omega) hbytes)
      rw [hr] at hr2
      simp only [Result.ok.injEq] at hr2
      obtain ⟨_, rfl⟩ := hr2
      have hql : q < w.heap.size := (Array.getElem?_eq_some_iff.1 hg0).1
      have hb := ((Gr.refl w).drew.alloc (.cells (xs.toArray ++ news.toArray ++ Builtin.zeroCells z.cells (grownCap w (n + m) cap0 e - (n + m))) e)).cell (b := q) (o := j) hql
      rw [hb]
      have := holds j u hu
      rw [addP, Nat.zero_add] at this
      exact this

/-- 'append(own, x)', with the old list. -/
theorem wpAppKeep1 {w : World} {ops : Array Oper} {rest : List Oper} {o : Oper} {a : Act} {Q : Exit → Act → World → Prop} (hgd : o.guard = none) (s y : Operand)
    (ho : o.op = .call { callee := .builtin .append, args := #[s, y], argTypes := #[71, 71] })
    (v : Value) (n : Nat) (l : List BS) (hs : a.eval s = v) (hown : w.ownsRow 0 9 1 v n (l.map sv)) (hn : l.length = n)
    (x : BS) (hx : a.eval y = .slice (some ⟨w.heap.size, 0, none⟩) 1 1) (hbig : (n + 1) * 16 ≤ 140737488355328)
    (h : ∀ g cap w', w'.ownsRow 0 9 1 (.slice (some ⟨g, 0, none⟩) (n + 1) cap) (n + 1) ((l ++ [x]).map sv) → Kp (fun q => v.ownBlock = some q) w w' → (v.ownBlock = some g ∨ w.heap.size ≤ g) → Ls w' v l → wpList Tryz.prog ops Q rest (a.put o.dst (.slice (some ⟨g, 0, none⟩) (n + 1) cap)) w') :
    wpList Tryz.prog ops Q (o :: rest) a (w.alloc (.cells #[.string x.1] 9)) := by
  obtain ⟨i0, hi, hz0, hz1, hz2⟩ := info_parts infoS
  have hown' := hown.alloc (.cells #[.string x.1] 9)
  obtain ⟨g, cap, w', hr, h2, h3, h4, h5⟩ := app_keep (P := Tryz.prog) (w.alloc (.cells #[.string x.1] 9)) 71 o.type 9 i0 _ 1 16 Tryz.underlying71 hi hz0 hz1 hz2 rfl (by decide) v n (l.map sv) hown' ⟨w.heap.size, 0, none⟩ 1 1 [.string x.1] rfl (World.news_of_block (heap_alloc_new _ _)) (by simp [Value.oneCell']) (by decide) (by unfold maxLen; omega) hbig
  refine wpList_plain hgd fun K hK => ?_
  unfold Oper.wp execOp
  simp only [ho, resolve, invoke, builtin, Sem.run_bind, Sem.run_pure, Result.andThen_ok, List.map_toArray, List.map_cons, List.map_nil, hs, hx, hr]
  have hk : Kp (fun q => v.ownBlock = some q) w w' := (Kp.of_below ((Gr.refl w).alloc _).below).trans (Kp.grownBy (S := fun q => v.ownBlock = some q) h3 (fun _ h => h)) (fun _ _ h => h)
  refine hK _ _ (h g cap w' (by rw [List.map_append]; exact h2) hk (h4.imp id (fun e => by rw [e]; simp)) ?_)
  rcases owns_ls (l := l) (by rw [hn]; exact hown) with h0 | ⟨b, off, c, hv, hb, ht⟩
  · exact Or.inl h0
  · refine Or.inr ⟨b, off, c, hv, Nat.lt_of_lt_of_le hb hk.size, fun j u hj => ?_⟩
    obtain ⟨_, ⟨h0, _⟩ | ⟨g', cap', cur, hv', _⟩⟩ := id hown
    · rw [hv] at h0; cases h0
    · rw [hv] at hv'
      simp only [Value.slice.injEq, Option.some.injEq, Addr.mk.injEq, and_true] at hv'
      obtain ⟨⟨rfl, rfl⟩, _⟩ := hv'
      rw [Nat.zero_add]
      exact h5 b (by rw [hv]; rfl) j (sv u) (by simp [hj])

/-- Behind k lists that were grown. -/
structure Grw (w2 : World) (N : Nat) (V : Nat → Value) (n : Nat → Nat) (W : World) (k : Nat) (X : Nat → Value) (s : Value) : Prop where
  big : ∀ i, i < k → Ls W (X i) (mks i (n i) ++ [mke i])
  old : ∀ i, i < k → Ls W (V i) (mks i (n i))
  rest : ∀ i, k ≤ i → i < N → W.ownsRow 0 9 1 (V i) (n i) ((mks i (n i)).map sv)
  lie : ∀ i, i < k → ∀ g, (X i).ownBlock = some g → (V i).ownBlock = some g ∨ w2.heap.size ≤ g
  more : W.ownsRow w2.heap.size 71 1 s k ((List.range k).map X)
  mfar : ∀ g, s.ownBlock = some g → ∀ i, i < k → (X i).ownBlock ≠ some g
  kp : Kp (fun q => ∃ i, i < N ∧ (V i).ownBlock = some q) w2 W
theorem Grw.step {w2 : World} {N : Nat} {V : Nat → Value} {n : Nat → Nat} {W W1 W3 : World} {k : Nat} {X : Nat → Value} {s s' x : Value} (h : Grw w2 N V n W k X s) (hk : k < N)
    (hfar : ∀ i j, i < N → j < N → i ≠ j → ∀ g, (V i).ownBlock = some g → (V j).ownBlock ≠ some g) (hlow : ∀ i, i < N → ∀ g, (V i).ownBlock = some g → g < w2.heap.size)
    (hx : Ls W1 x (mks k (n k) ++ [mke k])) (hxl : ∀ g, x.ownBlock = some g → (V k).ownBlock = some g ∨ W.heap.size ≤ g) (hV : Ls W1 (V k) (mks k (n k))) (h1 : Kp (fun q => (V k).ownBlock = some q) W W1)
    (hm : W3.ownsRow w2.heap.size 71 1 s' (k + 1) ((List.range k).map X ++ [x])) (h3 : Kp (fun q => s.ownBlock = some q) W1 W3) (hs : ∀ g, s'.ownBlock = some g → s.ownBlock = some g ∨ W1.heap.size ≤ g) :
    Grw w2 N V n W3 (k + 1) (fun i => if i = k then x else X i) s' := by
  have hsl : ∀ g, s.ownBlock = some g → w2.heap.size ≤ g ∧ g < W.heap.size := fun g hg => h.more.lt g hg
  have hVs : ∀ i, i < N → ∀ q, (V i).ownBlock = some q → ¬ s.ownBlock = some q := fun i hi q hq e => by have := (hsl q e).1; have := hlow i hi q hq; omega
  have hXk : ∀ i, i < k → ∀ q, (X i).ownBlock = some q → ¬ (V k).ownBlock = some q := fun i hi q hq e => by
    rcases h.lie i hi q hq with h' | h'
    · exact hfar i k (by omega) hk (by omega) q h' e
    · have := hlow k hk q e; omega
  have hxs : ∀ q, x.ownBlock = some q → ¬ s.ownBlock = some q := fun q hq e => by
    rcases hxl q hq with h' | h'
    · exact hVs k hk q h' e
    · have := (hsl q e).2; omega
  refine ⟨fun i hi => ?_, fun i hi => ?_, fun i hi hiN => ?_, fun i hi g hg => ?_, ?_, fun g hg i hi => ?_, ?_⟩
  · by_cases e : i = k
    · subst e
      rw [if_pos rfl]
      exact hx.kp h3 hxs
    · rw [if_neg e]
      exact ((h.big i (by omega)).kp h1 (hXk i (by omega))).kp h3 (fun q hq e' => h.mfar q e' i (by omega) hq)
  · by_cases e : i = k
    · subst e
      exact hV.kp h3 (hVs i hk)
    · exact ((h.old i (by omega)).kp h1 (fun q hq e' => hfar i k (by omega) hk e q hq e')).kp h3 (hVs i (by omega))
  · exact owns_kp h3 (owns_kp h1 (h.rest i (by omega) hiN) (fun q hq e' => hfar i k hiN hk (by omega) q hq e')) (hVs i hiN)
  · by_cases e : i = k
    · subst e
      rw [if_pos rfl] at hg
      rcases hxl g hg with h' | h'
      · exact Or.inl h'
      · exact Or.inr (Nat.le_trans h.kp.size h')
    · rw [if_neg e] at hg
      exact h.lie i (by omega) g hg
  · have e : (List.range (k + 1)).map (fun i => if i = k then x else X i) = (List.range k).map X ++ [x] := by
      rw [List.range_succ, List.map_append]
      congr 1
      · refine List.map_congr_left fun i hi => ?_
        rw [if_neg (by have := List.mem_range.1 hi; omega)]
      · simp
    rw [e]
    exact hm
  · intro e
    by_cases ei : i = k
    · subst ei
      rw [if_pos rfl] at e
      rcases hs g hg with h' | h'
      · exact hxs g e h'
      · have := hx.blk g e; omega
    · rw [if_neg ei] at e
      rcases hs g hg with h' | h'
      · exact h.mfar g h' i (by omega) e
      · have := (h.big i (by omega)).blk g e; have := h1.size; omega
  · refine (h.kp.trans h1 (fun q _ e => ⟨k, hk, e⟩)).trans h3 (fun q hq e => ?_)
    have := (hsl q e).1; omega
end Go.Proofs.YthbdbmbdfhbeiaaGreat
