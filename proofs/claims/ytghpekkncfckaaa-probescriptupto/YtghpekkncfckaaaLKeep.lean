import Derived.Test.YtghpekkncfckaaaLGrw
namespace Go.Proofs.Ytghpekkncfckaaa
open Go.RowKit Go.Sort

/-- 'append' onto a list of the call's own: the new one, and the old one reads as it did. -/
theorem app_keep {P : Program} (w : World) (t ty e : TypeId) (i : TypeInfo) (z : Value) (size bytes : Nat) (ht : P.underlying t = some (.slice e)) (hi : P.info? e = some i) (hz : i.zero = some z)
    (hsize : i.size = size) (hby : i.bytes = bytes) (hzs : z.cells.size = size) (hsz : 0 < size)
    (v : Value) (n : Nat) (xs : List Value) (hown : w.ownsRow 0 e size v n xs)
    (ad : Addr) (m c : Nat) (news : List Value) (hl : news.length = m * size) (hnews : ∀ j u, news[j]? = some u → w.cell? (ad.add j) = some u) (h1 : ∀ u ∈ news, u.oneCell' = true)
    (hm : 0 < m) (h63 : n + m ≤ maxLen) (hbytes : (n + m) * bytes ≤ 140737488355328) :
    ∃ g cap w', (Builtin.append_ #[t, t] ty #[v, .slice (some ad) m c]).run P w = .ok (.slice (some ⟨g, 0, none⟩) (n + m) cap) w' ∧ w'.ownsRow 0 e size (.slice (some ⟨g, 0, none⟩) (n + m) cap) (n + m) (xs ++ news) ∧ w.grownBy w' v.ownBlock ∧
      (v.ownBlock = some g ∨ g = w.heap.size) ∧ ∀ q, v.ownBlock = some q → ∀ j u, xs[j]? = some u → w'.cell? ⟨q, j, none⟩ = some u := by
  obtain ⟨g, cap, w', hr, h2, h3, h4, _⟩ := run_append_lies (P := P) w t ty 0 e i z size bytes ht hi hz hsize hby hzs hsz v n xs hown ad m c news hl hnews h1 hm h63 hbytes (Nat.zero_le _) _ rfl
  refine ⟨g, cap, w', hr, h2, h3, h4, ?_⟩
  subst hsize
  subst hby
  obtain ⟨hlx, ⟨rfl, _⟩ | ⟨g0, cap0, cur, rfl, _, hg0, hnc, hcm, hcs, htk⟩⟩ := id hown
  · intro q hq
    simp [Value.ownBlock] at hq
  · intro q hq j u hu
    have hq' : q = g0 := by simpa [Value.ownBlock] using hq.symm
    subst hq'
    by_cases hroom : n + m ≤ cap0
    · have hfit : n * i.size + news.length ≤ cur.size := by rw [hl, hcs, ← Nat.add_mul]; exact Nat.mul_le_mul_right _ hroom
      have hr2 := run_append_room (P := P) w t ty e i ht hi q n cap0 cur hg0 ad m c news hl hnews h1 hroom hfit
      rw [hr] at hr2
      simp only [Result.ok.injEq, Value.slice.injEq, Option.some.injEq, Addr.mk.injEq, and_true] at hr2
      obtain ⟨⟨rfl, _⟩, _⟩ := hr2
      have := h2.cells (g := g) rfl j u (by rw [List.getElem?_append_left (List.getElem?_eq_some_iff.1 hu).1]; exact hu)
      rw [addA, Nat.zero_add] at this
      exact this
    · have holds : ∀ j u, xs[j]? = some u → w.cell? ((⟨q, 0, none⟩ : Addr).add j) = some u := hown.cells (g := q) rfl
      have hr2 := run_append_grow (P := P) w t ty e i z ht hi hz ⟨q, 0, none⟩ n cap0 xs hown.1 holds ad m c news hl hnews (by omega) (by unfold maxLen at h63; omega) (growslice_fits (by omega) hbytes)
      rw [hr] at hr2
      simp only [Result.ok.injEq] at hr2
      obtain ⟨_, rfl⟩ := hr2
      have hql : q < w.heap.size := (Array.getElem?_eq_some_iff.1 hg0).1
      have hb := ((Gr.refl w).drew.alloc (.cells (xs.toArray ++ news.toArray ++ Builtin.zeroCells z.cells (grownCap w (n + m) cap0 e - (n + m))) e)).cell (b := q) (o := j) hql
      rw [hb]
      have := holds j u hu
      rw [addA, Nat.zero_add] at this
      exact this


/-- 'append(own, x)', with the old list, of any elements. -/
theorem wpAppKeep1 {P : Program} {α : Type} (E : El α) {e sT : TypeId} {z : Value} {bt : Nat} (hu : P.underlying sT = some (.slice e)) (hI : (P.info? e).map (fun i => (i.zero, i.size, i.bytes)) = some (some z, E.k, bt)) (hz : z.cells.size = E.k) (hk0 : 0 < E.k)
    {w : World} {ops : Array Oper} {rest : List Oper} {o : Oper} {a : Act} {Q : Exit → Act → World → Prop} (hgd : o.guard = none) (s y : Operand)
    (ho : o.op = .call { callee := .builtin .append, args := #[s, y], argTypes := #[sT, sT] })
    (v : Value) (n : Nat) (l : List α) (hs : a.eval s = v) (hown : w.ownsRow 0 e E.k v n (fl E l))
    (x : α) (hx : a.eval y = .slice (some ⟨w.heap.size, 0, none⟩) 1 1) (hbig : (n + 1) * bt ≤ 140737488355328) (hmx : n + 1 ≤ maxLen)
    (cs : Array Value) (hcs : cs.toList = E.enc x) (te : TypeId)
    (h : ∀ g cap w', w'.ownsRow 0 e E.k (.slice (some ⟨g, 0, none⟩) (n + 1) cap) (n + 1) (fl E l ++ E.enc x) → Kp (fun q => v.ownBlock = some q) w w' → (v.ownBlock = some g ∨ w.heap.size ≤ g) → (∀ q, v.ownBlock = some q → ∀ j u, (fl E l)[j]? = some u → w'.cell? ⟨q, j, none⟩ = some u) → wpList P ops Q rest (a.put o.dst (.slice (some ⟨g, 0, none⟩) (n + 1) cap)) w') :
    wpList P ops Q (o :: rest) a (w.alloc (.cells cs te)) := by
  obtain ⟨i0, hi, hz0, hz1, hz2⟩ := info_parts hI
  have hown' := hown.alloc (.cells cs te)
  obtain ⟨g, cap, w', hr, h2, h3, h4, h5⟩ := app_keep (P := P) (w.alloc (.cells cs te)) sT o.type e i0 _ E.k bt hu hi hz0 hz1 hz2 hz hk0 v n (fl E l) hown' ⟨w.heap.size, 0, none⟩ 1 1 (E.enc x) (by rw [E.len, Nat.one_mul]) (by have := World.news_of_block (heap_new' w (.cells cs te)); rw [hcs] at this; exact this) (E.one x) (by decide) hmx hbig
  refine wpList_plain hgd fun K hK => ?_
  unfold Oper.wp execOp
  simp only [ho, resolve, invoke, builtin, Sem.run_bind, Sem.run_pure, Result.andThen_ok, List.map_toArray, List.map_cons, List.map_nil, hs, hx, hr]
  have hk : Kp (fun q => v.ownBlock = some q) w w' := (Kp.of_below ((Gr.refl w).alloc _).below).trans (Kp.grownBy (S := fun q => v.ownBlock = some q) h3 (fun _ h => h)) (fun _ _ h => h)
  refine hK _ _ (h g cap w' h2 hk (h4.imp id (fun e => by rw [e]; simp)) h5)
end Go.Proofs.Ytghpekkncfckaaa
