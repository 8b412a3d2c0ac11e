import Derived.Test.YtbomkeginbhhoaaCStay
namespace Go.Proofs.Ytbomkeginbhhoaa
open Go.RowKit Go.Sort

/-- 'append' onto a list of the call's own: the new one, and the old one reads as it did. -/
theorem app_keep {P : Program} (w : World) (t ty e : TypeId) (i : TypeInfo) (z : Value) (size bytes : Nat) (ht : P.underlying t = some (.slice e)) (hi : P.info? e = some i) (hz : i.zero = some z)
    (hsize : i.size = size) (hby : i.bytes = bytes) (hzs : z.cells.size = size) (hsz : 0 < size)
    (v : Value) (n : Nat) (xs : List Value) (hown : w.ownsRow 0 e size v n xs)
    (ad : Addr) (m c : Nat) (news : List Value) (hl : news.length = m * size) (hnews : ∀ j u, news[j]? = some u → w.cell? (ad.add j) = some u) (h1 : ∀ u ∈ news, u.oneCell' = true)
    (hm : 0 < m) (h63 : n + m ≤ maxLen) (hbytes : (n + m) * bytes ≤ 140737488355328) :
    ∃ g cap w', (Builtin.append_ #[t, t] ty #[v, .slice (some ad) m c]).run P w = .ok (.slice (some ⟨g, 0, none⟩) (n + m) cap) w' ∧ w'.ownsRow 0 e size (.slice (some ⟨g, 0, none⟩) (n + m) cap) (n + m) (xs ++ news) ∧ w.grownBy w' v.ownBlock ∧
      (v.ownBlock = some g ∨ g = w.heap.size) ∧ ∀ q, v.ownBlock = some q → ∀ j u, xs[j]? = some u → w'.cell? ⟨q, j, none⟩ = some u := by
  obtain ⟨g, cap, w', hr, h2, h3, h4, _⟩ := run_append_lies (P := P) w t ty 0 e i z size bytes ht hi hz hsize hby hzs hsz v n xs hown ad m c news hl hnews h1 hm h63 hbytes (Nat.zero_le _) _ rfl
  refine ⟨g, cap, w', hr, h2, h3, h4, ?_⟩
  subst hsize
  subst hby
  obtain ⟨hlx, ⟨rfl, _⟩ | ⟨g0, cap0, cur, rfl, _, hg0, hnc, hcm, hcs, htk⟩⟩ := id hown
  · intro q hq
    simp [Value.ownBlock] at hq
  · intro q hq j u hu
    have hq' : q = g0 := by simpa [Value.ownBlock] using hq.symm
    subst hq'
    by_cases hroom : n + m ≤ cap0
    · have hfit : n * i.size + news.length ≤ cur.size := by rw [hl, hcs, ← Nat.add_mul]; exact Nat.mul_le_mul_right _ hroom
      have hr2 := run_append_room (P := P) w t ty e i ht hi q n cap0 cur hg0 ad m c news hl hnews h1 hroom hfit
      rw [hr] at hr2
      simp only [Result.ok.injEq, Value.slice.injEq, Option.some.injEq, Addr.mk.injEq, and_true] at hr2
      obtain ⟨⟨rfl, _⟩, _⟩ := hr2
      have := h2.cells (g := g) rfl j u (by rw [List.getElem?_append_left (List.getElem?_eq_some_iff.1 hu).1]; exact hu)
      rw [addP, Nat.zero_add] at this
      exact this
    · have holds : ∀ j u, xs[j]? = some u → w.cell? ((⟨q, 0, none⟩ : Addr).add j) = some u := hown.cells (g := q) rfl
      have hr2 := run_append_grow (P := P) w t ty e i z ht hi hz ⟨q, 0, none⟩ n cap0 xs hown.1 holds ad m c news hl hnews (by omega) (by unfold maxLen at h63; omega) (growslice_fits (by omega) hbytes)
      rw [hr] at hr2
      simp only [Result.ok.injEq] at hr2
      obtain ⟨_, rfl⟩ := hr2
      have hql : q < w.heap.size := (Array.getElem?_eq_some_iff.1 hg0).1
      have hb := ((Gr.refl w).drew.alloc (.cells (xs.toArray ++ news.toArray ++ Builtin.zeroCells z.cells (grownCap w (n + m) cap0 e - (n + m))) e)).cell (b := q) (o := j) hql
      rw [hb]
      have := holds j u hu
      rw [addP, Nat.zero_add] at this
      exact this
end Go.Proofs.Ytbomkeginbhhoaa
