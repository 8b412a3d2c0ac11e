import Derived.Test.YtdiecnacbkpceaaGPl1
import Derived.Test.YtdiecnacbkpceaaGKept
import Derived.Test.YtdiecnacbkpceaaGSmu
import Derived.Test.YtdiecnacbkpceaaGOf
namespace Go.Proofs.Ytdiecnacbkpceaa.Df
open Go.RowKit Go.Sort

theorem Tw.caps {w : World} {nv ev : Value} {ys : List NV} {es : List Edg} (h : Tw w nv ev ys es) (hg : ∀ y ∈ ys, y.n.conns.length ≤ 140737488351232) : Gcap ev ys := by
  refine ⟨fun p n c e => ?_, fun y hy => ⟨?_, hg y hy⟩⟩
  · obtain ⟨g, cap, B', rfl, hc, _⟩ := h.eds
    simp only [Value.slice.injEq] at e
    omega
  · obtain ⟨g, cap, B', hv, hc, _⟩ := (h.each y hy).2
    simp only [Value.slice.injEq] at hv
    omega
/-- twin, in the law's words. -/
theorem twin3_any {M nl el : Nat} {nv ev : Value} {a : Int} {xs : List NV} {es : List Edg} (w : World) (hG : GR M w nv ev xs es) (hM : M ≤ w.heap.size) (hnl : nl = xs.length) (hel : el = es.length) (hbg : xs.length * 112 ≤ 140737488351232 ∧ es.length * 40 ≤ 140737488351232 ∧ ∀ x ∈ xs, x.n.code.length * 16 ≤ 140737488351232 ∧ x.n.conns.length * 40 ≤ 140737488351232) : Calls Try.prog 6 #[.agg (gvc a nv ev)] w fun r w' => ∃ gn kn ge ke ys, r = .returned (.agg (gvc a (.slice (some ⟨gn, 0, none⟩) nl kn) (.slice (some ⟨ge, 0, none⟩) el ke))) ∧ Hid (Below w.heap.size w w' ∧ ys.map NV.n = xs.map NV.n ∧ Tw w' (.slice (some ⟨gn, 0, none⟩) nl kn) (.slice (some ⟨ge, 0, none⟩) el ke) ys es ∧ (∀ k, (Value.slice (some ⟨gn, 0, none⟩) nl kn).ownBlock = some k → w.heap.size ≤ k) ∧ (∀ k, (Value.slice (some ⟨ge, 0, none⟩) el ke).ownBlock = some k → w.heap.size ≤ k) ∧ ∀ y ∈ ys, (∀ k, y.cv.ownBlock = some k → w.heap.size ≤ k) ∧ ∀ k, y.dv.ownBlock = some k → w.heap.size ≤ k) := by
  refine (twin_any (a := a) w (hG.up hM) hbg).mono ?_
  rintro r w' ⟨nv2, ev2, ys, rfl, b2, hys, m1, m2, m3, lo⟩
  have hl : ys.length = nl := by rw [hnl]; simpa using congrArg List.length hys
  obtain ⟨gn, kn, B1, h1, -⟩ := id m1
  obtain ⟨ge, ke, B2, h2, -⟩ := id m2
  rw [hl] at h1
  rw [← hel] at h2
  subst h1
  subst h2
  exact ⟨gn, kn, ge, ke, ys, rfl, b2, hys, ⟨m1, m2, m3⟩, lo⟩
theorem ofN_inP {ns : List Nod} {i p k : Int} (hk : 0 ≤ k) (h : inN ns i p = k) : ofN ns k = (i, p, true) := by
  unfold inN at h
  by_cases e : hasIN ns i p = true
  · rw [if_pos e] at h
    obtain ⟨n, hn, hi, hl, hp0, hp⟩ := has_in e
    have hs := spots_in (m := ns.length) (p := p.toNat) hn hl (by omega)
    unfold ofN
    rw [if_neg (by omega), show k.toNat = firstN ns i.toNat + p.toNat by omega, hs]
    simp only [Int.toNat_of_nonneg hi, Int.toNat_of_nonneg hp0]
  · rw [if_neg e] at h
    omega
theorem ofN_outP {ns : List Nod} {i p k : Int} (hP : Pok ns) (hk : 0 ≤ k) (h : outN ns i p = k) : ofN ns k = (i, p, false) := by
  unfold outN at h
  by_cases e : hasON ns i p = true
  · rw [if_pos e] at h
    obtain ⟨n, hn, hi, hl, hp0, hp⟩ := has_out e
    rw [hn] at h
    have hq := hP n (List.mem_of_getElem? hn)
    have hs := spots_out (m := ns.length) (p := p.toNat) hn hl (by omega)
    unfold ofN
    simp only at h
    rw [if_neg (by omega), show k.toNat = firstN ns i.toNat + n.ins.toNat + p.toNat by omega, hs]
    simp only [Int.toNat_of_nonneg hi, Int.toNat_of_nonneg hp0]
  · rw [if_neg e] at h
    omega
end Go.Proofs.Ytdiecnacbkpceaa.Df
