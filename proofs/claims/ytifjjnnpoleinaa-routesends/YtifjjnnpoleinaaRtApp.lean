import Derived.Test.YtifjjnnpoleinaaRtRef
import Derived.Test.YtifjjnnpoleinaaKFam
import Derived.Laws.AppendOwn
import Derived.Tactics
namespace Go.Proofs.Ytifjjnnpoleinaa.Df
open Go.RowKit Go.Sort

/-- Only such blocks have changed, and each is of its kind and size still. -/
structure Sbk (S : Nat → Prop) (w w' : World) : Prop where
  kp : Kp S w w'
  kin : ∀ (k : Nat) (cur : Array Value) (T : TypeId), w.heap[k]? = some (.cells cur T (0, 0)) → ∃ cur', w'.heap[k]? = some (.cells cur' T (0, 0)) ∧ cur'.size = cur.size
theorem Sbk.refl (S : Nat → Prop) (w : World) : Sbk S w w := ⟨Kp.refl _ _, fun _ cur _ h => ⟨cur, h, rfl⟩⟩
theorem Sbk.mono {S T : Nat → Prop} {w w' : World} (h : Sbk S w w') (hT : ∀ k, S k → T k) : Sbk T w w' := ⟨h.kp.mono hT, h.kin⟩
theorem Sbk.trans {S : Nat → Prop} {a b c : World} (h : Sbk S a b) (k : Sbk S b c) : Sbk S a c := by
  refine ⟨h.kp.trans k.kp (fun _ _ h => h), fun i cur T hi => ?_⟩
  obtain ⟨c1, h1, e1⟩ := h.kin i cur T hi
  obtain ⟨c2, h2, e2⟩ := k.kin i c1 T h1
  exact ⟨c2, h2, e2.trans e1⟩
theorem Sbk.of_below {S : Nat → Prop} {w w' : World} (h : Below w.heap.size w w') : Sbk S w w' := ⟨Kp.of_below h, fun k cur _ hk => ⟨cur, (h.block k (tk_lt hk)).trans hk, rfl⟩⟩
/-- 'append' onto an owned row: what it changes. -/
theorem run_append_sbk {P : Program} (w : World) (base : Nat) (t ty e : TypeId) (i : TypeInfo) (z : Value) (ht : P.underlying t = some (.slice e)) (hi : P.info? e = some i) (hz : i.zero = some z) (v : Value) (n : Nat) (xs : List Value) (hown : w.ownsRow base e i.size v n xs)
    (a : Addr) (m c : Nat) (news : List Value) (hl : news.length = m * i.size) (hnews : ∀ j u, news[j]? = some u → w.cell? (a.add j) = some u) (h1 : ∀ u ∈ news, u.oneCell' = true) (hm : 0 < m)
    (h63 : n + m ≤ maxLen) (hbytes : (n + m) * i.bytes ≤ 140737488355328) :
    ∃ v' w', (Builtin.append_ #[t, t] ty #[v, .slice (some a) m c]).run P w = .ok v' w' ∧ Sbk (fun k => v.ownBlock = some k) w w' ∧ w'.ownsRow base e i.size v n xs := by
  have hsmall : n + m ≤ 9223372036854775807 := by simp only [maxLen] at h63; omega
  have new : ∀ (S : Nat → Prop) (o : Obj), Sbk S w (w.drew.alloc o) := fun S o => Sbk.of_below ((Gr.refl w).drew.alloc o).below
  rcases hown.2 with ⟨rfl, rfl⟩ | ⟨g, cap, cur, rfl, hbg, hg, hnc, hcm, hcs, htake⟩
  · have hr := run_append_nil (P := P) w t ty e i z ht hi hz a m c news hl hnews (by omega) (by omega) (by have hb := hbytes; simp only [Nat.zero_add] at hb; omega)
    exact ⟨_, _, hr, new _ _, owns_below hown ((Gr.refl w).drew.alloc _).below⟩
  · by_cases hroom : n + m ≤ cap
    · have hfit : n * i.size + news.length ≤ cur.size := by rw [hl, hcs, ← Nat.add_mul]; exact Nat.mul_le_mul_right _ hroom
      have hr := run_append_room (P := P) w t ty e i ht hi g n cap cur hg a m c news hl hnews h1 hroom hfit
      refine ⟨_, _, hr, ⟨⟨rfl, rfl, rfl, by simp, fun k _ hk => setRow_other w g k _ (fun e => hk (by simp [Value.ownBlock, e]))⟩, fun k cu T hk => ?_⟩, hown.1, Or.inr ⟨g, cap, _, rfl, hbg, setRow_heap w g cur _ e _ hg, hnc, hcm, ?_, ?_⟩⟩
      rotate_left
      · simp only [List.size_toArray, List.length_append, List.length_take, List.length_drop, Array.length_toList]
        omega
      · rw [List.append_assoc, List.take_append_of_le_length (by rw [List.length_take, Array.length_toList]; omega), List.take_take, Nat.min_self]
        exact htake
      by_cases e2 : k = g
      · subst e2
        rw [hg] at hk
        simp only [Option.some.injEq, Obj.cells.injEq, and_true] at hk
        obtain ⟨rfl, rfl⟩ := hk
        refine ⟨_, setRow_heap w k cur _ e _ hg, ?_⟩
        simp only [List.size_toArray, List.length_append, List.length_take, List.length_drop, Array.length_toList]
        omega
      · exact ⟨cu, (setRow_other w g k _ (fun e => e2 (by simp [e]))).trans hk, rfl⟩
    · have holds : ∀ j u, xs[j]? = some u → w.cell? ((⟨g, 0, none⟩ : Addr).add j) = some u := hown.cells (g := g) rfl
      have hr := run_append_grow (P := P) w t ty e i z ht hi hz ⟨g, 0, none⟩ n cap xs hown.1 holds a m c news hl hnews (by omega) (by omega) (growslice_fits (by omega) hbytes)
      exact ⟨_, _, hr, new _ _, owns_below hown ((Gr.refl w).drew.alloc _).below⟩
/-- At the walk: '_ = append(own, x, ..)'. -/
theorem wpAppR {P : Program} {ops : Array Oper} {rest : List Oper} {o : Oper} {a : Act} {Q : Exit → Act → World → Prop} {w : World} {e sT : TypeId} {z : Value} {sz bt : Nat} (hu : P.underlying sT = some (.slice e)) (hI : (P.info? e).map (fun i => (i.zero, i.size, i.bytes)) = some (some z, sz, bt))
    (hgd : o.guard = none) (s x : Operand) (ho : o.op = .call { callee := .builtin .append, args := #[s, x], argTypes := #[sT, sT] })
    (base : Nat) (v : Value) (n : Nat) (xs : List Value) (hs : a.eval s = v) (hown : w.ownsRow base e sz v n xs) (m : Nat) (hx : a.eval x = .slice (some ⟨w.heap.size, 0, none⟩) m m) (hm : 0 < m) (hbig : (n + m) * bt ≤ 140737488355328) (hmx : n + m ≤ maxLen)
    (cs : Array Value) (hl : cs.size = m * sz) (h1 : (cs.toList.all fun u => u.oneCell') = true) (te : TypeId)
    (h : ∀ v' w', Sbk (fun k => v.ownBlock = some k) w w' → w'.ownsRow base e sz v n xs → wpList P ops Q rest (a.put o.dst v') w') :
    wpList P ops Q (o :: rest) a (w.alloc (.cells cs te)) := by
  obtain ⟨i0, hi, hz0, hz1, hz2⟩ := info_parts hI
  subst hz1
  subst hz2
  obtain ⟨v', w', hr, h2, h3⟩ := run_append_sbk (P := P) (w.alloc (.cells cs te)) base sT o.type e i0 z hu hi hz0 v n xs (hown.alloc _) ⟨w.heap.size, 0, none⟩ m m cs.toList (by rw [Array.length_toList]; exact hl) (World.news_of_block (heap_new' w (.cells cs te))) (List.all_eq_true.1 h1) hm hmx hbig
  refine wpList_plain hgd fun K hK => ?_
  unfold Oper.wp execOp
  simp only [ho, resolve, invoke, builtin, Sem.run_bind, Sem.run_pure, Result.andThen_ok, List.map_toArray, List.map_cons, List.map_nil, hs, hx, hr]
  exact hK _ _ (h v' w' ((Sbk.of_below ((Gr.refl w).alloc _).below).trans h2) h3)
end Go.Proofs.Ytifjjnnpoleinaa.Df
