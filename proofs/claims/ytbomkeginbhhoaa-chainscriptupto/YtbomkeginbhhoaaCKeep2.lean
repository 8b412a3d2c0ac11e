import Derived.Test.YtbomkeginbhhoaaCKeep
import Derived.Test.YtbomkeginbhhoaaCMem
namespace Go.Proofs.Ytbomkeginbhhoaa
open Go.RowKit Go.Sort

/-- 'append(own, x, x)', with the old list. -/
theorem wpAppKeep2 {w : World} {ops : Array Oper} {rest : List Oper} {o : Oper} {a : Act} {Q : Exit → Act → World → Prop} (hgd : o.guard = none) (s y : Operand)
    (ho : o.op = .call { callee := .builtin .append, args := #[s, y], argTypes := #[22, 22] })
    (v : Value) (n : Nat) (l : List P2) (hs : a.eval s = v) (hown : w.ownsRow 0 28 2 v n (flatP l)) (hn : l.length = n)
    (x : P2) (hx : a.eval y = .slice (some ⟨w.heap.size, 0, none⟩) 2 2) (hbig : (n + 2) * 16 ≤ 140737488355328)
    (h : ∀ g cap w', w'.ownsRow 0 28 2 (.slice (some ⟨g, 0, none⟩) (n + 2) cap) (n + 2) (flatP (l ++ [x, x])) → Kp (fun q => v.ownBlock = some q) w w' → (v.ownBlock = some g ∨ w.heap.size ≤ g) → Lst w' v l → wpList Try.prog ops Q rest (a.put o.dst (.slice (some ⟨g, 0, none⟩) (n + 2) cap)) w') :
    wpList Try.prog ops Q (o :: rest) a (w.alloc (.cells #[.int .i64 x.1, .int .i64 x.2, .int .i64 x.1, .int .i64 x.2] 28)) := by
  obtain ⟨i0, hi, hz0, hz1, hz2⟩ := info_parts infoPr
  have hnew : flatP [x, x] = [.int .i64 x.1, .int .i64 x.2, .int .i64 x.1, .int .i64 x.2] := by simp [flatP, encP]
  have hown' := hown.alloc (.cells #[.int .i64 x.1, .int .i64 x.2, .int .i64 x.1, .int .i64 x.2] 28)
  obtain ⟨g, cap, w', hr, h2, h3, h4, h5⟩ := app_keep (P := Try.prog) (w.alloc (.cells #[.int .i64 x.1, .int .i64 x.2, .int .i64 x.1, .int .i64 x.2] 28)) 22 o.type 28 i0 _ 2 16 Try.underlying22 hi hz0 hz1 hz2 rfl (by decide) v n (flatP l) hown' ⟨w.heap.size, 0, none⟩ 2 2 (flatP [x, x]) (flatP_length _) (by rw [hnew]; exact World.news_of_block (heap_new' _ _)) (flatP_oneCell _) (by decide) (by unfold maxLen; omega) hbig
  refine wpList_plain hgd fun K hK => ?_
  unfold Oper.wp execOp
  simp only [ho, resolve, invoke, builtin, Sem.run_bind, Sem.run_pure, Result.andThen_ok, List.map_toArray, List.map_cons, List.map_nil, hs, hx, hr]
  have hk : Kp (fun q => v.ownBlock = some q) w w' := (Kp.of_below ((Gr.refl w).alloc _).below).trans (Kp.grownBy (S := fun q => v.ownBlock = some q) h3 (fun _ h => h)) (fun _ _ h => h)
  refine hK _ _ (h g cap w' (by rw [flatP_append]; exact h2) hk (h4.imp id (fun e => by rw [e]; simp)) ?_)
  rcases owns_lst (ts := l) (by rw [hn]; exact hown) with h0 | ⟨b, off, c, hv, hb, ht⟩
  · exact Or.inl h0
  · refine Or.inr ⟨b, off, c, hv, Nat.lt_of_lt_of_le hb hk.size, fun j u hj => ?_⟩
    obtain ⟨_, ⟨h0, _⟩ | ⟨g', cap', cur, hv', _⟩⟩ := id hown
    · rw [hv] at h0; cases h0
    · rw [hv] at hv'
      simp only [Value.slice.injEq, Option.some.injEq, Addr.mk.injEq, and_true] at hv'
      obtain ⟨⟨rfl, rfl⟩, _⟩ := hv'
      rw [Nat.zero_add]
      exact h5 b (by rw [hv]; rfl) j u hj
end Go.Proofs.Ytbomkeginbhhoaa
