import Derived.Test.YtghpekkncfckaaaLKeep
namespace Go.Proofs.Ytghpekkncfckaaa
open Go.RowKit Go.Sort

/-- 'append(own, x, x)', with the old list, of any elements. -/
theorem wpAppKeep2 {P : Program} {α : Type} (E : El α) {e sT : TypeId} {z : Value} {bt : Nat} (hu : P.underlying sT = some (.slice e)) (hI : (P.info? e).map (fun i => (i.zero, i.size, i.bytes)) = some (some z, E.k, bt)) (hz : z.cells.size = E.k) (hk0 : 0 < E.k)
    {w : World} {ops : Array Oper} {rest : List Oper} {o : Oper} {a : Act} {Q : Exit → Act → World → Prop} (hgd : o.guard = none) (s y : Operand)
    (ho : o.op = .call { callee := .builtin .append, args := #[s, y], argTypes := #[sT, sT] })
    (v : Value) (n : Nat) (l : List α) (hs : a.eval s = v) (hown : w.ownsRow 0 e E.k v n (fl E l)) (hn : l.length = n)
    (x : α) (hx : a.eval y = .slice (some ⟨w.heap.size, 0, none⟩) 2 2) (hbig : (n + 2) * bt ≤ 140737488355328) (hmx : n + 2 ≤ maxLen)
    (cs : Array Value) (hcs : cs.toList = E.enc x ++ E.enc x) (te : TypeId)
    (h : ∀ g cap w', w'.ownsRow 0 e E.k (.slice (some ⟨g, 0, none⟩) (n + 2) cap) (n + 2) (fl E (l ++ [x, x])) → Kp (fun q => v.ownBlock = some q) w w' → (v.ownBlock = some g ∨ w.heap.size ≤ g) → Ls E w' v l → wpList P ops Q rest (a.put o.dst (.slice (some ⟨g, 0, none⟩) (n + 2) cap)) w') :
    wpList P ops Q (o :: rest) a (w.alloc (.cells cs te)) := by
  obtain ⟨i0, hi, hz0, hz1, hz2⟩ := info_parts hI
  have hnew : fl E [x, x] = E.enc x ++ E.enc x := by rw [fl_cons, fl_one]
  have hown' := hown.alloc (.cells cs te)
  obtain ⟨g, cap, w', hr, h2, h3, h4, h5⟩ := app_keep (P := P) (w.alloc (.cells cs te)) sT o.type e i0 _ E.k bt hu hi hz0 hz1 hz2 hz hk0 v n (fl E l) hown' ⟨w.heap.size, 0, none⟩ 2 2 (fl E [x, x]) (fl_length E [x, x]) (by have := World.news_of_block (heap_new' w (.cells cs te)); rw [hcs, ← hnew] at this; exact this) (fl_oneCell E [x, x]) (by decide) hmx hbig
  refine wpList_plain hgd fun K hK => ?_
  unfold Oper.wp execOp
  simp only [ho, resolve, invoke, builtin, Sem.run_bind, Sem.run_pure, Result.andThen_ok, List.map_toArray, List.map_cons, List.map_nil, hs, hx, hr]
  have hk : Kp (fun q => v.ownBlock = some q) w w' := (Kp.of_below ((Gr.refl w).alloc _).below).trans (Kp.grownBy (S := fun q => v.ownBlock = some q) h3 (fun _ h => h)) (fun _ _ h => h)
  refine hK _ _ (h g cap w' (by rw [fl_append]; exact h2) hk (h4.imp id (fun e => by rw [e]; simp)) ?_)
  rcases owns_ls (E := E) (ts := l) (by rw [hn]; exact hown) with h0 | ⟨b, off, c, hv, hb, ht⟩
  · exact Or.inl h0
  · refine Or.inr ⟨b, off, c, hv, Nat.lt_of_lt_of_le hb hk.size, fun j u hj => ?_⟩
    obtain ⟨_, ⟨h0, _⟩ | ⟨g', cap', cur, hv', _⟩⟩ := id hown
    · rw [hv] at h0; cases h0
    · rw [hv] at hv'
      simp only [Value.slice.injEq, Option.some.injEq, Addr.mk.injEq, and_true] at hv'
      obtain ⟨⟨rfl, rfl⟩, _⟩ := hv'
      rw [Nat.zero_add]
      exact h5 b (by rw [hv]; rfl) j u hj
end Go.Proofs.Ytghpekkncfckaaa
