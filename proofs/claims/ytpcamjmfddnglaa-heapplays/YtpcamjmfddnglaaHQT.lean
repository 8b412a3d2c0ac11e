import Derived.Test.YtpcamjmfddnglaaHPopT
namespace Go.Proofs.Ytpcamjmfddnglaa.Ht
open Go.RowKit Go.Sort Hp
/-- The order by a number. -/
abbrev key (f : Th → Int) : Th → Th → Bool := fun a b => decide (f a < f b)
theorem ahd_false {f : Th → Int} {a b : It} : ahd (key f) a b = false ↔ (f b.1 < f a.1 ∨ (f a.1 = f b.1 ∧ b.2 ≤ a.2)) := by
  unfold ahd key
  split <;> simp <;> omega
theorem tot_key (f : Th → Int) : Tot (ahd (key f)) := by
  refine ⟨fun a b c h1 h2 => ?_, fun a b h => ?_⟩
  · rw [ahd_false] at *; omega
  · rw [ahd_false]
    have : ¬ (ahd (key f) a b = false) := by rw [h]; simp
    rw [ahd_false] at this
    omega
/-- A heap with an order: its items, each with a turn of its own. -/
structure Hq (w : World) (hb ff : Nat) (v : Value) (f : Th → Int) (L : List It) (np : Nat) : Prop where
  h : Hb w hb ff v L np
  hp : Heapy (ahd (key f)) L
  nd : (L.map Prod.snd).Nodup
  lt : ∀ x ∈ L, x.2 < np
theorem Hq.kp {w w' : World} {hb ff np : Nat} {v : Value} {f : Th → Int} {L : List It} {S : Nat → Prop} (h : Hq w hb ff v f L np) (hk : Kp S w w') (h1 : ¬ S hb) (h2 : ∀ k, v.ownBlock = some k → ¬ S k) : Hq w' hb ff v f L np := ⟨h.h.kp hk h1 h2, h.hp, h.nd, h.lt⟩
theorem Hq.below {w w' : World} {hb ff np : Nat} {v : Value} {f : Th → Int} {L : List It} (h : Hq w hb ff v f L np) (hb' : Below w.heap.size w w') : Hq w' hb ff v f L np := ⟨h.h.below hb', h.hp, h.nd, h.lt⟩
theorem newq_any (ff : Nat) (f : Th → Int) (w : World) : Calls Try.prog 7 #[fv ff] w fun e w' => ∃ hb, e = .returned (.pointer (some ⟨hb, 0, none⟩)) ∧ w.heap.size ≤ hb ∧ Hq w' hb ff (.slice none 0 0) f [] 0 ∧ Gr w w' := by
  refine (new_any ff w).mono ?_
  rintro e w' ⟨hb, rfl, h1, h2, h3⟩
  exact ⟨hb, rfl, h1, ⟨h2, fun i x y _ hx => by simp at hx, by simp, by simp⟩, h3⟩
theorem pushq_any {hb ff np : Nat} {v : Value} {f : Th → Int} {L : List It} (x : Th) (w : World) (hH : Hq w hb ff v f L np) (hl : (L.length + 1) * 24 ≤ 140737488355328) (hnp : np + 1 < 18446744073709551616) (hF : FnOk ff (key f)) :
    Calls Try.prog 9 #[.pointer (some ⟨hb, 0, none⟩), tv x] w fun e w' => ∃ v' L', e = .returned (.tuple #[]) ∧ Hq w' hb ff v' f L' (np + 1) ∧ L'.Perm (L ++ [(x, np)]) ∧ Turn hb v v' w w' := by
  refine (push_any x w hH.h hl hnp hF).mono ?_
  rintro e w' ⟨v', L', rfl, h1, h2, h3, h4⟩
  refine ⟨v', L', rfl, ⟨h1, h3 (tot_key f) hH.hp, ?_, fun y hy => ?_⟩, h2, h4⟩
  · rw [(h2.map Prod.snd).nodup_iff, List.map_append, List.nodup_append]
    refine ⟨hH.nd, by simp, fun a ha b hb e => ?_⟩
    obtain ⟨y, hy, rfl⟩ := List.mem_map.1 ha
    have := hH.lt y hy
    simp at hb
    omega
  · rcases List.mem_append.1 (h2.mem_iff.1 hy) with h | h
    · have := hH.lt y h; omega
    · simp at h; subst h; simp
theorem popq_any {hb ff np : Nat} {v : Value} {f : Th → Int} {L : List It} {t : It} (w : World) (hH : Hq w hb ff v f L np) (ht : L[0]? = some t) (hl : L.length ≤ 140737488355328) (hF : FnOk ff (key f)) :
    Calls Try.prog 10 #[.pointer (some ⟨hb, 0, none⟩)] w fun e w' => ∃ v' L', e = .returned (ans t.1 true) ∧ Hq w' hb ff v' f L' np ∧ (t :: L').Perm L ∧ (∀ x ∈ L', f t.1 < f x.1 ∨ (f t.1 = f x.1 ∧ t.2 < x.2)) ∧ Turn hb v v' w w' := by
  refine (pop_any w hH.h ht hl hF).mono ?_
  rintro e w' ⟨rfl, v', L', h1, h2, h3, h4⟩
  have hnd : ((t :: L').map Prod.snd).Nodup := (h2.map Prod.snd).nodup_iff.2 hH.nd
  rw [List.map_cons, List.nodup_cons] at hnd
  refine ⟨v', L', rfl, ⟨h1, h3 (tot_key f) hH.hp, hnd.2, fun y hy => hH.lt y (h2.mem_iff.1 (List.mem_cons_of_mem _ hy))⟩, h2, fun x hx => ?_, h4⟩
  obtain ⟨i, hi⟩ := List.getElem?_of_mem (h2.mem_iff.1 (List.mem_cons_of_mem t hx))
  have := ahd_false.1 (Heapy.top (tot_key f) hH.hp ht i x hi)
  have hne : t.2 ≠ x.2 := fun e => hnd.1 (List.mem_map.2 ⟨x, hx, e.symm⟩)
  omega
/-- The first one comes ahead of every other one. -/
theorem Hq.first {w : World} {hb ff np : Nat} {v : Value} {f : Th → Int} {L : List It} {t : It} (hH : Hq w hb ff v f L np) (ht : L[0]? = some t) : t ∈ L ∧ ∀ x ∈ L, f t.1 < f x.1 ∨ (f t.1 = f x.1 ∧ t.2 ≤ x.2) := by
  refine ⟨List.mem_of_getElem? ht, fun x hx => ?_⟩
  obtain ⟨i, hi⟩ := List.getElem?_of_mem hx
  have := ahd_false.1 (Heapy.top (tot_key f) hH.hp ht i x hi)
  omega
end Go.Proofs.Ytpcamjmfddnglaa.Ht
