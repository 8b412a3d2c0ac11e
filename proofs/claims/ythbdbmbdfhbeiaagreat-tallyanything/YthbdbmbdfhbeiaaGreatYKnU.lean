import Derived.Test.YthbdbmbdfhbeiaaGreatYJoin
namespace Go.Proofs.YthbdbmbdfhbeiaaGreat
open Go.RowKit Go.Sort Go.Maps
attribute [local go_sem ↓] Go.wp_at_zero Go.wp_at_succ

/-- A slice value that reads as these texts. -/
def Ls (w : World) (v : Value) (l : List BS) : Prop :=
  (l = [] ∧ v = .slice none 0 0) ∨ ∃ b off c, v = .slice (some ⟨b, off, none⟩) l.length c ∧ b < w.heap.size ∧ ∀ (j : Nat) (x : BS), l[j]? = some x → w.cell? ⟨b, off + j, none⟩ = some (sv x)
theorem Ls.kept {w w' : World} {v : Value} {l : List BS} (h : Ls w v l) (hs : w.heap.size ≤ w'.heap.size) (hb : ∀ g, v.ownBlock = some g → w'.heap[g]? = w.heap[g]?) : Ls w' v l := by
  rcases h with h | ⟨b, off, c, hv, hbs, ht⟩
  · exact Or.inl h
  · refine Or.inr ⟨b, off, c, hv, Nat.lt_of_lt_of_le hbs hs, fun j u hj => ?_⟩
    have := hb b (by rw [hv]; rfl)
    rw [World.cell?_of_block (a := ⟨b, off + j, none⟩) this]
    exact ht j u hj
theorem Ls.blk {w : World} {v : Value} {l : List BS} (h : Ls w v l) : ∀ g, v.ownBlock = some g → g < w.heap.size := by
  intro g hg
  rcases h with ⟨_, rfl⟩ | ⟨b, off, c, rfl, hbs, _⟩
  · simp [Value.ownBlock] at hg
  · simp [Value.ownBlock] at hg; omega
theorem Ls.kp {S : Nat → Prop} {w w' : World} {v : Value} {l : List BS} (h : Ls w v l) (hk : Kp S w w') (hS : ∀ g, v.ownBlock = some g → ¬ S g) : Ls w' v l :=
  h.kept hk.size fun g hg => hk.block g (h.blk g hg) (hS g hg)
theorem Ls.below {w w' : World} {v : Value} {l : List BS} (h : Ls w v l) (hb : Below w.heap.size w w') : Ls w' v l :=
  h.kept hb.size fun g hg => hb.block g (h.blk g hg)
theorem Ls.form {w : World} {v : Value} {l : List BS} (h : Ls w v l) : ∃ p c, v = .slice p l.length c := by
  rcases h with ⟨rfl, rfl⟩ | ⟨b, off, c, hv, _, _⟩
  · exact ⟨_, _, rfl⟩
  · exact ⟨_, _, hv⟩
theorem Ls.at1 {w : World} {v : Value} {l : List BS} (h : Ls w v l) {j : Nat} {x : BS} (hj : l[j]? = some x) :
    ∃ b off c, v = .slice (some ⟨b, off, none⟩) l.length c ∧ b < w.heap.size ∧ w.cell? ⟨b, off + j, none⟩ = some (sv x) := by
  rcases h with ⟨rfl, _⟩ | ⟨b, off, c, hv, hb, ht⟩
  · simp at hj
  · exact ⟨b, off, c, hv, hb, ht j x hj⟩
theorem owns_ls {w : World} {base : Nat} {e : TypeId} {v : Value} {l : List BS} (h : w.ownsRow base e 1 v l.length (l.map sv)) : Ls w v l := by
  rcases h.2 with ⟨hv, h0⟩ | ⟨g, cap, cur, hv, hg, hh, _, _, _, htake⟩
  · exact Or.inl ⟨List.eq_nil_of_length_eq_zero h0, hv⟩
  · refine Or.inr ⟨g, 0, cap, hv, (Array.getElem?_eq_some_iff.1 hh).1, fun j u hj => ?_⟩
    have := h.cells (g := g) (by rw [hv]; rfl) j (sv u) (by simp [hj])
    have e2 : (⟨g, 0, none⟩ : Addr).add j = ⟨g, 0 + j, none⟩ := by unfold Addr.add; split <;> simp_all
    rw [e2] at this
    exact this

set_option maxHeartbeats 1000000 in
theorem made_any (k : Int) (hk : k = 0 ∨ k = 1 ∨ k = 2) (w : World) : Calls Tryz.prog 20 #[.int .i64 k] w fun e w' => ∃ tb b g, e = .returned (.pointer (some ⟨tb, 0, none⟩)) ∧ w.heap.size ≤ tb ∧ w.heap.size ≤ b ∧ OrdOk g (cf k) ∧ Tl w' tb b g 0 (fun _ => 0) ∧ Gr w w' := by
  rcases hk with rfl | rfl | rfl
  · have h := new_any 41 w
    go_enter Tryz.func20, Tryz.ntmps20
    go_wp2_with fail
    refine h.mono ?_
    rintro e w1 ⟨rfl, hc, hg⟩
    go_wp2
    go_ret
    exact ⟨_, _, _, rfl, Nat.le_succ _, Nat.le_refl _, order0_ok, hc, hg⟩
  · have h := new_any 42 w
    go_enter Tryz.func20, Tryz.ntmps20
    go_wp2_with fail
    refine h.mono ?_
    rintro e w1 ⟨rfl, hc, hg⟩
    go_wp2
    go_ret
    exact ⟨_, _, _, rfl, Nat.le_succ _, Nat.le_refl _, order1_ok, hc, hg⟩
  · have h := new_any 43 w
    go_enter Tryz.func20, Tryz.ntmps20
    go_wp2_with fail
    refine h.mono ?_
    rintro e w1 ⟨rfl, hc, hg⟩
    go_wp2
    go_ret
    exact ⟨_, _, _, rfl, Nat.le_succ _, Nat.le_refl _, order2_ok, hc, hg⟩

theorem take_same {a b : List BS} {k : Nat} {s : BS} (h : a.take k = b.take k) (hs : a[k]? = some s) (ht : b[k]? = some s) : a.take (k + 1) = b.take (k + 1) := by
  rw [List.take_add_one, List.take_add_one, h, hs, ht]
end Go.Proofs.YthbdbmbdfhbeiaaGreat
