import Derived.Test.YtnpmmodcmfgbjaaGreatMRap
namespace Go.Proofs.YtnpmmodcmfgbjaaGreat
namespace Cn
open Go.RowKit Go.Sort Go.Maps
attribute [local go_sem ↓] Go.wp_at_zero Go.wp_at_succ

set_option maxHeartbeats 1000000 in
theorem copy_any {cb fb ff : Nat} {v : Value} {l : List Tm} (w : World) (hc : Ch w cb fb ff v l) (hl : l.length * 24 ≤ 140737488355328) :
    Calls Tryz.prog 38 #[.pointer (some ⟨cb, 0, none⟩)] w fun e w' => ∃ cb' v', e = .returned (.pointer (some ⟨cb', 0, none⟩)) ∧ w.heap.size ≤ cb' ∧ Ch w' cb' fb ff v' l ∧ Below w.heap.size w w' ∧ ∀ g, v'.ownBlock = some g → w.heap.size ≤ g := by
  have hmx : Tryz.prog.follows .mixedOrders = true := by kernel_rfl
  have HC : Hid (Ch w cb fb ff v l) := hc
  have S0 : w.cell? ⟨cb, 0, none⟩ = some (fv fb) ∧ w.cell? ⟨cb, 1, none⟩ = some (fv ff) ∧ cb < w.heap.size := ⟨hc.c0, hc.c1, hc.lt⟩
  have keepB : ∀ W W' : World, (W.cell? ⟨cb, 0, none⟩ = some (fv fb) ∧ W.cell? ⟨cb, 1, none⟩ = some (fv ff) ∧ cb < W.heap.size) → Below W.heap.size W W' → (W'.cell? ⟨cb, 0, none⟩ = some (fv fb) ∧ W'.cell? ⟨cb, 1, none⟩ = some (fv ff) ∧ cb < W'.heap.size) := fun W W' h hb =>
    ⟨(hb.cell (p := ⟨cb, 0, none⟩) h.2.2).trans h.1, (hb.cell (p := ⟨cb, 1, none⟩) h.2.2).trans h.2.1, Nat.lt_of_lt_of_le h.2.2 hb.size⟩
  have C1 : Ch w.drew cb fb ff v l := hc.below (Gr.refl _).drew.below
  have hli : Calls Tryz.prog 29 #[.pointer (some ⟨cb, 0, none⟩)] w.drew fun e w' => ∃ p5 c5, e = .returned (.slice p5 l.length c5) ∧ w'.ownsRow w.drew.heap.size 37 3 (.slice p5 l.length c5) l.length (flT l) ∧ Below w.drew.heap.size w.drew w' := by
    refine (list_any w.drew C1 hl).mono ?_
    rintro e w1 ⟨v1, rfl, h1, h2⟩
    obtain ⟨p, c, rfl⟩ := (owns_ls (E := ET) h1).form
    exact ⟨p, c, rfl, h1, h2⟩
  clear hc
  go_enter Tryz.func38, Tryz.ntmps38
  go_wp2_with fail
  go_region_held3 (fun w' => w'.cell? ⟨cb, 0, none⟩ = some (fv fb) ∧ w'.cell? ⟨cb, 1, none⟩ = some (fv ff) ∧ cb < w'.heap.size)
    (first | exact S0 | exact keepB _ _ (by assumption) (Gr.refl _).drew.below | exact keepB _ _ (by assumption) (by assumption) | exact keepB _ _ (by assumption) ((Gr.refl _).alloc _).below)
    (first | (go_at_call 29; refine hli.mono ?_; rintro e w5 ⟨p5, c5, rfl, ho5, hb5⟩))
  go_wp2
  go_ret
  have b5 : Below w.heap.size w w5 := (Gr.refl w).drew.below.trans hb5
  refine ⟨_, _, rfl, b5.size, ⟨heap_new' _ _, owns_below (owns_base ho5 (Nat.zero_le _)) ((Gr.refl _).alloc _).below, fun h => by have := (ho5.lt _ h).2; omega⟩, b5.trans (((Gr.refl _).alloc _).below.mono b5.size), fun g hg => (ho5.lt g hg).1⟩
end Cn
end Go.Proofs.YtnpmmodcmfgbjaaGreat
