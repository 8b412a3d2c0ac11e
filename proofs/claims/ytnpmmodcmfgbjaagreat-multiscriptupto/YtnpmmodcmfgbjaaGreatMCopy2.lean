import Derived.Test.YtnpmmodcmfgbjaaGreatMCopy
import Derived.Test.YtnpmmodcmfgbjaaGreatMCl
import Derived.Shelf.SlMaps.Clone
namespace Go.Proofs.YtnpmmodcmfgbjaaGreat
open Go.RowKit Go.Sort Go.Maps
open Tt (Tl byd byd_f byd_t)
attribute [local go_sem ↓] Go.wp_at_zero Go.wp_at_succ

theorem heap_alloc2_new (w : World) (o p : Obj) : (((w.alloc o).alloc p)).heap[w.heap.size + 1]? = some p := by
  have := heap_new' (w.alloc o) p
  simpa using this
theorem heap_alloc2_old (w : World) (o p : Obj) : (((w.alloc o).alloc p)).heap[w.heap.size]? = some o := by
  rw [Below.heap_alloc _ _ _ (by simp)]
  exact heap_new' _ _
set_option maxHeartbeats 1000000 in
theorem tcopy_any {tb b g n : Nat} {f : Tm → Int} (w : World) (h : Tl w tb b g n f) :
    Calls Tryz.prog 59 #[.pointer (some ⟨tb, 0, none⟩)] w fun e w' => e = .returned (.pointer (some ⟨w.heap.size + 1, 0, none⟩)) ∧ Tl w' (w.heap.size + 1) w.heap.size g n f ∧ Gr w w' := by
  have hmx : Tryz.prog.follows .mixedOrders = true := by kernel_rfl
  have HC : Hid (Tl w tb b g n f) := h
  obtain ⟨D, hown, h1, h2⟩ := h.ta
  obtain ⟨es, clock, hb, F, hs, hD⟩ := hown
  have hbl := (Array.getElem?_eq_some_iff.1 hb).1
  have S0 : w.cell? ⟨tb, 0, none⟩ = some (fv g) ∧ w.cell? ⟨tb, 1, none⟩ = some (.map (some b)) ∧ tb < w.heap.size := ⟨h.c0, h.c1, h.lt⟩
  have keepB : ∀ W W' : World, (W.cell? ⟨tb, 0, none⟩ = some (fv g) ∧ W.cell? ⟨tb, 1, none⟩ = some (.map (some b)) ∧ tb < W.heap.size) → Below W.heap.size W W' → (W'.cell? ⟨tb, 0, none⟩ = some (fv g) ∧ W'.cell? ⟨tb, 1, none⟩ = some (.map (some b)) ∧ tb < W'.heap.size) := fun W W' h hb =>
    ⟨(hb.cell (p := ⟨tb, 0, none⟩) h.2.2).trans h.1, (hb.cell (p := ⟨tb, 1, none⟩) h.2.2).trans h.2.1, Nat.lt_of_lt_of_le h.2.2 hb.size⟩
  have hcl := AnyW.maps_Clone Tryz.lClone b es clock w.drew hb
  have hdr : ∀ o : Obj, Below w.drew.heap.size w.drew (w.drew.alloc o) := fun o => ((Gr.refl w.drew).alloc o).below
  clear h
  go_enter Tryz.func59, Tryz.ntmps59
  go_wp2_with fail
  go_region_held3 (fun w' => w'.cell? ⟨tb, 0, none⟩ = some (fv g) ∧ w'.cell? ⟨tb, 1, none⟩ = some (.map (some b)) ∧ tb < w'.heap.size)
    (first | exact S0 | exact keepB _ _ (by assumption) (Gr.refl _).drew.below | exact keepB _ _ (by assumption) (by assumption) | exact keepB _ _ (by assumption) ((Gr.refl _).alloc _).below)
    (first | (go_at_call 73; refine hcl.mono ?_; rintro e w5 ⟨rfl, rfl⟩))
  go_wp2
  go_ret
  refine ⟨rfl, ⟨heap_alloc2_new _ _ _, ⟨D, ⟨es, clock, heap_alloc2_old _ _ _, F, hs, hD⟩, h1, h2⟩, HC.out.bd⟩, (((Gr.refl _).alloc _).alloc _).drew⟩
end Go.Proofs.YtnpmmodcmfgbjaaGreat
