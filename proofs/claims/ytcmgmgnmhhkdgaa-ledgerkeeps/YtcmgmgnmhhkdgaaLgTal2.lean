import Derived.Test.YtcmgmgnmhhkdgaaLgTal
import Derived.Test.YtcmgmgnmhhkdgaaLgCl
import Derived.Shelf.SlMaps.Clone
namespace Go.Proofs.Ytcmgmgnmhhkdgaa.Tt
open Go.RowKit Go.Sort Go.Maps
attribute [local go_sem ↓] Go.wp_at_zero Go.wp_at_succ

set_option maxHeartbeats 1000000 in
theorem clear_any {tb b g n : Nat} {f : Sm → Int} (w : World) (h : Tl w tb b g n f) :
    Calls Try.prog 37 #[.pointer (some ⟨tb, 0, none⟩)] w fun e w' => e = .returned (.tuple #[]) ∧ Tl w' tb w.heap.size g 0 (fun _ => 0) ∧ Kp (fun k => k = tb) w w' := by
  have hmm := @run_makeMap Try.prog
  have c1 := h.c1
  have fz := h.fz
  have hlt := h.lt
  have hblk := h.blk
  clear h
  go_enter Try.func37, Try.ntmps37
  go_wp2
  go_end0
  have e := setCell_eq_setRow w tb 1 _ _ _ (.map (some w.heap.size)) hblk
  have hk : Kp (fun k => k = tb) w (w.setCell ⟨tb, 1, none⟩ (.map (some w.heap.size))) := by
    rw [e]
    exact ⟨rfl, rfl, rfl, by simp [World.setRow], fun k _ hne => setRow_other _ tb k _ (by omega)⟩
  have hz : (w.setCell ⟨tb, 1, none⟩ (.map (some w.heap.size))).heap.size = w.heap.size := by rw [e]; simp [World.setRow]
  have hm := Ta.made (Z := ZM) (e := 2) (w.setCell ⟨tb, 1, none⟩ (.map (some w.heap.size)))
  rw [hz] at hm
  refine ⟨rfl, ⟨?_, hm, fun _ => by decide⟩, hk.trans (Kp.of_gr (S := fun _ => False) ((Gr.refl _).alloc _)) (fun _ _ h => h.elim)⟩
  rw [Below.heap_alloc _ _ _ (by rw [hz]; exact hlt), e, setRow_heap _ tb _ _ _ _ hblk]
  simp
set_option maxHeartbeats 1000000 in
theorem copy_any {tb b g n : Nat} {f : Sm → Int} (w : World) (h : Tl w tb b g n f) :
    Calls Try.prog 36 #[.pointer (some ⟨tb, 0, none⟩)] w fun e w' => e = .returned (.pointer (some ⟨w.heap.size + 1, 0, none⟩)) ∧ Tl w' (w.heap.size + 1) w.heap.size g n f ∧ Gr w w' := by
  have hmx : Try.prog.follows .mixedOrders = true := by kernel_rfl
  have HC : Hid (Tl w tb b g n f) := h
  obtain ⟨D, hown, h1, h2⟩ := h.ta
  obtain ⟨es, clock, hb, F, hs, hD⟩ := hown
  have hbl := (Array.getElem?_eq_some_iff.1 hb).1
  have S0 : w.cell? ⟨tb, 0, none⟩ = some (fv g) ∧ w.cell? ⟨tb, 1, none⟩ = some (.map (some b)) ∧ tb < w.heap.size := ⟨h.c0, h.c1, h.lt⟩
  have keepB : ∀ W W' : World, (W.cell? ⟨tb, 0, none⟩ = some (fv g) ∧ W.cell? ⟨tb, 1, none⟩ = some (.map (some b)) ∧ tb < W.heap.size) → Below W.heap.size W W' → (W'.cell? ⟨tb, 0, none⟩ = some (fv g) ∧ W'.cell? ⟨tb, 1, none⟩ = some (.map (some b)) ∧ tb < W'.heap.size) := fun W W' h hb =>
    ⟨(hb.cell (p := ⟨tb, 0, none⟩) h.2.2).trans h.1, (hb.cell (p := ⟨tb, 1, none⟩) h.2.2).trans h.2.1, Nat.lt_of_lt_of_le h.2.2 hb.size⟩
  have hcl := AnyW.maps_Clone Try.lClone b es clock w.drew hb
  have hdr : ∀ o : Obj, Below w.drew.heap.size w.drew (w.drew.alloc o) := fun o => ((Gr.refl w.drew).alloc o).below
  clear h
  go_enter Try.func36, Try.ntmps36
  go_wp2_with fail
  go_region_held3 (fun w' => w'.cell? ⟨tb, 0, none⟩ = some (fv g) ∧ w'.cell? ⟨tb, 1, none⟩ = some (.map (some b)) ∧ tb < w'.heap.size)
    (first | exact S0 | exact keepB _ _ (by assumption) (Gr.refl _).drew.below | exact keepB _ _ (by assumption) (by assumption) | exact keepB _ _ (by assumption) ((Gr.refl _).alloc _).below)
    (first | (go_at_call 45; refine hcl.mono ?_; rintro e w5 ⟨rfl, rfl⟩))
  go_wp2
  go_ret
  refine ⟨rfl, ⟨heap_alloc2_new _ _ _, ⟨D, ⟨es, clock, heap_alloc2_old _ _ _, F, hs, hD⟩, h1, h2⟩, HC.out.bd⟩, (((Gr.refl _).alloc _).alloc _).drew⟩
end Go.Proofs.Ytcmgmgnmhhkdgaa.Tt
