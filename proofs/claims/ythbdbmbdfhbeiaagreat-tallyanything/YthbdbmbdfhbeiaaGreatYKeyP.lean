import Derived.Test.YthbdbmbdfhbeiaaGreatYMethP
import Derived.Test.YthbdbmbdfhbeiaaGreatYMethM
import Derived.Deep.AppendLies
import Derived.Laws.IdiomStrings
namespace Go.Proofs.YthbdbmbdfhbeiaaGreat.Pp
open Go.RowKit Go.Sort Go.Maps
attribute [local go_sem ↓] Go.wp_at_zero Go.wp_at_succ

def bts (ns : List Int) : ByteArray := ns.foldl (fun r n => r.push (UInt8.ofNat n.toNat)) ByteArray.empty
theorem fold_size : ∀ (ns : List Int) (r : ByteArray), (ns.foldl (fun r n => r.push (UInt8.ofNat n.toNat)) r).size = r.size + ns.length
  | [], r => by simp
  | n :: ns, r => by
    rw [List.foldl_cons, fold_size ns]
    have h : (r.push (UInt8.ofNat n.toNat)).size = r.size + 1 := Array.size_push ..
    rw [h, List.length_cons]
    omega
theorem bts_size (ns : List Int) : (bts ns).size = ns.length := by
  unfold bts
  rw [fold_size]
  have h : ByteArray.empty.size = 0 := rfl
  rw [h, Nat.zero_add]
theorem run_text (W : World) (ns : List Int) : (convert 80 9 (.slice (some ⟨W.heap.size, 0, none⟩) ns.length ns.length)).run Tryz.prog (W.alloc (.cells (ns.map (Value.int .u8)).toArray 5)) = .ok (.string (bts ns)) (W.alloc (.cells (ns.map (Value.int .u8)).toArray 5)) := by
  rw [run_convert_bytes_string _ _ _ _ _ _ _ Tryz.underlying80 Tryz.underlying5 Tryz.underlying9]
  refine run_bytesToString _ _ _ _ ns ?_
  have hl := run_loadCells_list (P := Tryz.prog) (W.alloc (.cells (ns.map (Value.int .u8)).toArray 5)) ⟨W.heap.size, 0, none⟩ (ns.map (Value.int .u8)) (World.news_of_block (heap_alloc_new _ _))
  simpa using hl
theorem run_text2 (W : World) (a b : Int) : (convert 80 9 (.slice (some ⟨W.heap.size, 0, none⟩) 2 2)).run Tryz.prog (W.alloc (.cells #[.int .u8 a, .int .u8 b] 5)) = .ok (.string (bts [a, b])) (W.alloc (.cells #[.int .u8 a, .int .u8 b] 5)) := run_text W [a, b]


/-- A pair's two bytes as a text. -/
def tx (p : Pr) : BS := ⟨bts [p.1.2.1, p.1.2.2], by rw [bts_size]; unfold maxLen; simp⟩
set_option maxHeartbeats 2000000 in
set_option maxRecDepth 100000 in
theorem key_any (p : Pr) (w : World) : Calls Tryz.prog 11 #[pv p] w fun e w' => e = .returned (kv (tx p) p.1.1) ∧ Gr w w' := by
  have ht2 := run_text2 ((w.alloc (.cells #[.int .i64 p.1.1, .int .u8 p.1.2.1, .int .u8 p.1.2.2] 27)).alloc (.cells #[.string ⟨#[]⟩, .int .i64 0] 49)) p.1.2.1 p.1.2.2
  rw [show ((w.alloc (.cells #[.int .i64 p.1.1, .int .u8 p.1.2.1, .int .u8 p.1.2.2] 27)).alloc (.cells #[.string ⟨#[]⟩, .int .i64 0] 49)).heap.size = w.heap.size + 1 + 1 by simp] at ht2
  unfold tx
  go_enter Tryz.func11, Tryz.ntmps11
  go_wp2
  refine bodyPost_ret (v := kv ⟨bts [p.1.2.1, p.1.2.2], by rw [bts_size]; unfold maxLen; simp⟩ p.1.1) (by simp [results, Tryz.results11, go_sem]) rfl ⟨rfl, ?_⟩
  exact (((Gr.refl _).alloc _).alloc _).alloc _
set_option maxHeartbeats 2000000 in
set_option maxRecDepth 100000 in
theorem byPlace_any (p q : Sm) (w : World) : Calls Tryz.prog 7 #[mv p, mv q] w fun e w' => e = .returned (.int .i64 (wrap64 (p.1.1 - q.1.1))) ∧ Gr w w' := by
  go_enter Tryz.func7, Tryz.ntmps7
  go_wp2
  go_ret
  exact ⟨rfl, ((Gr.refl _).alloc _).alloc _⟩
/-- The order of pairs. -/
def cfp (x y : Pr) : Int := cfk 0 (tx x) x.1.1 (tx y) y.1.1
theorem blk_cells {W : World} {g : Nat} {p : Pr} (h : W.heap[g]? = some (.cells #[.int .i64 p.1.1, .int .u8 p.1.2.1, .int .u8 p.1.2.2] 27 (0, 0))) :
    W.cell? ⟨g, 0, none⟩ = some (.int .i64 p.1.1) ∧ W.cell? ⟨g, 1, none⟩ = some (.int .u8 p.1.2.1) ∧ W.cell? ⟨g, 2, none⟩ = some (.int .u8 p.1.2.2) ∧ g < W.heap.size :=
  ⟨by simp only [World.cell?]; rw [h]; rfl, by simp only [World.cell?]; rw [h]; rfl, by simp only [World.cell?]; rw [h]; rfl, (Array.getElem?_eq_some_iff.1 h).1⟩
set_option maxHeartbeats 2000000 in
set_option maxRecDepth 100000 in
theorem byB_any (x y : Pr) (w : World) : Calls Tryz.prog 5 #[pv x, pv y] w fun e w' => e = .returned (.int .i64 (cfp x y)) ∧ Gr w w' := by
  have hmx : Tryz.prog.follows .mixedOrders = true := by kernel_rfl
  have hk := fun W => key_any x W
  have ho := fun W => Order_any 0 (tx x) (tx y) x.1.1 y.1.1 W
  unfold cfp
  generalize cfk 0 (tx x) x.1.1 (tx y) y.1.1 = r at ho ⊢
  obtain ⟨W0, hW0⟩ : ∃ W0, W0 = (w.alloc (.cells #[.int .i64 x.1.1, .int .u8 x.1.2.1, .int .u8 x.1.2.2] 27)).alloc (.cells #[.int .i64 y.1.1, .int .u8 y.1.2.1, .int .u8 y.1.2.2] 27) := ⟨_, rfl⟩
  have HG : Hid (Gr w W0) := by rw [hW0]; exact ((Gr.refl _).alloc _).alloc _
  have b1 : W0.heap[w.heap.size]? = some (.cells #[.int .i64 x.1.1, .int .u8 x.1.2.1, .int .u8 x.1.2.2] 27 (0, 0)) := by rw [hW0]; exact heap_alloc2_old _ _ _
  have b2 : W0.heap[w.heap.size + 1]? = some (.cells #[.int .i64 y.1.1, .int .u8 y.1.2.1, .int .u8 y.1.2.2] 27 (0, 0)) := by rw [hW0]; exact heap_alloc2_new _ _ _
  have keep : ∀ W : World, Gr W0 W → (W.cell? ⟨w.heap.size, 0, none⟩ = some (.int .i64 x.1.1) ∧ W.cell? ⟨w.heap.size, 1, none⟩ = some (.int .u8 x.1.2.1) ∧ W.cell? ⟨w.heap.size, 2, none⟩ = some (.int .u8 x.1.2.2)) ∧ W.cell? ⟨w.heap.size + 1, 0, none⟩ = some (.int .i64 y.1.1) ∧ W.cell? ⟨w.heap.size + 1, 1, none⟩ = some (.int .u8 y.1.2.1) ∧ W.cell? ⟨w.heap.size + 1, 2, none⟩ = some (.int .u8 y.1.2.2) := fun W h => by
    have c1 := blk_cells b1
    have c2 := blk_cells b2
    exact ⟨⟨(h.cell c1.2.2.2).trans c1.1, (h.cell c1.2.2.2).trans c1.2.1, (h.cell c1.2.2.2).trans c1.2.2.1⟩, (h.cell c2.2.2.2).trans c2.1, (h.cell c2.2.2.2).trans c2.2.1, (h.cell c2.2.2.2).trans c2.2.2.1⟩
  have S0 := keep W0.drew (Gr.refl _).drew
  have hky := fun W (_ : Gr W0 W) => key_any y W
  have K1 : Hid (∀ w1, Gr W0.drew w1 → Gr W0 w1) := fun w1 h => (Gr.refl W0).drew.trans h
  clear b1 b2
  go_enter Tryz.func5, Tryz.ntmps5
  go_wp2_with fail
  rw [← hW0]
  clear hW0
  go_region_held3 (fun W => (W.cell? ⟨w.heap.size, 0, none⟩ = some (.int .i64 x.1.1) ∧ W.cell? ⟨w.heap.size, 1, none⟩ = some (.int .u8 x.1.2.1) ∧ W.cell? ⟨w.heap.size, 2, none⟩ = some (.int .u8 x.1.2.2)) ∧ W.cell? ⟨w.heap.size + 1, 0, none⟩ = some (.int .i64 y.1.1) ∧ W.cell? ⟨w.heap.size + 1, 1, none⟩ = some (.int .u8 y.1.2.1) ∧ W.cell? ⟨w.heap.size + 1, 2, none⟩ = some (.int .u8 y.1.2.2))
    (first | exact S0 | exact keep _ G3 | exact keep _ G2 | exact keep _ G1)
    (first | (go_at_call 11; refine (hky _ G1).mono ?_; rintro e w2 ⟨rfl, g2⟩; have G2 := G1.trans g2) | (go_at_call 11; refine (hk _).mono ?_; rintro e w1 ⟨rfl, g1⟩; have G1 := K1.out _ g1) | (go_at_call 19; refine (ho _).mono ?_; rintro e w3 ⟨rfl, g3⟩; have G3 := G2.trans g3))
  go_wp2
  go_ret
  exact ⟨rfl, HG.out.trans G3⟩
end Go.Proofs.YthbdbmbdfhbeiaaGreat.Pp
