import Derived.Test.YtmhbpelbkeclpaaGreatDoorRef6
namespace Go.Proofs.YtmhbpelbkeclpaaGreatDoor
open Go.RowKit Go.Shelf Go.Lib
open Go.Sort hiding Below

def m77 : T3 := (77, 77, 77)

set_option maxHeartbeats 2000000 in
set_option maxRecDepth 100000 in
theorem lent_any (v : Value) (ts : List T3) (w : World) (hv : Lst w v ts) (hbig : (ts.length + 1) * 24 ≤ 140737488355328) :
    Calls Tryz.prog 6 #[v] w fun e w' => ∃ g cap, e = .returned (.slice (some ⟨g, 0, none⟩) ts.length cap) ∧ w'.ownsRow w.heap.size 25 3 (.slice (some ⟨g, 0, none⟩) (ts.length + 1) cap) (ts.length + 1) (flat (ts ++ [m77])) ∧ Below w.heap.size w w' := by
  obtain ⟨pl, cl, rfl⟩ := hv.form
  go_enter Tryz.func6, Tryz.ntmps6
  go_wp2_with (at_builtin; refine wpList_append_lst rfl _ _ rfl w.heap.size (.slice (some ⟨w.heap.size, 0, none⟩) 0 0) 0 [] rfl ⟨rfl, Or.inr ⟨w.heap.size, 0, #[], rfl, Nat.le_refl _, heap_new _ _, Nat.le_refl _, by simp, rfl, rfl⟩⟩ _ ts rfl (hv.below ((Gr.refl _).alloc _).below) (by omega) (by simp) ?_)
  intro vo w2 ho2 hb2
  have ho2 : w2.ownsRow w.heap.size 25 3 vo ts.length (flat ts) := by simpa using ho2
  have b2 : Below w.heap.size w w2 := ((Gr.refl w).alloc _).below.trans hb2
  have hsz := b2.size
  clear hb2 hv
  go_wp2_with (at_builtin; refine wpList_append_one rfl _ _ rfl w.heap.size _ ts.length (flat ts) rfl ho2 m77 rfl (by omega) (by omega) ?_)
  intro v3 w3 ho3 hb3
  obtain ⟨g, cap, rfl, hg, hlt⟩ := ho3.form (by omega)
  have hcap : ts.length + 1 ≤ cap := by
    rcases ho3.2 with ⟨h, _⟩ | ⟨g', cap', cur, h, _, _, hc, _⟩
    · cases h
    · cases h; exact hc
  have hcz : (ts.length : Int) ≤ (cap : Int) := by omega
  have hcapz : ts.length ≤ cap := by omega
  go_wp2
  go_ret
  refine ⟨g, cap, rfl, ?_, b2.trans hb3⟩
  rw [flat_append]
  simpa [flat] using ho3

theorem lst_take {w : World} {B g cap n : Nat} {ts : List T3} {t : T3} (h : w.ownsRow B 25 3 (.slice (some ⟨g, 0, none⟩) (n + 1) cap) (n + 1) (flat (ts ++ [t]))) (hn : ts.length = n) :
    Lst w (.slice (some ⟨g, 0, none⟩) n cap) ts ∧ g < w.heap.size ∧ n + 1 ≤ cap ∧ w.cell? ⟨g, n * 3, none⟩ = some (.int .u64 t.1) ∧ w.cell? ⟨g, n * 3 + 1, none⟩ = some (.int .u64 t.2.1) ∧ w.cell? ⟨g, n * 3 + 2, none⟩ = some (.int .u64 t.2.2) := by
  subst hn
  have hc : ∀ j, j < (ts.length + 1) * 3 → w.cell? ⟨g, j, none⟩ = (flat (ts ++ [t]))[j]? := fun j hj => h.cellAt j hj
  obtain ⟨_, hlt⟩ := h.lt g rfl
  have hcap : ts.length + 1 ≤ cap := by
    rcases h.2 with ⟨h', _⟩ | ⟨g', cap', cur, h', _, _, hc, _⟩
    · cases h'
    · cases h'; exact hc
  have hat : ∀ i, i < 3 → (flat (ts ++ [t]))[ts.length * 3 + i]? = (encT t)[i]? := fun i hi => flat_get (ts ++ [t]) ts.length i t (by simp) hi
  refine ⟨Or.inr ⟨g, 0, cap, rfl, hlt, fun j u hj => ?_⟩, hlt, hcap, ?_, ?_, ?_⟩
  · have hjl : j < ts.length * 3 := by have := (List.getElem?_eq_some_iff.1 hj).1; rwa [flat_length] at this
    rw [Nat.zero_add, hc j (by omega), flat_append, List.getElem?_append_left (by rw [flat_length]; exact hjl)]
    exact hj
  · rw [hc _ (by omega)]; exact hat 0 (by omega)
  · rw [hc _ (by omega)]; exact hat 1 (by omega)
  · rw [hc _ (by omega)]; exact hat 2 (by omega)

set_option maxHeartbeats 2000000 in
set_option maxRecDepth 100000 in
theorem kept_any (v : Value) (ts : List T3) (B g cap : Nat) (w : World) (hv : Lst w v ts) (hown : w.ownsRow B 25 3 (.slice (some ⟨g, 0, none⟩) (ts.length + 1) cap) (ts.length + 1) (flat (ts ++ [m77]))) (hbig : ts.length ≤ 9223372036854775806) :
    Calls Tryz.prog 12 #[.slice (some ⟨g, 0, none⟩) ts.length cap, v] w fun e w' => e = .returned (.bool true) ∧ Gr w w' := by
  obtain ⟨hL, hlt, hcap, c1, c2, c3⟩ := lst_take hown rfl
  obtain ⟨pl, cl, rfl⟩ := hv.form
  have heq := fun a b c x y z W => run_eqT a b c x y z W
  have hT := times_any (.slice (some ⟨g, 0, none⟩) ts.length cap) (.slice pl ts.length cl) ts ts w hL hv (by unfold maxLen; omega)
  rw [decide_eq_true rfl] at hT
  replace c1 : w.cell? ⟨g, ts.length * 3, none⟩ = some (.int .u64 77) := c1
  replace c2 : w.cell? ⟨g, ts.length * 3 + 1, none⟩ = some (.int .u64 77) := c2
  replace c3 : w.cell? ⟨g, ts.length * 3 + 2, none⟩ = some (.int .u64 77) := c3
  have hq : teq 77 77 77 77 77 77 = true := rfl
  have hcz : (ts.length : Int) + 1 ≤ (cap : Int) := by omega
  have hcz0 : (ts.length : Int) ≤ (cap : Int) := by omega
  have hcapz : ts.length ≤ cap := by omega
  have hlz : (ts.length : Int) < (ts.length : Int) + 1 := by omega
  clear hL hv hown
  go_enter Tryz.func12, Tryz.ntmps12
  go_wp2_with fail
  refine hT.mono ?_
  rintro e w2 ⟨rfl, hg2⟩
  replace c1 := (hg2.cell (b := g) (o := ts.length * 3) hlt).trans c1
  replace c2 := (hg2.cell (b := g) (o := ts.length * 3 + 1) hlt).trans c2
  replace c3 := (hg2.cell (b := g) (o := ts.length * 3 + 2) hlt).trans c3
  clear hT
  go_wp2
  go_ret
  exact ⟨rfl, hg2⟩

set_option maxRecDepth 100000 in
theorem mark_any (k : Nat) (hk : k < 9223372036854775807) (w : World) :
    Calls Tryz.prog 33 #[.int .i64 k] w fun e w' => e = .returned (.agg #[.int .u64 k, .int .u64 99999, .int .u64 12345]) ∧ Gr w w' := by
  have hw : IntKind.u64.wrap (k : Int) = (k : Int) := by rw [IntKind.wrap_u64]; omega
  go_enter Tryz.func33, Tryz.ntmps33
  go_wp2
  exact bodyPost_ret (v := .agg #[.int .u64 k, .int .u64 99999, .int .u64 12345]) (by simp [results, Tryz.results33, go_sem]) rfl ⟨rfl, (Gr.refl _).alloc _⟩
end Go.Proofs.YtmhbpelbkeclpaaGreatDoor
