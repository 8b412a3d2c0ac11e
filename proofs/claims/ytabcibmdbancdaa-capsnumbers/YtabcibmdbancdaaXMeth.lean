import Derived.Test.YtabcibmdbancdaaXBase
import Derived.Test.YtabcibmdbancdaaOrders
import Derived.Test.YtabcibmdbancdaaLHold
import Derived.Deep.DeepCutAuto
import Derived.BigQuiet
import Derived.WalkMore
namespace Go.Proofs.Ytabcibmdbancdaa
open Go.RowKit Go.Sort Go.Maps
attribute [local go_sem ↓] Go.wp_at_zero Go.wp_at_succ

/-- A book of capabilities: the most, the last number, what is held. -/
structure Cs (w : World) (tb b : Nat) (most last : Int) (L : List Hd) : Prop where
  blk : w.heap[tb]? = some (.cells #[.int .i64 most, .int .i64 last, .map (some b)] 57 (0, 0))
  mp : Hm w b L
  ri : Ri last L
  lo : 0 ≤ last
section
variable {w w' : World} {tb b : Nat} {most last : Int} {L : List Hd}
theorem Cs.lt (h : Cs w tb b most last L) : tb < w.heap.size := (Array.getElem?_eq_some_iff.1 h.blk).1
theorem Cs.c0 (h : Cs w tb b most last L) : w.cell? ⟨tb, 0, none⟩ = some (.int .i64 most) := by simp [World.cell?, h.blk]
theorem Cs.c1 (h : Cs w tb b most last L) : w.cell? ⟨tb, 1, none⟩ = some (.int .i64 last) := by simp [World.cell?, h.blk]
theorem Cs.c2 (h : Cs w tb b most last L) : w.cell? ⟨tb, 2, none⟩ = some (.map (some b)) := by simp [World.cell?, h.blk]
theorem Cs.fz (h : Cs w tb b most last L) (k : Nat) : w.frozen? ⟨tb, k, none⟩ = false := by simp [World.frozen?, h.blk]
theorem Cs.ne (h : Cs w tb b most last L) : tb ≠ b := fun e => h.mp.not_cells (e ▸ h.blk)
theorem Cs.kp {S : Nat → Prop} (h : Cs w tb b most last L) (hk : Kp S w w') (h1 : ¬ S tb) (h2 : ¬ S b) : Cs w' tb b most last L :=
  ⟨(hk.block tb h.lt h1).trans h.blk, h.mp.kept (hk.block b h.mp.lt h2), h.ri, h.lo⟩
theorem Cs.below (h : Cs w tb b most last L) (hb : Below w.heap.size w w') : Cs w' tb b most last L := h.kp (S := fun _ => False) (Kp.of_below hb) (fun h => h) (fun h => h)
theorem Cs.gr (h : Cs w tb b most last L) (hb : Gr w w') : Cs w' tb b most last L := h.below hb.below
theorem Cs.len (h : Cs w tb b most last L) (ty : TypeId) : (Builtin.len_ #[55] ty #[.map (some b)]).run Try.prog w = .ok (.int .i64 (L.length : Int)) w := by
  obtain ⟨D, hown, h1, _, h3⟩ := h.mp
  have := hown.len Try.underlying55 ty
  rwa [size_eq hown h1 h3] at this
end

theorem new_any (most : Int) (w : World) : Calls Try.prog 5 #[.int .i64 most] w fun e w' => e = .returned (.pointer (some ⟨w.heap.size + 1, 0, none⟩)) ∧ Cs w' (w.heap.size + 1) w.heap.size most 0 [] ∧ Gr w w' := by
  have hmm := @run_makeMap Try.prog
  go_enter Try.func5, Try.ntmps5
  go_wp2
  go_ret
  refine ⟨rfl, ⟨?_, ?_, Ri.nil _, Int.le_refl _⟩, ((Gr.refl _).alloc _).alloc _⟩
  · exact heap_alloc2_new _ _ _
  · exact (Hm.made w).kept ((heap_alloc2_old _ _ _).trans (MapKept.heap_alloc w _).1.symm)

theorem cell_new (w : World) (cs : Array Value) (t : TypeId) (i : Nat) (v : Value) (h : cs[i]? = some v) : (w.alloc (.cells cs t)).cell? ⟨w.heap.size, i, none⟩ = some v := by
  have hh := heap_new' w (.cells cs t)
  simp only [World.cell?, hh]
  simpa using h
theorem setCell_blk {w : World} {tb k : Nat} {cs : Array Value} {t : TypeId} {v : Value} (h : w.heap[tb]? = some (.cells cs t (0, 0))) :
    (w.setCell ⟨tb, k, none⟩ v).heap[tb]? = some (.cells (cs.setIfInBounds k v) t (0, 0)) ∧ Kp (fun k => k = tb) w (w.setCell ⟨tb, k, none⟩ v) ∧ (w.setCell ⟨tb, k, none⟩ v).heap.size = w.heap.size := by
  have e := setCell_eq_setRow w tb k _ _ _ v h
  have hz : (w.setCell ⟨tb, k, none⟩ v).heap.size = w.heap.size := by rw [e]; simp [World.setRow]
  refine ⟨?_, ?_, hz⟩
  · rw [e, setRow_heap _ tb _ _ _ _ h]
  · rw [e]
    exact ⟨rfl, rfl, rfl, by simp [World.setRow], fun k _ hne => setRow_other _ tb k _ (by omega)⟩
/-- What a look at a number tells. -/
theorem Hm.look_ok {w : World} {b : Nat} {L : List Hd} (h : Hm w b L) (i : Int) (hw : (Lit.int .i64 i).wf = true) :
    (Instr.lookup 55 (.map (some b)) (.int .i64 i) true).run Try.prog w = .ok (.tuple #[sv ((look L i).getD (0, 0, 0, 0)), .bool (look L i).isSome]) w := by
  obtain ⟨D, hown, h1, h2, _⟩ := h
  obtain ⟨v, ps, hrun, hv⟩ := hown.look_ok (int_keyed Try.underlying3) Try.underlying55 (zeroS _) (stE_mk _) (keyOf_int_mk Try.underlying3 hw)
  rw [hrun, h1]
  obtain ⟨s, rfl, hs⟩ := stE_inv hv
  have hs := congrArg Prod.fst hs
  simp only at hs
  cases hq : look L i with
  | none =>
    have : Maps.has D (.int .i64 i) = false := by rw [h1, hq]; rfl
    rw [Maps.atKey_of_not_has this] at hs
    rw [← sd_inj hs]
    rfl
  | some t =>
    rw [h2 i t hq] at hs
    rw [← sd_inj hs]
    rfl
theorem Hm.look {w : World} {b : Nat} {L : List Hd} (h : Hm w b L) (i : Int) (s : Sp) (hw : (Lit.int .i64 i).wf = true) (hl : Go.Proofs.Ytabcibmdbancdaa.look L i = some s) :
    (Instr.lookup 55 (.map (some b)) (.int .i64 i) false).run Try.prog w = .ok (sv s) w := by
  obtain ⟨D, hown, h1, h2, _⟩ := h
  obtain ⟨v, ps, hrun, hv⟩ := hown.lookup (int_keyed Try.underlying3) Try.underlying55 (zeroS _) (stE_mk _) (keyOf_int_mk Try.underlying3 hw)
  rw [hrun]
  obtain ⟨t, rfl, hs⟩ := stE_inv hv
  have hs := congrArg Prod.fst hs
  simp only at hs
  rw [h2 i s hl] at hs
  rw [← sd_inj hs]

set_option maxHeartbeats 1000000 in
theorem get_some {tb b : Nat} {most last : Int} {L : List Hd} (i : Int) (s : Sp) (w : World) (h : Cs w tb b most last L) (hw : (Lit.int .i64 i).wf = true) (hl : look L i = some s) :
    Calls Try.prog 10 #[.pointer (some ⟨tb, 0, none⟩), .int .i64 i] w fun e w' => e = .returned (.tuple #[sv s, .int .i64 0]) ∧ Gr w w' := by
  have c2 := h.c2
  have hlt := h.lt
  have hbl := h.mp.lt
  have hrun : ∀ W, Gr w W → (Instr.lookup 55 (.map (some b)) (.int .i64 i) true).run Try.prog W = .ok (.tuple #[sv s, .bool true]) W := fun W hW => by
    have := (h.mp.kept (hW.below.block b hbl)).look_ok i hw
    rwa [hl] at this
  have hrun1 := hrun _ ((Gr.refl w).alloc (.cells #[.int .i64 0, .int .u64 0, .int .u64 0, .int .u64 0] 31))
  obtain ⟨p, a, b', c⟩ := s
  clear h hrun hl
  go_enter Try.func10, Try.ntmps10
  go_wp2
  exact bodyPost_ret (v := .tuple #[sv (p, a, b', c), .int .i64 0]) (by simp [results, Try.results10, go_sem]) rfl ⟨rfl, ((Gr.refl _).alloc _).alloc _⟩
set_option maxHeartbeats 1000000 in
theorem get_none {tb b : Nat} {most last : Int} {L : List Hd} (i : Int) (w : World) (h : Cs w tb b most last L) (hw : (Lit.int .i64 i).wf = true) (hl : look L i = none) :
    Calls Try.prog 10 #[.pointer (some ⟨tb, 0, none⟩), .int .i64 i] w fun e w' => e = .returned (.tuple #[sv (0, 0, 0, 0), .int .i64 47]) ∧ Gr w w' := by
  have c2 := h.c2
  have hlt := h.lt
  have hbl := h.mp.lt
  have hrun : ∀ W, Gr w W → (Instr.lookup 55 (.map (some b)) (.int .i64 i) true).run Try.prog W = .ok (.tuple #[sv (0, 0, 0, 0), .bool false]) W := fun W hW => by
    have := (h.mp.kept (hW.below.block b hbl)).look_ok i hw
    rwa [hl] at this
  have hrun1 := hrun _ ((Gr.refl w).alloc (.cells #[.int .i64 0, .int .u64 0, .int .u64 0, .int .u64 0] 31))
  clear h hrun hl
  go_enter Try.func10, Try.ntmps10
  go_wp2
  exact bodyPost_ret (v := .tuple #[sv (0, 0, 0, 0), .int .i64 47]) (by simp [results, Try.results10, go_sem]) rfl ⟨rfl, ((Gr.refl _).alloc _).alloc _⟩
set_option maxHeartbeats 1000000 in
theorem drop_none {tb b : Nat} {most last : Int} {L : List Hd} (i : Int) (w : World) (h : Cs w tb b most last L) (hw : (Lit.int .i64 i).wf = true) (hl : look L i = none) :
    Calls Try.prog 8 #[.pointer (some ⟨tb, 0, none⟩), .int .i64 i] w fun e w' => e = .returned (.int .i64 47) ∧ Gr w w' := by
  have hg := get_none i w h hw hl
  clear h
  go_enter Try.func8, Try.ntmps8
  go_wp2_with fail
  refine hg.mono ?_
  rintro e w1 ⟨rfl, g1⟩
  go_wp2
  go_ret
  exact ⟨rfl, g1.alloc _⟩
set_option maxHeartbeats 1000000 in
theorem drop_ok {tb b : Nat} {most last : Int} {L : List Hd} (i : Int) (s : Sp) (w : World) (h : Cs w tb b most last L) (hw : (Lit.int .i64 i).wf = true) (hl : look L i = some s) :
    Calls Try.prog 8 #[.pointer (some ⟨tb, 0, none⟩), .int .i64 i] w fun e w' => e = .returned (.int .i64 0) ∧ Cs w' tb b most last (dropL L i) ∧ Kp (fun k => k = b) w w' := by
  have hg := get_some i s w h hw hl
  have HC : Hid (Cs w tb b most last L) := h
  have hlt := h.lt
  have c2 := h.c2
  clear h
  obtain ⟨p, x, y, z⟩ := s
  go_enter Try.func8, Try.ntmps8
  go_wp2_with fail
  refine hg.mono ?_
  rintro e w1 ⟨rfl, g1⟩
  have c21 := (g1.cell (o := 2) hlt).trans c2
  have hlt1 := Nat.lt_of_lt_of_le hlt g1.size
  have HC2 : Hid (Cs (w1.alloc (.cells #[.int .i64 p, .int .u64 x, .int .u64 y, .int .u64 z] 31)) tb b most last L) := HC.out.gr (g1.alloc _)
  obtain ⟨D, hown, h1, h2, h3⟩ := HC2.out.mp
  have HH : Hid ((∀ i, Maps.has D (.int .i64 i) = (look L i).isSome) ∧ (∀ i s, look L i = some s → ∀ zd, D.atKey (.int .i64 i) zd = sd s)) := ⟨h1, h2⟩
  clear h1 h2 h3 c2 hlt
  go_wp2_with (at_delete; refine wpList_delete_own _ rfl _ _ 55 3 rfl 31 (int_keyed Try.underlying3) Try.underlying55 _ b L.length D rfl hown _ _ rfl (keyOf_int_mk Try.underlying3 hw) ?_; intro w2 hown2 hturn2)
  go_ret
  have hg2 := hturn2.grown
  have hk : Kp (fun k => k = b) w w2 := (Kp.of_gr (S := fun k => k = b) (g1.alloc _)).trans (Kp.grownBy (S := fun k => k = b) hg2 (fun k hk => by simpa using hk.symm)) (fun _ _ h => h)
  refine ⟨rfl, ⟨(hk.block tb HC.out.lt HC.out.ne).trans HC.out.blk, ?_, HC.out.ri.drop i, HC.out.lo⟩, hk⟩
  exact Hm.del HH.out.1 HH.out.2 (look_drop L i) (HC.out.ri.drop i).nodup hown2
set_option maxHeartbeats 1000000 in
theorem mint_full {tb b : Nat} {most last : Int} {L : List Hd} (s : Sp) (w : World) (h : Cs w tb b most last L) (hm : most ≤ (L.length : Int)) :
    Calls Try.prog 7 #[.pointer (some ⟨tb, 0, none⟩), sv s] w fun e w' => e = .returned (.tuple #[.int .i64 0, .int .i64 44]) ∧ Gr w w' := by
  have hmx : Try.prog.follows .mixedOrders = true := by kernel_rfl
  have c0 := h.c0
  have c2 := h.c2
  have hlt := h.lt
  have hln : ∀ ty nq, (Builtin.len_ #[55] ty #[.map (some b)]).run Try.prog ((w.alloc (.cells #[.int .i64 s.1, .int .u64 s.2.1, .int .u64 s.2.2.1, .int .u64 s.2.2.2] 31)).drewN nq) = .ok (.int .i64 (L.length : Int)) ((w.alloc (.cells #[.int .i64 s.1, .int .u64 s.2.1, .int .u64 s.2.2.1, .int .u64 s.2.2.2] 31)).drewN nq) := fun ty nq => (h.gr (((Gr.refl w).alloc _).drewN nq)).len ty
  obtain ⟨p, x, y, z⟩ := s
  clear h
  go_enter Try.func7, Try.ntmps7
  go_upto_region 3 with fail
  go_quiet (fail)
  go_wp2
  exact bodyPost_ret (v := .tuple #[.int .i64 0, .int .i64 44]) (by simp [results, Try.results7, go_sem]) rfl ⟨rfl, ((Gr.refl _).alloc _).drewN _⟩
theorem mint_nil (s : Sp) (w : World) : Calls Try.prog 7 #[.pointer none, sv s] w fun e w' => e = .returned (.tuple #[.int .i64 0, .int .i64 0]) ∧ Gr w w' := by
  go_enter Try.func7, Try.ntmps7
  go_wp2
  exact bodyPost_ret (v := .tuple #[.int .i64 0, .int .i64 0]) (by simp [results, Try.results7, go_sem]) rfl ⟨rfl, (Gr.refl _).alloc _⟩
theorem get_nil (i : Int) (w : World) : Calls Try.prog 10 #[.pointer none, .int .i64 i] w fun e w' => e = .returned (.tuple #[sv (0, 0, 0, 0), .int .i64 0]) ∧ Gr w w' := by
  go_enter Try.func10, Try.ntmps10
  go_wp2
  exact bodyPost_ret (v := .tuple #[sv (0, 0, 0, 0), .int .i64 0]) (by simp [results, Try.results10, go_sem]) rfl ⟨rfl, (Gr.refl _).alloc _⟩
theorem lower_nil (i x y z : Int) (w : World) : Calls Try.prog 9 #[.pointer none, .int .i64 i, tm x y z] w fun e w' => e = .returned (.int .i64 0) ∧ Gr w w' := by
  go_enter Try.func9, Try.ntmps9
  go_wp2
  go_ret
  exact ⟨rfl, (Gr.refl _).alloc _⟩
theorem drop_nil (i : Int) (w : World) : Calls Try.prog 8 #[.pointer none, .int .i64 i] w fun e w' => e = .returned (.int .i64 0) ∧ w' = w := by
  go_enter Try.func8, Try.ntmps8
  go_wp2
  go_ret
  exact ⟨rfl, rfl⟩
theorem all_nil (w : World) : Calls Try.prog 12 #[.pointer none] w fun e w' => e = .returned (.slice none 0 0) ∧ w' = w := by
  go_enter Try.func12, Try.ntmps12
  go_wp2
  go_ret
  exact ⟨rfl, rfl⟩
theorem copy_nil (w : World) : Calls Try.prog 14 #[.pointer none] w fun e w' => e = .returned (.pointer none) ∧ w' = w := by
  go_enter Try.func14, Try.ntmps14
  go_wp2
  go_ret
  exact ⟨rfl, rfl⟩
set_option maxRecDepth 100000 in
set_option maxHeartbeats 2000000 in
theorem mint_ok {tb b : Nat} {most last : Int} {L : List Hd} (s : Sp) (w : World) (h : Cs w tb b most last L) (hm : (L.length : Int) < most) (hl : last < 3000000000000) :
    Calls Try.prog 7 #[.pointer (some ⟨tb, 0, none⟩), sv s] w fun e w' => e = .returned (.tuple #[.int .i64 (last + 1), .int .i64 0]) ∧ Cs w' tb b most (last + 1) (L ++ [(last + 1, s)]) ∧ Kp (fun k => k = tb ∨ k = b) w w' := by
  have hmx : Try.prog.follows .mixedOrders = true := by kernel_rfl
  have HC : Hid (Cs w tb b most last L) := h
  have c0 := h.c0
  have c1 := h.c1
  have c2 := h.c2
  have fz := h.fz 1
  have hlt := h.lt
  have hlo := h.lo
  have hln : ∀ ty nq, (Builtin.len_ #[55] ty #[.map (some b)]).run Try.prog ((w.alloc (.cells #[.int .i64 s.1, .int .u64 s.2.1, .int .u64 s.2.2.1, .int .u64 s.2.2.2] 31)).drewN nq) = .ok (.int .i64 (L.length : Int)) ((w.alloc (.cells #[.int .i64 s.1, .int .u64 s.2.1, .int .u64 s.2.2.1, .int .u64 s.2.2.2] 31)).drewN nq) := fun ty nq => (h.gr (((Gr.refl w).alloc _).drewN nq)).len ty
  have hnm : ¬ most ≤ (L.length : Int) := by omega
  have hwr : IntKind.i64.wrap (last + 1) = last + 1 := by rw [IntKind.wrap_i64]; omega
  obtain ⟨p, x, y, z⟩ := s
  clear h
  go_enter Try.func7, Try.ntmps7
  go_upto_region 3 with fail
  go_quiet (fail)
  go_upto_region 6 with fail
  have HC5 : Hid (Cs ((w.alloc (.cells #[.int .i64 p, .int .u64 x, .int .u64 y, .int .u64 z] 31)).drewN nq) tb b most last L) := HC.out.gr (((Gr.refl w).alloc _).drewN nq)
  have hcell : ∀ i v, (#[Value.int .i64 p, .int .u64 x, .int .u64 y, .int .u64 z])[i]? = some v → ((w.alloc (.cells #[.int .i64 p, .int .u64 x, .int .u64 y, .int .u64 z] 31)).drewN nq).cell? ⟨w.heap.size, i, none⟩ = some v := fun i v hv => by
    exact cell_new w _ _ i v hv
  have G5 : Hid (Gr w ((w.alloc (.cells #[.int .i64 p, .int .u64 x, .int .u64 y, .int .u64 z] 31)).drewN nq)) := ((Gr.refl w).alloc _).drewN nq
  have hsz : w.heap.size < ((w.alloc (.cells #[.int .i64 p, .int .u64 x, .int .u64 y, .int .u64 z] 31)).drewN nq).heap.size := by simp [World.drewN]
  clear hln
  generalize ((w.alloc (.cells #[.int .i64 p, .int .u64 x, .int .u64 y, .int .u64 z] 31)).drewN nq) = W5 at *
  obtain ⟨b6, k6, z6⟩ := setCell_blk (k := 1) (v := .int .i64 (last + 1)) HC5.out.blk
  have H6 : Hid (Hm (W5.setCell ⟨tb, 1, none⟩ (.int .i64 (last + 1))) b L) := HC5.out.mp.kept (k6.block b HC5.out.mp.lt (Ne.symm HC.out.ne))
  generalize (W5.setCell ⟨tb, 1, none⟩ (.int .i64 (last + 1))) = W6 at *
  have hS0 : W6.cell? ⟨tb, 2, none⟩ = some (.map (some b)) ∧ W6.cell? ⟨tb, 1, none⟩ = some (.int .i64 (last + 1)) ∧ W6.cell? ⟨w.heap.size, 0, none⟩ = some (.int .i64 p) ∧ W6.cell? ⟨w.heap.size, 1, none⟩ = some (.int .u64 x) ∧ W6.cell? ⟨w.heap.size, 2, none⟩ = some (.int .u64 y) ∧ W6.cell? ⟨w.heap.size, 3, none⟩ = some (.int .u64 z) := by
    have hk : ∀ i, W6.cell? ⟨w.heap.size, i, none⟩ = W5.cell? ⟨w.heap.size, i, none⟩ := fun i => k6.cell hsz (by omega)
    refine ⟨by simp [World.cell?, b6], by simp [World.cell?, b6], (hk 0).trans (hcell 0 _ rfl), (hk 1).trans (hcell 1 _ rfl), (hk 2).trans (hcell 2 _ rfl), (hk 3).trans (hcell 3 _ rfl)⟩
  have hw1 : (Lit.int .i64 (last + 1)).wf = true := WalkArith.wf_i64 (by omega)
  obtain ⟨D, hown, h1, h2, h3⟩ := H6.out
  have HH : Hid ((∀ i, Maps.has D (.int .i64 i) = (look L i).isSome) ∧ (∀ i s, look L i = some s → ∀ zd, D.atKey (.int .i64 i) zd = sd s) ∧ IsMap D) := ⟨h1, h2, hown.isMap⟩
  have hLl := HC.out.ri.len hlo
  obtain ⟨w9, hrun9, hown9, hg9⟩ := (show W6.drew.ownsMap Try.prog 3 stE b L.length D from hown).update (int_keyed Try.underlying3) Try.underlying55 (by unfold maxLen; omega) (keyOf_int_mk Try.underlying3 hw1) (stE_mk (p, x, y, z))
  have HO : Hid (w9.ownsMap Try.prog 3 stE b (L.length + 1) (D.put (.int .i64 (last + 1)) (sd (p, x, y, z)))) := hown9
  have HG : Hid (Kp (fun k => k = b) W6 w9) := Kp.grownBy (show W6.grownBy w9 (some b) from ⟨hg9.os, hg9.tape, hg9.output, hg9.size, hg9.block⟩) (fun k hk => by simpa using hk.symm)
  have c19 : w9.cell? ⟨tb, 1, none⟩ = some (.int .i64 (last + 1)) := (HG.out.cell (by rw [z6]; exact HC5.out.lt) HC.out.ne).trans hS0.2.1
  clear hown hown9 hg9 h1 h2 h3 hcell hsz c0 c1 c2 fz
  refine wp_regionD (S := fun W => W.cell? ⟨tb, 2, none⟩ = some (.map (some b)) ∧ W.cell? ⟨tb, 1, none⟩ = some (.int .i64 (last + 1)) ∧ W.cell? ⟨w.heap.size, 0, none⟩ = some (.int .i64 p) ∧ W.cell? ⟨w.heap.size, 1, none⟩ = some (.int .u64 x) ∧ W.cell? ⟨w.heap.size, 2, none⟩ = some (.int .u64 y) ∧ W.cell? ⟨w.heap.size, 3, none⟩ = some (.int .u64 z)) (D := [9]) hmx ?_
  refine' wpAnyD_take (i := 0) (oi := { dst := some 25, op := Go.Op.move (Go.Operand.tmp 0), type := 23, pos := "caps.go:34", after := #[], guard := none }) (v := _) rfl (by kernel_rfl) (by kernel_rfl) (by kernel_rfl) (fun _ _ _ h => h) (by kernel_rfl) (Or.inl ⟨by rfl, ?hy1⟩) hS0 ?rest1
  case hy1 => (intro W hSw; go_simp; try (with_reducible rfl))
  try simp only [Act.put, List.setIfInBounds_toArray, List.set_cons_zero, List.set_cons_succ]
  refine' wpAnyD_take (i := 1) (oi := { dst := some 26, op := Go.Op.nilCheck (Go.Operand.tmp 25), type := 0, pos := "caps.go:34", after := #[{ on := 0, ground := Go.Ground.data }], guard := none }) (v := _) rfl (by kernel_rfl) (by kernel_rfl) (by kernel_rfl) (fun _ _ _ h => h) (by kernel_rfl) (Or.inl ⟨by rfl, ?hy2⟩) hS0 ?rest2
  case hy2 => (intro W hSw; go_simp; try (with_reducible rfl))
  try simp only [Act.put, List.setIfInBounds_toArray, List.set_cons_zero, List.set_cons_succ]
  refine' wpAnyD_take (i := 2) (oi := { dst := some 27, op := Go.Op.fieldAddr 57 (Go.Operand.tmp 26) 2, type := 0, pos := "caps.go:34", after := #[{ on := 1, ground := Go.Ground.data }], guard := none }) (v := _) rfl (by kernel_rfl) (by kernel_rfl) (by kernel_rfl) (fun _ _ _ h => h) (by kernel_rfl) (Or.inl ⟨by rfl, ?hy3⟩) hS0 ?rest3
  case hy3 => (intro W hSw; go_simp; try (with_reducible rfl))
  try simp only [Act.put, List.setIfInBounds_toArray, List.set_cons_zero, List.set_cons_succ]
  refine' wpAnyD_take (i := 3) (oi := { dst := some 28, op := Go.Op.load 55 (Go.Operand.tmp 27), type := 55, pos := "caps.go:34", after := #[{ on := 2, ground := Go.Ground.data }], guard := none }) (v := _) rfl (by kernel_rfl) (by kernel_rfl) (by kernel_rfl) (fun _ _ _ h => h) (by kernel_rfl) (Or.inl ⟨by rfl, ?hy4⟩) hS0 ?rest4
  case hy4 => (intro W hSw; obtain ⟨s0, s1, s2, s3, s4, s5⟩ := hSw; go_simp; try (with_reducible rfl))
  try simp only [Act.put, List.setIfInBounds_toArray, List.set_cons_zero, List.set_cons_succ]
  refine' wpAnyD_take (i := 4) (oi := { dst := some 29, op := Go.Op.move (Go.Operand.tmp 0), type := 23, pos := "caps.go:34", after := #[], guard := none }) (v := _) rfl (by kernel_rfl) (by kernel_rfl) (by kernel_rfl) (fun _ _ _ h => h) (by kernel_rfl) (Or.inl ⟨by rfl, ?hy5⟩) hS0 ?rest5
  case hy5 => (intro W hSw; go_simp; try (with_reducible rfl))
  try simp only [Act.put, List.setIfInBounds_toArray, List.set_cons_zero, List.set_cons_succ]
  refine' wpAnyD_take (i := 5) (oi := { dst := some 30, op := Go.Op.nilCheck (Go.Operand.tmp 29), type := 0, pos := "caps.go:34", after := #[{ on := 4, ground := Go.Ground.data }], guard := none }) (v := _) rfl (by kernel_rfl) (by kernel_rfl) (by kernel_rfl) (fun _ _ _ h => h) (by kernel_rfl) (Or.inl ⟨by rfl, ?hy6⟩) hS0 ?rest6
  case hy6 => (intro W hSw; go_simp; try (with_reducible rfl))
  try simp only [Act.put, List.setIfInBounds_toArray, List.set_cons_zero, List.set_cons_succ]
  refine' wpAnyD_take (i := 6) (oi := { dst := some 31, op := Go.Op.fieldAddr 57 (Go.Operand.tmp 30) 1, type := 0, pos := "caps.go:34", after := #[{ on := 5, ground := Go.Ground.data }], guard := none }) (v := _) rfl (by kernel_rfl) (by kernel_rfl) (by kernel_rfl) (fun _ _ _ h => h) (by kernel_rfl) (Or.inl ⟨by rfl, ?hy7⟩) hS0 ?rest7
  case hy7 => (intro W hSw; go_simp; try (with_reducible rfl))
  try simp only [Act.put, List.setIfInBounds_toArray, List.set_cons_zero, List.set_cons_succ]
  refine' wpAnyD_take (i := 7) (oi := { dst := some 32, op := Go.Op.load 3 (Go.Operand.tmp 31), type := 3, pos := "caps.go:34", after := #[{ on := 6, ground := Go.Ground.data }], guard := none }) (v := _) rfl (by kernel_rfl) (by kernel_rfl) (by kernel_rfl) (fun _ _ _ h => h) (by kernel_rfl) (Or.inl ⟨by rfl, ?hy8⟩) hS0 ?rest8
  case hy8 => (intro W hSw; obtain ⟨s0, s1, s2, s3, s4, s5⟩ := hSw; go_simp; try (with_reducible rfl))
  try simp only [Act.put, List.setIfInBounds_toArray, List.set_cons_zero, List.set_cons_succ]
  refine' wpAnyD_take (i := 8) (oi := { dst := some 33, op := Go.Op.load 31 (Go.Operand.tmp 3), type := 31, pos := "caps.go:34", after := #[], guard := none }) (v := _) rfl (by kernel_rfl) (by kernel_rfl) (by kernel_rfl) (fun _ _ _ h => h) (by kernel_rfl) (Or.inl ⟨by rfl, ?hy9⟩) hS0 ?rest9
  case hy9 => (intro W hSw; obtain ⟨s0, s1, s2, s3, s4, s5⟩ := hSw; go_simp; try (with_reducible rfl))
  try simp only [Act.put, List.setIfInBounds_toArray, List.set_cons_zero, List.set_cons_succ]
  refine wpAnyD_one (i := 9) (o := { dst := none, op := Go.Op.mapUpdate 55 (Go.Operand.tmp 28) (Go.Operand.tmp 32) (Go.Operand.tmp 33), type := 0, pos := "caps.go:34", after := #[{ on := 3, ground := Go.Ground.data }, { on := 7, ground := Go.Ground.data }, { on := 8, ground := Go.Ground.data }, { on := 0, ground := Go.Ground.phase }, { on := 1, ground := Go.Ground.phase }, { on := 2, ground := Go.Ground.phase }, { on := 3, ground := Go.Ground.phase }, { on := 4, ground := Go.Ground.phase }, { on := 5, ground := Go.Ground.phase }, { on := 6, ground := Go.Ground.phase }, { on := 7, ground := Go.Ground.phase }, { on := 8, ground := Go.Ground.phase }], guard := none }) (by kernel_rfl) rfl (fun K hK => ?_)
  go_simp
  refine hK.out _ _ (fun hD => absurd (by decide) hD) ?_
  clear hK K
  try simp only [Act.put, List.setIfInBounds_toArray, List.set_cons_zero, List.set_cons_succ]
  refine wpAnyD_done (by kernel_rfl) ?_ _
  go_wp2
  refine bodyPost_ret (v := .tuple #[.int .i64 (last + 1), .int .i64 0]) (by simp [results, Try.results7, go_sem]) rfl ?_
  have hk : Kp (fun k => k = tb ∨ k = b) w w9 := ((Kp.of_gr (S := fun k => k = tb ∨ k = b) G5.out).trans k6 (fun _ _ h => Or.inl h)).trans HG.out (fun _ _ h => Or.inr h)
  refine ⟨rfl, ⟨?_, ?_, HC.out.ri.mint hlo _, by omega⟩, hk⟩
  · rw [HG.out.block tb (by rw [z6]; exact HC5.out.lt) HC.out.ne, b6]
    rfl
  · exact Hm.put HH.out.1 HH.out.2.1 HH.out.2.2 hw1 (look_new L _ _ HC.out.ri.fresh) (HC.out.ri.mint hlo _).nodup HO.out
set_option maxRecDepth 100000 in
set_option maxHeartbeats 2000000 in
theorem lower_none {tb b : Nat} {most last : Int} {L : List Hd} (i x' y' z' : Int) (w : World) (h : Cs w tb b most last L) (hw : (Lit.int .i64 i).wf = true) (hl : look L i = none) :
    Calls Try.prog 9 #[.pointer (some ⟨tb, 0, none⟩), .int .i64 i, tm x' y' z'] w fun e w' => e = .returned (.int .i64 47) ∧ Gr w w' := by
  have hg := get_none i (w.alloc (.cells #[.int .u64 x', .int .u64 y', .int .u64 z'] 29)) (h.gr ((Gr.refl _).alloc _)) hw hl
  clear h
  go_enter Try.func9, Try.ntmps9
  go_wp2_with fail
  refine hg.mono ?_
  rintro e w1 ⟨rfl, g1⟩
  go_wp2
  go_ret
  exact ⟨rfl, (((Gr.refl w).alloc _).trans g1).alloc _⟩
set_option maxRecDepth 100000 in
set_option maxHeartbeats 2000000 in
theorem lower_back {tb b : Nat} {most last : Int} {L : List Hd} (i x' y' z' : Int) (s : Sp) (w : World) (h : Cs w tb b most last L) (hw : (Lit.int .i64 i).wf = true) (hl : look L i = some s) (ha : tle s.2.1 s.2.2.1 s.2.2.2 x' y' z' = false) :
    Calls Try.prog 9 #[.pointer (some ⟨tb, 0, none⟩), .int .i64 i, tm x' y' z'] w fun e w' => e = .returned (.int .i64 48) ∧ Gr w w' := by
  have hg := get_some i s (w.alloc (.cells #[.int .u64 x', .int .u64 y', .int .u64 z'] 29)) (h.gr ((Gr.refl _).alloc _)) hw hl
  have hA := fun W => Ahead_any s.2.1 s.2.2.1 s.2.2.2 x' y' z' W
  rw [ha] at hA
  clear h ha
  obtain ⟨p, x, y, z⟩ := s
  go_enter Try.func9, Try.ntmps9
  go_wp2_with fail
  refine hg.mono ?_
  rintro e w1 ⟨rfl, g1⟩
  have hz1 : w.heap.size < w1.heap.size := by have := g1.size; simp at this; omega
  have q0 : w1.cell? ⟨w.heap.size, 0, none⟩ = some (.int .u64 x') := (g1.cell (by simp)).trans (cell_new w _ _ 0 _ rfl)
  have q1 : w1.cell? ⟨w.heap.size, 1, none⟩ = some (.int .u64 y') := (g1.cell (by simp)).trans (cell_new w _ _ 1 _ rfl)
  have q2 : w1.cell? ⟨w.heap.size, 2, none⟩ = some (.int .u64 z') := (g1.cell (by simp)).trans (cell_new w _ _ 2 _ rfl)
  go_wp2_with fail
  refine (hA _).mono ?_
  rintro e w2 ⟨rfl, g2⟩
  go_wp2
  go_ret
  exact ⟨rfl, ((((Gr.refl w).alloc _).trans g1).alloc _).trans g2⟩
set_option maxRecDepth 100000 in
set_option maxHeartbeats 2000000 in
theorem lower_ok {tb b : Nat} {most last : Int} {L : List Hd} (i x' y' z' : Int) (s : Sp) (w : World) (h : Cs w tb b most last L) (hw : (Lit.int .i64 i).wf = true) (hl : look L i = some s) (ha : tle s.2.1 s.2.2.1 s.2.2.2 x' y' z' = true) (hb : last < 3000000000000) :
    Calls Try.prog 9 #[.pointer (some ⟨tb, 0, none⟩), .int .i64 i, tm x' y' z'] w fun e w' => e = .returned (.int .i64 0) ∧ Cs w' tb b most last (setL L i (s.1, x', y', z')) ∧ Kp (fun k => k = b) w w' := by
  have hmx : Try.prog.follows .mixedOrders = true := by kernel_rfl
  have hg := get_some i s (w.alloc (.cells #[.int .u64 x', .int .u64 y', .int .u64 z'] 29)) (h.gr ((Gr.refl _).alloc _)) hw hl
  have hA := fun W => Ahead_any s.2.1 s.2.2.1 s.2.2.2 x' y' z' W
  rw [ha] at hA
  have HC : Hid (Cs w tb b most last L) := h
  have c2 := h.c2
  have hlt := h.lt
  have hlo := h.lo
  have HL : Hid (look L i ≠ none) := by rw [hl]; exact nofun
  clear h ha hl
  obtain ⟨p, x, y, z⟩ := s
  go_enter Try.func9, Try.ntmps9
  go_wp2_with fail
  refine hg.mono ?_
  rintro e w1 ⟨rfl, g1⟩
  have hz1 : w.heap.size < w1.heap.size := by have := g1.size; simp at this; omega
  have q0 : w1.cell? ⟨w.heap.size, 0, none⟩ = some (.int .u64 x') := (g1.cell (by simp)).trans (cell_new w _ _ 0 _ rfl)
  have q1 : w1.cell? ⟨w.heap.size, 1, none⟩ = some (.int .u64 y') := (g1.cell (by simp)).trans (cell_new w _ _ 1 _ rfl)
  have q2 : w1.cell? ⟨w.heap.size, 2, none⟩ = some (.int .u64 z') := (g1.cell (by simp)).trans (cell_new w _ _ 2 _ rfl)
  go_wp2_with fail
  refine (hA _).mono ?_
  rintro e w2 ⟨rfl, g2⟩
  go_upto_region 8 with fail
  have G5 : Hid (Gr w w2) := ((((Gr.refl w).alloc _).trans g1).alloc _).trans g2
  have hS0 : w2.cell? ⟨tb, 2, none⟩ = some (.map (some b)) ∧ w2.cell? ⟨w1.heap.size, 0, none⟩ = some (.int .i64 p) ∧ w2.cell? ⟨w.heap.size, 0, none⟩ = some (.int .u64 x') ∧ w2.cell? ⟨w.heap.size, 1, none⟩ = some (.int .u64 y') ∧ w2.cell? ⟨w.heap.size, 2, none⟩ = some (.int .u64 z') := by
    have hk : ∀ i v, w1.cell? ⟨w.heap.size, i, none⟩ = some v → w2.cell? ⟨w.heap.size, i, none⟩ = some v := fun i v hv => by
      rw [g2.cell (by simp; omega), ((Gr.refl w1).alloc _).cell hz1, hv]
    refine ⟨(G5.out.cell (o := 2) hlt).trans c2, ?_, hk 0 _ q0, hk 1 _ q1, hk 2 _ q2⟩
    rw [g2.cell (by simp)]
    exact cell_new w1 _ _ 0 _ rfl
  have H6 : Hid (Hm w2 b L) := (HC.out.gr G5.out).mp
  have hw1 := hw
  clear q0 q1 q2 c2
  obtain ⟨D, hown, h1, h2, h3⟩ := H6.out
  have HH : Hid ((∀ i, Maps.has D (.int .i64 i) = (look L i).isSome) ∧ (∀ i s, look L i = some s → ∀ zd, D.atKey (.int .i64 i) zd = sd s) ∧ IsMap D) := ⟨h1, h2, hown.isMap⟩
  have hLl := HC.out.ri.len hlo
  obtain ⟨w9, hrun9, hown9, hg9⟩ := (show w2.drew.ownsMap Try.prog 3 stE b L.length D from hown).update (int_keyed Try.underlying3) Try.underlying55 (by unfold maxLen; omega) (keyOf_int_mk Try.underlying3 hw1) (stE_mk (p, x', y', z'))
  have HO : Hid (w9.ownsMap Try.prog 3 stE b (L.length + 1) (D.put (.int .i64 i) (sd (p, x', y', z')))) := hown9
  have HG : Hid (Kp (fun k => k = b) w2 w9) := Kp.grownBy (show w2.grownBy w9 (some b) from ⟨hg9.os, hg9.tape, hg9.output, hg9.size, hg9.block⟩) (fun k hk => by simpa using hk.symm)
  clear hown hown9 hg9 h1 h2 h3 g1 g2
  refine wp_regionD (S := fun W => W.cell? ⟨tb, 2, none⟩ = some (.map (some b)) ∧ W.cell? ⟨w1.heap.size, 0, none⟩ = some (.int .i64 p) ∧ W.cell? ⟨w.heap.size, 0, none⟩ = some (.int .u64 x') ∧ W.cell? ⟨w.heap.size, 1, none⟩ = some (.int .u64 y') ∧ W.cell? ⟨w.heap.size, 2, none⟩ = some (.int .u64 z')) (D := [9]) hmx ?_
  refine' wpAnyD_take (i := 0) (oi := { dst := some 25, op := Go.Op.move (Go.Operand.tmp 0), type := 23, pos := "caps.go:62", after := #[], guard := none }) (v := _) rfl (by kernel_rfl) (by kernel_rfl) (by kernel_rfl) (fun _ _ _ h => h) (by kernel_rfl) (Or.inl ⟨by rfl, ?hy11⟩) hS0 ?rest11
  case hy11 => (intro W hSw; go_simp; try (with_reducible rfl))
  try simp only [Act.put, List.setIfInBounds_toArray, List.set_cons_zero, List.set_cons_succ]
  refine' wpAnyD_take (i := 1) (oi := { dst := some 26, op := Go.Op.nilCheck (Go.Operand.tmp 25), type := 0, pos := "caps.go:62", after := #[{ on := 0, ground := Go.Ground.data }], guard := none }) (v := _) rfl (by kernel_rfl) (by kernel_rfl) (by kernel_rfl) (fun _ _ _ h => h) (by kernel_rfl) (Or.inl ⟨by rfl, ?hy12⟩) hS0 ?rest12
  case hy12 => (intro W hSw; go_simp; try (with_reducible rfl))
  try simp only [Act.put, List.setIfInBounds_toArray, List.set_cons_zero, List.set_cons_succ]
  refine' wpAnyD_take (i := 2) (oi := { dst := some 27, op := Go.Op.fieldAddr 57 (Go.Operand.tmp 26) 2, type := 0, pos := "caps.go:62", after := #[{ on := 1, ground := Go.Ground.data }], guard := none }) (v := _) rfl (by kernel_rfl) (by kernel_rfl) (by kernel_rfl) (fun _ _ _ h => h) (by kernel_rfl) (Or.inl ⟨by rfl, ?hy13⟩) hS0 ?rest13
  case hy13 => (intro W hSw; go_simp; try (with_reducible rfl))
  try simp only [Act.put, List.setIfInBounds_toArray, List.set_cons_zero, List.set_cons_succ]
  refine' wpAnyD_take (i := 3) (oi := { dst := some 28, op := Go.Op.load 55 (Go.Operand.tmp 27), type := 55, pos := "caps.go:62", after := #[{ on := 2, ground := Go.Ground.data }], guard := none }) (v := _) rfl (by kernel_rfl) (by kernel_rfl) (by kernel_rfl) (fun _ _ _ h => h) (by kernel_rfl) (Or.inl ⟨by rfl, ?hy14⟩) hS0 ?rest14
  case hy14 => (intro W hSw; obtain ⟨s0, s1, s2, s3, s4⟩ := hSw; go_simp; try (with_reducible rfl))
  try simp only [Act.put, List.setIfInBounds_toArray, List.set_cons_zero, List.set_cons_succ]
  refine' wpAnyD_take (i := 4) (oi := { dst := some 29, op := Go.Op.move (Go.Operand.tmp 1), type := 3, pos := "caps.go:62", after := #[], guard := none }) (v := _) rfl (by kernel_rfl) (by kernel_rfl) (by kernel_rfl) (fun _ _ _ h => h) (by kernel_rfl) (Or.inl ⟨by rfl, ?hy15⟩) hS0 ?rest15
  case hy15 => (intro W hSw; go_simp; try (with_reducible rfl))
  try simp only [Act.put, List.setIfInBounds_toArray, List.set_cons_zero, List.set_cons_succ]
  refine' wpAnyD_take (i := 5) (oi := { dst := some 30, op := Go.Op.fieldAddr 31 (Go.Operand.tmp 7) 0, type := 0, pos := "caps.go:62", after := #[], guard := none }) (v := _) rfl (by kernel_rfl) (by kernel_rfl) (by kernel_rfl) (fun _ _ _ h => h) (by kernel_rfl) (Or.inl ⟨by rfl, ?hy16⟩) hS0 ?rest16
  case hy16 => (intro W hSw; go_simp; try (with_reducible rfl))
  try simp only [Act.put, List.setIfInBounds_toArray, List.set_cons_zero, List.set_cons_succ]
  refine' wpAnyD_take (i := 6) (oi := { dst := some 31, op := Go.Op.load 3 (Go.Operand.tmp 30), type := 3, pos := "caps.go:62", after := #[{ on := 5, ground := Go.Ground.data }], guard := none }) (v := _) rfl (by kernel_rfl) (by kernel_rfl) (by kernel_rfl) (fun _ _ _ h => h) (by kernel_rfl) (Or.inl ⟨by rfl, ?hy17⟩) hS0 ?rest17
  case hy17 => (intro W hSw; obtain ⟨s0, s1, s2, s3, s4⟩ := hSw; go_simp; try (with_reducible rfl))
  try simp only [Act.put, List.setIfInBounds_toArray, List.set_cons_zero, List.set_cons_succ]
  refine' wpAnyD_take (i := 7) (oi := { dst := some 32, op := Go.Op.load 29 (Go.Operand.tmp 5), type := 29, pos := "caps.go:62", after := #[], guard := none }) (v := _) rfl (by kernel_rfl) (by kernel_rfl) (by kernel_rfl) (fun _ _ _ h => h) (by kernel_rfl) (Or.inl ⟨by rfl, ?hy18⟩) hS0 ?rest18
  case hy18 => (intro W hSw; obtain ⟨s0, s1, s2, s3, s4⟩ := hSw; go_simp; try (with_reducible rfl))
  try simp only [Act.put, List.setIfInBounds_toArray, List.set_cons_zero, List.set_cons_succ]
  refine' wpAnyD_take (i := 8) (oi := { dst := some 33, op := Go.Op.build 31 #[(0, Go.Operand.tmp 31), (1, Go.Operand.tmp 32)], type := 31, pos := "caps.go:62", after := #[{ on := 6, ground := Go.Ground.data }, { on := 7, ground := Go.Ground.data }], guard := none }) (v := _) rfl (by kernel_rfl) (by kernel_rfl) (by kernel_rfl) (fun _ _ _ h => h) (by kernel_rfl) (Or.inl ⟨by rfl, ?hy19⟩) hS0 ?rest19
  case hy19 => (intro W hSw; go_simp; try (with_reducible rfl))
  try simp only [Act.put, List.setIfInBounds_toArray, List.set_cons_zero, List.set_cons_succ]
  refine wpAnyD_one (i := 9) (o := { dst := none, op := Go.Op.mapUpdate 55 (Go.Operand.tmp 28) (Go.Operand.tmp 29) (Go.Operand.tmp 33), type := 0, pos := "caps.go:62", after := #[{ on := 3, ground := Go.Ground.data }, { on := 4, ground := Go.Ground.data }, { on := 8, ground := Go.Ground.data }, { on := 0, ground := Go.Ground.phase }, { on := 1, ground := Go.Ground.phase }, { on := 2, ground := Go.Ground.phase }, { on := 3, ground := Go.Ground.phase }, { on := 4, ground := Go.Ground.phase }, { on := 5, ground := Go.Ground.phase }, { on := 6, ground := Go.Ground.phase }, { on := 7, ground := Go.Ground.phase }, { on := 8, ground := Go.Ground.phase }], guard := none }) (by kernel_rfl) rfl (fun K hK => ?_)
  go_simp
  refine hK.out _ _ (fun hD => absurd (by decide) hD) ?_
  clear hK K
  try simp only [Act.put, List.setIfInBounds_toArray, List.set_cons_zero, List.set_cons_succ]
  refine wpAnyD_done (by kernel_rfl) ?_ _
  go_wp2
  go_ret
  have hk : Kp (fun k => k = b) w w9 := (Kp.of_gr (S := fun k => k = b) G5.out).trans HG.out (fun _ _ h => h)
  refine ⟨rfl, ⟨(hk.block tb hlt HC.out.ne).trans HC.out.blk, ?_, HC.out.ri.set _ _, hlo⟩, hk⟩
  exact Hm.put HH.out.1 HH.out.2.1 HH.out.2.2 hw1 (look_set L _ _ HL.out) (HC.out.ri.set _ _).nodup HO.out
end Go.Proofs.Ytabcibmdbancdaa
