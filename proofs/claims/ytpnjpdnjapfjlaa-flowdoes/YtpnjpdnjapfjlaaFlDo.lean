import Derived.Test.YtpnjpdnjapfjlaaFlBase
import Derived.Test.YtpnjpdnjapfjlaaLHold2
namespace Go.Proofs.Ytpnjpdnjapfjlaa.Cd
open Go.RowKit Go.Sort
attribute [local go_sem ↓] Go.wp_at_zero Go.wp_at_succ

set_option maxHeartbeats 2000000 in
theorem limitOf_any (y : T3) (bd : Nat) (w : World) : Calls Try.prog 11 #[y.v, .int .u64 bd] w fun e w' => e = .returned (T3.v ⟨most y.a bd, most y.b bd, most y.c bd⟩) ∧ Below w.heap.size w w' := by
  obtain ⟨a, b, c⟩ := y
  have hm := fun (y : Nat) (W : World) => mostOf_any y bd W
  go_enter Try.func11, Try.ntmps11
  go_wp2_with fail
  go_region_held3 (fun w' => w'.cell? ⟨w.heap.size, 0, none⟩ = some (.int .u64 (a : Nat)) ∧ w'.cell? ⟨w.heap.size, 1, none⟩ = some (.int .u64 (b : Nat)) ∧ w'.cell? ⟨w.heap.size, 2, none⟩ = some (.int .u64 (c : Nat))) (go_keep)
    (first | (go_at_call 17; refine (hm _ _).mono ?_; rintro e w' ⟨rfl, rfl⟩))
  go_wp2_with fail
  exact bodyPost_ret (v := T3.v ⟨most a bd, most b bd, most c bd⟩) (by simp [results, Try.results11, go_sem]) rfl ⟨rfl, ((((Gr.refl _).alloc _).alloc _).drew).below⟩

set_option maxHeartbeats 2000000 in
theorem joinDo_any (b : Nat) (t : T3) (r : Rc) (w : World) : Calls Try.prog 45 #[.pointer (some ⟨b, 0, none⟩), t.v, rv r] w fun e w' => e = .returned (tup (t, r, true)) ∧ Below w.heap.size w w' := by
  go_enter Try.func45, Try.ntmps45
  go_wp2_with fail
  go_region
  all_goals go_wp2_with fail
  all_goals refine bodyPost_ret (v := tup (t, r, true)) (by simp [results, Try.results45, go_sem, *]) rfl ⟨rfl, ?_⟩
  all_goals exact (((((Gr.refl _).alloc _).alloc _).alloc _).alloc _).drew.below

theorem Df.tk_set {w : World} {b : Nat} {cs : Array Value} {t : TypeId} (h : w.heap[b]? = some (.cells cs t (0, 0))) (i : Nat) (x : Value) : (w.setCell ⟨b, i, none⟩ x).heap[b]? = some (.cells (cs.setIfInBounds i x) t (0, 0)) ∧ Kp (fun k => k = b) w (w.setCell ⟨b, i, none⟩ x) := by
  have e := setCell_eq_setRow w b i _ _ _ x h
  rw [e]
  exact ⟨by rw [setRow_heap w b _ _ _ _ h], rfl, rfl, rfl, by simp [World.setRow], fun k _ hne => setRow_other w b k _ (by omega)⟩
theorem tk_store {w : World} {b : Nat} {cs : Array Value} {t : TypeId} (h : w.heap[b]? = some (.cells cs t (0, 0))) : (∀ i, w.cell? ⟨b, i, none⟩ = cs[i]?) ∧ ∀ i, w.frozen? ⟨b, i, none⟩ = false := by
  refine ⟨fun i => by simp [World.cell?, h], fun i => by simp [World.frozen?, h]⟩
theorem tk_lt {w : World} {b : Nat} {o : Obj} (h : w.heap[b]? = some o) : b < w.heap.size := (Array.getElem?_eq_some_iff.1 h).1
theorem four_new (w : World) (o1 o2 o3 o4 : Obj) : ((((w.alloc o1).alloc o2).alloc o3).alloc o4).heap[w.heap.size]? = some o1 ∧ ((((w.alloc o1).alloc o2).alloc o3).alloc o4).heap[w.heap.size + 1]? = some o2 ∧ ((((w.alloc o1).alloc o2).alloc o3).alloc o4).heap[w.heap.size + 2]? = some o3 ∧ ((((w.alloc o1).alloc o2).alloc o3).alloc o4).heap[w.heap.size + 3]? = some o4 := by
  have k : ∀ (x : World) (o : Obj) (j : Nat), j < x.heap.size → (x.alloc o).heap[j]? = x.heap[j]? := fun x o j h => ((Gr.refl x).alloc o).below.block j h
  have s1 : (w.alloc o1).heap.size = w.heap.size + 1 := by simp
  have s2 : ((w.alloc o1).alloc o2).heap.size = w.heap.size + 2 := by simp
  have s3 : (((w.alloc o1).alloc o2).alloc o3).heap.size = w.heap.size + 3 := by simp
  have n2 := heap_new' (w.alloc o1) o2
  have n3 := heap_new' ((w.alloc o1).alloc o2) o3
  have n4 := heap_new' (((w.alloc o1).alloc o2).alloc o3) o4
  rw [s1] at n2
  rw [s2] at n3
  rw [s3] at n4
  refine ⟨?_, ?_, ?_, n4⟩
  · rw [k _ _ _ (by omega), k _ _ _ (by omega), k _ _ _ (by omega)]; exact heap_new' w o1
  · rw [k _ _ _ (by omega), k _ _ _ (by omega)]; exact n2
  · rw [k _ _ _ (by omega)]; exact n3
/-- Five cells are written: the time and the record that are answered. -/
theorem two_st {W0 u : World} {qb tb sb : Nat} {z0 z1 z2 z3 z4 a b c k v : Value} {T R : TypeId} (hB : Below qb W0 u) (ht : u.heap[tb]? = some (.cells #[z0, z1, z2] T (0, 0))) (hs : u.heap[sb]? = some (.cells #[z3, z4] R (0, 0))) (hne : tb ≠ sb) (h1 : qb ≤ tb) (h2 : qb ≤ sb) :
    Below qb W0 (((u.setCell ⟨tb, 0, none⟩ a).setCell ⟨tb, 1, none⟩ b).setCell ⟨tb, 2, none⟩ c) ∧ (((u.setCell ⟨tb, 0, none⟩ a).setCell ⟨tb, 1, none⟩ b).setCell ⟨tb, 2, none⟩ c).heap[tb]? = some (.cells #[a, b, c] T (0, 0)) ∧ (((u.setCell ⟨tb, 0, none⟩ a).setCell ⟨tb, 1, none⟩ b).setCell ⟨tb, 2, none⟩ c).heap[sb]? = some (.cells #[z3, z4] R (0, 0)) ∧
    Below qb W0 (((((u.setCell ⟨tb, 0, none⟩ a).setCell ⟨tb, 1, none⟩ b).setCell ⟨tb, 2, none⟩ c).setCell ⟨sb, 0, none⟩ k).setCell ⟨sb, 1, none⟩ v) ∧ (((((u.setCell ⟨tb, 0, none⟩ a).setCell ⟨tb, 1, none⟩ b).setCell ⟨tb, 2, none⟩ c).setCell ⟨sb, 0, none⟩ k).setCell ⟨sb, 1, none⟩ v).heap[tb]? = some (.cells #[a, b, c] T (0, 0)) ∧ (((((u.setCell ⟨tb, 0, none⟩ a).setCell ⟨tb, 1, none⟩ b).setCell ⟨tb, 2, none⟩ c).setCell ⟨sb, 0, none⟩ k).setCell ⟨sb, 1, none⟩ v).heap[sb]? = some (.cells #[k, v] R (0, 0)) := by
  obtain ⟨a1, k1⟩ := Df.tk_set ht 0 a
  obtain ⟨a2, k2⟩ := Df.tk_set a1 1 b
  obtain ⟨a3, k3⟩ := Df.tk_set a2 2 c
  have K : Kp (fun k => k = tb) u _ := (k1.trans k2 (fun _ _ h => h)).trans k3 (fun _ _ h => h)
  have s3 := (K.block sb (tk_lt hs) (fun e => hne e.symm)).trans hs
  obtain ⟨a4, k4⟩ := Df.tk_set s3 0 k
  obtain ⟨a5, k5⟩ := Df.tk_set a4 1 v
  have K2 : Kp (fun k => k = sb) _ _ := k4.trans k5 (fun _ _ h => h)
  have t5 := (K2.block tb (tk_lt a3) hne).trans a3
  have hb : ∀ {x y : World} {j : Nat}, Below qb W0 x → Kp (fun k => k = j) x y → qb ≤ j → j < x.heap.size → Below qb W0 y := fun h k hj hx => h.trans (k.below (by omega) (fun i hi => by rw [hi]; exact hj))
  exact ⟨hb hB K h1 (tk_lt ht), a3, s3, hb (hb hB K h1 (tk_lt ht)) K2 h2 (tk_lt s3), t5, a5⟩
end Go.Proofs.Ytpnjpdnjapfjlaa.Cd
