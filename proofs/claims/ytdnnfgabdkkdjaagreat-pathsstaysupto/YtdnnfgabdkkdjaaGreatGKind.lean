import Derived.Test.YtdnnfgabdkkdjaaGreatGCopy
import Derived.Laws.EntriesVeiled
namespace Go.Proofs.YtdnnfgabdkkdjaaGreat.Df
open Go.RowKit Go.Sort
attribute [local go_sem ↓] Go.wp_at_zero Go.wp_at_succ
theorem just1_any (own many : Int) (b : Nat) (w : World) (h : w.heap[b]? = some (.cells #[.int .i64 own] 3 (0, 0))) : Calls Tryz.prog 149 #[.int .i64 many, .pointer (some ⟨b, 0, none⟩)] w fun r w' => r = .returned (.bool (decide (many = own))) ∧ w' = w := by
 have c := (tk_store h).1
 have l := tk_lt h
 clear h
 go_enter Tryz.func149, Tryz.ntmps149
 go_wp2_with fail
 go_ret
 exact ⟨rfl, rfl⟩
theorem upfrom1_any (least many : Int) (b : Nat) (w : World) (h : w.heap[b]? = some (.cells #[.int .i64 least] 3 (0, 0))) : Calls Tryz.prog 150 #[.int .i64 many, .pointer (some ⟨b, 0, none⟩)] w fun r w' => r = .returned (.bool (decide (least ≤ many ∧ many ≤ 4))) ∧ w' = w := by
 have c := (tk_store h).1
 have l := tk_lt h
 clear h
 by_cases hm : least ≤ many
 ·go_enter Tryz.func150, Tryz.ntmps150
  go_wp2_with fail
  go_ret
  exact ⟨by simp [hm], rfl⟩
 ·go_enter Tryz.func150, Tryz.ntmps150
  go_wp2_with fail
  go_ret
  exact ⟨by simp; intros; omega, rfl⟩
abbrev fj (b : Nat) : Value := .func (.func 149) #[] #[.pointer (some ⟨b, 0, none⟩)]
abbrev fu (b : Nat) : Value := .func (.func 150) #[] #[.pointer (some ⟨b, 0, none⟩)]
theorem just_any (own : Int) (w : World) : Calls Tryz.prog 127 #[.int .i64 own] w fun r w' => r = .returned (fj w.heap.size) ∧ w' = w.alloc (.cells #[.int .i64 own] 3) := by
 have hmf : ∀ (fn : Fn) (first cap : Array Value) (w : World), (Instr.makeFunc fn first cap).run Tryz.prog w = .ok (.func fn first cap) w := fun _ _ _ _ => rfl
 go_enter Tryz.func127, Tryz.ntmps127
 go_wp2_with fail
 go_ret
 exact ⟨rfl, rfl⟩
theorem upfrom_any (own : Int) (w : World) : Calls Tryz.prog 133 #[.int .i64 own] w fun r w' => r = .returned (fu w.heap.size) ∧ w' = w.alloc (.cells #[.int .i64 own] 3) := by
 have hmf : ∀ (fn : Fn) (first cap : Array Value) (w : World), (Instr.makeFunc fn first cap).run Tryz.prog w = .ok (.func fn first cap) w := fun _ _ _ _ => rfl
 go_enter Tryz.func133, Tryz.ntmps133
 go_wp2_with fail
 go_ret
 exact ⟨rfl, rfl⟩
theorem new4 (w : World) (A B C D : Obj) : ((((w.alloc A).alloc B).alloc C).alloc D).heap[w.heap.size + 1 + 1 + 1]? = some D ∧ ((((w.alloc A).alloc B).alloc C).alloc D).heap[w.heap.size + 1 + 1]? = some C ∧ ((((w.alloc A).alloc B).alloc C).alloc D).heap[w.heap.size + 1]? = some B ∧ ((((w.alloc A).alloc B).alloc C).alloc D).heap[w.heap.size]? = some A := by
 obtain ⟨h1, h2, h3⟩ := new3 w A B C
 have hg := ((Gr.refl (((w.alloc A).alloc B).alloc C)).alloc D).below
 have hs : (((w.alloc A).alloc B).alloc C).heap.size = w.heap.size + 1 + 1 + 1 := by simp
 have h4 := heap_alloc_new (((w.alloc A).alloc B).alloc C) D
 rw [hs] at h4
 exact ⟨h4, (hg.block _ (by rw [hs]; omega)).trans h3, (hg.block _ (by rw [hs]; omega)).trans h2, (hg.block _ (by rw [hs]; omega)).trans h1⟩
theorem new5 (w : World) (A B C D E : Obj) : (((((w.alloc A).alloc B).alloc C).alloc D).alloc E).heap[w.heap.size + 4]? = some E ∧ (((((w.alloc A).alloc B).alloc C).alloc D).alloc E).heap[w.heap.size + 3]? = some D ∧ (((((w.alloc A).alloc B).alloc C).alloc D).alloc E).heap[w.heap.size + 2]? = some C ∧ (((((w.alloc A).alloc B).alloc C).alloc D).alloc E).heap[w.heap.size + 1]? = some B ∧ (((((w.alloc A).alloc B).alloc C).alloc D).alloc E).heap[w.heap.size]? = some A := by
 obtain ⟨h1, h2, h3, h4⟩ := new4 w A B C D
 have hg := ((Gr.refl ((((w.alloc A).alloc B).alloc C).alloc D)).alloc E).below
 have hs : ((((w.alloc A).alloc B).alloc C).alloc D).heap.size = w.heap.size + 4 := by simp
 have h5 := heap_alloc_new ((((w.alloc A).alloc B).alloc C).alloc D) E
 rw [hs] at h5
 exact ⟨h5, (hg.block _ (by rw [hs]; omega)).trans h1, (hg.block _ (by rw [hs]; omega)).trans h2, (hg.block _ (by rw [hs]; omega)).trans h3, (hg.block _ (by rw [hs]; omega)).trans h4⟩
theorem new6 (w : World) (A B C D E F : Obj) : ((((((w.alloc A).alloc B).alloc C).alloc D).alloc E).alloc F).heap[w.heap.size + 5]? = some F ∧ ((((((w.alloc A).alloc B).alloc C).alloc D).alloc E).alloc F).heap[w.heap.size + 4]? = some E ∧ ((((((w.alloc A).alloc B).alloc C).alloc D).alloc E).alloc F).heap[w.heap.size + 3]? = some D := by
 obtain ⟨h1, h2, -⟩ := new5 w A B C D E
 have hg := ((Gr.refl (((((w.alloc A).alloc B).alloc C).alloc D).alloc E)).alloc F).below
 have hs : (((((w.alloc A).alloc B).alloc C).alloc D).alloc E).heap.size = w.heap.size + 5 := by simp
 have h5 := heap_alloc_new (((((w.alloc A).alloc B).alloc C).alloc D).alloc E) F
 rw [hs] at h5
 exact ⟨h5, (hg.block _ (by rw [hs]; omega)).trans h1, (hg.block _ (by rw [hs]; omega)).trans h2⟩
def Kd (w : World) (uI : Bool) (i : Int) (uO : Bool) (o : Int) (fw ff fc : Nat) (r : Ending) (w' : World) : Prop := ∃ b1 b2 : Nat, r = .returned (.tuple #[.agg #[if uI then fu b1 else fj b1, if uO then fu b2 else fj b2, .func (.func fw) #[] #[], .func (.func ff) #[] #[], .func (.func fc) #[] #[]], .bool true]) ∧ Below w.heap.size w w' ∧ w'.heap[b1]? = some (.cells #[.int .i64 i] 3 (0, 0)) ∧ w'.heap[b2]? = some (.cells #[.int .i64 o] 3 (0, 0))
set_option maxHeartbeats 2000000 in
theorem kind1_any (w : World) : Calls Tryz.prog 111 #[.int .i64 1] w (Kd w false 0 false 1 128 129 130) := by
 have hmf : ∀ (fn : Fn) (first cap : Array Value) (w : World), (Instr.makeFunc fn first cap).run Tryz.prog w = .ok (.func fn first cap) w := fun _ _ _ _ => rfl
 go_enter Tryz.func111, Tryz.ntmps111
 go_wp2_with (first | (go_at_call 127; refine (just_any _ _).mono ?_; rintro r w1 ⟨rfl, rfl⟩) | (go_at_call 133; refine (upfrom_any _ _).mono ?_; rintro r w1 ⟨rfl, rfl⟩))
 refine bodyPost_ret (v := .tuple #[.agg #[fj (w.heap.size + 4), fj (w.heap.size + 2), .func (.func 128) #[] #[], .func (.func 129) #[] #[], .func (.func 130) #[] #[]], .bool true]) (by simp [results, Tryz.results111, go_sem]) rfl ?_
 exact ⟨w.heap.size + 4, w.heap.size + 2, rfl, ((((((Gr.refl w).alloc _).alloc _).alloc _).alloc _).alloc _).below, (new5 w _ _ _ _ _).1, (new5 w _ _ _ _ _).2.2.1⟩
set_option maxHeartbeats 2000000 in
theorem kind2_any (w : World) : Calls Tryz.prog 111 #[.int .i64 2] w (Kd w false 1 false 1 131 132 130) := by
 have hmf : ∀ (fn : Fn) (first cap : Array Value) (w : World), (Instr.makeFunc fn first cap).run Tryz.prog w = .ok (.func fn first cap) w := fun _ _ _ _ => rfl
 go_enter Tryz.func111, Tryz.ntmps111
 go_wp2_with (first | (go_at_call 127; refine (just_any _ _).mono ?_; rintro r w1 ⟨rfl, rfl⟩) | (go_at_call 133; refine (upfrom_any _ _).mono ?_; rintro r w1 ⟨rfl, rfl⟩))
 refine bodyPost_ret (v := .tuple #[.agg #[fj (w.heap.size + 1), fj (w.heap.size + 2), .func (.func 131) #[] #[], .func (.func 132) #[] #[], .func (.func 130) #[] #[]], .bool true]) (by simp [results, Tryz.results111, go_sem]) rfl ?_
 exact ⟨w.heap.size + 1, w.heap.size + 2, rfl, (((((Gr.refl w).alloc _).alloc _).alloc _).alloc _).below, (new4 w _ _ _ _).2.2.1, (new4 w _ _ _ _).2.1⟩
set_option maxHeartbeats 2000000 in
theorem kind3_any (w : World) : Calls Tryz.prog 111 #[.int .i64 3] w (Kd w false 1 false 1 131 132 130) := by
 have hmf : ∀ (fn : Fn) (first cap : Array Value) (w : World), (Instr.makeFunc fn first cap).run Tryz.prog w = .ok (.func fn first cap) w := fun _ _ _ _ => rfl
 go_enter Tryz.func111, Tryz.ntmps111
 go_wp2_with (first | (go_at_call 127; refine (just_any _ _).mono ?_; rintro r w1 ⟨rfl, rfl⟩) | (go_at_call 133; refine (upfrom_any _ _).mono ?_; rintro r w1 ⟨rfl, rfl⟩))
 refine bodyPost_ret (v := .tuple #[.agg #[fj (w.heap.size + 1), fj (w.heap.size + 2), .func (.func 131) #[] #[], .func (.func 132) #[] #[], .func (.func 130) #[] #[]], .bool true]) (by simp [results, Tryz.results111, go_sem]) rfl ?_
 exact ⟨w.heap.size + 1, w.heap.size + 2, rfl, (((((Gr.refl w).alloc _).alloc _).alloc _).alloc _).below, (new4 w _ _ _ _).2.2.1, (new4 w _ _ _ _).2.1⟩
set_option maxHeartbeats 2000000 in
theorem kind4_any (w : World) : Calls Tryz.prog 111 #[.int .i64 4] w (Kd w true 1 false 1 128 129 130) := by
 have hmf : ∀ (fn : Fn) (first cap : Array Value) (w : World), (Instr.makeFunc fn first cap).run Tryz.prog w = .ok (.func fn first cap) w := fun _ _ _ _ => rfl
 go_enter Tryz.func111, Tryz.ntmps111
 go_wp2_with (first | (go_at_call 127; refine (just_any _ _).mono ?_; rintro r w1 ⟨rfl, rfl⟩) | (go_at_call 133; refine (upfrom_any _ _).mono ?_; rintro r w1 ⟨rfl, rfl⟩))
 refine bodyPost_ret (v := .tuple #[.agg #[fu (w.heap.size + 4), fj (w.heap.size + 2), .func (.func 128) #[] #[], .func (.func 129) #[] #[], .func (.func 130) #[] #[]], .bool true]) (by simp [results, Tryz.results111, go_sem]) rfl ?_
 exact ⟨w.heap.size + 4, w.heap.size + 2, rfl, ((((((Gr.refl w).alloc _).alloc _).alloc _).alloc _).alloc _).below, (new5 w _ _ _ _ _).1, (new5 w _ _ _ _ _).2.2.1⟩
set_option maxHeartbeats 2000000 in
theorem kind5_any (w : World) : Calls Tryz.prog 111 #[.int .i64 5] w (Kd w false 1 false 1 134 135 136) := by
 have hmf : ∀ (fn : Fn) (first cap : Array Value) (w : World), (Instr.makeFunc fn first cap).run Tryz.prog w = .ok (.func fn first cap) w := fun _ _ _ _ => rfl
 go_enter Tryz.func111, Tryz.ntmps111
 go_wp2_with (first | (go_at_call 127; refine (just_any _ _).mono ?_; rintro r w1 ⟨rfl, rfl⟩) | (go_at_call 133; refine (upfrom_any _ _).mono ?_; rintro r w1 ⟨rfl, rfl⟩))
 refine bodyPost_ret (v := .tuple #[.agg #[fj (w.heap.size + 1), fj (w.heap.size + 2), .func (.func 134) #[] #[], .func (.func 135) #[] #[], .func (.func 136) #[] #[]], .bool true]) (by simp [results, Tryz.results111, go_sem]) rfl ?_
 exact ⟨w.heap.size + 1, w.heap.size + 2, rfl, (((((Gr.refl w).alloc _).alloc _).alloc _).alloc _).below, (new4 w _ _ _ _).2.2.1, (new4 w _ _ _ _).2.1⟩
set_option maxHeartbeats 2000000 in
theorem kind6_any (w : World) : Calls Tryz.prog 111 #[.int .i64 6] w (Kd w false 1 false 1 128 129 130) := by
 have hmf : ∀ (fn : Fn) (first cap : Array Value) (w : World), (Instr.makeFunc fn first cap).run Tryz.prog w = .ok (.func fn first cap) w := fun _ _ _ _ => rfl
 go_enter Tryz.func111, Tryz.ntmps111
 go_wp2_with (first | (go_at_call 127; refine (just_any _ _).mono ?_; rintro r w1 ⟨rfl, rfl⟩) | (go_at_call 133; refine (upfrom_any _ _).mono ?_; rintro r w1 ⟨rfl, rfl⟩))
 refine bodyPost_ret (v := .tuple #[.agg #[fj (w.heap.size + 1), fj (w.heap.size + 2), .func (.func 128) #[] #[], .func (.func 129) #[] #[], .func (.func 130) #[] #[]], .bool true]) (by simp [results, Tryz.results111, go_sem]) rfl ?_
 exact ⟨w.heap.size + 1, w.heap.size + 2, rfl, (((((Gr.refl w).alloc _).alloc _).alloc _).alloc _).below, (new4 w _ _ _ _).2.2.1, (new4 w _ _ _ _).2.1⟩
set_option maxHeartbeats 2000000 in
theorem kind7_any (w : World) : Calls Tryz.prog 111 #[.int .i64 7] w (Kd w false 1 false 0 128 129 130) := by
 have hmf : ∀ (fn : Fn) (first cap : Array Value) (w : World), (Instr.makeFunc fn first cap).run Tryz.prog w = .ok (.func fn first cap) w := fun _ _ _ _ => rfl
 go_enter Tryz.func111, Tryz.ntmps111
 go_wp2_with (first | (go_at_call 127; refine (just_any _ _).mono ?_; rintro r w1 ⟨rfl, rfl⟩) | (go_at_call 133; refine (upfrom_any _ _).mono ?_; rintro r w1 ⟨rfl, rfl⟩))
 refine bodyPost_ret (v := .tuple #[.agg #[fj (w.heap.size + 1), fj (w.heap.size + 4), .func (.func 128) #[] #[], .func (.func 129) #[] #[], .func (.func 130) #[] #[]], .bool true]) (by simp [results, Tryz.results111, go_sem]) rfl ?_
 exact ⟨w.heap.size + 1, w.heap.size + 4, rfl, ((((((Gr.refl w).alloc _).alloc _).alloc _).alloc _).alloc _).below, (new5 w _ _ _ _ _).2.2.2.1, (new5 w _ _ _ _ _).1⟩
set_option maxHeartbeats 2000000 in
theorem kind8_any (w : World) : Calls Tryz.prog 111 #[.int .i64 8] w (Kd w true 0 true 0 137 138 139) := by
 have hmf : ∀ (fn : Fn) (first cap : Array Value) (w : World), (Instr.makeFunc fn first cap).run Tryz.prog w = .ok (.func fn first cap) w := fun _ _ _ _ => rfl
 go_enter Tryz.func111, Tryz.ntmps111
 go_wp2_with (first | (go_at_call 127; refine (just_any _ _).mono ?_; rintro r w1 ⟨rfl, rfl⟩) | (go_at_call 133; refine (upfrom_any _ _).mono ?_; rintro r w1 ⟨rfl, rfl⟩))
 refine bodyPost_ret (v := .tuple #[.agg #[fu (w.heap.size + 4), fu (w.heap.size + 5), .func (.func 137) #[] #[], .func (.func 138) #[] #[], .func (.func 139) #[] #[]], .bool true]) (by simp [results, Tryz.results111, go_sem]) rfl ?_
 exact ⟨w.heap.size + 4, w.heap.size + 5, rfl, (((((((Gr.refl w).alloc _).alloc _).alloc _).alloc _).alloc _).alloc _).below, (new6 w _ _ _ _ _ _).2.1, (new6 w _ _ _ _ _ _).1⟩
set_option maxHeartbeats 2000000 in
theorem kind0_any (k : Int) (hk : k < 1 ∨ 8 < k) (w : World) : Calls Tryz.prog 111 #[.int .i64 k] w fun r w' => r = .returned (.tuple #[.agg #[.nilFunc, .nilFunc, .nilFunc, .nilFunc, .nilFunc], .bool false]) ∧ Below w.heap.size w w' := by
 have hmf : ∀ (fn : Fn) (first cap : Array Value) (w : World), (Instr.makeFunc fn first cap).run Tryz.prog w = .ok (.func fn first cap) w := fun _ _ _ _ => rfl
 obtain ⟨k1, k2, k3, k4, k5, k6, k7, k8⟩ : ¬ k = 1 ∧ ¬ k = 2 ∧ ¬ k = 3 ∧ ¬ k = 4 ∧ ¬ k = 5 ∧ ¬ k = 6 ∧ ¬ k = 7 ∧ ¬ k = 8 := by omega
 clear hk
 go_enter Tryz.func111, Tryz.ntmps111
 go_wp2_with (first | (go_at_call 127; refine (just_any _ _).mono ?_; rintro r w1 ⟨rfl, rfl⟩))
 refine bodyPost_ret (v := .tuple #[.agg #[.nilFunc, .nilFunc, .nilFunc, .nilFunc, .nilFunc], .bool false]) (by simp [results, Tryz.results111, go_sem]) rfl ?_
 exact ⟨rfl, (((((Gr.refl w).alloc _).alloc _).alloc _).alloc _).below⟩
end Go.Proofs.YtdnnfgabdkkdjaaGreat.Df
