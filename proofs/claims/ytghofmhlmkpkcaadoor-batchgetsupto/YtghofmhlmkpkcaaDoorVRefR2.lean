import Derived.Test.YtghofmhlmkpkcaaDoorVRefR
namespace Go.Proofs.YtghofmhlmkpkcaaDoor.Wi
open Go.RowKit Go.Sort
attribute [local go_sem ↓] Go.wp_at_zero Go.wp_at_succ

/-- The document's reader: what is left. -/
structure Rr (w : World) (rb : Nat) (v : Value) (L : List UInt8) (at_ e : Nat) : Prop where
  blk : w.heap[rb]? = some (.cells #[v, .int .i64 (at_ : Nat), .int .i64 (e : Nat)] 118 (0, 0))
  ls : Ls EB w v (L.drop at_)
  le : at_ ≤ L.length
  off : v.ownBlock ≠ some rb
  big : L.length ≤ 140737488355328
  cap : ∀ p n c, v = .slice p n c → n ≤ c
section
variable {w w' : World} {rb e at_ : Nat} {v : Value} {L : List UInt8}
theorem Rr.lt (h : Rr w rb v L at_ e) : rb < w.heap.size := (Array.getElem?_eq_some_iff.1 h.blk).1
theorem Rr.c0 (h : Rr w rb v L at_ e) : w.cell? ⟨rb, 0, none⟩ = some v := by simp [World.cell?, h.blk]
theorem Rr.c1 (h : Rr w rb v L at_ e) : w.cell? ⟨rb, 1, none⟩ = some (.int .i64 (at_ : Nat)) := by simp [World.cell?, h.blk]
theorem Rr.c2 (h : Rr w rb v L at_ e) : w.cell? ⟨rb, 2, none⟩ = some (.int .i64 (e : Nat)) := by simp [World.cell?, h.blk]
theorem Rr.fz (h : Rr w rb v L at_ e) (o : Nat) : w.frozen? ⟨rb, o, none⟩ = false := by simp [World.frozen?, h.blk]
theorem Rr.kp {S : Nat → Prop} (h : Rr w rb v L at_ e) (hk : Kp S w w') (h1 : ¬ S rb) (h2 : ∀ k, v.ownBlock = some k → ¬ S k) : Rr w' rb v L at_ e :=
  ⟨(hk.block rb h.lt h1).trans h.blk, hk.ls h.ls h2, h.le, h.off, h.big, h.cap⟩
theorem Rr.below (h : Rr w rb v L at_ e) (hb' : Below w.heap.size w w') : Rr w' rb v L at_ e := h.kp (S := fun _ => False) (Kp.of_below hb') (fun h => h) (fun _ _ h => h)
end
theorem rr_set {w : World} {rb : Nat} {e v a : Value} (h : w.heap[rb]? = some (.cells #[v, a, e] 118 (0, 0))) :
    (∀ v2, (w.setCell ⟨rb, 0, none⟩ v2).heap[rb]? = some (.cells #[v2, a, e] 118 (0, 0)) ∧ Kp (fun k => k = rb) w (w.setCell ⟨rb, 0, none⟩ v2)) ∧ (∀ a2, (w.setCell ⟨rb, 1, none⟩ a2).heap[rb]? = some (.cells #[v, a2, e] 118 (0, 0)) ∧ Kp (fun k => k = rb) w (w.setCell ⟨rb, 1, none⟩ a2)) ∧ (∀ e2, (w.setCell ⟨rb, 2, none⟩ e2).heap[rb]? = some (.cells #[v, a, e2] 118 (0, 0)) ∧ Kp (fun k => k = rb) w (w.setCell ⟨rb, 2, none⟩ e2)) := by
  refine ⟨fun v2 => ?_, fun v2 => ?_, fun v2 => ?_⟩
  · have e := setCell_eq_setRow w rb 0 _ _ _ v2 h
    rw [e]
    exact ⟨by rw [setRow_heap w rb _ _ _ _ h]; simp, rfl, rfl, rfl, by simp [World.setRow], fun k _ hne => setRow_other w rb k _ (by omega)⟩
  · have e := setCell_eq_setRow w rb 1 _ _ _ v2 h
    rw [e]
    exact ⟨by rw [setRow_heap w rb _ _ _ _ h]; simp, rfl, rfl, rfl, by simp [World.setRow], fun k _ hne => setRow_other w rb k _ (by omega)⟩
  · have e := setCell_eq_setRow w rb 2 _ _ _ v2 h
    rw [e]
    exact ⟨by rw [setRow_heap w rb _ _ _ _ h]; simp, rfl, rfl, rfl, by simp [World.setRow], fun k _ hne => setRow_other w rb k _ (by omega)⟩
theorem Rr.setE {w : World} {rb e at_ : Nat} {v : Value} {L : List UInt8} (h : Rr w rb v L at_ e) (a : Nat) : Rr (w.setCell ⟨rb, 2, none⟩ (.int .i64 (a : Nat))) rb v L at_ a ∧ Kp (fun k => k = rb) w (w.setCell ⟨rb, 2, none⟩ (.int .i64 (a : Nat))) := by
  obtain ⟨h1, h2⟩ := (rr_set h.blk).2.2 (.int .i64 (a : Nat))
  exact ⟨⟨h1, h2.ls h.ls (fun k hk e => h.off (e ▸ hk)), h.le, h.off, h.big, h.cap⟩, h2⟩
theorem cut_lsR {w : World} {p : Option Addr} {c n : Nat} {l : List UInt8} (h : Ls EB w (.slice p l.length c) l) (hn : n ≤ l.length) : Ls EB w (.slice p n c) (l.take n) := by
  rcases h with ⟨rfl, h⟩ | ⟨b, off, c', hv, hb, ht⟩
  · simp only [Value.slice.injEq] at h
    obtain ⟨rfl, -, rfl⟩ := h
    have hn0 : n = 0 := by simpa using hn
    subst hn0
    exact Or.inl ⟨rfl, rfl⟩
  · simp only [Value.slice.injEq, true_and] at hv
    obtain ⟨rfl, rfl⟩ := hv
    have hL : Ls EB w (.slice (some ⟨b, off, none⟩) l.length c) l := Or.inr ⟨b, off, c, rfl, hb, ht⟩
    exact hL.cut hn _
set_option maxHeartbeats 2000000 in
theorem rtake_any {rb at_ n e : Nat} {v : Value} {L : List UInt8} (w : World) (hR : Rr w rb v L at_ e) (hn : at_ + n ≤ L.length) :
    Calls Tryd.prog 77 #[.pointer (some ⟨rb, 0, none⟩), .int .i64 (n : Nat)] w fun r w' => ∃ d v', r = .returned d ∧ w'.ownsRow w.heap.size 5 1 d ((L.drop at_).take n).length (fl EB ((L.drop at_).take n)) ∧ Rr w' rb v' L (at_ + n) e ∧ (∀ k, v'.ownBlock = some k → v.ownBlock = some k) ∧ Kp (fun k => k = rb) w w' := by
  have hmx : Tryd.prog.follows .mixedOrders = true := by kernel_rfl
  obtain ⟨p, c, rfl⟩ := hR.ls.form
  have hcap := hR.cap _ _ _ rfl
  have hdl : (L.drop at_).length = L.length - at_ := List.length_drop
  have hbg := hR.big
  have hnl : n ≤ (L.drop at_).length := by omega
  have k0 := hR.c0
  have kl := hR.lt
  have HR := hid hR
  have HCUT := hid (cut_lsR hR.ls hnl)
  obtain ⟨q1, q2⟩ := ls_rest (at_ := n) hR.ls hnl hcap
  have hz1 : (n : Int) ≤ (c : Int) := by omega
  have hz2 : n ≤ c := by omega
  have hz3 : (n : Int) ≤ ((L.drop at_).length : Int) := by omega
  have hz4 : ((L.drop at_).length : Int) ≤ (c : Int) := by omega
  have hz5 : wrap64 ((at_ : Int) + (n : Int)) = ((at_ + n : Nat) : Int) := by unfold wrap64; omega
  have hq3 : ∀ p' n' c', Value.slice (if c = n then p else Option.map (fun x => x.add n) p) ((L.drop at_).length - n) (c - n) = .slice p' n' c' → n' ≤ c' := fun p' n' c' h => by
    simp only [Value.slice.injEq] at h
    omega
  have Q1 := hid q1
  have Q2 := hid q2
  have Q3 := hid hq3
  have HN := hid hn
  have HDL : Hid ((L.drop at_).drop n = L.drop (at_ + n) ∧ ((L.drop at_).take n).length = n) := ⟨List.drop_drop, by rw [List.length_take]; omega⟩
  clear hR q1 q2 hq3 hdl
  obtain ⟨K, hK⟩ : ∃ K, K = at_ + n := ⟨_, rfl⟩
  have HKE : Hid ((at_ : Int) + (n : Int) = (K : Int)) := by rw [hK]; rfl
  clear hz5
  rw [← hK] at HN HDL
  rw [← hK]
  clear hK
  generalize hM : L.drop at_ = M at k0 HCUT Q1 Q2 Q3 HDL hnl hcap hz3 hz4
  have HM := hid hM
  go_enter Tryd.func77, Tryd.ntmps77
  go_wp2_with (at_builtin; refine wpBL rfl _ _ rfl w.heap.size _ [] rfl (World.ownsRow_made w #[] 0 (Nat.le_refl _) (Nat.zero_le _) rfl) _ (M.take n) rfl (Or.inl (HCUT.out.below ((Gr.refl _).alloc _).below)) (by have := HDL.out.2; rw [this]; simp; omega) (by simp) ?_)
  intro v5 w5 h5 t5
  have hal := ((Gr.refl w).alloc (.cells #[] 5)).below
  have B5 : Hid (Below w.heap.size w w5) := hal.trans (t5.out.1.below hal.size (fun k hk => by simp [Value.ownBlock] at hk; omega))
  have O5 : Hid (w5.ownsRow w.heap.size 5 1 v5 (M.take n).length (fl EB (M.take n))) := hid (owns_re h5.out (by first | exact HDL.out.2.symm | simp) (by simp))
  have bl5 : w5.heap[rb]? = _ := (B5.out.block rb kl).trans HR.out.blk
  rw [hM] at bl5
  have HBL := hid bl5
  obtain ⟨d0, d1, f0, f1, kl5⟩ : w5.cell? ⟨rb, 0, none⟩ = some (.slice p M.length c) ∧ w5.cell? ⟨rb, 1, none⟩ = some (.int .i64 (at_ : Nat)) ∧ w5.frozen? ⟨rb, 0, none⟩ = false ∧ w5.frozen? ⟨rb, 1, none⟩ = false ∧ rb < w5.heap.size := ⟨by simp [World.cell?, bl5], by simp [World.cell?, bl5], by simp [World.frozen?, bl5], by simp [World.frozen?, bl5], (Array.getElem?_eq_some_iff.1 bl5).1⟩
  have hfin : ∀ U, Ls EB w U (M.drop n) → (∀ k, U.ownBlock = some k → (Value.slice p M.length c).ownBlock = some k) → (∀ p' n' c', U = .slice p' n' c' → n' ≤ c') →
      Rr ((w5.setCell ⟨rb, 0, none⟩ U).setCell ⟨rb, 1, none⟩ (.int .i64 ((at_ : Int) + (n : Int)))) rb U L K e ∧ Kp (fun k => k = rb) w ((w5.setCell ⟨rb, 0, none⟩ U).setCell ⟨rb, 1, none⟩ (.int .i64 ((at_ : Int) + (n : Int)))) ∧ ((w5.setCell ⟨rb, 0, none⟩ U).setCell ⟨rb, 1, none⟩ (.int .i64 ((at_ : Int) + (n : Int)))).ownsRow w.heap.size 5 1 v5 (M.take n).length (fl EB (M.take n)) := fun U h1 h2 h3 => by
    rw [HKE.out]
    obtain ⟨s1, s2⟩ := (rr_set HBL.out).1 U
    obtain ⟨s3, s4⟩ := (rr_set s1).2.1 (.int .i64 (K : Int))
    have hk : Kp (fun k => k = rb) w5 _ := s2.trans s4 (fun _ _ h => h)
    have hoff : U.ownBlock ≠ some rb := fun e => HR.out.off (by rw [HM.out]; exact h2 rb e)
    refine ⟨⟨s3, ?_, HN.out, hoff, hbg, h3⟩, (Kp.of_below B5.out).trans hk (fun _ _ h => h), owns_kp hk O5.out (fun q hq e => ?_)⟩
    · rw [← HDL.out.1]
      exact hk.ls (h1.below B5.out) (fun q hq e => hoff (e ▸ hq))
    · have := (O5.out.lt q hq).1; omega
  have HF := hid hfin
  clear h5 t5 hal bl5 hfin hM
  by_cases hcn : c = n
  · have q1 := Q1.out
    have q2 := Q2.out
    have q3 := Q3.out
    rw [if_pos hcn, show M.length - n = 0 by omega, show c - n = 0 by omega] at q1 q2 q3
    have HQ := hid (HF.out _ q1 q2 q3)
    have HQ2 := hid q2
    clear q1 q2 q3 Q1 Q2 Q3
    subst hcn
    go_wp2_with fail
    go_ret
    exact ⟨_, _, rfl, HQ.out.2.2, HQ.out.1, HQ2.out, HQ.out.2.1⟩
  · have q1 := Q1.out
    have q2 := Q2.out
    have q3 := Q3.out
    rw [if_neg hcn] at q1 q2 q3
    have HQ := hid (HF.out _ q1 q2 q3)
    have HQ2 := hid q2
    clear q1 q2 q3 Q1 Q2 Q3
    go_wp2_with fail
    go_ret
    exact ⟨_, _, rfl, HQ.out.2.2, HQ.out.1, HQ2.out, HQ.out.2.1⟩
end Go.Proofs.YtghofmhlmkpkcaaDoor.Wi
