import Derived.Test.YtghofmhlmkpkcaaDoorVWr2
namespace Go.Proofs.YtghofmhlmkpkcaaDoor.Wi
open Go.RowKit Go.Sort
attribute [local go_sem ↓] Go.wp_at_zero Go.wp_at_succ

/-- A reader's block and its bytes. -/
structure Rd (w : World) (rb : Nat) (v : Value) (L : List UInt8) (at_ e : Nat) : Prop where
  blk : w.heap[rb]? = some (.cells #[.int .i64 (e : Nat), v, .int .i64 (at_ : Nat)] 86 (0, 0))
  ls : Ls EB w v L
  le : at_ ≤ L.length
  off : v.ownBlock ≠ some rb
  big : L.length ≤ 140737488355328
  cap : ∀ p n c, v = .slice p n c → n ≤ c ∧ n = L.length
section
variable {w w' : World} {rb e at_ : Nat} {v : Value} {L : List UInt8}
theorem Rd.lt (h : Rd w rb v L at_ e) : rb < w.heap.size := (Array.getElem?_eq_some_iff.1 h.blk).1
theorem Rd.c0 (h : Rd w rb v L at_ e) : w.cell? ⟨rb, 0, none⟩ = some (.int .i64 (e : Nat)) := by simp [World.cell?, h.blk]
theorem Rd.c1 (h : Rd w rb v L at_ e) : w.cell? ⟨rb, 1, none⟩ = some v := by simp [World.cell?, h.blk]
theorem Rd.c2 (h : Rd w rb v L at_ e) : w.cell? ⟨rb, 2, none⟩ = some (.int .i64 (at_ : Nat)) := by simp [World.cell?, h.blk]
theorem Rd.fz (h : Rd w rb v L at_ e) (o : Nat) : w.frozen? ⟨rb, o, none⟩ = false := by simp [World.frozen?, h.blk]
theorem Rd.kp {S : Nat → Prop} (h : Rd w rb v L at_ e) (hk : Kp S w w') (h1 : ¬ S rb) (h2 : ∀ k, v.ownBlock = some k → ¬ S k) : Rd w' rb v L at_ e :=
  ⟨(hk.block rb h.lt h1).trans h.blk, hk.ls h.ls h2, h.le, h.off, h.big, h.cap⟩
theorem Rd.below (h : Rd w rb v L at_ e) (hb' : Below w.heap.size w w') : Rd w' rb v L at_ e := h.kp (S := fun _ => False) (Kp.of_below hb') (fun h => h) (fun _ _ h => h)
theorem Rd.gr (h : Rd w rb v L at_ e) (hg : Gr w w') : Rd w' rb v L at_ e := h.below hg.below
end
theorem rd_set {w : World} {rb : Nat} {e v a : Value} (h : w.heap[rb]? = some (.cells #[e, v, a] 86 (0, 0))) :
    (∀ a2, (w.setCell ⟨rb, 2, none⟩ a2).heap[rb]? = some (.cells #[e, v, a2] 86 (0, 0)) ∧ Kp (fun k => k = rb) w (w.setCell ⟨rb, 2, none⟩ a2)) ∧ (∀ e2, (w.setCell ⟨rb, 0, none⟩ e2).heap[rb]? = some (.cells #[e2, v, a] 86 (0, 0)) ∧ Kp (fun k => k = rb) w (w.setCell ⟨rb, 0, none⟩ e2)) := by
  refine ⟨fun v2 => ?_, fun n2 => ?_⟩
  · have e := setCell_eq_setRow w rb 2 _ _ _ v2 h
    rw [e]
    exact ⟨by rw [setRow_heap w rb _ _ _ _ h]; simp, rfl, rfl, rfl, by simp [World.setRow], fun k _ hne => setRow_other w rb k _ (by omega)⟩
  · have e := setCell_eq_setRow w rb 0 _ _ _ n2 h
    rw [e]
    exact ⟨by rw [setRow_heap w rb _ _ _ _ h]; simp, rfl, rfl, rfl, by simp [World.setRow], fun k _ hne => setRow_other w rb k _ (by omega)⟩
theorem Rd.setAt {w : World} {rb e at_ : Nat} {v : Value} {L : List UInt8} (h : Rd w rb v L at_ e) (a : Nat) (ha : a ≤ L.length) : Rd (w.setCell ⟨rb, 2, none⟩ (.int .i64 (a : Nat))) rb v L a e ∧ Kp (fun k => k = rb) w (w.setCell ⟨rb, 2, none⟩ (.int .i64 (a : Nat))) := by
  obtain ⟨h1, h2⟩ := (rd_set h.blk).1 (.int .i64 (a : Nat))
  exact ⟨⟨h1, h2.ls h.ls (fun k hk e => h.off (e ▸ hk)), ha, h.off, h.big, h.cap⟩, h2⟩
theorem Rd.setE {w : World} {rb e at_ : Nat} {v : Value} {L : List UInt8} (h : Rd w rb v L at_ e) (a : Nat) : Rd (w.setCell ⟨rb, 0, none⟩ (.int .i64 (a : Nat))) rb v L at_ a ∧ Kp (fun k => k = rb) w (w.setCell ⟨rb, 0, none⟩ (.int .i64 (a : Nat))) := by
  obtain ⟨h1, h2⟩ := (rd_set h.blk).2 (.int .i64 (a : Nat))
  exact ⟨⟨h1, h2.ls h.ls (fun k hk e => h.off (e ▸ hk)), h.le, h.off, h.big, h.cap⟩, h2⟩

set_option maxHeartbeats 1000000 in
theorem newreader_any {v : Value} {l : List UInt8} (w : World) (hL : Ls EB w v l) (hl : l.length ≤ 140737488355328) : Calls Tryd.prog 21 #[v] w fun r w' => ∃ rb d, r = .returned (.pointer (some ⟨rb, 0, none⟩)) ∧ w.heap.size ≤ rb ∧ Rd w' rb d l 0 0 ∧ (∀ k, d.ownBlock = some k → w.heap.size ≤ k) ∧ Below w.heap.size w w' := by
  have hc := clone_any w hL hl
  clear hL
  go_enter Tryd.func21, Tryd.ntmps21
  go_wp2_with (go_at_call 41; refine hc.mono ?_; rintro r w4 ⟨d, rfl, h1, h2⟩; obtain ⟨p, n, c, rfl⟩ := ow_form (owns_base h1 (Nat.zero_le _)); have H1 := hid h1; have H2 := hid h2; clear h1 h2)
  go_ret
  have hal := (Gr.refl w4).alloc (.cells #[.int .i64 0, .slice p n c, .int .i64 0] 86)
  have hlt : ∀ k, (Value.slice p n c).ownBlock = some k → w.heap.size ≤ k ∧ k < w4.heap.size := fun k hk => H1.out.lt k hk
  have hls : Ls EB w4 (.slice p n c) l := ow_ls (owns_base H1.out (Nat.zero_le _))
  refine ⟨w4.heap.size, _, rfl, H2.out.size, ⟨heap_new' _ _, hls.below hal.below, Nat.zero_le _, fun h => ?_, hl, fun p' n' c' h => ?_⟩, fun k hk => (hlt k hk).1, H2.out.trans (hal.below.mono H2.out.size)⟩
  · have := (hlt _ h).2; omega
  · cases h
    obtain ⟨p2, c2, h3⟩ := hls.form
    cases h3
    exact ⟨(owns_cap H1.out).1, rfl⟩
/-- What is left of a list behind its first ones. -/
theorem ls_rest {w : World} {p : Option Addr} {c at_ : Nat} {L : List UInt8} (h : Ls EB w (.slice p L.length c) L) (hle : at_ ≤ L.length) (hc : L.length ≤ c) :
    Ls EB w (.slice (if c = at_ then p else Option.map (fun x => x.add at_) p) (L.length - at_) (c - at_)) (L.drop at_) ∧ ∀ k, (Value.slice (if c = at_ then p else Option.map (fun x => x.add at_) p) (L.length - at_) (c - at_)).ownBlock = some k → (Value.slice p L.length c).ownBlock = some k := by
  rcases h with ⟨rfl, h⟩ | ⟨b, off, c', hv, hb, ht⟩
  · simp only [Value.slice.injEq] at h
    obtain ⟨rfl, -, rfl⟩ := h
    simp at hle
    subst hle
    simp
    exact Or.inl ⟨rfl, rfl⟩
  · simp only [Value.slice.injEq, true_and] at hv
    obtain ⟨rfl, rfl⟩ := hv
    have hL : Ls EB w (.slice (some ⟨b, off, none⟩) L.length c) L := Or.inr ⟨b, off, c, rfl, hb, ht⟩
    by_cases hca : c = at_
    · rw [if_pos hca]
      refine ⟨hL.void (by omega) _, fun k hk => hk⟩
    · rw [if_neg hca]
      have := hL.tail (k := at_) (c - at_)
      rw [show EB.k = 1 from rfl, Nat.mul_one] at this
      simp only [Option.map_some, addA]
      exact ⟨this, fun k hk => by simpa [Value.ownBlock] using hk⟩
set_option maxHeartbeats 1000000 in
theorem rest_any {rb e at_ : Nat} {v : Value} {L : List UInt8} (w : World) (hR : Rd w rb v L at_ e) : Calls Tryd.prog 44 #[.pointer (some ⟨rb, 0, none⟩)] w fun r w' => ∃ d, r = .returned d ∧ Ls EB w d (L.drop at_) ∧ (∀ k, d.ownBlock = some k → v.ownBlock = some k) ∧ (∀ p n c, d = .slice p n c → n ≤ c) ∧ Gr w w' := by
  have k1 := hR.c1
  have k2 := hR.c2
  have kl := hR.lt
  obtain ⟨p, c, rfl⟩ := hR.ls.form
  have HR := hid hR
  have hcap := (hR.cap _ _ _ rfl).1
  have hle := hR.le
  have hz1 : (0 : Int) ≤ (at_ : Int) := by omega
  have hz2 : (at_ : Int) ≤ (L.length : Int) := by omega
  have hz3 : (L.length : Int) ≤ (c : Int) := by omega
  clear hR
  go_enter Tryd.func44, Tryd.ntmps44
  go_wp2_with fail
  go_quiet (fail)
  obtain ⟨h1, h2⟩ := ls_rest HR.out.ls hle hcap
  have h3 : ∀ p' n' c', Value.slice (if c = at_ then p else Option.map (fun x => x.add at_) p) (L.length - at_) (c - at_) = .slice p' n' c' → n' ≤ c' := fun p' n' c' h => by
    simp only [Value.slice.injEq] at h
    omega
  generalize Value.slice (if c = at_ then p else Option.map (fun x => x.add at_) p) (L.length - at_) (c - at_) = d at h1 h2 h3 ⊢
  have H3 := hid h3
  have H1 := hid h1
  have H2 := hid h2
  clear h1 h2 h3
  go_wp2
  go_ret
  exact ⟨_, rfl, H1.out, H2.out, H3.out, (Gr.refl _).drewN _⟩
theorem rat_any {rb e at_ : Nat} {v : Value} {L : List UInt8} (w : World) (hR : Rd w rb v L at_ e) : Calls Tryd.prog 46 #[.pointer (some ⟨rb, 0, none⟩)] w fun r w' => r = .returned (.int .i64 (at_ : Nat)) ∧ w' = w := by
  have k2 := hR.c2
  have kl := hR.lt
  clear hR
  go_enter Tryd.func46, Tryd.ntmps46
  go_wp2
  go_ret
  exact ⟨rfl, rfl⟩
theorem rerr_any {rb e at_ : Nat} {v : Value} {L : List UInt8} (w : World) (hR : Rd w rb v L at_ e) : Calls Tryd.prog 23 #[.pointer (some ⟨rb, 0, none⟩)] w fun r w' => r = .returned (.int .i64 (e : Nat)) ∧ w' = w := by
  have k0 := hR.c0
  have kl := hR.lt
  clear hR
  go_enter Tryd.func23, Tryd.ntmps23
  go_wp2
  go_ret
  exact ⟨rfl, rfl⟩
set_option maxHeartbeats 1000000 in
/-- As many bytes are taken as something has, or its error is noted. -/
theorem take_any {rb at_ n e : Nat} {v : Value} {L : List UInt8} (w : World) (hR : Rd w rb v L at_ 0) (hn : at_ + n ≤ L.length) (h0 : e ≠ 0 → n = 0) : Calls Tryd.prog 45 #[.pointer (some ⟨rb, 0, none⟩), .int .i64 (n : Nat), .int .i64 (e : Nat)] w fun r w' => r = .returned (.tuple #[]) ∧ Rd w' rb v L (at_ + n) e ∧ Kp (fun k => k = rb) w w' := by
  have k2 := hR.c2
  have kl := hR.lt
  have f2 := hR.fz 2
  have hno := note_any (n := e) w hR.lt hR.c0 (hR.fz 0)
  rw [if_pos rfl] at hno
  have HR := hid hR
  have hbg := hR.big
  clear hR
  by_cases he : e = 0
  · subst he
    have HN := hid hn
    have hz : wrap64 ((at_ : Int) + (n : Int)) = ((at_ + n : Nat) : Int) := by unfold wrap64; omega
    generalize hK : at_ + n = K at hz hn ⊢
    clear h0 hno hK HN
    go_enter Tryd.func45, Tryd.ntmps45
    go_wp2_with fail
    go_end0
    exact ⟨rfl, HR.out.setAt K hn⟩
  · have hz : ¬ (e : Int) = 0 := by omega
    have hn0 := h0 he
    subst hn0
    clear h0 hn
    go_enter Tryd.func45, Tryd.ntmps45
    go_wp2_with (go_at_call 48; refine hno.mono ?_; rintro r w5 ⟨rfl, rfl⟩)
    refine bodyPost_ret (results_none rfl _ _ _) rfl ?_
    exact ⟨rfl, HR.out.setE e⟩
/-- What Num takes: the number, how many bytes, the error. -/
def rn (e most : Nat) (l : List UInt8) : Nat × Nat × Nat := if e = 0 then scan most 0 0 l else (0, 0, e)
theorem scan_le (most : Nat) (l : List UInt8) : (scan most 0 0 l).2.1 ≤ l.length ∧ ((scan most 0 0 l).2.2 ≠ 0 → (scan most 0 0 l).2.1 = 0 ∧ (scan most 0 0 l).1 = 0) ∧ (scan most 0 0 l).1 < 18446744073709551616 := by
  rcases scan_back most l 0 0 (by decide) (by decide) with ⟨e, h, h2⟩ | ⟨u, n, h1, h2, h3, h4, h5, h6, h7, h8⟩
  · rw [h]; simp
  · rw [h1]; simp at *; omega
set_option maxHeartbeats 1000000 in
theorem rnum_any {rb at_ e : Nat} {v : Value} {L : List UInt8} (most : Nat) (w : World) (hR : Rd w rb v L at_ e) : Calls Tryd.prog 22 #[.pointer (some ⟨rb, 0, none⟩), .int .u64 most] w fun r w' => r = .returned (.int .u64 ((rn e most (L.drop at_)).1 : Nat)) ∧ Rd w' rb v L (at_ + (rn e most (L.drop at_)).2.1) (rn e most (L.drop at_)).2.2 ∧ Kp (fun k => k = rb) w w' := by
  have hf := failed_any w hR.lt hR.c0
  have hbg := hR.big
  have HR := hid hR
  clear hR
  by_cases h0 : e = 0
  · subst h0
    have hre := rest_any w HR.out
    have hnu := fun (W : World) (d : Value) (hd : Ls EB W d (L.drop at_)) => number_any most W hd (by rw [List.length_drop]; omega)
    have hta : ∀ (W : World), Gr w W → Calls Tryd.prog 45 #[.pointer (some ⟨rb, 0, none⟩), .int .i64 ((scan most 0 0 (L.drop at_)).2.1 : Nat), .int .i64 ((scan most 0 0 (L.drop at_)).2.2 : Nat)] W fun r w' => r = .returned (.tuple #[]) ∧ Rd w' rb v L (at_ + (scan most 0 0 (L.drop at_)).2.1) (scan most 0 0 (L.drop at_)).2.2 ∧ Kp (fun k => k = rb) W w' := fun W hg => by
      obtain ⟨h1, h2, _⟩ := scan_le most (L.drop at_)
      rw [List.length_drop] at h1
      exact take_any W (HR.out.gr hg) (by have := HR.out.le; omega) (fun h => (h2 h).1)
    rw [show rn 0 most (L.drop at_) = scan most 0 0 (L.drop at_) from rfl]
    generalize scan most 0 0 (L.drop at_) = S at hnu hta ⊢
    obtain ⟨s1, s2, s3⟩ := S
    go_enter Tryd.func22, Tryd.ntmps22
    go_wp2_with (first | (go_at_call 42; refine hf.mono ?_; rintro r w4 ⟨rfl, rfl⟩) | (go_at_call 44; refine hre.mono ?_; rintro r w5 ⟨d, rfl, hd, _, _, hg5⟩; have HD := hid (hd.below hg5.below); have G5 := hid hg5; clear hd hg5) | (go_at_call 43; refine (hnu _ _ HD.out).mono ?_; rintro r w6 ⟨rfl, rfl⟩) | (go_at_call 45; refine (hta _ G5.out).mono ?_; rintro r w7 ⟨rfl, h7, k7⟩; have H7 := hid h7; have K7 := hid k7; clear h7 k7))
    go_ret
    exact ⟨rfl, H7.out, (Kp.of_gr G5.out).trans K7.out (fun _ _ h => h)⟩
  · have hrn : rn e most (L.drop at_) = (0, 0, e) := by unfold rn; rw [if_neg h0]
    rw [hrn]
    rw [decide_eq_true h0] at hf
    clear hrn
    go_enter Tryd.func22, Tryd.ntmps22
    go_wp2_with (first | (go_at_call 42; refine hf.mono ?_; rintro r w4 ⟨rfl, rfl⟩))
    go_ret
    exact ⟨rfl, HR.out, Kp.refl _ _⟩
end Go.Proofs.YtghofmhlmkpkcaaDoor.Wi
