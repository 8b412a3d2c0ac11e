import Derived.Test.YtnpmmodcmfgbjaaGreatMRfr
namespace Go.Proofs.YtnpmmodcmfgbjaaGreat
open Go.RowKit Go.Sort Go.Maps
attribute [local go_sem ↓] Go.wp_at_zero Go.wp_at_succ

/-- Numbers. -/
def EI : El Int where
  k := 1
  enc n := [.int .i64 n]
  len _ := rfl
  one x u hu := by simp at hu; subst hu; rfl
theorem Ls.atI {w : World} {v : Value} {ts : List Int} (h : Ls EI w v ts) {j : Nat} {t : Int} (hj : ts[j]? = some t) :
    ∃ b off c, v = .slice (some ⟨b, off, none⟩) ts.length c ∧ b < w.heap.size ∧ w.cell? ⟨b, off + j, none⟩ = some (.int .i64 t) := by
  obtain ⟨b, off, c, hv, hb, hc⟩ := h.get hj
  have := hc 0 _ (by decide) rfl
  refine ⟨b, off, c, hv, hb, ?_⟩
  have e : off + j * EI.k + 0 = off + j := by show off + j * 1 + 0 = off + j; omega
  rw [e] at this
  exact this
/-- A Multi of the document's: its block, its lists. -/
structure Rm where
  b : Nat
  t : Value
  n : Value
abbrev rmp (r : Rm) : Value := .pointer (some ⟨r.b, 0, none⟩)
def Rm.own (r : Rm) (k : Nat) : Prop := k = r.b ∨ r.t.ownBlock = some k ∨ r.n.ownBlock = some k
structure RM (w : World) (r : Rm) (T : List Tm) (N : List Int) : Prop where
  blk : w.heap[r.b]? = some (.cells #[r.t, r.n] 68 (0, 0))
  tm : w.ownsRow 0 37 3 r.t T.length (flT T)
  ct : w.ownsRow 0 2 1 r.n N.length (fl EI N)
  len : N.length = T.length
  o1 : r.t.ownBlock ≠ some r.b
  o2 : r.n.ownBlock ≠ some r.b
  o3 : ∀ g, r.t.ownBlock = some g → r.n.ownBlock ≠ some g
  nd : T.Nodup
  few : T.length ≤ 1000000
section
variable {w w' : World} {r : Rm} {T : List Tm} {N : List Int}
theorem RM.lt (h : RM w r T N) : r.b < w.heap.size := (Array.getElem?_eq_some_iff.1 h.blk).1
theorem RM.c0 (h : RM w r T N) : w.cell? ⟨r.b, 0, none⟩ = some r.t := by simp [World.cell?, h.blk]
theorem RM.c1 (h : RM w r T N) : w.cell? ⟨r.b, 1, none⟩ = some r.n := by simp [World.cell?, h.blk]
theorem RM.f0 (h : RM w r T N) : w.frozen? ⟨r.b, 0, none⟩ = false := by simp [World.frozen?, h.blk]
theorem RM.f1 (h : RM w r T N) : w.frozen? ⟨r.b, 1, none⟩ = false := by simp [World.frozen?, h.blk]
theorem RM.lsT (h : RM w r T N) : Lst w r.t T := owns_ls (E := ET) h.tm
theorem RM.lsN (h : RM w r T N) : Ls EI w r.n N := owns_ls (E := EI) h.ct
theorem RM.kp {S : Nat → Prop} (h : RM w r T N) (hk : Kp S w w') (hS : ∀ k, r.own k → ¬ S k) : RM w' r T N :=
  ⟨(hk.block r.b h.lt (hS _ (Or.inl rfl))).trans h.blk, owns_kp hk h.tm (fun k hk => hS k (Or.inr (Or.inl hk))), owns_kp hk h.ct (fun k hk => hS k (Or.inr (Or.inr hk))), h.len, h.o1, h.o2, h.o3, h.nd, h.few⟩
theorem RM.bel (h : RM w r T N) (hb : Below w.heap.size w w') : RM w' r T N := h.kp (S := fun _ => False) (Kp.of_below hb) (fun _ _ h => h)
theorem RM.own_lt (h : RM w r T N) : ∀ k, r.own k → k < w.heap.size := fun k hk => by
  rcases hk with rfl | hk | hk
  · exact h.lt
  · exact (h.tm.lt k hk).2
  · exact (h.ct.lt k hk).2
end

/-- The count of a time. -/
def cn (T : List Tm) (N : List Int) (t : Tm) : Int := (N[T.findIdx fun y => decide (y = t)]?).getD 0
theorem cn_at {T : List Tm} {N : List Int} {k : Nat} {t : Tm} {n : Int} (h : T[k]? = some t) (hn : t ∉ T.take k) (hv : N[k]? = some n) : cn T N t = n := by
  obtain ⟨h1, h2⟩ := List.getElem?_eq_some_iff.1 h
  have : (T.findIdx fun y => decide (y = t)) = k := by
    rw [List.findIdx_eq h1]
    refine ⟨by simp [h2], fun j hj => ?_⟩
    have : T[j] ≠ t := fun e => hn (by rw [← e]; exact List.mem_take_iff_getElem.2 ⟨j, by omega, rfl⟩)
    simpa using this
  unfold cn
  rw [this, hv]
  rfl
theorem cn_out {T : List Tm} {N : List Int} {t : Tm} (h : t ∉ T) (hl : N.length = T.length) : cn T N t = 0 := by
  have : (T.findIdx fun y => decide (y = t)) = T.length := List.findIdx_eq_length.2 fun x hx => by
    have : x ≠ t := fun e => h (e ▸ hx)
    simpa using this
  unfold cn
  rw [this, List.getElem?_eq_none (by omega)]
  rfl
theorem nodup_take {T : List Tm} {k : Nat} {t : Tm} (h : T[k]? = some t) (hn : T.Nodup) : t ∉ T.take k := fun hm => by
  obtain ⟨j, hj, e⟩ := List.mem_take_iff_getElem.1 hm
  obtain ⟨h1, h2⟩ := List.getElem?_eq_some_iff.1 h
  have := (List.pairwise_iff_getElem.1 hn) j k (by omega) h1 (by omega)
  exact this (e.trans h2.symm)
/-- The times whose count is such. -/
def sel (p : Int → Bool) (Z : List (Tm × Int)) : List Tm := (Z.filter fun q => p q.2).map Prod.fst
theorem sel_take_succ {p : Int → Bool} {Z : List (Tm × Int)} {k : Nat} {q : Tm × Int} (h : Z[k]? = some q) : sel p (Z.take (k + 1)) = sel p (Z.take k) ++ (if p q.2 then [q.1] else []) := by
  unfold sel
  rw [filter_take_succ h, List.map_append]
  cases p q.2 <;> rfl
theorem sel_length (p : Int → Bool) (Z : List (Tm × Int)) : (sel p Z).length ≤ Z.length := by unfold sel; rw [List.length_map]; exact List.length_filter_le _ _
theorem zip_at {T : List Tm} {N : List Int} {k : Nat} {t : Tm} {n : Int} (h1 : T[k]? = some t) (h2 : N[k]? = some n) : (T.zip N)[k]? = some (t, n) := List.getElem?_zip_eq_some.2 ⟨h1, h2⟩
theorem mem_sel {p : Int → Bool} {T : List Tm} {N : List Int} (hp : p 0 = false) (hn : T.Nodup) (hl : N.length = T.length) (y : Tm) : y ∈ sel p (T.zip N) ↔ p (cn T N y) = true := by
  unfold sel
  rw [List.mem_map]
  constructor
  · rintro ⟨q, hq, rfl⟩
    obtain ⟨h1, h2⟩ := List.mem_filter.1 hq
    obtain ⟨k, hk⟩ := List.getElem?_of_mem h1
    obtain ⟨h3, h4⟩ := List.getElem?_zip_eq_some.1 hk
    rw [cn_at h3 (nodup_take h3 hn) h4]
    exact h2
  · intro h
    by_cases hy : y ∈ T
    · obtain ⟨k, hk⟩ := List.getElem?_of_mem hy
      obtain ⟨n, hN⟩ : ∃ n, N[k]? = some n := ⟨N[k]'(by have := (List.getElem?_eq_some_iff.1 hk).1; omega), by simp⟩
      rw [cn_at hk (nodup_take hk hn) hN] at h
      exact ⟨(y, n), List.mem_filter.2 ⟨List.mem_of_getElem? (zip_at hk hN), h⟩, rfl⟩
    · rw [cn_out hy hl, hp] at h
      cases h

set_option maxHeartbeats 1000000 in
set_option maxRecDepth 100000 in
theorem rcount_any (w : World) (r : Rm) (T : List Tm) (N : List Int) (h : RM w r T N) (x : Tm) :
    Calls Tryz.prog 13 #[rmp r, tv x] w fun e w' => e = .returned (.int .i64 (cn T N x)) ∧ Gr w w' := by
  have hmx : Tryz.prog.follows .mixedOrders = true := by kernel_rfl
  have heq := fun a b c x y z W => run_eqT a b c x y z W
  obtain ⟨rb, vt, vn⟩ := r
  change Calls Tryz.prog 13 #[.pointer (some ⟨rb, 0, none⟩), tv x] w _
  obtain ⟨W1, hW1⟩ : ∃ W1, W1 = w.alloc (.cells #[.int .u64 x.1.1, .int .u64 x.1.2.1, .int .u64 x.1.2.2] 37) := ⟨_, rfl⟩
  obtain ⟨B0, hB0⟩ : ∃ B0, B0 = w.heap.size := ⟨_, rfl⟩
  have G1 : Gr w W1 := by rw [hW1]; exact (Gr.refl _).alloc _
  have HG : Hid (Gr w W1) := G1
  have h1 := h.bel G1.below
  have hlen := h1.len
  have hfew := h1.few
  have c0 : W1.cell? ⟨rb, 0, none⟩ = some vt := h1.c0
  have c1 : W1.cell? ⟨rb, 1, none⟩ = some vn := h1.c1
  have hlt : rb < W1.heap.size := h1.lt
  have HT : Hid (Lst W1 vt T) := h1.lsT
  have HN : Hid (Ls EI W1 vn N) := h1.lsN
  clear h1 h
  obtain ⟨pl, cl, hft⟩ := HT.out.form
  obtain ⟨pn, cc, hfn⟩ := HN.out.form
  subst hft hfn
  have hblk : W1.heap[B0]? = some (.cells #[.int .u64 x.1.1, .int .u64 x.1.2.1, .int .u64 x.1.2.2] 37 (0, 0)) := by rw [hW1, hB0]; exact heap_new' _ _
  have hB : B0 < W1.heap.size := (Array.getElem?_eq_some_iff.1 hblk).1
  have q0 : W1.cell? ⟨B0, 0, none⟩ = some (.int .u64 x.1.1) := by simp only [World.cell?]; rw [hblk]; rfl
  have q1 : W1.cell? ⟨B0, 1, none⟩ = some (.int .u64 x.1.2.1) := by simp only [World.cell?]; rw [hblk]; rfl
  have q2 : W1.cell? ⟨B0, 2, none⟩ = some (.int .u64 x.1.2.2) := by simp only [World.cell?]; rw [hblk]; rfl
  clear hblk G1
  go_enter Tryz.func13, Tryz.ntmps13
  go_wp2_with fail
  rw [← hW1, ← hB0]
  clear hW1 hB0
  go_loopw [5] (fun s5 wr => ∃ k : Nat, k ≤ T.length ∧ s5 = .int .i64 k ∧ Gr W1 wr ∧ Hid (x ∉ T.take k)) (fun s5 _ => T.length - (RowKit.intOf s5).toNat)
  case atStart => exact ⟨0, Nat.zero_le _, rfl, Gr.refl _, by simp [Hid]⟩
  case round =>
    obtain ⟨k, hk, rfl, hgr, A⟩ := hrel
    have r0 := (hgr.cell hlt).trans c0
    have r1 := (hgr.cell hlt).trans c1
    by_cases hkl : k < T.length
    · have hkz : (k : Int) < (T.length : Int) := by omega
      have hnz : (k : Int) < (N.length : Int) := by omega
      obtain ⟨y, hy⟩ : ∃ y, T[k]? = some y := ⟨T[k], by simp⟩
      obtain ⟨n, hn⟩ : ∃ n, N[k]? = some n := ⟨N[k]'(by omega), by simp⟩
      obtain ⟨b1, o1, c1', e1, z1, x1, x2, x3⟩ := (HT.out.below hgr.below).at3 hy
      simp only [Value.slice.injEq] at e1
      obtain ⟨rfl, -, rfl⟩ := e1
      obtain ⟨b2, o2, c2', e2, z2, y1⟩ := (HN.out.below hgr.below).atI hn
      simp only [Value.slice.injEq] at e2
      obtain ⟨rfl, -, rfl⟩ := e2
      have HY : Hid (T[k]? = some y) := hy
      have HNK : Hid (N[k]? = some n) := hn
      have s0 := (hgr.cell hB).trans q0
      have s1 := (hgr.cell hB).trans q1
      have s2 := (hgr.cell hB).trans q2
      clear hy hn
      by_cases hxy : y = x
      · have hq := teq_t hxy
        have HXY : Hid (cn T N x = n) := cn_at (HY.out.trans (congrArg some hxy)) A.out HNK.out
        clear hxy
        go_wp2_with fail
        go_quiet (fail)
        go_wp2
        go_ret
        refine ⟨?_, HG.out.trans (hgr.drewN _)⟩
        rw [HXY.out]
        rfl
      · have hq := teq_f hxy
        have HXY : Hid (y ≠ x) := hxy
        clear hxy
        go_wp2_with fail
        go_quiet (fail)
        go_wp2
        go_roundw
        case rel =>
          refine ⟨k + 1, by omega, by go_num, hgr.drewN _, fun hx => ?_⟩
          rw [List.take_add_one, HY.out] at hx
          rcases List.mem_append.1 hx with h | h
          · exact A.out h
          · simp at h
            exact HXY.out h.symm
        case measure => simp [RowKit.intOf]; omega
    · have hkz : ¬ (k : Int) < (T.length : Int) := by omega
      have hkl : k = T.length := by omega
      subst hkl
      rw [List.take_length] at A
      have HC : Hid (cn T N x = 0) := cn_out A.out hlen
      go_wp2
      go_ret
      refine ⟨?_, HG.out.trans hgr⟩
      rw [HC.out]
      rfl

set_option maxHeartbeats 1000000 in
set_option maxRecDepth 100000 in
theorem rtimes_any (w : World) (r : Rm) (T : List Tm) (N : List Int) (h : RM w r T N) :
    Calls Tryz.prog 15 #[rmp r] w fun e w' => ∃ (v' : Value) (R : List Tm), e = .returned v' ∧ Out w.heap.size w' v' R ∧ (R.Pairwise fun p q => tol p q = true) ∧ (∀ y, y ∈ R ↔ cn T N y ≠ 0) ∧ Below w.heap.size w w' := by
  have hmx : Tryz.prog.follows .mixedOrders = true := by kernel_rfl
  obtain ⟨rb, vt, vn⟩ := r
  change Calls Tryz.prog 15 #[.pointer (some ⟨rb, 0, none⟩)] w _
  obtain ⟨pl, cl, hft⟩ : ∃ p c, vt = .slice p T.length c := h.lsT.form
  obtain ⟨pn, cc, hfn⟩ : ∃ p c, vn = .slice p N.length c := h.lsN.form
  subst hft hfn
  have HR : Hid (RM w ⟨rb, .slice pl T.length cl, .slice pn N.length cc⟩ T N) := h
  have hlen := h.len
  have hfew := h.few
  have hZL : (T.zip N).length = T.length := by rw [List.length_zip]; omega
  clear h
  go_enter Tryz.func15, Tryz.ntmps15
  go_wp2_with fail
  go_loopw [3, 4] (fun s3 s4 wr => ∃ k : Nat, k ≤ T.length ∧ s4 = .int .i64 k ∧ Hid (wr.ownsRow w.heap.size 37 3 s3 (sel (fun n => n != 0) ((T.zip N).take k)).length (flT (sel (fun n => n != 0) ((T.zip N).take k))) ∧ Below w.heap.size w wr)) (fun _ s4 _ => T.length - (RowKit.intOf s4).toNat)
  case atStart => exact ⟨0, Nat.zero_le _, rfl, World.ownsRow_nil _ _ _ _, Below.refl _ _⟩
  case round =>
    obtain ⟨k, hk, rfl, HI⟩ := hrel
    have HB : Hid (Below w.heap.size w wr) := HI.out.2
    have h1 := HR.out.bel HB.out
    have c0 : wr.cell? ⟨rb, 0, none⟩ = some (.slice pl T.length cl) := h1.c0
    have c1 : wr.cell? ⟨rb, 1, none⟩ = some (.slice pn N.length cc) := h1.c1
    have hT : Lst wr (.slice pl T.length cl) T := h1.lsT
    have hN : Ls EI wr (.slice pn N.length cc) N := h1.lsN
    clear h1
    by_cases hkl : k < T.length
    · have hkz : (k : Int) < (T.length : Int) := by omega
      have hnz : (k : Int) < (N.length : Int) := by omega
      obtain ⟨y, hy⟩ : ∃ y, T[k]? = some y := ⟨T[k], by simp⟩
      obtain ⟨n, hn⟩ : ∃ n, N[k]? = some n := ⟨N[k]'(by omega), by simp⟩
      have HS : Hid (sel (fun n => n != 0) ((T.zip N).take (k + 1)) = sel (fun n => n != 0) ((T.zip N).take k) ++ (if (fun n => n != 0) n then [y] else [])) := sel_take_succ (zip_at hy hn)
      have hSL : (sel (fun n => n != 0) ((T.zip N).take k)).length ≤ k := Nat.le_trans (sel_length _ _) (by rw [List.length_take]; omega)
      obtain ⟨b1, o1, c1', e1, z1, x1, x2, x3⟩ := hT.at3 hy
      simp only [Value.slice.injEq] at e1
      obtain ⟨rfl, -, rfl⟩ := e1
      obtain ⟨b2, o2, c2', e2, z2, y1⟩ := hN.atI hn
      simp only [Value.slice.injEq] at e2
      obtain ⟨rfl, -, rfl⟩ := e2
      have HO : Hid (wr.ownsRow w.heap.size 37 3 u3 (sel (fun n => n != 0) ((T.zip N).take k)).length (flT (sel (fun n => n != 0) ((T.zip N).take k)))) := HI.out.1
      clear hy hn hT hN HI
      generalize sel (fun n => n != 0) ((T.zip N).take k) = F at *
      by_cases hp : (fun n => n != 0) n = true
      · have HN2 : Hid (sel (fun n => n != 0) ((T.zip N).take (k + 1)) = F ++ [y]) := by rw [HS.out, hp]; simp [Hid]
        have hq : (n != 0) = true := hp
        have hbz := HB.out.size
        clear HS hp
        go_wp2_with (at_builtin; refine Cn.wpApp1 rfl _ _ rfl w.heap.size _ F.length _ rfl HO.out y rfl (by omega) hbz ?_)
        intro g' cap' w6 ho6 hg6 hl6
        have HE6 : Hid (w6.ownsRow w.heap.size 37 3 (.slice (some ⟨g', 0, none⟩) (F.length + 1) cap') (F ++ [y]).length (flT (F ++ [y])) ∧ Below w.heap.size w w6) := ⟨owns_re ho6 (by simp) (by rw [flT_append, flT_one]), HB.out.trans ((Kp.grownBy (S := fun k => w.heap.size ≤ k) hg6 (fun k hk => (HO.out.lt k hk).1)).below HB.out.size (fun _ h => h))⟩
        clear ho6 hg6 hl6
        go_wp2
        go_roundw
        case rel => exact ⟨k + 1, by omega, by go_num, by rw [HN2.out]; exact HE6.out⟩
        case measure => simp [RowKit.intOf]; omega
      · have HN2 : Hid (sel (fun n => n != 0) ((T.zip N).take (k + 1)) = F) := by rw [HS.out, if_neg hp]; simp [Hid]
        have hq : (n != 0) = false := by simpa using hp
        clear HS hp
        go_wp2
        go_roundw
        case rel => exact ⟨k + 1, by omega, by go_num, by rw [HN2.out]; exact ⟨HO.out, HB.out⟩⟩
        case measure => simp [RowKit.intOf]; omega
    · have hkz : ¬ (k : Int) < (T.length : Int) := by omega
      have hkk : k = T.length := by omega
      subst hkk
      have hSL : (sel (fun n => n != 0) (T.zip N)).length ≤ T.length := Nat.le_trans (sel_length _ _) (by omega)
      rw [List.take_of_length_le (Nat.le_of_eq hZL)] at HI
      have HM : Hid (∀ y, y ∈ sel (fun n => n != 0) (T.zip N) ↔ (fun n => n != 0) (cn T N y) = true) := fun y => mem_sel (by decide) HR.out.nd hlen y
      have hso := rsorted_any u3 (sel (fun n => n != 0) (T.zip N)) wr (owns_ls (E := ET) HI.out.1) (by omega)
      clear HI hT hN
      go_wp2_with fail
      refine hso.mono ?_
      rintro e w9 ⟨v9, R, rfl, ho9, hp9, hm9, hb9⟩
      have HO9 : Hid (Out wr.heap.size w9 v9 R ∧ (R.Pairwise fun p q => tol p q = true) ∧ (∀ y, y ∈ R ↔ cn T N y ≠ 0) ∧ Below w.heap.size w w9) := ⟨ho9, hp9, fun y => by rw [hm9 y, HM.out y]; simp, HB.out.trans (hb9.mono HB.out.size)⟩
      have HWZ : Hid (w.heap.size ≤ wr.heap.size) := HB.out.size
      clear hso ho9 hp9 hm9 hb9 HB
      go_wp2
      go_ret
      obtain ⟨h1, h2⟩ := HO9.out
      exact ⟨_, R, rfl, h1.mono HWZ.out, h2⟩

set_option maxHeartbeats 1000000 in
set_option maxRecDepth 100000 in
theorem rmfront_any (w : World) (r : Rm) (T : List Tm) (N : List Int) (h : RM w r T N) :
    Calls Tryz.prog 9 #[rmp r] w fun e w' => ∃ (v' : Value) (R : List Tm), e = .returned v' ∧ Out w.heap.size w' v' R ∧ (R.Pairwise fun p q => tol p q = true) ∧ (∀ y, y ∈ R ↔ 0 < cn T N y ∧ ∀ z, 0 < cn T N z → bel z y = true → z = y) ∧ Below w.heap.size w w' := by
  have hmx : Tryz.prog.follows .mixedOrders = true := by kernel_rfl
  obtain ⟨rb, vt, vn⟩ := r
  change Calls Tryz.prog 9 #[.pointer (some ⟨rb, 0, none⟩)] w _
  obtain ⟨pl, cl, hft⟩ : ∃ p c, vt = .slice p T.length c := h.lsT.form
  obtain ⟨pn, cc, hfn⟩ : ∃ p c, vn = .slice p N.length c := h.lsN.form
  subst hft hfn
  have HR : Hid (RM w ⟨rb, .slice pl T.length cl, .slice pn N.length cc⟩ T N) := h
  have hlen := h.len
  have hfew := h.few
  have hZL : (T.zip N).length = T.length := by rw [List.length_zip]; omega
  clear h
  go_enter Tryz.func9, Tryz.ntmps9
  go_wp2_with fail
  go_loopw [3, 4] (fun s3 s4 wr => ∃ k : Nat, k ≤ T.length ∧ s4 = .int .i64 k ∧ Hid (wr.ownsRow w.heap.size 37 3 s3 (sel (fun n => decide (0 < n)) ((T.zip N).take k)).length (flT (sel (fun n => decide (0 < n)) ((T.zip N).take k))) ∧ Below w.heap.size w wr)) (fun _ s4 _ => T.length - (RowKit.intOf s4).toNat)
  case atStart => exact ⟨0, Nat.zero_le _, rfl, World.ownsRow_nil _ _ _ _, Below.refl _ _⟩
  case round =>
    obtain ⟨k, hk, rfl, HI⟩ := hrel
    have HB : Hid (Below w.heap.size w wr) := HI.out.2
    have h1 := HR.out.bel HB.out
    have c0 : wr.cell? ⟨rb, 0, none⟩ = some (.slice pl T.length cl) := h1.c0
    have c1 : wr.cell? ⟨rb, 1, none⟩ = some (.slice pn N.length cc) := h1.c1
    have hT : Lst wr (.slice pl T.length cl) T := h1.lsT
    have hN : Ls EI wr (.slice pn N.length cc) N := h1.lsN
    clear h1
    by_cases hkl : k < T.length
    · have hkz : (k : Int) < (T.length : Int) := by omega
      have hnz : (k : Int) < (N.length : Int) := by omega
      obtain ⟨y, hy⟩ : ∃ y, T[k]? = some y := ⟨T[k], by simp⟩
      obtain ⟨n, hn⟩ : ∃ n, N[k]? = some n := ⟨N[k]'(by omega), by simp⟩
      have HS : Hid (sel (fun n => decide (0 < n)) ((T.zip N).take (k + 1)) = sel (fun n => decide (0 < n)) ((T.zip N).take k) ++ (if (fun n => decide (0 < n)) n then [y] else [])) := sel_take_succ (zip_at hy hn)
      have hSL : (sel (fun n => decide (0 < n)) ((T.zip N).take k)).length ≤ k := Nat.le_trans (sel_length _ _) (by rw [List.length_take]; omega)
      obtain ⟨b1, o1, c1', e1, z1, x1, x2, x3⟩ := hT.at3 hy
      simp only [Value.slice.injEq] at e1
      obtain ⟨rfl, -, rfl⟩ := e1
      obtain ⟨b2, o2, c2', e2, z2, y1⟩ := hN.atI hn
      simp only [Value.slice.injEq] at e2
      obtain ⟨rfl, -, rfl⟩ := e2
      have HO : Hid (wr.ownsRow w.heap.size 37 3 u3 (sel (fun n => decide (0 < n)) ((T.zip N).take k)).length (flT (sel (fun n => decide (0 < n)) ((T.zip N).take k)))) := HI.out.1
      clear hy hn hT hN HI
      generalize sel (fun n => decide (0 < n)) ((T.zip N).take k) = F at *
      by_cases hp : (fun n => decide (0 < n)) n = true
      · have HN2 : Hid (sel (fun n => decide (0 < n)) ((T.zip N).take (k + 1)) = F ++ [y]) := by rw [HS.out, hp]; simp [Hid]
        have hq : 0 < n := of_decide_eq_true hp
        have hbz := HB.out.size
        clear HS hp
        go_wp2_with (at_builtin; refine Cn.wpApp1 rfl _ _ rfl w.heap.size _ F.length _ rfl HO.out y rfl (by omega) hbz ?_)
        intro g' cap' w6 ho6 hg6 hl6
        have HE6 : Hid (w6.ownsRow w.heap.size 37 3 (.slice (some ⟨g', 0, none⟩) (F.length + 1) cap') (F ++ [y]).length (flT (F ++ [y])) ∧ Below w.heap.size w w6) := ⟨owns_re ho6 (by simp) (by rw [flT_append, flT_one]), HB.out.trans ((Kp.grownBy (S := fun k => w.heap.size ≤ k) hg6 (fun k hk => (HO.out.lt k hk).1)).below HB.out.size (fun _ h => h))⟩
        clear ho6 hg6 hl6
        go_wp2
        go_roundw
        case rel => exact ⟨k + 1, by omega, by go_num, by rw [HN2.out]; exact HE6.out⟩
        case measure => simp [RowKit.intOf]; omega
      · have HN2 : Hid (sel (fun n => decide (0 < n)) ((T.zip N).take (k + 1)) = F) := by rw [HS.out, if_neg hp]; simp [Hid]
        have hq : ¬ 0 < n := fun e => hp (decide_eq_true e)
        clear HS hp
        go_wp2
        go_roundw
        case rel => exact ⟨k + 1, by omega, by go_num, by rw [HN2.out]; exact ⟨HO.out, HB.out⟩⟩
        case measure => simp [RowKit.intOf]; omega
    · have hkz : ¬ (k : Int) < (T.length : Int) := by omega
      have hkk : k = T.length := by omega
      subst hkk
      have hSL : (sel (fun n => decide (0 < n)) (T.zip N)).length ≤ T.length := Nat.le_trans (sel_length _ _) (by omega)
      rw [List.take_of_length_le (Nat.le_of_eq hZL)] at HI
      have HM : Hid (∀ y, y ∈ sel (fun n => decide (0 < n)) (T.zip N) ↔ (fun n => decide (0 < n)) (cn T N y) = true) := fun y => mem_sel (by decide) HR.out.nd hlen y
      have hso := rfront_any u3 (sel (fun n => decide (0 < n)) (T.zip N)) wr (owns_ls (E := ET) HI.out.1) (by omega)
      clear HI hT hN
      go_wp2_with fail
      refine hso.mono ?_
      rintro e w9 ⟨v9, R, rfl, ho9, hp9, hm9, hb9⟩
      have HO9 : Hid (Out wr.heap.size w9 v9 R ∧ (R.Pairwise fun p q => tol p q = true) ∧ (∀ y, y ∈ R ↔ 0 < cn T N y ∧ ∀ z, 0 < cn T N z → bel z y = true → z = y) ∧ Below w.heap.size w w9) := ⟨ho9, hp9, fun y => by rw [hm9 y, HM.out y]; simp only [HM.out, decide_eq_true_eq], HB.out.trans (hb9.mono HB.out.size)⟩
      have HWZ : Hid (w.heap.size ≤ wr.heap.size) := HB.out.size
      clear hso ho9 hp9 hm9 hb9 HB
      go_wp2
      go_ret
      obtain ⟨h1, h2⟩ := HO9.out
      exact ⟨_, R, rfl, h1.mono HWZ.out, h2⟩
end Go.Proofs.YtnpmmodcmfgbjaaGreat
