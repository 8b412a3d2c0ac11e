import Derived.Test.YtbdkjcfkocdhfaaGreatJ2
import Derived.Deep.RegionLaw
namespace Go.Proofs.YtbdkjcfkocdhfaaGreat
open Go.RowKit Go.Sort Go.Maps
attribute [local go_sem ↓] Go.wp_at_zero Go.wp_at_succ

/-- Numbers. -/
def EI : El Int where
  k := 1
  enc n := [.int .i64 n]
  len _ := rfl
  one x u hu := by simp at hu; subst hu; rfl
theorem Ls.atI {w : World} {v : Value} {ts : List Int} (h : Ls EI w v ts) {j : Nat} {t : Int} (hj : ts[j]? = some t) :
    ∃ b off c, v = .slice (some ⟨b, off, none⟩) ts.length c ∧ b < w.heap.size ∧ w.cell? ⟨b, off + j, none⟩ = some (.int .i64 t) := by
  obtain ⟨b, off, c, hv, hb, hc⟩ := h.get hj
  have := hc 0 _ (by decide) rfl
  refine ⟨b, off, c, hv, hb, ?_⟩
  have e : off + j * EI.k + 0 = off + j := by show off + j * 1 + 0 = off + j; omega
  rw [e] at this
  exact this
/-- A Multi of the document's: its block, its lists. -/
structure Rm where
  b : Nat
  t : Value
  n : Value
abbrev rmp (r : Rm) : Value := .pointer (some ⟨r.b, 0, none⟩)
def Rm.own (r : Rm) (k : Nat) : Prop := k = r.b ∨ r.t.ownBlock = some k ∨ r.n.ownBlock = some k
structure RM (w : World) (r : Rm) (T : List Tm) (N : List Int) : Prop where
  blk : w.heap[r.b]? = some (.cells #[r.t, r.n] 77 (0, 0))
  tm : w.ownsRow 0 32 3 r.t T.length (flT T)
  ct : w.ownsRow 0 2 1 r.n N.length (fl EI N)
  len : N.length = T.length
  o1 : r.t.ownBlock ≠ some r.b
  o2 : r.n.ownBlock ≠ some r.b
  o3 : ∀ g, r.t.ownBlock = some g → r.n.ownBlock ≠ some g
  nd : T.Nodup
  few : T.length ≤ 1000000
section
variable {w w' : World} {r : Rm} {T : List Tm} {N : List Int}
theorem RM.lt (h : RM w r T N) : r.b < w.heap.size := (Array.getElem?_eq_some_iff.1 h.blk).1
theorem RM.c0 (h : RM w r T N) : w.cell? ⟨r.b, 0, none⟩ = some r.t := by simp [World.cell?, h.blk]
theorem RM.c1 (h : RM w r T N) : w.cell? ⟨r.b, 1, none⟩ = some r.n := by simp [World.cell?, h.blk]
theorem RM.f0 (h : RM w r T N) : w.frozen? ⟨r.b, 0, none⟩ = false := by simp [World.frozen?, h.blk]
theorem RM.f1 (h : RM w r T N) : w.frozen? ⟨r.b, 1, none⟩ = false := by simp [World.frozen?, h.blk]
theorem RM.lsT (h : RM w r T N) : Lst w r.t T := owns_ls (E := ET) h.tm
theorem RM.lsN (h : RM w r T N) : Ls EI w r.n N := owns_ls (E := EI) h.ct
theorem RM.kp {S : Nat → Prop} (h : RM w r T N) (hk : Kp S w w') (hS : ∀ k, r.own k → ¬ S k) : RM w' r T N :=
  ⟨(hk.block r.b h.lt (hS _ (Or.inl rfl))).trans h.blk, owns_kp hk h.tm (fun k hk => hS k (Or.inr (Or.inl hk))), owns_kp hk h.ct (fun k hk => hS k (Or.inr (Or.inr hk))), h.len, h.o1, h.o2, h.o3, h.nd, h.few⟩
theorem RM.bel (h : RM w r T N) (hb : Below w.heap.size w w') : RM w' r T N := h.kp (S := fun _ => False) (Kp.of_below hb) (fun _ _ h => h)
theorem RM.own_lt (h : RM w r T N) : ∀ k, r.own k → k < w.heap.size := fun k hk => by
  rcases hk with rfl | hk | hk
  · exact h.lt
  · exact (h.tm.lt k hk).2
  · exact (h.ct.lt k hk).2
end

/-- The count of a time. -/
def cn (T : List Tm) (N : List Int) (t : Tm) : Int := (N[T.findIdx fun y => decide (y = t)]?).getD 0
theorem cn_at {T : List Tm} {N : List Int} {k : Nat} {t : Tm} {n : Int} (h : T[k]? = some t) (hn : t ∉ T.take k) (hv : N[k]? = some n) : cn T N t = n := by
  obtain ⟨h1, h2⟩ := List.getElem?_eq_some_iff.1 h
  have : (T.findIdx fun y => decide (y = t)) = k := by
    rw [List.findIdx_eq h1]
    refine ⟨by simp [h2], fun j hj => ?_⟩
    have : T[j] ≠ t := fun e => hn (by rw [← e]; exact List.mem_take_iff_getElem.2 ⟨j, by omega, rfl⟩)
    simpa using this
  unfold cn
  rw [this, hv]
  rfl
theorem cn_out {T : List Tm} {N : List Int} {t : Tm} (h : t ∉ T) (hl : N.length = T.length) : cn T N t = 0 := by
  have : (T.findIdx fun y => decide (y = t)) = T.length := List.findIdx_eq_length.2 fun x hx => by
    have : x ≠ t := fun e => h (e ▸ hx)
    simpa using this
  unfold cn
  rw [this, List.getElem?_eq_none (by omega)]
  rfl
theorem nodup_take {T : List Tm} {k : Nat} {t : Tm} (h : T[k]? = some t) (hn : T.Nodup) : t ∉ T.take k := fun hm => by
  obtain ⟨j, hj, e⟩ := List.mem_take_iff_getElem.1 hm
  obtain ⟨h1, h2⟩ := List.getElem?_eq_some_iff.1 h
  have := (List.pairwise_iff_getElem.1 hn) j k (by omega) h1 (by omega)
  exact this (e.trans h2.symm)
/-- The times whose count is such. -/
def sel (p : Int → Bool) (Z : List (Tm × Int)) : List Tm := (Z.filter fun q => p q.2).map Prod.fst
theorem sel_take_succ {p : Int → Bool} {Z : List (Tm × Int)} {k : Nat} {q : Tm × Int} (h : Z[k]? = some q) : sel p (Z.take (k + 1)) = sel p (Z.take k) ++ (if p q.2 then [q.1] else []) := by
  unfold sel
  rw [filter_take_succ h, List.map_append]
  cases p q.2 <;> rfl
theorem sel_length (p : Int → Bool) (Z : List (Tm × Int)) : (sel p Z).length ≤ Z.length := by unfold sel; rw [List.length_map]; exact List.length_filter_le _ _
theorem zip_at {T : List Tm} {N : List Int} {k : Nat} {t : Tm} {n : Int} (h1 : T[k]? = some t) (h2 : N[k]? = some n) : (T.zip N)[k]? = some (t, n) := List.getElem?_zip_eq_some.2 ⟨h1, h2⟩
theorem mem_sel {p : Int → Bool} {T : List Tm} {N : List Int} (hp : p 0 = false) (hn : T.Nodup) (hl : N.length = T.length) (y : Tm) : y ∈ sel p (T.zip N) ↔ p (cn T N y) = true := by
  unfold sel
  rw [List.mem_map]
  constructor
  · rintro ⟨q, hq, rfl⟩
    obtain ⟨h1, h2⟩ := List.mem_filter.1 hq
    obtain ⟨k, hk⟩ := List.getElem?_of_mem h1
    obtain ⟨h3, h4⟩ := List.getElem?_zip_eq_some.1 hk
    rw [cn_at h3 (nodup_take h3 hn) h4]
    exact h2
  · intro h
    by_cases hy : y ∈ T
    · obtain ⟨k, hk⟩ := List.getElem?_of_mem hy
      obtain ⟨n, hN⟩ : ∃ n, N[k]? = some n := ⟨N[k]'(by have := (List.getElem?_eq_some_iff.1 hk).1; omega), by simp⟩
      rw [cn_at hk (nodup_take hk hn) hN] at h
      exact ⟨(y, n), List.mem_filter.2 ⟨List.mem_of_getElem? (zip_at hk hN), h⟩, rfl⟩
    · rw [cn_out hy hl, hp] at h
      cases h

set_option maxHeartbeats 1000000 in
set_option maxRecDepth 100000 in
theorem rcount_any (w : World) (r : Rm) (T : List Tm) (N : List Int) (h : RM w r T N) (x : Tm) :
    Calls Tryz.prog 25 #[rmp r, tv x] w fun e w' => e = .returned (.int .i64 (cn T N x)) ∧ Gr w w' := by
  have hmx : Tryz.prog.follows .mixedOrders = true := by kernel_rfl
  have heq := fun a b c x y z W => run_eqT a b c x y z W
  obtain ⟨rb, vt, vn⟩ := r
  change Calls Tryz.prog 25 #[.pointer (some ⟨rb, 0, none⟩), tv x] w _
  obtain ⟨W1, hW1⟩ : ∃ W1, W1 = w.alloc (.cells #[.int .u64 x.1.1, .int .u64 x.1.2.1, .int .u64 x.1.2.2] 32) := ⟨_, rfl⟩
  obtain ⟨B0, hB0⟩ : ∃ B0, B0 = w.heap.size := ⟨_, rfl⟩
  have G1 : Gr w W1 := by rw [hW1]; exact (Gr.refl _).alloc _
  have HG : Hid (Gr w W1) := G1
  have h1 := h.bel G1.below
  have hlen := h1.len
  have hfew := h1.few
  have c0 : W1.cell? ⟨rb, 0, none⟩ = some vt := h1.c0
  have c1 : W1.cell? ⟨rb, 1, none⟩ = some vn := h1.c1
  have hlt : rb < W1.heap.size := h1.lt
  have HT : Hid (Lst W1 vt T) := h1.lsT
  have HN : Hid (Ls EI W1 vn N) := h1.lsN
  clear h1 h
  obtain ⟨pl, cl, hft⟩ := HT.out.form
  obtain ⟨pn, cc, hfn⟩ := HN.out.form
  subst hft hfn
  have hblk : W1.heap[B0]? = some (.cells #[.int .u64 x.1.1, .int .u64 x.1.2.1, .int .u64 x.1.2.2] 32 (0, 0)) := by rw [hW1, hB0]; exact heap_new' _ _
  have hB : B0 < W1.heap.size := (Array.getElem?_eq_some_iff.1 hblk).1
  have q0 : W1.cell? ⟨B0, 0, none⟩ = some (.int .u64 x.1.1) := by simp only [World.cell?]; rw [hblk]; rfl
  have q1 : W1.cell? ⟨B0, 1, none⟩ = some (.int .u64 x.1.2.1) := by simp only [World.cell?]; rw [hblk]; rfl
  have q2 : W1.cell? ⟨B0, 2, none⟩ = some (.int .u64 x.1.2.2) := by simp only [World.cell?]; rw [hblk]; rfl
  clear hblk G1
  go_enter Tryz.func25, Tryz.ntmps25
  go_wp2_with fail
  rw [← hW1, ← hB0]
  clear hW1 hB0
  go_loopw [5] (fun s5 wr => ∃ k : Nat, k ≤ T.length ∧ s5 = .int .i64 k ∧ Gr W1 wr ∧ Hid (x ∉ T.take k)) (fun s5 _ => T.length - (RowKit.intOf s5).toNat)
  case atStart => exact ⟨0, Nat.zero_le _, rfl, Gr.refl _, by simp [Hid]⟩
  case round =>
    obtain ⟨k, hk, rfl, hgr, A⟩ := hrel
    have r0 := (hgr.cell hlt).trans c0
    have r1 := (hgr.cell hlt).trans c1
    by_cases hkl : k < T.length
    · have hkz : (k : Int) < (T.length : Int) := by omega
      have hnz : (k : Int) < (N.length : Int) := by omega
      obtain ⟨y, hy⟩ : ∃ y, T[k]? = some y := ⟨T[k], by simp⟩
      obtain ⟨n, hn⟩ : ∃ n, N[k]? = some n := ⟨N[k]'(by omega), by simp⟩
      obtain ⟨b1, o1, c1', e1, z1, x1, x2, x3⟩ := (HT.out.below hgr.below).at3 hy
      simp only [Value.slice.injEq] at e1
      obtain ⟨rfl, -, rfl⟩ := e1
      obtain ⟨b2, o2, c2', e2, z2, y1⟩ := (HN.out.below hgr.below).atI hn
      simp only [Value.slice.injEq] at e2
      obtain ⟨rfl, -, rfl⟩ := e2
      have HY : Hid (T[k]? = some y) := hy
      have HNK : Hid (N[k]? = some n) := hn
      have s0 := (hgr.cell hB).trans q0
      have s1 := (hgr.cell hB).trans q1
      have s2 := (hgr.cell hB).trans q2
      clear hy hn
      by_cases hxy : y = x
      · have hq := teq_t hxy
        have HXY : Hid (cn T N x = n) := cn_at (HY.out.trans (congrArg some hxy)) A.out HNK.out
        clear hxy
        go_wp2_with fail
        go_quiet (fail)
        go_wp2
        go_ret
        refine ⟨?_, HG.out.trans (hgr.drewN _)⟩
        rw [HXY.out]
        rfl
      · have hq := teq_f hxy
        have HXY : Hid (y ≠ x) := hxy
        clear hxy
        go_wp2_with fail
        go_quiet (fail)
        go_wp2
        go_roundw
        case rel =>
          refine ⟨k + 1, by omega, by go_num, hgr.drewN _, fun hx => ?_⟩
          rw [List.take_add_one, HY.out] at hx
          rcases List.mem_append.1 hx with h | h
          · exact A.out h
          · simp at h
            exact HXY.out h.symm
        case measure => simp [RowKit.intOf]; omega
    · have hkz : ¬ (k : Int) < (T.length : Int) := by omega
      have hkl : k = T.length := by omega
      subst hkl
      rw [List.take_length] at A
      have HC : Hid (cn T N x = 0) := cn_out A.out hlen
      go_wp2
      go_ret
      refine ⟨?_, HG.out.trans hgr⟩
      rw [HC.out]
      rfl

set_option maxHeartbeats 1000000 in
set_option maxRecDepth 100000 in
theorem rtimes_any (w : World) (r : Rm) (T : List Tm) (N : List Int) (h : RM w r T N) :
    Calls Tryz.prog 26 #[rmp r] w fun e w' => ∃ (v' : Value) (R : List Tm), e = .returned v' ∧ Out w.heap.size w' v' R ∧ (R.Pairwise fun p q => tol p q = true) ∧ (∀ y, y ∈ R ↔ cn T N y ≠ 0) ∧ Below w.heap.size w w' := by
  have hmx : Tryz.prog.follows .mixedOrders = true := by kernel_rfl
  obtain ⟨rb, vt, vn⟩ := r
  change Calls Tryz.prog 26 #[.pointer (some ⟨rb, 0, none⟩)] w _
  obtain ⟨pl, cl, hft⟩ : ∃ p c, vt = .slice p T.length c := h.lsT.form
  obtain ⟨pn, cc, hfn⟩ : ∃ p c, vn = .slice p N.length c := h.lsN.form
  subst hft hfn
  have HR : Hid (RM w ⟨rb, .slice pl T.length cl, .slice pn N.length cc⟩ T N) := h
  have hlen := h.len
  have hfew := h.few
  have hZL : (T.zip N).length = T.length := by rw [List.length_zip]; omega
  clear h
  go_enter Tryz.func26, Tryz.ntmps26
  go_wp2_with fail
  go_loopw [3, 4] (fun s3 s4 wr => ∃ k : Nat, k ≤ T.length ∧ s4 = .int .i64 k ∧ Hid (wr.ownsRow w.heap.size 32 3 s3 (sel (fun n => n != 0) ((T.zip N).take k)).length (flT (sel (fun n => n != 0) ((T.zip N).take k))) ∧ Below w.heap.size w wr)) (fun _ s4 _ => T.length - (RowKit.intOf s4).toNat)
  case atStart => exact ⟨0, Nat.zero_le _, rfl, World.ownsRow_nil _ _ _ _, Below.refl _ _⟩
  case round =>
    obtain ⟨k, hk, rfl, HI⟩ := hrel
    have HB : Hid (Below w.heap.size w wr) := HI.out.2
    have h1 := HR.out.bel HB.out
    have c0 : wr.cell? ⟨rb, 0, none⟩ = some (.slice pl T.length cl) := h1.c0
    have c1 : wr.cell? ⟨rb, 1, none⟩ = some (.slice pn N.length cc) := h1.c1
    have hT : Lst wr (.slice pl T.length cl) T := h1.lsT
    have hN : Ls EI wr (.slice pn N.length cc) N := h1.lsN
    clear h1
    by_cases hkl : k < T.length
    · have hkz : (k : Int) < (T.length : Int) := by omega
      have hnz : (k : Int) < (N.length : Int) := by omega
      obtain ⟨y, hy⟩ : ∃ y, T[k]? = some y := ⟨T[k], by simp⟩
      obtain ⟨n, hn⟩ : ∃ n, N[k]? = some n := ⟨N[k]'(by omega), by simp⟩
      have HS : Hid (sel (fun n => n != 0) ((T.zip N).take (k + 1)) = sel (fun n => n != 0) ((T.zip N).take k) ++ (if (fun n => n != 0) n then [y] else [])) := sel_take_succ (zip_at hy hn)
      have hSL : (sel (fun n => n != 0) ((T.zip N).take k)).length ≤ k := Nat.le_trans (sel_length _ _) (by rw [List.length_take]; omega)
      obtain ⟨b1, o1, c1', e1, z1, x1, x2, x3⟩ := hT.at3 hy
      simp only [Value.slice.injEq] at e1
      obtain ⟨rfl, -, rfl⟩ := e1
      obtain ⟨b2, o2, c2', e2, z2, y1⟩ := hN.atI hn
      simp only [Value.slice.injEq] at e2
      obtain ⟨rfl, -, rfl⟩ := e2
      have HO : Hid (wr.ownsRow w.heap.size 32 3 u3 (sel (fun n => n != 0) ((T.zip N).take k)).length (flT (sel (fun n => n != 0) ((T.zip N).take k)))) := HI.out.1
      clear hy hn hT hN HI
      generalize sel (fun n => n != 0) ((T.zip N).take k) = F at *
      by_cases hp : (fun n => n != 0) n = true
      · have HN2 : Hid (sel (fun n => n != 0) ((T.zip N).take (k + 1)) = F ++ [y]) := by rw [HS.out, hp]; simp [Hid]
        have hq : (n != 0) = true := hp
        have hbz := HB.out.size
        clear HS hp
        go_wp2_with (at_builtin; refine Cn.wpApp1 rfl _ _ rfl w.heap.size _ F.length _ rfl HO.out y rfl (by omega) hbz ?_)
        intro g' cap' w6 ho6 hg6 hl6
        have HE6 : Hid (w6.ownsRow w.heap.size 32 3 (.slice (some ⟨g', 0, none⟩) (F.length + 1) cap') (F ++ [y]).length (flT (F ++ [y])) ∧ Below w.heap.size w w6) := ⟨owns_re ho6 (by simp) (by rw [flT_append, flT_one]), HB.out.trans ((Kp.grownBy (S := fun k => w.heap.size ≤ k) hg6 (fun k hk => (HO.out.lt k hk).1)).below HB.out.size (fun _ h => h))⟩
        clear ho6 hg6 hl6
        go_wp2
        go_roundw
        case rel => exact ⟨k + 1, by omega, by go_num, by rw [HN2.out]; exact HE6.out⟩
        case measure => simp [RowKit.intOf]; omega
      · have HN2 : Hid (sel (fun n => n != 0) ((T.zip N).take (k + 1)) = F) := by rw [HS.out, if_neg hp]; simp [Hid]
        have hq : (n != 0) = false := by simpa using hp
        clear HS hp
        go_wp2
        go_roundw
        case rel => exact ⟨k + 1, by omega, by go_num, by rw [HN2.out]; exact ⟨HO.out, HB.out⟩⟩
        case measure => simp [RowKit.intOf]; omega
    · have hkz : ¬ (k : Int) < (T.length : Int) := by omega
      have hkk : k = T.length := by omega
      subst hkk
      have hSL : (sel (fun n => n != 0) (T.zip N)).length ≤ T.length := Nat.le_trans (sel_length _ _) (by omega)
      rw [List.take_of_length_le (Nat.le_of_eq hZL)] at HI
      have HM : Hid (∀ y, y ∈ sel (fun n => n != 0) (T.zip N) ↔ (fun n => n != 0) (cn T N y) = true) := fun y => mem_sel (by decide) HR.out.nd hlen y
      have hso := rsorted_any u3 (sel (fun n => n != 0) (T.zip N)) wr (owns_ls (E := ET) HI.out.1) (by omega)
      clear HI hT hN
      go_wp2_with fail
      refine hso.mono ?_
      rintro e w9 ⟨v9, R, rfl, ho9, hp9, hm9, hb9⟩
      have HO9 : Hid (Out wr.heap.size w9 v9 R ∧ (R.Pairwise fun p q => tol p q = true) ∧ (∀ y, y ∈ R ↔ cn T N y ≠ 0) ∧ Below w.heap.size w w9) := ⟨ho9, hp9, fun y => by rw [hm9 y, HM.out y]; simp, HB.out.trans (hb9.mono HB.out.size)⟩
      have HWZ : Hid (w.heap.size ≤ wr.heap.size) := HB.out.size
      clear hso ho9 hp9 hm9 hb9 HB
      go_wp2
      go_ret
      obtain ⟨h1, h2⟩ := HO9.out
      exact ⟨_, R, rfl, h1.mono HWZ.out, h2⟩

set_option maxHeartbeats 1000000 in
set_option maxRecDepth 100000 in
theorem rmfront_any (w : World) (r : Rm) (T : List Tm) (N : List Int) (h : RM w r T N) :
    Calls Tryz.prog 24 #[rmp r] w fun e w' => ∃ (v' : Value) (R : List Tm), e = .returned v' ∧ Out w.heap.size w' v' R ∧ (R.Pairwise fun p q => tol p q = true) ∧ (∀ y, y ∈ R ↔ 0 < cn T N y ∧ ∀ z, 0 < cn T N z → bel z y = true → z = y) ∧ Below w.heap.size w w' := by
  have hmx : Tryz.prog.follows .mixedOrders = true := by kernel_rfl
  obtain ⟨rb, vt, vn⟩ := r
  change Calls Tryz.prog 24 #[.pointer (some ⟨rb, 0, none⟩)] w _
  obtain ⟨pl, cl, hft⟩ : ∃ p c, vt = .slice p T.length c := h.lsT.form
  obtain ⟨pn, cc, hfn⟩ : ∃ p c, vn = .slice p N.length c := h.lsN.form
  subst hft hfn
  have HR : Hid (RM w ⟨rb, .slice pl T.length cl, .slice pn N.length cc⟩ T N) := h
  have hlen := h.len
  have hfew := h.few
  have hZL : (T.zip N).length = T.length := by rw [List.length_zip]; omega
  clear h
  go_enter Tryz.func24, Tryz.ntmps24
  go_wp2_with fail
  go_loopw [3, 4] (fun s3 s4 wr => ∃ k : Nat, k ≤ T.length ∧ s4 = .int .i64 k ∧ Hid (wr.ownsRow w.heap.size 32 3 s3 (sel (fun n => decide (0 < n)) ((T.zip N).take k)).length (flT (sel (fun n => decide (0 < n)) ((T.zip N).take k))) ∧ Below w.heap.size w wr)) (fun _ s4 _ => T.length - (RowKit.intOf s4).toNat)
  case atStart => exact ⟨0, Nat.zero_le _, rfl, World.ownsRow_nil _ _ _ _, Below.refl _ _⟩
  case round =>
    obtain ⟨k, hk, rfl, HI⟩ := hrel
    have HB : Hid (Below w.heap.size w wr) := HI.out.2
    have h1 := HR.out.bel HB.out
    have c0 : wr.cell? ⟨rb, 0, none⟩ = some (.slice pl T.length cl) := h1.c0
    have c1 : wr.cell? ⟨rb, 1, none⟩ = some (.slice pn N.length cc) := h1.c1
    have hT : Lst wr (.slice pl T.length cl) T := h1.lsT
    have hN : Ls EI wr (.slice pn N.length cc) N := h1.lsN
    clear h1
    by_cases hkl : k < T.length
    · have hkz : (k : Int) < (T.length : Int) := by omega
      have hnz : (k : Int) < (N.length : Int) := by omega
      obtain ⟨y, hy⟩ : ∃ y, T[k]? = some y := ⟨T[k], by simp⟩
      obtain ⟨n, hn⟩ : ∃ n, N[k]? = some n := ⟨N[k]'(by omega), by simp⟩
      have HS : Hid (sel (fun n => decide (0 < n)) ((T.zip N).take (k + 1)) = sel (fun n => decide (0 < n)) ((T.zip N).take k) ++ (if (fun n => decide (0 < n)) n then [y] else [])) := sel_take_succ (zip_at hy hn)
      have hSL : (sel (fun n => decide (0 < n)) ((T.zip N).take k)).length ≤ k := Nat.le_trans (sel_length _ _) (by rw [List.length_take]; omega)
      obtain ⟨b1, o1, c1', e1, z1, x1, x2, x3⟩ := hT.at3 hy
      simp only [Value.slice.injEq] at e1
      obtain ⟨rfl, -, rfl⟩ := e1
      obtain ⟨b2, o2, c2', e2, z2, y1⟩ := hN.atI hn
      simp only [Value.slice.injEq] at e2
      obtain ⟨rfl, -, rfl⟩ := e2
      have HO : Hid (wr.ownsRow w.heap.size 32 3 u3 (sel (fun n => decide (0 < n)) ((T.zip N).take k)).length (flT (sel (fun n => decide (0 < n)) ((T.zip N).take k)))) := HI.out.1
      clear hy hn hT hN HI
      generalize sel (fun n => decide (0 < n)) ((T.zip N).take k) = F at *
      by_cases hp : (fun n => decide (0 < n)) n = true
      · have HN2 : Hid (sel (fun n => decide (0 < n)) ((T.zip N).take (k + 1)) = F ++ [y]) := by rw [HS.out, hp]; simp [Hid]
        have hq : 0 < n := of_decide_eq_true hp
        have hbz := HB.out.size
        clear HS hp
        go_wp2_with (at_builtin; refine Cn.wpApp1 rfl _ _ rfl w.heap.size _ F.length _ rfl HO.out y rfl (by omega) hbz ?_)
        intro g' cap' w6 ho6 hg6 hl6
        have HE6 : Hid (w6.ownsRow w.heap.size 32 3 (.slice (some ⟨g', 0, none⟩) (F.length + 1) cap') (F ++ [y]).length (flT (F ++ [y])) ∧ Below w.heap.size w w6) := ⟨owns_re ho6 (by simp) (by rw [flT_append, flT_one]), HB.out.trans ((Kp.grownBy (S := fun k => w.heap.size ≤ k) hg6 (fun k hk => (HO.out.lt k hk).1)).below HB.out.size (fun _ h => h))⟩
        clear ho6 hg6 hl6
        go_wp2
        go_roundw
        case rel => exact ⟨k + 1, by omega, by go_num, by rw [HN2.out]; exact HE6.out⟩
        case measure => simp [RowKit.intOf]; omega
      · have HN2 : Hid (sel (fun n => decide (0 < n)) ((T.zip N).take (k + 1)) = F) := by rw [HS.out, if_neg hp]; simp [Hid]
        have hq : ¬ 0 < n := fun e => hp (decide_eq_true e)
        clear HS hp
        go_wp2
        go_roundw
        case rel => exact ⟨k + 1, by omega, by go_num, by rw [HN2.out]; exact ⟨HO.out, HB.out⟩⟩
        case measure => simp [RowKit.intOf]; omega
    · have hkz : ¬ (k : Int) < (T.length : Int) := by omega
      have hkk : k = T.length := by omega
      subst hkk
      have hSL : (sel (fun n => decide (0 < n)) (T.zip N)).length ≤ T.length := Nat.le_trans (sel_length _ _) (by omega)
      rw [List.take_of_length_le (Nat.le_of_eq hZL)] at HI
      have HM : Hid (∀ y, y ∈ sel (fun n => decide (0 < n)) (T.zip N) ↔ (fun n => decide (0 < n)) (cn T N y) = true) := fun y => mem_sel (by decide) HR.out.nd hlen y
      have hso := rfront_any u3 (sel (fun n => decide (0 < n)) (T.zip N)) wr (owns_ls (E := ET) HI.out.1) (by omega)
      clear HI hT hN
      go_wp2_with fail
      refine hso.mono ?_
      rintro e w9 ⟨v9, R, rfl, ho9, hp9, hm9, hb9⟩
      have HO9 : Hid (Out wr.heap.size w9 v9 R ∧ (R.Pairwise fun p q => tol p q = true) ∧ (∀ y, y ∈ R ↔ 0 < cn T N y ∧ ∀ z, 0 < cn T N z → bel z y = true → z = y) ∧ Below w.heap.size w w9) := ⟨ho9, hp9, fun y => by rw [hm9 y, HM.out y]; simp only [HM.out, decide_eq_true_eq], HB.out.trans (hb9.mono HB.out.size)⟩
      have HWZ : Hid (w.heap.size ≤ wr.heap.size) := HB.out.size
      clear hso ho9 hp9 hm9 hb9 HB
      go_wp2
      go_ret
      obtain ⟨h1, h2⟩ := HO9.out
      exact ⟨_, R, rfl, h1.mono HWZ.out, h2⟩
end Go.Proofs.YtbdkjcfkocdhfaaGreat

namespace Go.Proofs.YtbdkjcfkocdhfaaGreat
open Go.RowKit Go.Sort Go.Maps
attribute [local go_sem ↓] Go.wp_at_zero Go.wp_at_succ

theorem infoI : (Tryz.prog.info? 2).map (fun i => (i.zero, i.size, i.bytes)) = some (some (.int .i64 0), 1, 8) := by kernel_rfl
theorem frozen_of_block {w w' : World} {b o : Nat} (h : w'.heap[b]? = w.heap[b]?) : w'.frozen? ⟨b, o, none⟩ = w.frozen? ⟨b, o, none⟩ := by simp [World.frozen?, h]
theorem flI (N : List Int) : fl EI N = N.map (Value.int .i64) := by
  induction N with
  | nil => rfl
  | cons n N ih => rw [fl_cons, ih]; rfl
/-- One list is set anew. -/
theorem setT {w : World} {rb : Nat} {t0 n0 : Value} (h : w.heap[rb]? = some (.cells #[t0, n0] 77 (0, 0))) (v2 : Value) :
    (w.setCell ⟨rb, 0, none⟩ v2).heap[rb]? = some (.cells #[v2, n0] 77 (0, 0)) ∧ Kp (fun k => k = rb) w (w.setCell ⟨rb, 0, none⟩ v2) := by
  have e := setCell_eq_setRow w rb 0 _ _ _ v2 h
  refine ⟨?_, ?_⟩
  · rw [e, setRow_heap w rb _ _ _ _ h]; simp
  · rw [e]
    exact ⟨rfl, rfl, rfl, by simp [World.setRow], fun k _ hne => setRow_other w rb k _ (by omega)⟩
theorem setN {w : World} {rb : Nat} {t0 n0 : Value} (h : w.heap[rb]? = some (.cells #[t0, n0] 77 (0, 0))) (v2 : Value) :
    (w.setCell ⟨rb, 1, none⟩ v2).heap[rb]? = some (.cells #[t0, v2] 77 (0, 0)) ∧ Kp (fun k => k = rb) w (w.setCell ⟨rb, 1, none⟩ v2) := by
  have e := setCell_eq_setRow w rb 1 _ _ _ v2 h
  refine ⟨?_, ?_⟩
  · rw [e, setRow_heap w rb _ _ _ _ h]; simp
  · rw [e]
    exact ⟨rfl, rfl, rfl, by simp [World.setRow], fun k _ hne => setRow_other w rb k _ (by omega)⟩
theorem owns_setv {w : World} {e : TypeId} {g n cap k : Nat} {xs : List Value} (u : Value) (h : w.ownsRow 0 e 1 (.slice (some ⟨g, 0, none⟩) n cap) n xs) :
    (w.setCell ⟨g, k, none⟩ u).ownsRow 0 e 1 (.slice (some ⟨g, 0, none⟩) n cap) n (xs.set k u) ∧ Kp (fun q => q = g) w (w.setCell ⟨g, k, none⟩ u) := by
  obtain ⟨h1, ⟨h0, _⟩ | ⟨g', cap', cur, hv, hg, hh, h2, h3, h4, h5⟩⟩ := h
  · cases h0
  · cases hv
    have e1 := setCell_eq_setRow w g k _ _ _ u hh
    have hk1 : Kp (fun q => q = g) w (w.setCell ⟨g, k, none⟩ u) := by
      rw [e1]
      exact ⟨rfl, rfl, rfl, by simp [World.setRow], fun q _ hne => setRow_other _ g q _ (by omega)⟩
    refine ⟨⟨by simpa using h1, Or.inr ⟨g, cap, _, rfl, hg, by rw [e1]; exact setRow_heap _ g _ _ _ _ hh, h2, h3, ?_, ?_⟩⟩, hk1⟩
    · simp [h4]
    · rw [Nat.mul_one] at h5 ⊢
      rw [Array.toList_setIfInBounds, List.take_set, h5]
theorem findIdx_at {T : List Tm} {k : Nat} {t : Tm} (h : T[k]? = some t) (hn : t ∉ T.take k) : (T.findIdx fun y => decide (y = t)) = k := by
  obtain ⟨h1, h2⟩ := List.getElem?_eq_some_iff.1 h
  rw [List.findIdx_eq h1]
  refine ⟨by simp [h2], fun j hj => ?_⟩
  have : T[j] ≠ t := fun e => hn (by rw [← e]; exact List.mem_take_iff_getElem.2 ⟨j, by omega, rfl⟩)
  simpa using this
theorem cn_set {T : List Tm} {N : List Int} {k : Nat} {x : Tm} (m : Int) (h : T[k]? = some x) (hn : T.Nodup) (hl : N.length = T.length) : cn T (N.set k m) = fun t => if t = x then m else cn T N t := by
  funext t
  by_cases e : t = x
  · subst e
    rw [if_pos rfl, cn_at h (nodup_take h hn) (List.getElem?_set_self (by have := (List.getElem?_eq_some_iff.1 h).1; omega))]
  · rw [if_neg e]
    unfold cn
    rw [List.getElem?_set_ne]
    intro hk
    have hkl := (List.getElem?_eq_some_iff.1 h).1
    have := List.findIdx_getElem (xs := T) (p := fun y => decide (y = t)) (w := by omega)
    simp only [← hk, (List.getElem?_eq_some_iff.1 h).2] at this
    exact e (of_decide_eq_true this).symm
theorem cn_app {T : List Tm} {N : List Int} {x : Tm} (n : Int) (h : x ∉ T) (hl : N.length = T.length) : cn (T ++ [x]) (N ++ [n]) = fun t => if t = x then n else cn T N t := by
  funext t
  by_cases e : t = x
  · subst e
    rw [if_pos rfl]
    exact cn_at (k := T.length) (by simp) (by rw [List.take_left' rfl]; exact h) (by rw [← hl]; simp)
  · rw [if_neg e]
    by_cases ht : t ∈ T
    · obtain ⟨k, hk⟩ := List.getElem?_of_mem ht
      have hi : (T.findIdx fun y => decide (y = t)) < T.length := List.findIdx_lt_length.2 ⟨t, ht, by simp⟩
      unfold cn
      rw [List.findIdx_append, if_pos hi, List.getElem?_append_left (by omega)]
    · rw [cn_out ht hl]
      refine cn_out ?_ (by simp [hl])
      simp [ht, e]
/-- What add leaves. -/
def RAdd (r : Rm) (T : List Tm) (N : List Int) (x : Tm) (n : Int) (w w' : World) : Prop :=
  ∃ (r' : Rm) (T' : List Tm) (N' : List Int), r'.b = r.b ∧ RM w' r' T' N' ∧ T'.length ≤ T.length + 1 ∧ cn T' N' = (fun t => if t = x then wrap64 (cn T N x + n) else cn T N t) ∧ Kp r.own w w' ∧ ∀ k, r'.own k → r.own k ∨ w.heap.size ≤ k

set_option maxHeartbeats 4000000 in
set_option maxRecDepth 100000 in
theorem radd_any (w : World) (r : Rm) (T : List Tm) (N : List Int) (h : RM w r T N) (hfw : T.length < 1000000) (x : Tm) (n : Int) (hn : -2147483647 ≤ n ∧ n ≤ 2147483647) :
    Calls Tryz.prog 73 #[rmp r, tv x, .int .i64 n] w fun e w' => e = .returned (.tuple #[]) ∧ RAdd r T N x n w w' := by
  have hmx : Tryz.prog.follows .mixedOrders = true := by kernel_rfl
  have heq := fun a b c x y z W => run_eqT a b c x y z W
  obtain ⟨rb, vt, vn⟩ := r
  change Calls Tryz.prog 73 #[.pointer (some ⟨rb, 0, none⟩), tv x, .int .i64 n] w _
  obtain ⟨W1, hW1⟩ : ∃ W1, W1 = w.alloc (.cells #[.int .u64 x.1.1, .int .u64 x.1.2.1, .int .u64 x.1.2.2] 32) := ⟨_, rfl⟩
  obtain ⟨B0, hB0⟩ : ∃ B0, B0 = w.heap.size := ⟨_, rfl⟩
  have G1 : Gr w W1 := by rw [hW1]; exact (Gr.refl _).alloc _
  have HG : Hid (Gr w W1) := G1
  have HBW : Hid (B0 = w.heap.size) := hB0
  have h1 := h.bel G1.below
  have HR0 : Hid (RM w ⟨rb, vt, vn⟩ T N) := h
  have HR : Hid (RM W1 ⟨rb, vt, vn⟩ T N) := h1
  have HLN : Hid (N.length = T.length) := h1.len
  have hNb : N.length < 1000000 := by rw [h1.len]; exact hfw
  have hlt : rb < W1.heap.size := h1.lt
  obtain ⟨pl, cl, hft⟩ : ∃ p c, vt = .slice p T.length c := h1.lsT.form
  obtain ⟨pn, cc, hfn⟩ : ∃ p c, vn = .slice p N.length c := h1.lsN.form
  subst hft hfn
  clear h1 h
  have hblk : W1.heap[B0]? = some (.cells #[.int .u64 x.1.1, .int .u64 x.1.2.1, .int .u64 x.1.2.2] 32 (0, 0)) := by rw [hW1, hB0]; exact heap_new' _ _
  have hB : B0 < W1.heap.size := (Array.getElem?_eq_some_iff.1 hblk).1
  have q0 : W1.cell? ⟨B0, 0, none⟩ = some (.int .u64 x.1.1) := by simp only [World.cell?]; rw [hblk]; rfl
  have q1 : W1.cell? ⟨B0, 1, none⟩ = some (.int .u64 x.1.2.1) := by simp only [World.cell?]; rw [hblk]; rfl
  have q2 : W1.cell? ⟨B0, 2, none⟩ = some (.int .u64 x.1.2.2) := by simp only [World.cell?]; rw [hblk]; rfl
  clear hblk G1
  go_enter Tryz.func73, Tryz.ntmps73
  go_wp2_with fail
  rw [← hW1, ← hB0]
  clear hW1 hB0
  go_loopw [6] (fun s6 wr => ∃ k : Nat, k ≤ T.length ∧ s6 = .int .i64 k ∧ Gr W1 wr ∧ Hid (x ∉ T.take k)) (fun s6 _ => T.length - (RowKit.intOf s6).toNat)
  case atStart => exact ⟨0, Nat.zero_le _, rfl, Gr.refl _, by simp [Hid]⟩
  case round =>
    obtain ⟨k, hk, rfl, hgr, A⟩ := hrel
    have hRr := HR.out.bel hgr.below
    have HRR : Hid (RM wr ⟨rb, .slice pl T.length cl, .slice pn N.length cc⟩ T N) := hRr
    have r0 : wr.cell? ⟨rb, 0, none⟩ = some (.slice pl T.length cl) := hRr.c0
    have r1 : wr.cell? ⟨rb, 1, none⟩ = some (.slice pn N.length cc) := hRr.c1
    have hlr : rb < wr.heap.size := hRr.lt
    have HT : Hid (Lst wr (.slice pl T.length cl) T) := hRr.lsT
    have s0 := (hgr.cell hB).trans q0
    have s1 := (hgr.cell hB).trans q1
    have s2 := (hgr.cell hB).trans q2
    have hBr := Nat.lt_of_lt_of_le hB hgr.size
    have HGW : Hid (Gr w wr) := HG.out.trans hgr
    clear hRr
    by_cases hkl : k < T.length
    · have hkz : (k : Int) < (T.length : Int) := by omega
      have hnz : (k : Int) < (N.length : Int) := by have := HLN.out; omega
      obtain ⟨y, hy⟩ : ∃ y, T[k]? = some y := ⟨T[k], by simp⟩
      obtain ⟨m, hm⟩ : ∃ m, N[k]? = some m := ⟨N[k]'(by omega), by simp⟩
      have HY : Hid (T[k]? = some y) := hy
      have HMK : Hid (N[k]? = some m) := hm
      obtain ⟨b1, o1, c1', e1, z1, x1, x2, x3⟩ := HT.out.at3 hy
      simp only [Value.slice.injEq] at e1
      obtain ⟨rfl, -, rfl⟩ := e1
      clear hy
      by_cases hxy : y = x
      · have hq := teq_t hxy
        have HXT : Hid (T[k]? = some x) := HY.out.trans (congrArg some hxy)
        have HCN : Hid (cn T N x = m) := cn_at HXT.out A.out HMK.out
        obtain ⟨g, hpn⟩ : ∃ g, pn = some ⟨g, 0, none⟩ := by
          obtain ⟨_, ⟨h0, h1⟩ | ⟨g', cap', cur, hv, _⟩⟩ := id HRR.out.ct
          · omega
          · simp only [Value.slice.injEq] at hv
            exact ⟨g', hv.1⟩
        subst hpn
        have hct : wr.ownsRow 0 2 1 (.slice (some ⟨g, 0, none⟩) N.length cc) N.length (fl EI N) := HRR.out.ct
        have hgl : g < wr.heap.size := (hct.lt g rfl).2
        have y1 : wr.cell? ⟨g, k, none⟩ = some (.int .i64 m) := by
          have := hct.cells (g := g) rfl k (.int .i64 m) (by rw [flI]; simp [hm])
          rw [addA, Nat.zero_add] at this
          exact this
        have y1f : wr.frozen? ⟨g, k, none⟩ = false := by
          obtain ⟨_, ⟨h0, _⟩ | ⟨g'', cap', cur, hv, _, hgg, _⟩⟩ := id hct
          · cases h0
          · cases hv
            simp [World.frozen?, hgg]
        have HCT : Hid (wr.ownsRow 0 2 1 (.slice (some ⟨g, 0, none⟩) N.length cc) N.length (fl EI N)) := hct
        clear hxy hct hm
        go_wp2_with fail
        go_quiet (fail)
        have G8 : Gr wr (wr.drewN nq) := (Gr.refl wr).drewN nq
        have t0 := (G8.cell hlr).trans r0
        have t1 := (G8.cell hlr).trans r1
        have u1 := (G8.cell hgl).trans y1
        have u1f := (G8.frozen hgl).trans y1f
        have HRG : Hid (RM (wr.drewN nq) ⟨rb, .slice (some ⟨b1, o1, none⟩) T.length cl, .slice (some ⟨g, 0, none⟩) N.length cc⟩ T N) := HRR.out.bel G8.below
        have HG9 : Hid (Gr w (wr.drewN nq)) := HGW.out.trans G8
        have HCT9 : Hid ((wr.drewN nq).ownsRow 0 2 1 (.slice (some ⟨g, 0, none⟩) N.length cc) N.length (fl EI N)) := owns_below HCT.out G8.below
        clear r0 r1 y1 y1f s0 s1 s2 x1 x2 x3 G8 HCT HRR
        generalize wr.drewN nq = w4 at *
        go_wp2_with fail
        go_region
        all_goals go_wp2
        all_goals (
          refine bodyPost_ret (results_none rfl _ _ _) rfl ?_
          obtain ⟨hs1, hs2⟩ := owns_setv (k := k) (.int .i64 (wrap64 (m + n))) HCT9.out
          have hgr : (Value.slice (some ⟨g, 0, none⟩) N.length cc).ownBlock = some g := rfl
          have hk : Kp (Rm.own ⟨rb, .slice (some ⟨b1, o1, none⟩) T.length cl, .slice (some ⟨g, 0, none⟩) N.length cc⟩) w (w4.setCell ⟨g, k, none⟩ (.int .i64 (wrap64 (m + n)))).drew := ((Kp.of_gr HG9.out).trans (hs2.mono (fun q hq => Or.inr (Or.inr (by rw [hq]; exact hgr)))) (fun _ _ h => h)).trans (Kp.of_gr (Gr.refl _).drew) (fun _ _ h => h)
          have HS : RM (w4.setCell ⟨g, k, none⟩ (.int .i64 (wrap64 (m + n)))) ⟨rb, .slice (some ⟨b1, o1, none⟩) T.length cl, .slice (some ⟨g, 0, none⟩) N.length cc⟩ T (N.set k (wrap64 (m + n))) :=
            ⟨(hs2.block rb HRG.out.lt (fun e => HRG.out.o2 (by rw [e]; exact hgr))).trans HRG.out.blk, owns_kp hs2 HRG.out.tm (fun q hq e => HRG.out.o3 q hq (by rw [e]; exact hgr)), by rw [List.length_set, flI, List.map_set, ← flI]; exact hs1, by rw [List.length_set]; exact HLN.out, HRG.out.o1, HRG.out.o2, HRG.out.o3, HRG.out.nd, HRG.out.few⟩
          refine ⟨rfl, _, _, _, rfl, HS.bel (Gr.refl _).drew.below, by omega, ?_, hk, fun k hk => Or.inl hk⟩
          rw [cn_set _ HXT.out HRG.out.nd HLN.out, HCN.out])
      · have hq := teq_f hxy
        have HXY : Hid (y ≠ x) := hxy
        clear hxy
        go_wp2_with fail
        go_quiet (fail)
        go_wp2
        go_roundw
        case rel =>
          refine ⟨k + 1, by omega, by go_num, hgr.drewN _, fun hx => ?_⟩
          rw [List.take_add_one, HY.out] at hx
          rcases List.mem_append.1 hx with h | h
          · exact A.out h
          · simp at h
            exact HXY.out h.symm
        case measure => simp [RowKit.intOf]; omega
    · have hkz : ¬ (k : Int) < (T.length : Int) := by omega
      have hkl : k = T.length := by omega
      subst hkl
      rw [List.take_length] at A
      obtain ⟨iK, hiK, hk0, hk1, hk2⟩ := info_parts infoTm
      obtain ⟨iI, hiI, hi0, hi1, hi2⟩ := info_parts infoI
      have k0f : wr.frozen? ⟨rb, 0, none⟩ = false := HRR.out.f0
      have hne1 : some rb ≠ (Value.slice pl T.length cl).ownBlock := fun e => HRR.out.o1 e.symm
      have hnm : wr.ownsRow 0 32 3 (Value.slice pl T.length cl) T.length (flT T) := HRR.out.tm
      clear hgr HT q0 q1 q2 HG HR
      go_wp2_with fail
      go_region_law (refine step_append_lies _ rfl _ _ 35 rfl 0 32 iK (.agg #[.int .u64 0, .int .u64 0, .int .u64 0]) 3 24 Tryz.underlying35 hiK hk0 hk1 hk2 rfl (by decide) (Value.slice pl T.length cl) T.length (flT T) rfl (World.ownsRow.alloc (w := wr.drew) hnm _) ⟨wr.heap.size, 0, none⟩ 1 1 [.int .u64 x.1.1, .int .u64 x.1.2.1, .int .u64 x.1.2.2] rfl rfl (World.news_of_block (heap_new' _ _)) (by simp [Value.oneCell']) (by decide) (by unfold maxLen; omega) (by omega) (Nat.zero_le _) _ rfl ?_
                     intro g cap w10 hown10 hgrow hat10 hlt10
                     have HB10 := hgrow.block rb (by simp; omega) hne1
                     have k10 : w10.cell? ⟨rb, 0, none⟩ = some (Value.slice pl T.length cl) := (World.cell?_of_block (a := ⟨rb, 0, none⟩) HB10).trans ((((Gr.refl wr).drew.alloc _).cell hlr).trans r0)
                     have k10f : w10.frozen? ⟨rb, 0, none⟩ = false := (frozen_of_block HB10).trans ((((Gr.refl wr).drew.alloc _).frozen hlr).trans k0f))
      all_goals (
        have HB10' : w10.heap[rb]? = some (.cells #[(Value.slice pl T.length cl), (Value.slice pn N.length cc)] 77 (0, 0)) := HB10.trans ((((Gr.refl wr).drew.alloc _).below.block rb hlr).trans HRR.out.blk)
        obtain ⟨hs1, hs2⟩ := setT HB10' (.slice (some ⟨g, 0, none⟩) (T.length + 1) cap)
        have HK10 : Hid (Kp (fun q => (Value.slice pl T.length cl).ownBlock = some q) wr w10) := (Kp.of_gr ((Gr.refl wr).drew.alloc _)).trans (Kp.grownBy (S := fun q => (Value.slice pl T.length cl).ownBlock = some q) hgrow (fun _ h => h)) (fun _ _ h => h)
        have HK11 : Hid (Kp (fun q => (Value.slice pl T.length cl).ownBlock = some q ∨ q = rb) wr (w10.setCell ⟨rb, 0, none⟩ (.slice (some ⟨g, 0, none⟩) (T.length + 1) cap))) := (HK10.out.mono (fun _ h => Or.inl h)).trans hs2 (fun _ _ h => Or.inr h)
        have hct : (w10.setCell ⟨rb, 0, none⟩ (.slice (some ⟨g, 0, none⟩) (T.length + 1) cap)).ownsRow 0 2 1 (Value.slice pn N.length cc) N.length (fl EI N) := owns_kp HK11.out HRR.out.ct (fun k hk h => h.elim (fun h => HRR.out.o3 k h hk) (fun h => HRR.out.o2 (h ▸ hk)))
        have HNM : Hid ((w10.setCell ⟨rb, 0, none⟩ (.slice (some ⟨g, 0, none⟩) (T.length + 1) cap)).ownsRow 0 32 3 (.slice (some ⟨g, 0, none⟩) (T.length + 1) cap) (T.length + 1) (flT (T ++ [x]))) := by
          rw [flT_append]
          refine owns_kp hs2 hown10 (fun k hk e => ?_)
          have hkg : k = g := by simpa [Value.ownBlock] using hk.symm
          rcases hat10 with h | h
          · exact HRR.out.o1 (h.trans (by rw [← hkg, e]))
          · simp at h; omega
        have k2 : (w10.setCell ⟨rb, 0, none⟩ (.slice (some ⟨g, 0, none⟩) (T.length + 1) cap)).cell? ⟨rb, 1, none⟩ = some (Value.slice pn N.length cc) := by simp [World.cell?, hs1]
        have k2f : (w10.setCell ⟨rb, 0, none⟩ (.slice (some ⟨g, 0, none⟩) (T.length + 1) cap)).frozen? ⟨rb, 1, none⟩ = false := by simp [World.frozen?, hs1]
        have HBK : Hid ((w10.setCell ⟨rb, 0, none⟩ (.slice (some ⟨g, 0, none⟩) (T.length + 1) cap)).heap[rb]? = some (.cells #[(.slice (some ⟨g, 0, none⟩) (T.length + 1) cap), (Value.slice pn N.length cc)] 77 (0, 0))) := hs1
        have HGL : Hid (((Value.slice pl T.length cl).ownBlock = some g ∨ wr.heap.size ≤ g) ∧ g < w10.heap.size) := ⟨hat10.imp id (fun h => by rw [h]; simp), hlt10⟩
        have hrb10 : rb < (w10.setCell ⟨rb, 0, none⟩ (.slice (some ⟨g, 0, none⟩) (T.length + 1) cap)).heap.size := Nat.lt_of_lt_of_le hlr HK11.out.size
        clear hs1 hs2 HB10 HB10' k10 k10f hgrow hown10 hat10 hlt10 r0 k0f s0 s1 s2 hnm
        generalize w10.setCell ⟨rb, 0, none⟩ (.slice (some ⟨g, 0, none⟩) (T.length + 1) cap) = w11 at *
        go_wp2_with (at_builtin; refine wpList_append_lies _ rfl _ _ 75 rfl 0 2 iI (.int .i64 0) 1 8 Tryz.underlying75 hiI hi0 hi1 hi2 rfl (by decide) (Value.slice pn N.length cc) N.length (fl EI N) rfl (hct.alloc _) ⟨w11.heap.size, 0, none⟩ 1 1 [.int .i64 n] rfl rfl (World.news_of_block (heap_new' _ _)) (by simp [Value.oneCell']) (by decide) (by unfold maxLen; omega) (by omega) (Nat.zero_le _) _ rfl ?_; intro g2 cap2 w12 hown12 hgrow12 hat12 hlt12; have HB12 := hgrow12.block rb (by simp; omega) (fun e => HRR.out.o2 e.symm); have k12 : w12.cell? ⟨rb, 1, none⟩ = some (Value.slice pn N.length cc) := (World.cell?_of_block (a := ⟨rb, 1, none⟩) HB12).trans ((((Gr.refl w11).alloc _).cell hrb10).trans k2); have k12f : w12.frozen? ⟨rb, 1, none⟩ = false := (frozen_of_block HB12).trans ((((Gr.refl w11).alloc _).frozen hrb10).trans k2f))
        go_end0
        have HB12' : w12.heap[rb]? = some (.cells #[(.slice (some ⟨g, 0, none⟩) (T.length + 1) cap), (Value.slice pn N.length cc)] 77 (0, 0)) := HB12.trans ((((Gr.refl w11).alloc _).below.block rb hrb10).trans HBK.out)
        obtain ⟨hs1, hs2⟩ := setN HB12' (.slice (some ⟨g2, 0, none⟩) (N.length + 1) cap2)
        have hK12 : Kp (fun q => (Value.slice pn N.length cc).ownBlock = some q) w11 w12 := (Kp.of_gr ((Gr.refl w11).alloc _)).trans (Kp.grownBy (S := fun q => (Value.slice pn N.length cc).ownBlock = some q) hgrow12 (fun _ h => h)) (fun _ _ h => h)
        have hg2 : (Value.slice pn N.length cc).ownBlock = some g2 ∨ w11.heap.size ≤ g2 := hat12.imp id (fun h => by rw [h]; simp)
        have hz := HK11.out.size
        have hz4 := HGW.out.size
        have hg1 := HGL.out
        have ng : ∀ q, (Value.slice pn N.length cc).ownBlock = some q → q < w.heap.size := fun q hq => (HR0.out.ct.lt q hq).2
        have nn : ∀ q, (Value.slice pl T.length cl).ownBlock = some q → q < w.heap.size := fun q hq => (HR0.out.tm.lt q hq).2
        have hrbw : rb < w.heap.size := HR0.out.lt
        have hgb : g ≠ rb := fun e => by
          rcases hg1.1 with h | h
          · exact HRR.out.o1 (h.trans (by rw [e]))
          · omega
        have hgc : (Value.slice pn N.length cc).ownBlock ≠ some g := fun e => by
          rcases hg1.1 with h | h
          · exact HRR.out.o3 g h e
          · have := ng g e; omega
        have hg2b : g2 ≠ rb := fun e => by
          rcases hg2 with h | h
          · exact HRR.out.o2 (h.trans (by rw [e]))
          · omega
        have hgl11 : g < w11.heap.size := (HNM.out.lt g rfl).2
        have hgg : g2 ≠ g := fun e => by
          rcases hg2 with h | h
          · exact hgc (h.trans (by rw [e]))
          · omega
        refine ⟨rfl, ⟨rb, (.slice (some ⟨g, 0, none⟩) (T.length + 1) cap), .slice (some ⟨g2, 0, none⟩) (N.length + 1) cap2⟩, T ++ [x], N ++ [n], rfl, ?_, by simp, ?_, ?_, ?_⟩
        · refine ⟨hs1, ?_, ?_, by rw [List.length_append, List.length_append, HLN.out]; rfl, ?_, ?_, ?_, ?_, by simp; omega⟩
          · refine owns_kp hs2 (owns_kp hK12 (by simpa using HNM.out) (fun k hk e => ?_)) (fun k hk e => ?_)
            · have : k = g := by simpa [Value.ownBlock] using hk.symm
              exact hgc (by rw [e, this])
            · have : k = g := by simpa [Value.ownBlock] using hk.symm
              exact hgb (by rw [← this, e])
          · refine owns_kp hs2 (by rw [flI] at hown12 ⊢; simpa using hown12) (fun k hk e => ?_)
            have : k = g2 := by simpa [Value.ownBlock] using hk.symm
            exact hg2b (by rw [← this, e])
          · simpa [Value.ownBlock] using hgb
          · simpa [Value.ownBlock] using hg2b
          · intro q hq hq'
            simp [Value.ownBlock] at hq hq'
            exact hgg (by omega)
          · refine List.nodup_append.2 ⟨HRR.out.nd, by simp, fun a ha b hb => ?_⟩
            simp at hb
            subst hb
            exact fun e => A.out (e ▸ ha)
        · rw [cn_app n A.out HLN.out, cn_out A.out HLN.out]
          funext t
          rw [show wrap64 (0 + n) = n by unfold wrap64; omega]
        · refine (((Kp.of_gr HGW.out).trans (HK11.out.mono (fun q hq => ?_)) (fun _ _ h => h)).trans (hK12.mono (fun q hq => Or.inr (Or.inr hq))) (fun _ _ h => h)).trans (hs2.mono (fun q hq => Or.inl hq)) (fun _ _ h => h)
          rcases hq with h | h
          · exact Or.inr (Or.inl h)
          · exact Or.inl h
        · intro q hq
          rcases hq with h | h | h
          · exact Or.inl (Or.inl h)
          · have : q = g := by simpa [Value.ownBlock] using h.symm
            subst this
            rcases hg1.1 with h' | h'
            · exact Or.inl (Or.inr (Or.inl h'))
            · right; omega
          · have : q = g2 := by simpa [Value.ownBlock] using h.symm
            subst this
            rcases hg2 with h' | h'
            · exact Or.inl (Or.inr (Or.inr h'))
            · right; omega)
end Go.Proofs.YtbdkjcfkocdhfaaGreat

namespace Go.Proofs.YtbdkjcfkocdhfaaGreat
open Go.RowKit Go.Sort Go.Maps
attribute [local go_sem ↓] Go.wp_at_zero Go.wp_at_succ

/-- 'append(nil, l...)' at a step of a region that draws, of any elements. -/
theorem step_nilL {P : Program} {α : Type} (E : El α) {e sT : TypeId} {z : Value} {bt : Nat} (hu : P.underlying sT = some (.slice e)) (hI : (P.info? e).map (fun i => (i.zero, i.size, i.bytes)) = some (some z, E.k, bt)) (hz : z.cells.size = E.k) (hk : 0 < E.k)
    {w : World} {ops : Array Oper} {o : Oper} {a : Act} {K : Act → World → Prop} {Q : Exit → Act → World → Prop} {X : Prop} (hgd : o.guard = none) (s x : Operand)
    (ho : o.op = .call { callee := .builtin .append, args := #[s, x], argTypes := #[sT, sT] })
    (hs : a.eval s = .slice none 0 0) (v1 : Value) (ts : List α) (hx : a.eval x = v1) (hv : Ls E w v1 ts) (hbig : ts.length * bt ≤ 140737488355328) (hmx : ts.length ≤ maxLen)
    (h : ∀ p c w', Hid (w'.ownsRow w.heap.size e E.k (.slice p ts.length c) ts.length (fl E ts) ∧ Below w.heap.size w w') → K (a.put o.dst (.slice p ts.length c)) w') :
    if Region.wanted o (yielded ops a.tmps) = true then Oper.wp P o a w K Q else X := by
  have hw : Region.wanted o (yielded ops a.tmps) = true := by simp [Region.wanted, hgd]
  rw [if_pos hw]
  obtain ⟨i0, hi, hz0, hz1, hz2⟩ := info_parts hI
  rcases hv with ⟨rfl, rfl⟩ | ⟨b, off, c, rfl, hb, ht⟩
  · have hrun := run_append_owned_none (P := P) (w := w) w.heap.size sT o.type e i0 E.k hu hi (.slice none 0 0) 0 [] (World.ownsRow_nil _ _ _ _)
    unfold Oper.wp
    simp [execOp, ho, resolve, invoke, builtin, hs, hx, hrun, Result.andThen]
    exact h _ _ _ ⟨World.ownsRow_nil _ _ _ _, Below.refl _ _⟩
  · obtain ⟨v', w', hr, h2, h3, _, _⟩ := run_append_own_at (P := P) w w.heap.size sT o.type e i0 _ E.k bt hu hi hz0 hz1 hz2 hz hk (.slice none 0 0) 0 [] (World.ownsRow_nil _ _ _ _) ⟨b, off, none⟩ ts.length c (fl E ts) (fl_length E ts) (fun j u hj => by rw [addA]; exact ht j u hj) (fl_oneCell E ts) (by omega) (by rw [Nat.zero_add]; exact hbig) (Nat.le_refl _)
    unfold Oper.wp execOp
    simp only [ho, resolve, invoke, builtin, Sem.run_bind, Sem.run_pure, Result.andThen_ok, List.map_toArray, List.map_cons, List.map_nil, hs, hx, hr]
    have h2' : w'.ownsRow w.heap.size e E.k v' ts.length (fl E ts) := by simpa using h2
    obtain ⟨p, c', rfl⟩ := (owns_ls (E := E) h2').form
    exact h p c' w' ⟨h2', (Kp.grownBy (S := fun _ => False) h3 (fun k hk => by simp [Value.ownBlock] at hk)).below (Nat.le_refl _) (fun _ h => h.elim)⟩

theorem rbeyond_any (n : Int) (w : World) : Calls Tryz.prog 72 #[.int .i64 n] w fun e w' => e = .returned (.bool (Tt.byd n)) ∧ w' = w := by
  unfold Tt.byd
  go_enter Tryz.func72, Tryz.ntmps72
  go_wp2
  all_goals (go_ret; refine ⟨?_, rfl⟩; simp_all)
theorem rnew_any (w : World) : Calls Tryz.prog 22 #[] w fun e w' => ∃ r : Rm, e = .returned (rmp r) ∧ r.b = w.heap.size ∧ RM w' r [] [] ∧ Below w.heap.size w w' ∧ ∀ k, r.own k → w.heap.size ≤ k := by
  go_enter Tryz.func22, Tryz.ntmps22
  go_wp2
  go_ret
  exact ⟨⟨w.heap.size, .slice none 0 0, .slice none 0 0⟩, rfl, rfl, ⟨heap_new' _ _, World.ownsRow_nil _ _ _ _, World.ownsRow_nil _ _ _ _, rfl, by simp [Value.ownBlock], by simp [Value.ownBlock], fun g hg => by simp [Value.ownBlock] at hg, List.Pairwise.nil, by simp⟩, ((Gr.refl w).alloc _).below, fun k hk => by
    rcases hk with h | h | h
    · exact Nat.le_of_eq h.symm
    · simp [Value.ownBlock] at h
    · simp [Value.ownBlock] at h⟩

set_option maxHeartbeats 4000000 in
set_option maxRecDepth 100000 in
theorem rcopy_any (w : World) (r : Rm) (T : List Tm) (N : List Int) (h : RM w r T N) :
    Calls Tryz.prog 28 #[rmp r] w fun e w' => ∃ r' : Rm, e = .returned (rmp r') ∧ Hid (RM w' r' T N ∧ Below w.heap.size w w' ∧ ∀ k, r'.own k → w.heap.size ≤ k) := by
  have hmx : Tryz.prog.follows .mixedOrders = true := by kernel_rfl
  obtain ⟨rb, vt, vn⟩ := r
  change Calls Tryz.prog 28 #[.pointer (some ⟨rb, 0, none⟩)] w _
  have HR : Hid (RM w ⟨rb, vt, vn⟩ T N) := h
  have hfew := h.few
  have HLEN : Hid (N.length = T.length) := h.len
  clear h
  obtain ⟨W1, hW1⟩ : ∃ W1, W1 = w.alloc (.cells #[.slice none 0 0, .slice none 0 0] 77) := ⟨_, rfl⟩
  have HR1 : Hid (RM W1 ⟨rb, vt, vn⟩ T N) := by rw [hW1]; exact HR.out.bel ((Gr.refl _).alloc _).below
  have HB1 : Hid (W1.heap[w.heap.size]? = some (.cells #[.slice none 0 0, .slice none 0 0] 77 (0, 0))) := by rw [hW1]; exact heap_new' _ _
  have HZ1 : Hid (W1.heap.size = w.heap.size + 1) := by rw [hW1]; simp [Hid]
  have HG1 : Hid (Below w.heap.size w W1) := by rw [hW1]; exact ((Gr.refl w).alloc _).below
  have q1 : W1.cell? ⟨w.heap.size, 0, none⟩ = some (.slice none 0 0) := by simp [World.cell?, HB1.out]
  have q1f : W1.frozen? ⟨w.heap.size, 0, none⟩ = false := by simp [World.frozen?, HB1.out]
  have q2 : W1.cell? ⟨rb, 0, none⟩ = some vt := HR1.out.c0
  have z1 : rb < W1.heap.size := HR1.out.lt
  have z2 : w.heap.size < W1.heap.size := by rw [HZ1.out]; omega
  go_enter Tryz.func28, Tryz.ntmps28
  go_wp2_with fail
  rw [← hW1]
  clear hW1
  go_region_law (refine step_nilL ET Tryz.underlying35 infoTm rfl (by decide) rfl _ _ rfl rfl vt T rfl (HR1.out.bel (Gr.refl _).drew.below).lsT (by omega) (by unfold maxLen; omega) ?_
                 intro p5 c5' w5 H5
                 have c5 : w5.cell? ⟨w.heap.size, 0, none⟩ = some (.slice none 0 0) := (H5.out.2.cell (p := ⟨w.heap.size, 0, none⟩) z2).trans q1
                 have c5f : w5.frozen? ⟨w.heap.size, 0, none⟩ = false := (H5.out.2.frozen (p := ⟨w.heap.size, 0, none⟩) z2).trans q1f)
  all_goals (
    have H5B : Below W1.heap.size W1 w5 := (Gr.refl W1).drew.below.trans H5.out.2
    have HB5 : w5.heap[w.heap.size]? = some (.cells #[.slice none 0 0, .slice none 0 0] 77 (0, 0)) := (H5.out.2.block _ z2).trans HB1.out
    obtain ⟨hs1, hs2⟩ := setT HB5 (.slice p5 T.length c5')
    have HK6 : Hid (Kp (fun k => k = w.heap.size) W1 (w5.setCell ⟨w.heap.size, 0, none⟩ (.slice p5 T.length c5'))) := (Kp.of_below (S := fun k => k = w.heap.size) H5B).trans hs2 (fun _ _ h => h)
    have HS1 : Hid ((w5.setCell ⟨w.heap.size, 0, none⟩ (.slice p5 T.length c5')).heap[w.heap.size]? = some (.cells #[.slice p5 T.length c5', .slice none 0 0] 77 (0, 0))) := hs1
    have HN6 : Hid ((w5.setCell ⟨w.heap.size, 0, none⟩ (.slice p5 T.length c5')).ownsRow W1.heap.size 32 3 (.slice p5 T.length c5') T.length (flT T)) := owns_kp hs2 H5.out.1 (fun k hk e => by have := (H5.out.1.lt k hk).1; have e' : k = w.heap.size := e; have := HZ1.out; simp at *; omega)
    have HR6 : Hid (RM (w5.setCell ⟨w.heap.size, 0, none⟩ (.slice p5 T.length c5')) ⟨rb, vt, vn⟩ T N) := HR1.out.kp HK6.out (fun k hk e => by have := HR.out.own_lt k hk; omega)
    clear hs1 hs2 HB5 H5 H5B c5 c5f q1 q1f q2
    generalize w5.setCell ⟨w.heap.size, 0, none⟩ (.slice p5 T.length c5') = w6 at *
    have r2 : w6.cell? ⟨w.heap.size, 1, none⟩ = some (.slice none 0 0) := by simp [World.cell?, HS1.out]
    have r2f : w6.frozen? ⟨w.heap.size, 1, none⟩ = false := by simp [World.frozen?, HS1.out]
    have q6 : w6.cell? ⟨rb, 1, none⟩ = some vn := HR6.out.c1
    have z6 : rb < w6.heap.size := HR6.out.lt
    have z66 : w.heap.size < w6.heap.size := Nat.lt_of_lt_of_le z2 HK6.out.size
    go_wp2_with fail
    go_region_law (refine step_nilL EI Tryz.underlying75 infoI rfl (by decide) rfl _ _ rfl rfl vn N rfl (HR6.out.bel (Gr.refl _).drew.below).lsN (by rw [HLEN.out]; omega) (by rw [HLEN.out]; unfold maxLen; omega) ?_
                   intro p7 c7' w7 H7
                   have c7 : w7.cell? ⟨w.heap.size, 1, none⟩ = some (.slice none 0 0) := (H7.out.2.cell (p := ⟨w.heap.size, 1, none⟩) z66).trans r2
                   have c7f : w7.frozen? ⟨w.heap.size, 1, none⟩ = false := (H7.out.2.frozen (p := ⟨w.heap.size, 1, none⟩) z66).trans r2f)
    all_goals (
      have H7B : Below w6.heap.size w6 w7 := (Gr.refl w6).drew.below.trans H7.out.2
      have HB7 : w7.heap[w.heap.size]? = some (.cells #[.slice p5 T.length c5', .slice none 0 0] 77 (0, 0)) := (H7.out.2.block _ z66).trans HS1.out
      obtain ⟨hs1, hs2⟩ := setN HB7 (.slice p7 N.length c7')
      go_wp2
      go_ret
      have hz1 := HZ1.out
      have hz6 := HK6.out.size
      have n5 : ∀ k, (Value.slice p5 T.length c5').ownBlock = some k → W1.heap.size ≤ k ∧ k < w6.heap.size := fun k hk => HN6.out.lt k hk
      have n7 : ∀ k, (Value.slice p7 N.length c7').ownBlock = some k → w6.heap.size ≤ k := fun k hk => (H7.out.1.lt k hk).1
      refine ⟨⟨w.heap.size, .slice p5 T.length c5', .slice p7 N.length c7'⟩, rfl, ⟨?_, ?_, ?_⟩⟩
      · refine ⟨hs1, owns_base (owns_kp hs2 (owns_kp (Kp.of_below (S := fun _ => False) H7B) HN6.out (fun _ _ h => h)) (fun k hk e => by have := (n5 k hk).1; have e' : k = w.heap.size := e; omega)) (Nat.zero_le _), owns_base (owns_kp hs2 H7.out.1 (fun k hk e => by have := n7 k hk; have e' : k = w.heap.size := e; omega)) (Nat.zero_le _), HLEN.out, fun e => by have := (n5 _ e).1; simp at this; omega, fun e => by have := n7 _ e; simp at this; omega, fun g h1 h2 => by have := (n5 g h1).2; have := n7 g h2; omega, HR.out.nd, hfew⟩
      · exact ((HG1.out.trans (HK6.out.below (Nat.le_trans (Nat.le_succ _) (by rw [hz1]; exact Nat.le_refl _)) (fun k hk => by rw [hk]; exact Nat.le_refl _))).trans (H7B.mono (by omega))).trans (hs2.below (Nat.le_trans (by omega) H7B.size) (fun k hk => by have e' : k = w.heap.size := hk; omega))
      · intro k hk
        rcases hk with h | h | h
        · have e' : k = w.heap.size := h
          omega
        · have := (n5 k h).1; omega
        · have := n7 k h; omega))
end Go.Proofs.YtbdkjcfkocdhfaaGreat

namespace Go.Proofs.YtbdkjcfkocdhfaaGreat
open Go.RowKit Go.Sort Go.Maps
attribute [local go_sem ↓] Go.wp_at_zero Go.wp_at_succ

theorem mem_dlt {a b : List Tm} {d : Dl} : d ∈ dlt a b ↔ ((d.1 ∈ a ∧ d.1 ∉ b) ∨ (d.1 ∈ b ∧ d.1 ∉ a)) ∧ d.2 = if d.1 ∈ b then 1 else -1 := by
  unfold dlt
  rw [List.mem_map]
  constructor
  · rintro ⟨t, ht, rfl⟩
    exact ⟨mem_mis.1 (srtBy_mem.1 ht), rfl⟩
  · rintro ⟨h1, h2⟩
    exact ⟨d.1, srtBy_mem.2 (mem_mis.2 h1), by rw [← h2]⟩
theorem dlt_sorted {a b : List Tm} (ha : a.Nodup) (hb : b.Nodup) : (dlt a b).Pairwise fun p q => tol p.1 q.1 = true := by
  unfold dlt
  rw [List.pairwise_map]
  exact stT_sorted (mis_nodup ha hb)
theorem dlt_length (a b : List Tm) : (dlt a b).length ≤ a.length + b.length := by
  unfold dlt
  rw [List.length_map, srtBy_length, List.length_append]
  exact Nat.add_le_add (List.length_filter_le _ _) (List.length_filter_le _ _)
/-- Is the time told as gone? -/
def gn (dl : List Dl) (y : Tm) : Bool := dl.any fun d => decide (d.1 = y) && (d.2 == -1)
theorem gn_take_succ {dl : List Dl} {k : Nat} {d : Dl} (h : dl[k]? = some d) (y : Tm) : gn (dl.take (k + 1)) y = (gn (dl.take k) y || (decide (d.1 = y) && (d.2 == -1))) := by
  unfold gn
  rw [List.take_add_one, h, List.any_append]
  simp
theorem gn_eq {a b : List Tm} {y : Tm} (hy : y ∈ a) : gn (dlt a b) y = !decide (y ∈ b) := by
  rw [Bool.eq_iff_iff]
  unfold gn
  rw [List.any_eq_true]
  constructor
  · rintro ⟨d, hd, h⟩
    rw [Bool.and_eq_true, decide_eq_true_iff, beq_iff_eq] at h
    obtain ⟨h1, h2⟩ := mem_dlt.1 hd
    by_cases hb : d.1 ∈ b
    · rw [if_pos hb] at h2; omega
    · rw [← h.1]; simpa using hb
  · intro h
    have hb : y ∉ b := by simpa using h
    refine ⟨(y, -1), mem_dlt.2 ⟨Or.inl ⟨hy, hb⟩, by rw [if_neg hb]⟩, by simp⟩
/-- The next front, as it is gathered. -/
def nx (a : List Tm) (dl : List Dl) : List Tm := a.filter fun y => !gn dl y
def up (dl : List Dl) : List Tm := (dl.filter fun d => d.2 == 1).map Prod.fst
theorem mem_next {a b : List Tm} (y : Tm) : y ∈ nx a (dlt a b) ++ up (dlt a b) ↔ y ∈ b := by
  unfold nx up
  rw [List.mem_append, List.mem_filter, List.mem_map]
  constructor
  · rintro (⟨h1, h2⟩ | ⟨d, hd, rfl⟩)
    · rw [gn_eq h1] at h2
      simpa using h2
    · obtain ⟨h1, h2⟩ := List.mem_filter.1 hd
      obtain ⟨h3, h4⟩ := mem_dlt.1 h1
      by_cases hb : d.1 ∈ b
      · exact hb
      · rw [if_neg hb] at h4
        rw [h4] at h2
        simp at h2
  · intro hy
    by_cases ha : y ∈ a
    · exact Or.inl ⟨ha, by rw [gn_eq ha]; simpa using hy⟩
    · exact Or.inr ⟨(y, 1), List.mem_filter.2 ⟨mem_dlt.2 ⟨Or.inr ⟨hy, ha⟩, by rw [if_pos hy]⟩, by simp⟩, rfl⟩
theorem nx_length (a : List Tm) (dl : List Dl) : (nx a dl).length ≤ a.length := List.length_filter_le _ _
theorem up_length (dl : List Dl) : (up dl).length ≤ dl.length := by unfold up; rw [List.length_map]; exact List.length_filter_le _ _
theorem nx_take_succ {a : List Tm} {dl : List Dl} {j : Nat} {y : Tm} (h : a[j]? = some y) : nx (a.take (j + 1)) dl = nx (a.take j) dl ++ (if gn dl y then [] else [y]) := by
  unfold nx
  rw [filter_take_succ h]
  cases gn dl y <;> rfl
theorem up_take_succ {dl : List Dl} {k : Nat} {d : Dl} (h : dl[k]? = some d) : up (dl.take (k + 1)) = up (dl.take k) ++ (if d.2 = 1 then [d.1] else []) := by
  unfold up
  rw [filter_take_succ h, List.map_append]
  by_cases h1 : d.2 = 1 <;> simp [h1]

/-- A list of slices. -/
abbrev SV := { v : Value // v.oneCell' = true }
def ES : El SV where
  k := 1
  enc v := [v.1]
  len _ := rfl
  one x u hu := by simp at hu; subst hu; exact x.2
theorem Ls.at1 {w : World} {v : Value} {ts : List SV} (h : Ls ES w v ts) {j : Nat} {t : SV} (hj : ts[j]? = some t) :
    ∃ b off c, v = .slice (some ⟨b, off, none⟩) ts.length c ∧ b < w.heap.size ∧ w.cell? ⟨b, off + j, none⟩ = some t.1 := by
  obtain ⟨b, off, c, hv, hb, hc⟩ := h.get hj
  have := hc 0 _ (by decide) rfl
  refine ⟨b, off, c, hv, hb, ?_⟩
  have e : off + j * ES.k + 0 = off + j := by show off + j * 1 + 0 = off + j; omega
  rw [e] at this
  exact this
/-- A slice that reads as a list, or an empty one wherever it points. -/
def Lz (w : World) (v : Value) (l : List Dl) : Prop := Ls ED w v l ∨ (l = [] ∧ ∃ p c, v = .slice p 0 c)
theorem Lz.below {w w' : World} {v : Value} {l : List Dl} (h : Lz w v l) (hb : Below w.heap.size w w') : Lz w' v l := h.imp (fun h => h.below hb) id
theorem small_empty (p : Option Addr) (c : Nat) (w : World) : Calls Tryz.prog 9 #[.slice p 0 c] w fun e w' => e = .returned (.slice none 0 0) ∧ w' = w := by
  go_enter Tryz.func9, Tryz.ntmps9
  go_wp2
  refine wp_loop_rounds 1 ?_
  rw [rounds_succ]; go_wp2
  go_ret
  exact ⟨rfl, rfl⟩
theorem small_lz (v : Value) (l : List Dl) (w : World) (hv : Lz w v l) (hl : l.length ≤ 9223372036854775807) :
    Calls Tryz.prog 9 #[v] w fun e w' => ∃ v', e = .returned v' ∧ w'.ownsRow w.heap.size 34 4 v' (sml l).length (fl ED (sml l)) ∧ Below w.heap.size w w' := by
  rcases hv with hv | ⟨rfl, p, c, rfl⟩
  · exact small_any v l w hv hl
  · refine (small_empty p c w).mono ?_
    rintro e w' ⟨rfl, rfl⟩
    exact ⟨_, rfl, World.ownsRow_nil _ _ _ _, Below.refl _ _⟩
end Go.Proofs.YtbdkjcfkocdhfaaGreat
