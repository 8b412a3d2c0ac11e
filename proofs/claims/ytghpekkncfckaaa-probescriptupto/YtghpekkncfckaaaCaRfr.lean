import Derived.Test.YtghpekkncfckaaaCaRs
import Derived.Shelf.SlSortCmp.QuietGrown
namespace Go.Proofs.Ytghpekkncfckaaa.Ca
open Go.RowKit Go.Sort
attribute [local go_sem ↓] Go.wp_at_zero Go.wp_at_succ

theorem filt_take_succ {α : Type} {p : α → Bool} {l : List α} {j : Nat} {y : α} (h : l[j]? = some y) : (l.take (j + 1)).filter p = (l.take j).filter p ++ (if p y then [y] else []) := by
  rw [List.take_add_one, h, List.filter_append]
  cases hp : p y <;> simp [hp]
/-- Is nothing else of the list ahead of the time? -/
def lsB (l : List T3) (y : T3) : Bool := l.all fun z => decide (z = y) || !bel z y
theorem lsB_take_succ {l : List T3} {j : Nat} {z : T3} (h : l[j]? = some z) (y : T3) : lsB (l.take (j + 1)) y = (lsB (l.take j) y && (decide (z = y) || !bel z y)) := by
  unfold lsB
  rw [List.take_add_one, h, List.all_append]
  simp
theorem lsB_iff {l : List T3} {y : T3} : lsB l y = true ↔ ∀ z ∈ l, bel z y = true → z = y := by
  unfold lsB
  rw [List.all_eq_true]
  constructor
  · intro h z hz hb
    have := h z hz
    rw [hb] at this
    simpa using this
  · intro h z hz
    by_cases e : z = y
    · simp [e]
    · cases hb : bel z y with
      | true => exact absurd (h z hz hb) e
      | false => simp

theorem Out.mono {b b' : Nat} {w : World} {v : Value} {R : List T3} (h : Out b' w v R) (hb : b ≤ b') : Out b w v R := by
  rcases h with h | ⟨h0, g, c, hv, h⟩
  · exact Or.inl h
  · refine Or.inr ⟨h0, g, c, hv, h.1, h.2.imp id ?_⟩
    rintro ⟨g1, c1, cur, h1, h2, h3⟩
    exact ⟨g1, c1, cur, h1, Nat.le_trans hb h2, h3⟩

set_option maxHeartbeats 2000000 in
set_option maxRecDepth 100000 in
theorem r5front_any (v : Value) (l : List T3) (w : World) (hv : Lst w v l) (hl : l.length ≤ 5864062014634) :
    Calls Try.prog 19 #[v] w fun e w' => ∃ (v' : Value) (r : List T3), e = .returned v' ∧ Out w.heap.size w' v' r ∧ (r.Pairwise fun p q => tol p q = true) ∧ (∀ y, y ∈ r ↔ y ∈ l ∧ ∀ z ∈ l, bel z y = true → z = y) ∧ Below w.heap.size w w' := by
  have hmx : Try.prog.follows .mixedOrders = true := by kernel_rfl
  have heq := fun a b c x y z W => run_eqT a b c x y z W
  obtain ⟨pl, cl, rfl⟩ := hv.form
  have HL : Hid (Lst w (.slice pl l.length cl) l) := hv
  clear hv
  go_enter Try.func19, Try.ntmps19
  go_wp2_with fail
  go_loopw [3, 4, 5, 6] (fun s3 s4 _ _ wr => ∃ k : Nat, k ≤ l.length ∧ s4 = .int .i64 k ∧ Hid (wr.ownsRow w.heap.size 25 3 s3 ((l.take k).filter (lsB l)).length (flT ((l.take k).filter (lsB l))) ∧ Below w.heap.size w wr)) (fun _ s4 _ _ _ => l.length - (RowKit.intOf s4).toNat)
  case atStart => exact ⟨0, Nat.zero_le _, rfl, World.ownsRow_nil _ _ _ _, Below.refl _ _⟩
  case round =>
    obtain ⟨k, hk, rfl, HI⟩ := hrel
    by_cases hlt : k < l.length
    · have hltz : (k : Int) < (l.length : Int) := by omega
      obtain ⟨y, hy⟩ : ∃ y, l[k]? = some y := ⟨l[k], by simp⟩
      have HY : Hid (l[k]? = some y) := hy
      have HF : Hid ((l.take (k + 1)).filter (lsB l) = (l.take k).filter (lsB l) ++ (if lsB l y then [y] else [])) := by
        show _ = _
        rw [filt_take_succ hy]
      have hFL : ((l.take k).filter (lsB l)).length ≤ k := Nat.le_trans (List.length_filter_le _ _) (by rw [List.length_take]; omega)
      clear hy
      generalize (l.take k).filter (lsB l) = F at *
      obtain ⟨wi, hwi⟩ : ∃ wi, wi = wr := ⟨wr, rfl⟩
      subst hwi
      go_wp2_with fail
      go_loopw [5, 6] (fun s5 s6 wq => ∃ j : Nat, j ≤ l.length ∧ s6 = .int .i64 j ∧ s5 = .bool (lsB (l.take j) y) ∧ Gr wi wq) (fun _ s6 _ => l.length - (RowKit.intOf s6).toNat)
      case atStart => exact ⟨0, Nat.zero_le _, rfl, rfl, Gr.refl _⟩
      case round =>
        obtain ⟨j, hj, rfl, rfl, hgj⟩ := hrel
        by_cases hjl : j < l.length
        · have hjz : (j : Int) < (l.length : Int) := by omega
          obtain ⟨z, hz⟩ : ∃ z, l[j]? = some z := ⟨l[j], by simp⟩
          have HGS : Hid (lsB (l.take (j + 1)) y = (lsB (l.take j) y && (decide (z = y) || !bel z y))) := lsB_take_succ hz y
          have BJ : Below w.heap.size w wr := HI.out.2.trans (hgj.below.mono HI.out.2.size)
          obtain ⟨b2, o2, c2, e2, z2, x1, x2, x3⟩ := atT (HL.out.below BJ) hz
          obtain ⟨b3, o3, c3, e3, z3, y1, y2, y3⟩ := atT (HL.out.below BJ) HY.out
          simp only [Value.slice.injEq] at e2
          obtain ⟨rfl, -, rfl⟩ := e2
          simp only [Value.slice.injEq, Option.some.injEq, Addr.mk.injEq, and_true] at e3
          obtain ⟨⟨rfl, rfl⟩, -⟩ := e3
          clear hz BJ
          generalize lsB (l.take j) y = L0 at *
          by_cases hzy : z = y
          · have hq := teq_t hzy
            have HG2 : Hid (lsB (l.take (j + 1)) y = L0) := by rw [HGS.out, decide_eq_true hzy]; simp [Hid]
            clear HGS hzy
            go_wp2_with fail
            go_quiet (fail)
            have G9 : Gr wi (wr.drewN nq) := hgj.drewN nq
            go_wp2
            go_roundw
            case rel => exact ⟨j + 1, by omega, by go_num, by rw [HG2.out], G9⟩
            case measure => simp [RowKit.intOf]; omega
          · have hq := teq_f hzy
            have g1 := cell_grown (a := ⟨b2, o2 + j * 3, none⟩) z2 x1
            have g2 := cell_grown (a := ⟨b2, o2 + j * 3 + 1, none⟩) z2 x2
            have g3 := cell_grown (a := ⟨b2, o2 + j * 3 + 2, none⟩) z2 x3
            have g4 := cell_grown (a := ⟨b2, o2 + k * 3, none⟩) z3 y1
            have g5 := cell_grown (a := ⟨b2, o2 + k * 3 + 1, none⟩) z3 y2
            have g6 := cell_grown (a := ⟨b2, o2 + k * 3 + 2, none⟩) z3 y3
            have hra := fun W => r5ahead_any z y W
            cases hb : bel z y with
            | true =>
              rw [hb] at hra
              have HG2 : Hid (lsB (l.take (j + 1)) y = false) := by rw [HGS.out, decide_eq_false hzy, hb]; simp [Hid]
              clear HGS hzy hb x1 x2 x3 y1 y2 y3
              go_wp2_with fail
              go_quiet_grown (first | (go_at_call 14; refine Calls.grown_of (hra _)))
              have G9 : Gr wi (grow (wr.drewN nq) osq) := (hgj.drewN nq).grown osq
              go_wp2
              go_roundw
              case rel => exact ⟨j + 1, by omega, by go_num, by rw [HG2.out], G9⟩
              case measure => simp [RowKit.intOf]; omega
            | false =>
              rw [hb] at hra
              have HG2 : Hid (lsB (l.take (j + 1)) y = L0) := by rw [HGS.out, hb]; simp [Hid]
              clear HGS hzy hb x1 x2 x3 y1 y2 y3
              go_wp2_with fail
              go_quiet_grown (first | (go_at_call 14; refine Calls.grown_of (hra _)))
              have G9 : Gr wi (grow (wr.drewN nq) osq) := (hgj.drewN nq).grown osq
              go_wp2
              go_roundw
              case rel => exact ⟨j + 1, by omega, by go_num, by rw [HG2.out], G9⟩
              case measure => simp [RowKit.intOf]; omega
        · have hjz : ¬ (j : Int) < (l.length : Int) := by omega
          have hjj : j = l.length := by omega
          subst hjj
          rw [List.take_length]
          have BJ : Hid (Below w.heap.size w wr) := HI.out.2.trans (hgj.below.mono HI.out.2.size)
          have HOJ : Hid (wr.ownsRow w.heap.size 25 3 u3 F.length (flT F)) := owns_below HI.out.1 hgj.below
          obtain ⟨bf, of, ccf, ef, zf, f1, f2, f3⟩ := atT (HL.out.below BJ.out) HY.out
          simp only [Value.slice.injEq] at ef
          obtain ⟨rfl, -, rfl⟩ := ef
          clear HI hgj
          cases hg0 : lsB l y with
          | false =>
            rw [hg0] at HF
            have HN2 : Hid ((l.take (k + 1)).filter (lsB l) = F) := by rw [HF.out]; simp [Hid]
            clear HF hg0
            go_wp2
            go_roundw
            case rel => exact ⟨k + 1, by omega, by go_num, by rw [HN2.out]; exact ⟨HOJ.out, BJ.out⟩⟩
            case measure => simp [RowKit.intOf]; omega
          | true =>
            rw [hg0] at HF
            have HN2 : Hid ((l.take (k + 1)).filter (lsB l) = F ++ [y]) := by rw [HF.out]; simp [Hid]
            have hbz := BJ.out.size
            clear HF hg0
            go_wp2_with (at_builtin; refine Cn.wpApp1 rfl _ _ rfl w.heap.size _ F.length _ rfl HOJ.out y rfl (by omega) hbz ?_)
            intro g' cap' w6 ho6 hg6 hl6
            have HE6 : Hid (w6.ownsRow w.heap.size 25 3 (.slice (some ⟨g', 0, none⟩) (F.length + 1) cap') (F ++ [y]).length (flT (F ++ [y])) ∧ Below w.heap.size w w6) := ⟨owns_re ho6 (by simp) (by show _ = fl ET (F ++ [y]); rw [fl_append, fl_one]), BJ.out.trans ((Kp.grownBy (S := fun k => w.heap.size ≤ k) hg6 (fun k hk => (HOJ.out.lt k hk).1)).below BJ.out.size (fun _ h => h))⟩
            clear ho6 hg6 hl6
            go_wp2
            go_roundw
            case rel => exact ⟨k + 1, by omega, by go_num, by rw [HN2.out]; exact HE6.out⟩
            case measure => simp [RowKit.intOf]; omega
    · have hltz : ¬ (k : Int) < (l.length : Int) := by omega
      have hkk : k = l.length := by omega
      subst hkk
      rw [List.take_length] at HI
      have hFL := List.length_filter_le (lsB l) l
      have HB : Hid (Below w.heap.size w wr) := HI.out.2
      have hso := r5sorted_any u3 (l.filter (lsB l)) wr (owns_ls (E := ET) HI.out.1) (by omega)
      clear HI
      go_wp2_with fail
      refine hso.mono ?_
      rintro e w9 ⟨v9, r, rfl, ho9, hp9, hm9, hb9⟩
      have HO9 : Hid (Out wr.heap.size w9 v9 r ∧ (r.Pairwise fun p q => tol p q = true) ∧ (∀ y, y ∈ r ↔ y ∈ l ∧ ∀ z ∈ l, bel z y = true → z = y) ∧ Below w.heap.size w w9) := ⟨ho9, hp9, fun y => by rw [hm9 y, List.mem_filter, lsB_iff], HB.out.trans (hb9.mono HB.out.size)⟩
      have HWZ : Hid (w.heap.size ≤ wr.heap.size) := HB.out.size
      clear hso ho9 hp9 hm9 hb9 HB
      go_wp2
      go_ret
      obtain ⟨h1, h2⟩ := HO9.out
      exact ⟨_, r, rfl, h1.mono HWZ.out, h2⟩
end Go.Proofs.Ytghpekkncfckaaa.Ca
