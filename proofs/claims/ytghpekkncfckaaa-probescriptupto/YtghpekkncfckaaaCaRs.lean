import Derived.Test.YtghpekkncfckaaaCaRf
namespace Go.Proofs.Ytghpekkncfckaaa.Ca
open Go.RowKit Go.Sort
attribute [local go_sem ↓] Go.wp_at_zero Go.wp_at_succ

abbrev flT (l : List T3) : List Value := fl ET l
abbrev Lst (w : World) (v : Value) (ts : List T3) : Prop := Ls ET w v ts
theorem owns_lst {w : World} {base : Nat} {e : TypeId} {v : Value} {ts : List T3} (h : w.ownsRow base e 3 v ts.length (flT ts)) : Lst w v ts := owns_ls (E := ET) h
theorem nlt {a b : Nat} (h1 : a ≤ b) (h2 : b < a) : False := Nat.lt_irrefl _ (Nat.lt_of_le_of_lt h1 h2)
theorem teq_t {s t : T3} (h : s = t) : teq s.1 s.2.1 s.2.2 t.1 t.2.1 t.2.2 = true := by rw [teq_dec]; simpa using h
theorem teq_f {s t : T3} (h : s ≠ t) : teq s.1 s.2.1 s.2.2 t.1 t.2.1 t.2.2 = false := by rw [teq_dec]; simpa using h
namespace Cn
/-- 'append(own, y)' where own is of times. -/
theorem wpApp1 {w : World} {ops : Array Oper} {rest : List Oper} {o : Oper} {a : Act} {Q : Exit → Act → World → Prop} (hgd : o.guard = none) (s x : Operand)
    (ho : o.op = .call { callee := .builtin .append, args := #[s, x], argTypes := #[26, 26] })
    (base : Nat) (v : Value) (n : Nat) (xs : List Value) (hs : a.eval s = v) (hown : w.ownsRow base 25 3 v n xs)
    (t : T3) (hx : a.eval x = .slice (some ⟨w.heap.size, 0, none⟩) 1 1) (hbig : (n + 1) * 24 ≤ 140737488355328) (hbase : base ≤ w.heap.size)
    (h : ∀ g cap w', w'.ownsRow base 25 3 (.slice (some ⟨g, 0, none⟩) (n + 1) cap) (n + 1) (xs ++ ET.enc t) → w.grownBy w' v.ownBlock → (v.ownBlock = some g ∨ w.heap.size ≤ g) → wpList Try.prog ops Q rest (a.put o.dst (.slice (some ⟨g, 0, none⟩) (n + 1) cap)) w') :
    wpList Try.prog ops Q (o :: rest) a (w.alloc (.cells #[.int .u64 t.1, .int .u64 t.2.1, .int .u64 t.2.2] 25)) :=
  Ytghpekkncfckaaa.wpApp1 ET Try.underlying26 infoT rfl (by decide) hgd s x ho base v n xs hs hown t hx hbig (by unfold maxLen; omega) hbase _ rfl _ h
/-- 'append(own, l...)'. -/
theorem wpAppL {w : World} {ops : Array Oper} {rest : List Oper} {o : Oper} {a : Act} {Q : Exit → Act → World → Prop} (hgd : o.guard = none) (s x : Operand)
    (ho : o.op = .call { callee := .builtin .append, args := #[s, x], argTypes := #[26, 26] })
    (base : Nat) (v : Value) (n : Nat) (xs : List Value) (hs : a.eval s = v) (hown : w.ownsRow base 25 3 v n xs)
    (v1 : Value) (ts : List T3) (hx : a.eval x = v1) (hv : Lst w v1 ts) (hbig : (n + ts.length) * 24 ≤ 140737488355328) (hbase : base ≤ w.heap.size)
    (h : ∀ v' w', w'.ownsRow base 25 3 v' (n + ts.length) (xs ++ flT ts) → w.grownBy w' v.ownBlock → wpList Try.prog ops Q rest (a.put o.dst v') w') : wpList Try.prog ops Q (o :: rest) a w :=
  Ytghpekkncfckaaa.wpAppL ET Try.underlying26 infoT rfl (by decide) hgd s x ho base v n xs hs hown v1 ts hx hv hbig (by unfold maxLen; omega) hbase h
end Cn
theorem sorted_put {R : List T3} {x : T3} {a : Nat} (hR : R.Pairwise fun p q => tol p q = true) (ha : ∀ j y, j < a → R[j]? = some y → tol y x = true) (hb : ∀ y, R[a]? = some y → tol y x = false ∧ y ≠ x) : (R.take a ++ x :: R.drop a).Pairwise fun p q => tol p q = true := by
  have hs : (R.take a ++ R.drop a).Pairwise fun p q => tol p q = true := by rw [List.take_append_drop]; exact hR
  rw [List.pairwise_append] at hs
  have h1 : ∀ p ∈ R.take a, tol p x = true := fun p hp => by
    obtain ⟨j, hj⟩ := List.mem_iff_getElem?.1 hp
    rw [List.getElem?_take] at hj
    split at hj
    · exact ha j p (by assumption) hj
    · cases hj
  have h2 : ∀ q ∈ R.drop a, tol x q = true := fun q hq => by
    obtain ⟨j, hj⟩ := List.mem_iff_getElem?.1 hq
    rw [List.getElem?_drop] at hj
    have hal : a < R.length := by have := (List.getElem?_eq_some_iff.1 hj).1; omega
    obtain ⟨h3, h4⟩ := hb R[a] (by simp)
    have h5 : tol x R[a] = true := tol_tot h3 h4
    by_cases hj0 : j = 0
    · subst hj0
      rw [Nat.add_zero, List.getElem?_eq_getElem hal] at hj
      cases hj
      exact h5
    · obtain ⟨h6, rfl⟩ := List.getElem?_eq_some_iff.1 hj
      exact tol_tr h5 (List.pairwise_iff_getElem.1 hR a (a + j) hal h6 (by omega))
  refine List.pairwise_append.2 ⟨hs.1, List.pairwise_cons.2 ⟨h2, hs.2.1⟩, fun p hp q hq => ?_⟩
  rcases List.mem_cons.1 hq with rfl | hq
  · exact h1 p hp
  · exact hs.2.2 p hp q hq
theorem mem_put {R : List T3} {x y : T3} {a : Nat} : y ∈ R.take a ++ x :: R.drop a ↔ y = x ∨ y ∈ R := by
  have : y ∈ R ↔ y ∈ R.take a ∨ y ∈ R.drop a := by rw [← List.mem_append, List.take_append_drop]
  rw [this]
  simp only [List.mem_append, List.mem_cons]
  constructor
  · rintro (h | h | h)
    · exact Or.inr (Or.inl h)
    · exact Or.inl h
    · exact Or.inr (Or.inr h)
  · rintro (h | h | h)
    · exact Or.inr (Or.inl h)
    · exact Or.inl h
    · exact Or.inr (Or.inr h)
/-- The list so far: no list, or a row. -/
def Out (base : Nat) (w : World) (v : Value) (R : List T3) : Prop := (R = [] ∧ v = .slice none 0 0) ∨ (R ≠ [] ∧ ∃ g c, v = .slice (some ⟨g, 0, none⟩) R.length c ∧ w.ownsRow base 25 3 v R.length (flT R))
theorem Out.owns {base : Nat} {w : World} {v : Value} {R : List T3} (h : Out base w v R) : w.ownsRow base 25 3 v R.length (flT R) := by
  rcases h with ⟨rfl, rfl⟩ | ⟨_, g, c, rfl, h⟩
  · exact World.ownsRow_nil _ _ _ _
  · exact h
theorem Out.below {base : Nat} {w w' : World} {v : Value} {R : List T3} (h : Out base w v R) (hb : Below w.heap.size w w') : Out base w' v R := by
  rcases h with h | ⟨h0, g, c, hv, h⟩
  · exact Or.inl h
  · exact Or.inr ⟨h0, g, c, hv, owns_below h hb⟩

set_option maxHeartbeats 2000000 in
set_option maxRecDepth 100000 in
theorem r5sorted_any (v : Value) (l : List T3) (w : World) (hv : Lst w v l) (hl : l.length ≤ 5864062014634) :
    Calls Try.prog 38 #[v] w fun e w' => ∃ (v' : Value) (r : List T3), e = .returned v' ∧ Out w.heap.size w' v' r ∧ (r.Pairwise fun p q => tol p q = true) ∧ (∀ y, y ∈ r ↔ y ∈ l) ∧ Below w.heap.size w w' := by
  have hmx : Try.prog.follows .mixedOrders = true := by kernel_rfl
  have heq := fun a b c x y z W => run_eqT a b c x y z W
  obtain ⟨pl, cl, rfl⟩ := hv.form
  have HL : Hid (Lst w (.slice pl l.length cl) l) := hv
  clear hv
  go_enter Try.func38, Try.ntmps38
  go_wp2_with fail
  go_loopw [3, 4, 5, 6] (fun s3 s4 _ _ wr => ∃ (k : Nat) (R : List T3), k ≤ l.length ∧ R.length ≤ k ∧ s4 = .int .i64 k ∧ Hid (Out w.heap.size wr s3 R ∧ (R.Pairwise fun p q => tol p q = true) ∧ (∀ y, y ∈ R ↔ y ∈ l.take k) ∧ Below w.heap.size w wr)) (fun _ s4 _ _ _ => l.length - (RowKit.intOf s4).toNat)
  case atStart => exact ⟨0, [], Nat.zero_le _, Nat.zero_le _, rfl, Or.inl ⟨rfl, rfl⟩, List.Pairwise.nil, by simp, Below.refl _ _⟩
  case round =>
    obtain ⟨k, R, hk, hRk, rfl, HI⟩ := hrel
    by_cases hlt : k < l.length
    · have hltz : (k : Int) < (l.length : Int) := by omega
      obtain ⟨x, hx⟩ : ∃ x, l[k]? = some x := ⟨l[k], by simp⟩
      have HX : Hid (l[k]? = some x) := hx
      have HTK : Hid (∀ y, y ∈ l.take (k + 1) ↔ y = x ∨ y ∈ l.take k) := fun y => by
        rw [List.take_add_one, hx, List.mem_append]
        simp [or_comm]
      clear hx
      obtain ⟨hO, hS, hM, hB⟩ := HI.out
      have HSO : Hid (R.Pairwise fun p q => tol p q = true) := hS
      have HM : Hid (∀ y, y ∈ R ↔ y ∈ l.take k) := hM
      have HB : Hid (Below w.heap.size w wr) := hB
      have HO : Hid (Out w.heap.size wr u3 R) := hO
      obtain ⟨p3, c3, hv3⟩ := (owns_lst hO.owns).form
      obtain ⟨wk, hwk⟩ : ∃ wk, wk = wr := ⟨wr, rfl⟩
      subst hwk
      clear hO hS hM hB HI
      subst hv3
      go_wp2_with fail
      go_loopw [5] (fun s5 wq => ∃ a : Nat, a ≤ R.length ∧ s5 = .int .i64 a ∧ Gr wk wq ∧ Hid (∀ j y, j < a → R[j]? = some y → tol y x = true)) (fun s5 _ => R.length - (RowKit.intOf s5).toNat)
      case atStart => exact ⟨0, Nat.zero_le _, rfl, Gr.refl _, fun j _ hj => absurd hj (Nat.not_lt_zero _)⟩
      case round =>
        obtain ⟨a, ha, rfl, hga, A⟩ := hrel
        by_cases hal : a < R.length
        · have halz : (a : Int) < (R.length : Int) := by omega
          have hgd : decide ((a : Int) < (R.length : Int)) = true := by simpa using halz
          obtain ⟨y, hy⟩ : ∃ y, R[a]? = some y := ⟨R[a], by simp⟩
          have HY : Hid (R[a]? = some y) := hy
          rcases HO.out with ⟨h0, _⟩ | ⟨hne, g, c, hv', ho⟩
          · exact absurd hal (by rw [h0]; simp)
          simp only [Value.slice.injEq] at hv'
          obtain ⟨rfl, -, rfl⟩ := hv'
          obtain ⟨bq, oq, cq, eq, zq, y1, y2, y3⟩ := atT (owns_lst (owns_below ho hga.below)) hy
          simp only [Value.slice.injEq, Option.some.injEq, Addr.mk.injEq, and_true] at eq
          obtain ⟨⟨rfl, rfl⟩, -⟩ := eq
          rw [Nat.zero_add] at y1 y2 y3
          obtain ⟨b1, o1, c1, e1, z1, x1, x2, x3⟩ := atT ((HL.out.below HB.out).below hga.below) HX.out
          simp only [Value.slice.injEq] at e1
          obtain ⟨rfl, -, rfl⟩ := e1
          have S0 : (wr.drew.cell? ⟨b1, o1 + k * 3, none⟩ = some (.int .u64 x.1) ∧ wr.drew.cell? ⟨b1, o1 + k * 3 + 1, none⟩ = some (.int .u64 x.2.1) ∧ wr.drew.cell? ⟨b1, o1 + k * 3 + 2, none⟩ = some (.int .u64 x.2.2) ∧ wr.drew.cell? ⟨g, a * 3, none⟩ = some (.int .u64 y.1) ∧ wr.drew.cell? ⟨g, a * 3 + 1, none⟩ = some (.int .u64 y.2.1) ∧ wr.drew.cell? ⟨g, a * 3 + 2, none⟩ = some (.int .u64 y.2.2) ∧ b1 < wr.drew.heap.size ∧ g < wr.drew.heap.size) := ⟨x1, x2, x3, y1, y2, y3, z1, zq⟩
          have keepG : ∀ W W' : World, (W.cell? ⟨b1, o1 + k * 3, none⟩ = some (.int .u64 x.1) ∧ W.cell? ⟨b1, o1 + k * 3 + 1, none⟩ = some (.int .u64 x.2.1) ∧ W.cell? ⟨b1, o1 + k * 3 + 2, none⟩ = some (.int .u64 x.2.2) ∧ W.cell? ⟨g, a * 3, none⟩ = some (.int .u64 y.1) ∧ W.cell? ⟨g, a * 3 + 1, none⟩ = some (.int .u64 y.2.1) ∧ W.cell? ⟨g, a * 3 + 2, none⟩ = some (.int .u64 y.2.2) ∧ b1 < W.heap.size ∧ g < W.heap.size) → Gr W W' → (W'.cell? ⟨b1, o1 + k * 3, none⟩ = some (.int .u64 x.1) ∧ W'.cell? ⟨b1, o1 + k * 3 + 1, none⟩ = some (.int .u64 x.2.1) ∧ W'.cell? ⟨b1, o1 + k * 3 + 2, none⟩ = some (.int .u64 x.2.2) ∧ W'.cell? ⟨g, a * 3, none⟩ = some (.int .u64 y.1) ∧ W'.cell? ⟨g, a * 3 + 1, none⟩ = some (.int .u64 y.2.1) ∧ W'.cell? ⟨g, a * 3 + 2, none⟩ = some (.int .u64 y.2.2) ∧ b1 < W'.heap.size ∧ g < W'.heap.size) := fun W W' h hg =>
            ⟨(hg.cell h.2.2.2.2.2.2.1).trans h.1, (hg.cell h.2.2.2.2.2.2.1).trans h.2.1, (hg.cell h.2.2.2.2.2.2.1).trans h.2.2.1, (hg.cell h.2.2.2.2.2.2.2).trans h.2.2.2.1, (hg.cell h.2.2.2.2.2.2.2).trans h.2.2.2.2.1, (hg.cell h.2.2.2.2.2.2.2).trans h.2.2.2.2.2.1, Nat.lt_of_lt_of_le h.2.2.2.2.2.2.1 hg.size, Nat.lt_of_lt_of_le h.2.2.2.2.2.2.2 hg.size⟩
          have hto := fun W => r5told_any y x W
          have HGA : Hid (Gr wk wr.drew) := hga.drew
          have HO' : Hid (wk.ownsRow w.heap.size 25 3 (.slice (some ⟨g, 0, none⟩) R.length c3) R.length (flT R)) := ho
          clear hy ho hga x1 x2 x3 y1 y2 y3 z1 zq HO
          cases hq : tol y x with
          | true =>
            rw [hq] at hto
            go_wp2_with fail
            go_region_held3 (fun w' => w'.cell? ⟨b1, o1 + k * 3, none⟩ = some (.int .u64 x.1) ∧ w'.cell? ⟨b1, o1 + k * 3 + 1, none⟩ = some (.int .u64 x.2.1) ∧ w'.cell? ⟨b1, o1 + k * 3 + 2, none⟩ = some (.int .u64 x.2.2) ∧ w'.cell? ⟨g, a * 3, none⟩ = some (.int .u64 y.1) ∧ w'.cell? ⟨g, a * 3 + 1, none⟩ = some (.int .u64 y.2.1) ∧ w'.cell? ⟨g, a * 3 + 2, none⟩ = some (.int .u64 y.2.2) ∧ b1 < w'.heap.size ∧ g < w'.heap.size)
              (first | exact S0 | exact keepG _ _ (by assumption) (by assumption))
              (first | (go_at_call 32; refine (hto _).mono ?_; rintro e w5 ⟨rfl, hg5⟩))
            go_wp2
            go_roundw
            case rel =>
              refine ⟨a + 1, by omega, by go_num, HGA.out.trans hg5, fun j z hj hz => ?_⟩
              by_cases e : j = a
              · subst e
                have := HY.out
                rw [hz] at this
                cases this
                exact hq
              · exact A.out j z (by omega) hz
            case measure => simp [RowKit.intOf]; omega
          | false =>
            rw [hq] at hto
            go_wp2_with fail
            go_region_held3 (fun w' => w'.cell? ⟨b1, o1 + k * 3, none⟩ = some (.int .u64 x.1) ∧ w'.cell? ⟨b1, o1 + k * 3 + 1, none⟩ = some (.int .u64 x.2.1) ∧ w'.cell? ⟨b1, o1 + k * 3 + 2, none⟩ = some (.int .u64 x.2.2) ∧ w'.cell? ⟨g, a * 3, none⟩ = some (.int .u64 y.1) ∧ w'.cell? ⟨g, a * 3 + 1, none⟩ = some (.int .u64 y.2.1) ∧ w'.cell? ⟨g, a * 3 + 2, none⟩ = some (.int .u64 y.2.2) ∧ b1 < w'.heap.size ∧ g < w'.heap.size)
              (first | exact S0 | exact keepG _ _ (by assumption) (by assumption))
              (first | (go_at_call 32; refine (hto _).mono ?_; rintro e w5 ⟨rfl, hg5⟩))
            have HG5 : Hid (Gr wk w5) := HGA.out.trans hg5
            have S5 : (w5.cell? ⟨b1, o1 + k * 3, none⟩ = some (.int .u64 x.1) ∧ w5.cell? ⟨b1, o1 + k * 3 + 1, none⟩ = some (.int .u64 x.2.1) ∧ w5.cell? ⟨b1, o1 + k * 3 + 2, none⟩ = some (.int .u64 x.2.2) ∧ w5.cell? ⟨g, a * 3, none⟩ = some (.int .u64 y.1) ∧ w5.cell? ⟨g, a * 3 + 1, none⟩ = some (.int .u64 y.2.1) ∧ w5.cell? ⟨g, a * 3 + 2, none⟩ = some (.int .u64 y.2.2) ∧ b1 < w5.heap.size ∧ g < w5.heap.size) := keepG _ _ S0 hg5
            clear S0 keepG hto hg5
            by_cases hyx : y = x
            · have hqe := teq_t hyx
              have HYX : Hid (y = x) := hyx
              clear hyx
              go_wp2_with fail
              obtain ⟨x1, x2, x3, y1, y2, y3, z1, zq⟩ := S5
              go_quiet (fail)
              go_wp2
              go_roundw
              case rel =>
                refine ⟨k + 1, R, by omega, by omega, by go_num, Or.inr ⟨hne, _, _, rfl, owns_below HO'.out (HG5.out.drewN _).below⟩, HSO.out, fun z => ?_, HB.out.trans ((HG5.out.drewN _).below.mono HB.out.size)⟩
                rw [HTK.out z, HM.out z]
                constructor
                · exact Or.inr
                · rintro (h | h)
                  · rw [h, ← HYX.out]
                    exact (HM.out y).1 (List.mem_of_getElem? HY.out)
                  · exact h
              case measure => simp [RowKit.intOf]; omega
            · have hqe := teq_f hyx
              have HNB : Hid (∀ z, R[a]? = some z → tol z x = false ∧ z ≠ x) := fun z hz => by
                have := HY.out
                rw [hz] at this
                cases this
                exact ⟨hq, hyx⟩
              clear hyx
              go_wp2_with fail
              obtain ⟨x1, x2, x3, y1, y2, y3, z1, zq⟩ := S5
              go_quiet (fail)
              clear x1 x2 x3 y1 y2 y3 z1 zq hqe
              obtain ⟨W9, hW9⟩ : ∃ W9, W9 = w5.drewN nq := ⟨_, rfl⟩
              have HG9 : Hid (Gr wk W9) := by rw [hW9]; exact HG5.out.drewN _
              rw [← hW9]
              clear hW9
              obtain ⟨hc1, hc2⟩ := owns_cap HO'.out
              unfold maxLen at hc2
              have zz1 : (0 : Int) ≤ (a : Int) := by omega
              have zz2 : (a : Int) ≤ (c3 : Int) := by omega
              have zz3 : ¬ c3 = 0 := by omega
              have zz4 : ¬ c3 = a := by omega
              have zz5 : (a : Int) ≤ (R.length : Int) := by omega
              have BW : Below w.heap.size w W9 := HB.out.trans (HG9.out.below.mono HB.out.size)
              have LX : Lst W9 (.slice (some ⟨b1, o1, none⟩) l.length cl) l := HL.out.below BW
              have L1 : Lst W9 (.slice (some ⟨g, 0, none⟩) a c3) (R.take a) := (owns_lst (owns_below HO'.out HG9.out.below)).cut (k := a) (by omega) c3
              have HL3 : Hid (Lst W9 (.slice (some ⟨g, a * 3, none⟩) (R.length - a) (c3 - a)) (R.drop a)) := (by have h := (owns_lst (owns_below HO'.out HG9.out.below)).tail (k := a) (c3 - a); rw [Nat.zero_add] at h; exact h)
              have HSEP : Hid (∀ k, (Value.ownBlock (.slice (some ⟨g, a * 3, none⟩) (R.length - a) (c3 - a))) = some k → k < W9.heap.size) := HL3.out.blk
              have HTA : Hid ((R.take a).length = a) := by show _ = _; rw [List.length_take]; omega
              have HDA : Hid ((R.drop a).length = R.length - a) := List.length_drop
              have hw0 := BW.size
              go_wp2_with (at_builtin; refine Cn.wpAppL rfl _ _ rfl W9.heap.size (.slice none 0 0) 0 [] rfl (World.ownsRow_nil _ _ _ _) (.slice (some ⟨g, 0, none⟩) a c3) (R.take a) rfl L1 (by have := HTA.out; omega) (Nat.le_refl _) ?_)
              intro v6 w6 ho6 hg6
              have B6 : Below W9.heap.size W9 w6 := (Kp.grownBy (S := fun _ => False) hg6 (fun k hk => by simp [Value.ownBlock] at hk)).below (Nat.le_refl _) (fun _ h => h.elim)
              have ho6' : w6.ownsRow W9.heap.size 25 3 v6 a (flT (R.take a)) := owns_re ho6 (by have := HTA.out; omega) (by simp)
              have HL6 : Hid (Lst w6 (.slice (some ⟨g, a * 3, none⟩) (R.length - a) (c3 - a)) (R.drop a)) := HL3.out.below B6
              obtain ⟨bx, ox, cx, ex, zx, x1, x2, x3⟩ := atT (LX.below B6) HX.out
              simp only [Value.slice.injEq, Option.some.injEq, Addr.mk.injEq, and_true] at ex
              obtain ⟨⟨rfl, rfl⟩, -, rfl⟩ := ex
              have hw6 := B6.size
              clear ho6 hg6 L1 LX HL3
              go_wp2_with (at_builtin; refine Cn.wpApp1 rfl _ _ rfl W9.heap.size v6 a _ rfl ho6' x (by first | rfl | simp) (by omega) hw6 ?_)
              intro g7 c7 w7 ho7 hg7 hl7
              have K7 : Kp (fun k => W9.heap.size ≤ k) w6 w7 := Kp.grownBy hg7 (fun k hk => (ho6'.lt k hk).1)
              have B7 : Below W9.heap.size W9 w7 := B6.trans (K7.below B6.size (fun _ h => h))
              have HL7 : Hid (Lst w7 (.slice (some ⟨g, a * 3, none⟩) (R.length - a) (c3 - a)) (R.drop a)) := K7.ls HL6.out (fun k hk e => nlt e (HSEP.out k hk))
              have hw7 := B7.size
              clear hg7 hl7 x1 x2 x3 zx
              go_wp2_with (at_builtin; refine Cn.wpAppL rfl _ _ rfl W9.heap.size (.slice (some ⟨g7, 0, none⟩) (a + 1) c7) (a + 1) _ rfl ho7 (.slice (some ⟨g, a * 3, none⟩) (R.length - a) (c3 - a)) (R.drop a) rfl HL7.out (by have := HDA.out; omega) hw7 ?_)
              intro v8 w8 ho8 hg8
              have B8 : Below W9.heap.size W9 w8 := B7.trans ((Kp.grownBy (S := fun k => W9.heap.size ≤ k) hg8 (fun k hk => (ho7.lt k hk).1)).below B7.size (fun _ h => h))
              have BW8 : Hid (Below w.heap.size w w8) := BW.trans (B8.mono BW.size)
              have hlen : (R.take a ++ x :: R.drop a).length = a + 1 + (R.drop a).length := by rw [List.length_append, List.length_cons, HTA.out]; omega
              have HO8 : Hid (Out w.heap.size w8 v8 (R.take a ++ x :: R.drop a)) := by
                have ho9 : w8.ownsRow w.heap.size 25 3 v8 (R.take a ++ x :: R.drop a).length (flT (R.take a ++ x :: R.drop a)) := owns_base (owns_re ho8 (by rw [hlen]; have := HDA.out; omega) (by
                  show _ = fl ET (R.take a ++ x :: R.drop a)
                  rw [fl_append, fl_cons]
                  first | done | rfl | simp [List.append_assoc] | simp)) hw0
                refine Or.inr ⟨by simp, ?_⟩
                rcases id ho9.2 with ⟨_, h0⟩ | ⟨g9, c9, cur, hv9, _⟩
                · rw [hlen] at h0; omega
                · exact ⟨g9, c9, hv9, ho9⟩
              have HL8 : Hid ((R.take a ++ x :: R.drop a).length ≤ k + 1) := by show _ ≤ _; rw [hlen, HDA.out]; omega
              clear ho8 hg8 ho7 hlen
              go_wp2
              go_roundw
              case rel => exact ⟨k + 1, R.take a ++ x :: R.drop a, by omega, HL8.out, by go_num, HO8.out, sorted_put HSO.out A.out HNB.out, fun y => by rw [mem_put, HTK.out y, HM.out y], BW8.out⟩
              case measure => simp [RowKit.intOf]; omega
        · have halz : ¬ (a : Int) < (R.length : Int) := by omega
          have hgd : decide ((a : Int) < (R.length : Int)) = false := by simpa using halz
          go_wp2_with fail
          go_quiet (fail)
          obtain ⟨Wq, hWq⟩ : ∃ Wq, Wq = wr.drewN nq := ⟨_, rfl⟩
          have HGQ : Hid (Gr wk Wq) := by rw [hWq]; exact hga.drewN _
          rw [← hWq]
          clear hWq hga
          have haR : a = R.length := by omega
          have HNB : Hid (∀ z, R[a]? = some z → tol z x = false ∧ z ≠ x) := fun z hz => by
            have := (List.getElem?_eq_some_iff.1 hz).1
            omega
          go_wp2_with fail
          go_quiet (fail)
          obtain ⟨W9, hW9⟩ : ∃ W9, W9 = Wq.drewN nq := ⟨_, rfl⟩
          have HG9 : Hid (Gr wk W9) := by rw [hW9]; exact HGQ.out.drewN _
          rw [← hW9]
          clear hW9 hgd
          rcases HO.out with ⟨h0, hv0⟩ | ⟨hne, g, c, hv', ho⟩
          · simp only [Value.slice.injEq] at hv0
            obtain ⟨rfl, hR0, rfl⟩ := hv0
            have ha0 : a = 0 := by omega
            subst h0
            subst ha0
            clear hR0 haR
            have BW : Below w.heap.size w W9 := HB.out.trans (HG9.out.below.mono HB.out.size)
            have LX : Lst W9 (.slice pl l.length cl) l := HL.out.below BW
            have L1 : Lst W9 (.slice none 0 0) (List.take 0 ([] : List T3)) := by simpa using Ls.nil W9
            have HL3 : Hid (Lst W9 (.slice none 0 0) (List.drop 0 ([] : List T3))) := by show Lst _ _ _; simpa using Ls.nil W9
            have HSEP : Hid (∀ k, (Value.ownBlock (.slice none 0 0)) = some k → k < W9.heap.size) := HL3.out.blk
            have HTA : Hid ((List.take 0 ([] : List T3)).length = 0) := by show _ = _; rw [List.length_take]; omega
            have HDA : Hid ((List.drop 0 ([] : List T3)).length = 0 - 0) := List.length_drop
            have hw0 := BW.size
            go_wp2_with (at_builtin; refine Cn.wpAppL rfl _ _ rfl W9.heap.size (.slice none 0 0) 0 [] rfl (World.ownsRow_nil _ _ _ _) (.slice none 0 0) (List.take 0 ([] : List T3)) rfl L1 (by have := HTA.out; omega) (Nat.le_refl _) ?_)
            intro v6 w6 ho6 hg6
            have B6 : Below W9.heap.size W9 w6 := (Kp.grownBy (S := fun _ => False) hg6 (fun k hk => by simp [Value.ownBlock] at hk)).below (Nat.le_refl _) (fun _ h => h.elim)
            have ho6' : w6.ownsRow W9.heap.size 25 3 v6 0 (flT (List.take 0 ([] : List T3))) := owns_re ho6 (by have := HTA.out; omega) (by simp)
            have HL6 : Hid (Lst w6 (.slice none 0 0) (List.drop 0 ([] : List T3))) := HL3.out.below B6
            obtain ⟨bx, ox, cx, ex, zx, x1, x2, x3⟩ := atT (LX.below B6) HX.out
            simp only [Value.slice.injEq] at ex
            obtain ⟨rfl, -, rfl⟩ := ex
            have hw6 := B6.size
            clear ho6 hg6 L1 LX HL3
            go_wp2_with (at_builtin; refine Cn.wpApp1 rfl _ _ rfl W9.heap.size v6 0 _ rfl ho6' x (by first | rfl | simp) (by omega) hw6 ?_)
            intro g7 c7 w7 ho7 hg7 hl7
            have K7 : Kp (fun k => W9.heap.size ≤ k) w6 w7 := Kp.grownBy hg7 (fun k hk => (ho6'.lt k hk).1)
            have B7 : Below W9.heap.size W9 w7 := B6.trans (K7.below B6.size (fun _ h => h))
            have HL7 : Hid (Lst w7 (.slice none 0 0) (List.drop 0 ([] : List T3))) := K7.ls HL6.out (fun k hk e => nlt e (HSEP.out k hk))
            have hw7 := B7.size
            clear hg7 hl7 x1 x2 x3 zx
            go_wp2_with (at_builtin; refine Cn.wpAppL rfl _ _ rfl W9.heap.size (.slice (some ⟨g7, 0, none⟩) (0 + 1) c7) (0 + 1) _ rfl ho7 (.slice none 0 0) (List.drop 0 ([] : List T3)) rfl HL7.out (by have := HDA.out; omega) hw7 ?_)
            intro v8 w8 ho8 hg8
            have B8 : Below W9.heap.size W9 w8 := B7.trans ((Kp.grownBy (S := fun k => W9.heap.size ≤ k) hg8 (fun k hk => (ho7.lt k hk).1)).below B7.size (fun _ h => h))
            have BW8 : Hid (Below w.heap.size w w8) := BW.trans (B8.mono BW.size)
            have hlen : (List.take 0 ([] : List T3) ++ x :: List.drop 0 ([] : List T3)).length = 0 + 1 + (List.drop 0 ([] : List T3)).length := by rw [List.length_append, List.length_cons, HTA.out]; omega
            have HO8 : Hid (Out w.heap.size w8 v8 (List.take 0 ([] : List T3) ++ x :: List.drop 0 ([] : List T3))) := by
              have ho9 : w8.ownsRow w.heap.size 25 3 v8 (List.take 0 ([] : List T3) ++ x :: List.drop 0 ([] : List T3)).length (flT (List.take 0 ([] : List T3) ++ x :: List.drop 0 ([] : List T3))) := owns_base (owns_re ho8 (by rw [hlen]; have := HDA.out; omega) (by
                show _ = fl ET (List.take 0 ([] : List T3) ++ x :: List.drop 0 ([] : List T3))
                rw [fl_append, fl_cons]
                first | done | rfl | simp [List.append_assoc] | simp)) hw0
              refine Or.inr ⟨by simp, ?_⟩
              rcases id ho9.2 with ⟨_, h0⟩ | ⟨g9, c9, cur, hv9, _⟩
              · rw [hlen] at h0; omega
              · exact ⟨g9, c9, hv9, ho9⟩
            have HL8 : Hid ((List.take 0 ([] : List T3) ++ x :: List.drop 0 ([] : List T3)).length ≤ k + 1) := by show _ ≤ _; rw [hlen, HDA.out]; omega
            clear ho8 hg8 ho7 hlen
            go_wp2
            go_roundw
            case rel => exact ⟨k + 1, List.take 0 ([] : List T3) ++ x :: List.drop 0 ([] : List T3), by omega, HL8.out, by go_num, HO8.out, sorted_put HSO.out A.out HNB.out, fun y => by rw [mem_put, HTK.out y, HM.out y], BW8.out⟩
            case measure => simp [RowKit.intOf]; omega
          · simp only [Value.slice.injEq] at hv'
            obtain ⟨rfl, -, rfl⟩ := hv'
            have HO' : Hid (wk.ownsRow w.heap.size 25 3 (.slice (some ⟨g, 0, none⟩) R.length c3) R.length (flT R)) := ho
            clear ho HO
            obtain ⟨hc1, hc2⟩ := owns_cap HO'.out
            unfold maxLen at hc2
            have HAR : Hid (a = R.length) := haR
            have hRp : 0 < R.length := List.length_pos_iff.2 hne
            have zz1 : (0 : Int) ≤ (a : Int) := by omega
            have zz2 : (a : Int) ≤ (c3 : Int) := by omega
            have zz3 : ¬ c3 = 0 := by omega
            have zz5 : (a : Int) ≤ (R.length : Int) := by omega
            clear haR halz
            by_cases hca : c3 = a
            · subst hca
              have BW : Below w.heap.size w W9 := HB.out.trans (HG9.out.below.mono HB.out.size)
              have LX : Lst W9 (.slice pl l.length cl) l := HL.out.below BW
              have hRc : R.length = c3 := HAR.out.symm
              have HTA : Hid (R.take c3 = R) := List.take_of_length_le (by omega)
              have HDR : Hid (R.drop c3 = []) := List.drop_of_length_le (by omega)
              have L1 : Lst W9 (.slice (some ⟨g, 0, none⟩) c3 c3) R := by
                have h := owns_lst (owns_below HO'.out HG9.out.below)
                rw [hRc] at h
                exact h
              have HRC : Hid (R.length = c3) := hRc
              have hw0 := BW.size
              clear hRc
              go_wp2_with (at_builtin; refine Cn.wpAppL rfl _ _ rfl W9.heap.size (.slice none 0 0) 0 [] rfl (World.ownsRow_nil _ _ _ _) (.slice (some ⟨g, 0, none⟩) c3 c3) R rfl L1 (by have := HRC.out; omega) (Nat.le_refl _) ?_)
              intro v6 w6 ho6 hg6
              have B6 : Below W9.heap.size W9 w6 := (Kp.grownBy (S := fun _ => False) hg6 (fun k hk => by simp [Value.ownBlock] at hk)).below (Nat.le_refl _) (fun _ h => h.elim)
              have ho6' : w6.ownsRow W9.heap.size 25 3 v6 c3 (flT R) := owns_re ho6 (by have := HRC.out; omega) (by simp)
              obtain ⟨bx, ox, cx, ex, zx, x1, x2, x3⟩ := atT (LX.below B6) HX.out
              simp only [Value.slice.injEq] at ex
              obtain ⟨rfl, -, rfl⟩ := ex
              have hw6 := B6.size
              clear ho6 hg6 L1 LX
              go_wp2_with (at_builtin; refine Cn.wpApp1 rfl _ _ rfl W9.heap.size v6 c3 _ rfl ho6' x (by first | rfl | simp) (by omega) hw6 ?_)
              intro g7 c7 w7 ho7 hg7 hl7
              have K7 : Kp (fun k => W9.heap.size ≤ k) w6 w7 := Kp.grownBy hg7 (fun k hk => (ho6'.lt k hk).1)
              have B7 : Below W9.heap.size W9 w7 := B6.trans (K7.below B6.size (fun _ h => h))
              have hd0 : R.length - c3 = 0 := by have := HRC.out; omega
              have hgl : g < w7.heap.size := Nat.lt_of_lt_of_le ((owns_below HO'.out HG9.out.below).lt g rfl).2 B7.size
              have L3 : Lst w7 (.slice (some ⟨g, 0, none⟩) 0 0) [] := Or.inr ⟨g, 0, 0, rfl, hgl, fun j u hj => by simp [fl] at hj⟩
              have hw7 := B7.size
              clear hg7 hl7 x1 x2 x3 zx
              go_wp2_with (at_builtin; refine Cn.wpAppL rfl _ _ rfl W9.heap.size (.slice (some ⟨g7, 0, none⟩) (c3 + 1) c7) (c3 + 1) _ rfl ho7 (.slice (some ⟨g, 0, none⟩) 0 0) [] rfl L3 (by simp only [List.length_nil]; omega) hw7 ?_)
              intro v8 w8 ho8 hg8
              have B8 : Below W9.heap.size W9 w8 := B7.trans ((Kp.grownBy (S := fun k => W9.heap.size ≤ k) hg8 (fun k hk => (ho7.lt k hk).1)).below B7.size (fun _ h => h))
              have BW8 : Hid (Below w.heap.size w w8) := BW.trans (B8.mono BW.size)
              have hlen : (R.take c3 ++ x :: R.drop c3).length = c3 + 1 := by rw [HTA.out, HDR.out, List.length_append, HRC.out]; rfl
              have HO8 : Hid (Out w.heap.size w8 v8 (R.take c3 ++ x :: R.drop c3)) := by
                have ho9 : w8.ownsRow w.heap.size 25 3 v8 (R.take c3 ++ x :: R.drop c3).length (flT (R.take c3 ++ x :: R.drop c3)) := by
                  refine owns_base (owns_re ho8 (by first | exact hlen.symm | (rw [hlen]; simp)) ?_) hw0
                  show _ = fl ET (R.take c3 ++ x :: R.drop c3)
                  rw [HTA.out, HDR.out, fl_append, fl_one]
                  first | done | simp [fl]
                refine Or.inr ⟨by simp, ?_⟩
                rcases id ho9.2 with ⟨_, h0⟩ | ⟨g9, c9, cur, hv9, _⟩
                · rw [hlen] at h0; omega
                · exact ⟨g9, c9, hv9, ho9⟩
              have HL8 : Hid ((R.take c3 ++ x :: R.drop c3).length ≤ k + 1) := by show _ ≤ _; rw [hlen]; omega
              clear ho7 ho8 hg8 hlen hd0
              go_wp2
              go_roundw
              case rel => exact ⟨k + 1, R.take c3 ++ x :: R.drop c3, by omega, HL8.out, by go_num, HO8.out, sorted_put HSO.out A.out HNB.out, fun y => by rw [mem_put, HTK.out y, HM.out y], BW8.out⟩
              case measure => simp [RowKit.intOf]; omega
            · have zz4 : ¬ c3 = a := hca
              have BW : Below w.heap.size w W9 := HB.out.trans (HG9.out.below.mono HB.out.size)
              have LX : Lst W9 (.slice pl l.length cl) l := HL.out.below BW
              have L1 : Lst W9 (.slice (some ⟨g, 0, none⟩) a c3) (R.take a) := (owns_lst (owns_below HO'.out HG9.out.below)).cut (k := a) (by omega) c3
              have HL3 : Hid (Lst W9 (.slice (some ⟨g, a * 3, none⟩) (R.length - a) (c3 - a)) (R.drop a)) := (by have h := (owns_lst (owns_below HO'.out HG9.out.below)).tail (k := a) (c3 - a); rw [Nat.zero_add] at h; exact h)
              have HSEP : Hid (∀ k, (Value.ownBlock (.slice (some ⟨g, a * 3, none⟩) (R.length - a) (c3 - a))) = some k → k < W9.heap.size) := HL3.out.blk
              have HTA : Hid ((R.take a).length = a) := by show _ = _; rw [List.length_take]; omega
              have HDA : Hid ((R.drop a).length = R.length - a) := List.length_drop
              have hw0 := BW.size
              go_wp2_with (at_builtin; refine Cn.wpAppL rfl _ _ rfl W9.heap.size (.slice none 0 0) 0 [] rfl (World.ownsRow_nil _ _ _ _) (.slice (some ⟨g, 0, none⟩) a c3) (R.take a) rfl L1 (by have := HTA.out; omega) (Nat.le_refl _) ?_)
              intro v6 w6 ho6 hg6
              have B6 : Below W9.heap.size W9 w6 := (Kp.grownBy (S := fun _ => False) hg6 (fun k hk => by simp [Value.ownBlock] at hk)).below (Nat.le_refl _) (fun _ h => h.elim)
              have ho6' : w6.ownsRow W9.heap.size 25 3 v6 a (flT (R.take a)) := owns_re ho6 (by have := HTA.out; omega) (by simp)
              have HL6 : Hid (Lst w6 (.slice (some ⟨g, a * 3, none⟩) (R.length - a) (c3 - a)) (R.drop a)) := HL3.out.below B6
              obtain ⟨bx, ox, cx, ex, zx, x1, x2, x3⟩ := atT (LX.below B6) HX.out
              simp only [Value.slice.injEq] at ex
              obtain ⟨rfl, -, rfl⟩ := ex
              have hw6 := B6.size
              clear ho6 hg6 L1 LX HL3
              go_wp2_with (at_builtin; refine Cn.wpApp1 rfl _ _ rfl W9.heap.size v6 a _ rfl ho6' x (by first | rfl | simp) (by omega) hw6 ?_)
              intro g7 c7 w7 ho7 hg7 hl7
              have K7 : Kp (fun k => W9.heap.size ≤ k) w6 w7 := Kp.grownBy hg7 (fun k hk => (ho6'.lt k hk).1)
              have B7 : Below W9.heap.size W9 w7 := B6.trans (K7.below B6.size (fun _ h => h))
              have HL7 : Hid (Lst w7 (.slice (some ⟨g, a * 3, none⟩) (R.length - a) (c3 - a)) (R.drop a)) := K7.ls HL6.out (fun k hk e => nlt e (HSEP.out k hk))
              have hw7 := B7.size
              clear hg7 hl7 x1 x2 x3 zx
              go_wp2_with (at_builtin; refine Cn.wpAppL rfl _ _ rfl W9.heap.size (.slice (some ⟨g7, 0, none⟩) (a + 1) c7) (a + 1) _ rfl ho7 (.slice (some ⟨g, a * 3, none⟩) (R.length - a) (c3 - a)) (R.drop a) rfl HL7.out (by have := HDA.out; omega) hw7 ?_)
              intro v8 w8 ho8 hg8
              have B8 : Below W9.heap.size W9 w8 := B7.trans ((Kp.grownBy (S := fun k => W9.heap.size ≤ k) hg8 (fun k hk => (ho7.lt k hk).1)).below B7.size (fun _ h => h))
              have BW8 : Hid (Below w.heap.size w w8) := BW.trans (B8.mono BW.size)
              have hlen : (R.take a ++ x :: R.drop a).length = a + 1 + (R.drop a).length := by rw [List.length_append, List.length_cons, HTA.out]; omega
              have HO8 : Hid (Out w.heap.size w8 v8 (R.take a ++ x :: R.drop a)) := by
                have ho9 : w8.ownsRow w.heap.size 25 3 v8 (R.take a ++ x :: R.drop a).length (flT (R.take a ++ x :: R.drop a)) := owns_base (owns_re ho8 (by rw [hlen]; have := HDA.out; omega) (by
                  show _ = fl ET (R.take a ++ x :: R.drop a)
                  rw [fl_append, fl_cons]
                  first | done | rfl | simp [List.append_assoc] | simp)) hw0
                refine Or.inr ⟨by simp, ?_⟩
                rcases id ho9.2 with ⟨_, h0⟩ | ⟨g9, c9, cur, hv9, _⟩
                · rw [hlen] at h0; omega
                · exact ⟨g9, c9, hv9, ho9⟩
              have HL8 : Hid ((R.take a ++ x :: R.drop a).length ≤ k + 1) := by show _ ≤ _; rw [hlen, HDA.out]; omega
              clear ho8 hg8 ho7 hlen
              go_wp2
              go_roundw
              case rel => exact ⟨k + 1, R.take a ++ x :: R.drop a, by omega, HL8.out, by go_num, HO8.out, sorted_put HSO.out A.out HNB.out, fun y => by rw [mem_put, HTK.out y, HM.out y], BW8.out⟩
              case measure => simp [RowKit.intOf]; omega
    · have hltz : ¬ (k : Int) < (l.length : Int) := by omega
      have hkl : k = l.length := by omega
      subst hkl
      rw [List.take_length] at HI
      go_wp2
      go_ret
      exact ⟨_, rfl, R, HI.out.1, HI.out.2.1, fun a b c => HI.out.2.2.1 (a, b, c), HI.out.2.2.2⟩
end Go.Proofs.Ytghpekkncfckaaa.Ca
