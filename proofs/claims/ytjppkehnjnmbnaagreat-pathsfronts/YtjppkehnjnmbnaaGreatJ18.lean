import Derived.Test.YtjppkehnjnmbnaaGreatJ13
import Derived.Test.YtjppkehnjnmbnaaGreatJ17
namespace Go.Proofs.YtjppkehnjnmbnaaGreat.Lf
open Go.RowKit Go.Sort Pt
attribute [local go_sem ↓] Go.wp_at_zero Go.wp_at_succ
theorem infoTi : (Tryz.prog.info? 50).map (fun i => (i.zero, i.size, i.bytes)) = some (some (.agg #[.int .u64 0, .int .u64 0, .int .u64 0]), 3, 24) := by kernel_rfl
theorem teq_t {s t : Tri} (h : s = t) : teq s.1.1 s.1.2.1 s.1.2.2 t.1.1 t.1.2.1 t.1.2.2 = true := by rw [Pc.teq_dec]; simpa using h
theorem teq_f {s t : Tri} (h : s ≠ t) : teq s.1.1 s.1.2.1 s.1.2.2 t.1.1 t.1.2.1 t.1.2.2 = false := by rw [Pc.teq_dec]; simpa using h
theorem nlt {a b : Nat} (h : a ≤ b) : ¬ b < a := Nat.not_lt.2 h
theorem filter_take_succ {α : Type} {p : α → Bool} {l : List α} {j : Nat} {y : α} (h : l[j]? = some y) : (l.take (j + 1)).filter p = (l.take j).filter p ++ (if p y then [y] else []) := by
 rw [List.take_add_one, h, List.filter_append]
 cases hp : p y <;> simp [hp]
theorem wpT1 {w : World} {ops : Array Oper} {rest : List Oper} {o : Oper} {a : Act} {Q : Exit → Act → World → Prop} (hgd : o.guard = none) (s x : Operand)
    (ho : o.op = .call { callee := .builtin .append, args := #[s, x], argTypes := #[55, 55] })
    (base : Nat) (v : Value) (n : Nat) (xs : List Value) (hs : a.eval s = v) (hown : w.ownsRow base 50 3 v n xs)
    (t : Tri) (hx : a.eval x = .slice (some ⟨w.heap.size, 0, none⟩) 1 1) (hbig : (n + 1) * 24 ≤ 140737488355328) (hbase : base ≤ w.heap.size)
    (h : ∀ g cap w', w'.ownsRow base 50 3 (.slice (some ⟨g, 0, none⟩) (n + 1) cap) (n + 1) (xs ++ Pc.ET.enc t) → w.grownBy w' v.ownBlock → (v.ownBlock = some g ∨ w.heap.size ≤ g) → wpList Tryz.prog ops Q rest (a.put o.dst (.slice (some ⟨g, 0, none⟩) (n + 1) cap)) w') :
    wpList Tryz.prog ops Q (o :: rest) a (w.alloc (.cells #[.int .u64 t.1.1, .int .u64 t.1.2.1, .int .u64 t.1.2.2] 50)) :=
 YtjppkehnjnmbnaaGreat.wpApp1 Pc.ET Tryz.underlying55 infoTi rfl (by decide) hgd s x ho base v n xs hs hown t hx hbig (by unfold maxLen; omega) hbase _ rfl _ h
theorem wpTL {w : World} {ops : Array Oper} {rest : List Oper} {o : Oper} {a : Act} {Q : Exit → Act → World → Prop} (hgd : o.guard = none) (s x : Operand)
    (ho : o.op = .call { callee := .builtin .append, args := #[s, x], argTypes := #[55, 55] })
    (base : Nat) (v : Value) (n : Nat) (xs : List Value) (hs : a.eval s = v) (hown : w.ownsRow base 50 3 v n xs)
    (v1 : Value) (ts : List Tri) (hx : a.eval x = v1) (hv : Pc.Lst w v1 ts) (hbig : (n + ts.length) * 24 ≤ 140737488355328) (hbase : base ≤ w.heap.size)
    (h : ∀ v' w', w'.ownsRow base 50 3 v' (n + ts.length) (xs ++ Pc.flT ts) → w.grownBy w' v.ownBlock → wpList Tryz.prog ops Q rest (a.put o.dst v') w') : wpList Tryz.prog ops Q (o :: rest) a w :=
 YtjppkehnjnmbnaaGreat.wpAppL Pc.ET Tryz.underlying55 infoTi rfl (by decide) hgd s x ho base v n xs hs hown v1 ts hx hv hbig (by unfold maxLen; omega) hbase h
theorem sorted_put {R : List Tri} {x : Tri} {a : Nat} (hR : R.Pairwise fun p q => Pc.tol p q = true) (ha : ∀ j y, j < a → R[j]? = some y → Pc.tol y x = true) (hb : ∀ y, R[a]? = some y → Pc.tol y x = false ∧ y ≠ x) : (R.take a ++ x :: R.drop a).Pairwise fun p q => Pc.tol p q = true := by
 have hs : (R.take a ++ R.drop a).Pairwise fun p q => Pc.tol p q = true := by rw [List.take_append_drop]; exact hR
 rw [List.pairwise_append] at hs
 have h1 : ∀ p ∈ R.take a, Pc.tol p x = true := fun p hp => by
  obtain ⟨j, hj⟩ := List.mem_iff_getElem?.1 hp
  rw [List.getElem?_take] at hj
  split at hj
  ·exact ha j p (by assumption) hj
  ·cases hj
 have h2 : ∀ q ∈ R.drop a, Pc.tol x q = true := fun q hq => by
  obtain ⟨j, hj⟩ := List.mem_iff_getElem?.1 hq
  rw [List.getElem?_drop] at hj
  have hal : a < R.length := by have := (List.getElem?_eq_some_iff.1 hj).1; omega
  obtain ⟨h3, h4⟩ := hb R[a] (by simp)
  have h5 : Pc.tol x R[a] = true := Pc.ords.tot _ _ h4 h3
  by_cases hj0 : j = 0
  ·subst hj0
   rw [Nat.add_zero, List.getElem?_eq_getElem hal] at hj
   cases hj
   exact h5
  ·obtain ⟨h6, rfl⟩ := List.getElem?_eq_some_iff.1 hj
   exact Pc.ords.tr _ _ _ h5 (List.pairwise_iff_getElem.1 hR a (a + j) hal h6 (by omega))
 refine List.pairwise_append.2 ⟨hs.1, List.pairwise_cons.2 ⟨h2, hs.2.1⟩, fun p hp q hq => ?_⟩
 rcases List.mem_cons.1 hq with rfl | hq
 ·exact h1 p hp
 ·exact hs.2.2 p hp q hq
theorem mem_put {R : List Tri} {x y : Tri} {a : Nat} : y ∈ R.take a ++ x :: R.drop a ↔ y = x ∨ y ∈ R := by
 have : y ∈ R ↔ y ∈ R.take a ∨ y ∈ R.drop a := by rw [← List.mem_append, List.take_append_drop]
 rw [this]
 simp only [List.mem_append, List.mem_cons]
 constructor
 ·rintro (h | h | h)
  ·exact Or.inr (Or.inl h)
  ·exact Or.inl h
  ·exact Or.inr (Or.inr h)
 ·rintro (h | h | h)
  ·exact Or.inr (Or.inl h)
  ·exact Or.inl h
  ·exact Or.inr (Or.inr h)
def Out (base : Nat) (w : World) (v : Value) (R : List Tri) : Prop := (R = [] ∧ v = .slice none 0 0) ∨ (R ≠ [] ∧ ∃ g c, v = .slice (some ⟨g, 0, none⟩) R.length c ∧ w.ownsRow base 50 3 v R.length (Pc.flT R))
theorem Out.owns {base : Nat} {w : World} {v : Value} {R : List Tri} (h : Out base w v R) : w.ownsRow base 50 3 v R.length (Pc.flT R) := by
 rcases h with ⟨rfl, rfl⟩ | ⟨_, g, c, rfl, h⟩
 ·exact World.ownsRow_nil _ _ _ _
 ·exact h
set_option maxHeartbeats 2000000 in
set_option maxRecDepth 100000 in
theorem rsorted_any (v : Value) (l : List Tri) (w : World) (hv : Pc.Lst w v l) (hl : (l.length + 1) * 24 ≤ 140737488355328) :
    Calls Tryz.prog 50 #[v] w fun e w' => ∃ (v' : Value) (r : List Tri), e = .returned v' ∧ Out w.heap.size w' v' r ∧ (r.Pairwise fun p q => Pc.tol p q = true) ∧ (∀ y, y ∈ r ↔ y ∈ l) ∧ Below w.heap.size w w' := by
 have hmx : Tryz.prog.follows .mixedOrders = true := by kernel_rfl
 have heq := fun a b c x y z W => run_eqT a b c x y z W
 obtain ⟨pl, cl, rfl⟩ := hv.form
 have HL : Hid (Pc.Lst w (.slice pl l.length cl) l) := hv
 clear hv
 go_enter Tryz.func50, Tryz.ntmps50
 go_wp2_with fail
 go_loopw [3, 4, 5, 6] (fun s3 s4 _ _ wr => ∃ (k : Nat) (R : List Tri), k ≤ l.length ∧ R.length ≤ k ∧ s4 = .int .i64 k ∧ Hid (Out w.heap.size wr s3 R ∧ (R.Pairwise fun p q => Pc.tol p q = true) ∧ (∀ y, y ∈ R ↔ y ∈ l.take k) ∧ Below w.heap.size w wr)) (fun _ s4 _ _ _ => l.length - (RowKit.intOf s4).toNat)
 case atStart => exact ⟨0, [], Nat.zero_le _, Nat.zero_le _, rfl, Or.inl ⟨rfl, rfl⟩, List.Pairwise.nil, by simp, Below.refl _ _⟩
 case round =>
  obtain ⟨k, R, hk, hRk, rfl, HI⟩ := hrel
  by_cases hlt : k < l.length
  ·have hltz : (k : Int) < (l.length : Int) := by omega
   obtain ⟨x, hx⟩ : ∃ x, l[k]? = some x := ⟨l[k], by simp⟩
   have HX : Hid (l[k]? = some x) := hx
   have HTK : Hid (∀ y, y ∈ l.take (k + 1) ↔ y = x ∨ y ∈ l.take k) := fun y => by
    rw [List.take_add_one, hx, List.mem_append]
    simp [or_comm]
   clear hx
   obtain ⟨hO, hS, hM, hB⟩ := HI.out
   have HSO : Hid (R.Pairwise fun p q => Pc.tol p q = true) := hS
   have HM : Hid (∀ y, y ∈ R ↔ y ∈ l.take k) := hM
   have HB : Hid (Below w.heap.size w wr) := hB
   have HO : Hid (Out w.heap.size wr u3 R) := hO
   obtain ⟨p3, c3, hv3⟩ := (Pc.owns_lst hO.owns).form
   obtain ⟨wk, hwk⟩ : ∃ wk, wk = wr := ⟨wr, rfl⟩
   subst hwk
   clear hO hS hM hB HI
   subst hv3
   go_wp2_with fail
   go_loopw [5] (fun s5 wq => ∃ a : Nat, a ≤ R.length ∧ s5 = .int .i64 a ∧ Gr wk wq ∧ Hid (∀ j y, j < a → R[j]? = some y → Pc.tol y x = true)) (fun s5 _ => R.length - (RowKit.intOf s5).toNat)
   case atStart => exact ⟨0, Nat.zero_le _, rfl, Gr.refl _, fun j _ hj => absurd hj (Nat.not_lt_zero _)⟩
   case round =>
    obtain ⟨a, ha, rfl, hga, A⟩ := hrel
    by_cases hal : a < R.length
    ·have halz : (a : Int) < (R.length : Int) := by omega
     have hgd : decide ((a : Int) < (R.length : Int)) = true := by simpa using halz
     obtain ⟨y, hy⟩ : ∃ y, R[a]? = some y := ⟨R[a], by simp⟩
     have HY : Hid (R[a]? = some y) := hy
     rcases HO.out with ⟨h0, _⟩ | ⟨hne, g, c, hv', ho⟩
     ·exact absurd hal (by rw [h0]; simp)
     simp only [Value.slice.injEq] at hv'
     obtain ⟨rfl, -, rfl⟩ := hv'
     obtain ⟨bq, oq, cq, eq, zq, y1, y2, y3⟩ := (Pc.owns_lst (owns_below ho hga.below)).atP hy
     simp only [Value.slice.injEq, Option.some.injEq, Addr.mk.injEq, and_true] at eq
     obtain ⟨⟨rfl, rfl⟩, -⟩ := eq
     rw [Nat.zero_add] at y1 y2 y3
     obtain ⟨b1, o1, c1, e1, z1, x1, x2, x3⟩ := ((HL.out.below HB.out).below hga.below).atP HX.out
     simp only [Value.slice.injEq] at e1
     obtain ⟨rfl, -, rfl⟩ := e1
     have S0 : (wr.drew.cell? ⟨b1, o1 + k * 3, none⟩ = some (.int .u64 x.1.1) ∧ wr.drew.cell? ⟨b1, o1 + k * 3 + 1, none⟩ = some (.int .u64 x.1.2.1) ∧ wr.drew.cell? ⟨b1, o1 + k * 3 + 2, none⟩ = some (.int .u64 x.1.2.2) ∧ wr.drew.cell? ⟨g, a * 3, none⟩ = some (.int .u64 y.1.1) ∧ wr.drew.cell? ⟨g, a * 3 + 1, none⟩ = some (.int .u64 y.1.2.1) ∧ wr.drew.cell? ⟨g, a * 3 + 2, none⟩ = some (.int .u64 y.1.2.2) ∧ b1 < wr.drew.heap.size ∧ g < wr.drew.heap.size) := ⟨x1, x2, x3, y1, y2, y3, z1, zq⟩
     have keepG : ∀ W W' : World, (W.cell? ⟨b1, o1 + k * 3, none⟩ = some (.int .u64 x.1.1) ∧ W.cell? ⟨b1, o1 + k * 3 + 1, none⟩ = some (.int .u64 x.1.2.1) ∧ W.cell? ⟨b1, o1 + k * 3 + 2, none⟩ = some (.int .u64 x.1.2.2) ∧ W.cell? ⟨g, a * 3, none⟩ = some (.int .u64 y.1.1) ∧ W.cell? ⟨g, a * 3 + 1, none⟩ = some (.int .u64 y.1.2.1) ∧ W.cell? ⟨g, a * 3 + 2, none⟩ = some (.int .u64 y.1.2.2) ∧ b1 < W.heap.size ∧ g < W.heap.size) → Gr W W' → (W'.cell? ⟨b1, o1 + k * 3, none⟩ = some (.int .u64 x.1.1) ∧ W'.cell? ⟨b1, o1 + k * 3 + 1, none⟩ = some (.int .u64 x.1.2.1) ∧ W'.cell? ⟨b1, o1 + k * 3 + 2, none⟩ = some (.int .u64 x.1.2.2) ∧ W'.cell? ⟨g, a * 3, none⟩ = some (.int .u64 y.1.1) ∧ W'.cell? ⟨g, a * 3 + 1, none⟩ = some (.int .u64 y.1.2.1) ∧ W'.cell? ⟨g, a * 3 + 2, none⟩ = some (.int .u64 y.1.2.2) ∧ b1 < W'.heap.size ∧ g < W'.heap.size) := fun W W' h hg =>
      ⟨(hg.cell h.2.2.2.2.2.2.1).trans h.1, (hg.cell h.2.2.2.2.2.2.1).trans h.2.1, (hg.cell h.2.2.2.2.2.2.1).trans h.2.2.1, (hg.cell h.2.2.2.2.2.2.2).trans h.2.2.2.1, (hg.cell h.2.2.2.2.2.2.2).trans h.2.2.2.2.1, (hg.cell h.2.2.2.2.2.2.2).trans h.2.2.2.2.2.1, Nat.lt_of_lt_of_le h.2.2.2.2.2.2.1 hg.size, Nat.lt_of_lt_of_le h.2.2.2.2.2.2.2 hg.size⟩
     have hto := fun W => r5told_any y x W
     have HGA : Hid (Gr wk wr.drew) := hga.drew
     have HO' : Hid (wk.ownsRow w.heap.size 50 3 (.slice (some ⟨g, 0, none⟩) R.length c3) R.length (Pc.flT R)) := ho
     clear hy ho hga x1 x2 x3 y1 y2 y3 z1 zq HO
     cases hq : Pc.tol y x with
     | true =>
      rw [hq] at hto
      go_wp2_with fail
      go_region_held3 (fun w' => w'.cell? ⟨b1, o1 + k * 3, none⟩ = some (.int .u64 x.1.1) ∧ w'.cell? ⟨b1, o1 + k * 3 + 1, none⟩ = some (.int .u64 x.1.2.1) ∧ w'.cell? ⟨b1, o1 + k * 3 + 2, none⟩ = some (.int .u64 x.1.2.2) ∧ w'.cell? ⟨g, a * 3, none⟩ = some (.int .u64 y.1.1) ∧ w'.cell? ⟨g, a * 3 + 1, none⟩ = some (.int .u64 y.1.2.1) ∧ w'.cell? ⟨g, a * 3 + 2, none⟩ = some (.int .u64 y.1.2.2) ∧ b1 < w'.heap.size ∧ g < w'.heap.size)
       (first | exact S0 | exact keepG _ _ (by assumption) (by assumption))
       (first | (go_at_call 42; refine (hto _).mono ?_; rintro e w5 ⟨rfl, hg5⟩))
      go_wp2
      go_roundw
      case rel =>
       refine ⟨a + 1, by omega, by go_num, HGA.out.trans hg5, fun j z hj hz => ?_⟩
       by_cases e : j = a
       ·subst e
        have := HY.out
        rw [hz] at this
        cases this
        exact hq
       ·exact A.out j z (by omega) hz
      case measure => simp [RowKit.intOf]; omega
     | false =>
      rw [hq] at hto
      go_wp2_with fail
      go_region_held3 (fun w' => w'.cell? ⟨b1, o1 + k * 3, none⟩ = some (.int .u64 x.1.1) ∧ w'.cell? ⟨b1, o1 + k * 3 + 1, none⟩ = some (.int .u64 x.1.2.1) ∧ w'.cell? ⟨b1, o1 + k * 3 + 2, none⟩ = some (.int .u64 x.1.2.2) ∧ w'.cell? ⟨g, a * 3, none⟩ = some (.int .u64 y.1.1) ∧ w'.cell? ⟨g, a * 3 + 1, none⟩ = some (.int .u64 y.1.2.1) ∧ w'.cell? ⟨g, a * 3 + 2, none⟩ = some (.int .u64 y.1.2.2) ∧ b1 < w'.heap.size ∧ g < w'.heap.size)
       (first | exact S0 | exact keepG _ _ (by assumption) (by assumption))
       (first | (go_at_call 42; refine (hto _).mono ?_; rintro e w5 ⟨rfl, hg5⟩))
      have HG5 : Hid (Gr wk w5) := HGA.out.trans hg5
      have S5 : (w5.cell? ⟨b1, o1 + k * 3, none⟩ = some (.int .u64 x.1.1) ∧ w5.cell? ⟨b1, o1 + k * 3 + 1, none⟩ = some (.int .u64 x.1.2.1) ∧ w5.cell? ⟨b1, o1 + k * 3 + 2, none⟩ = some (.int .u64 x.1.2.2) ∧ w5.cell? ⟨g, a * 3, none⟩ = some (.int .u64 y.1.1) ∧ w5.cell? ⟨g, a * 3 + 1, none⟩ = some (.int .u64 y.1.2.1) ∧ w5.cell? ⟨g, a * 3 + 2, none⟩ = some (.int .u64 y.1.2.2) ∧ b1 < w5.heap.size ∧ g < w5.heap.size) := keepG _ _ S0 hg5
      clear S0 keepG hto hg5
      by_cases hyx : y = x
      ·have hqe := teq_t hyx
       have HYX : Hid (y = x) := hyx
       clear hyx
       go_wp2_with fail
       obtain ⟨x1, x2, x3, y1, y2, y3, z1, zq⟩ := S5
       go_quiet (fail)
       go_wp2
       go_roundw
       case rel =>
        refine ⟨k + 1, R, by omega, by omega, by go_num, Or.inr ⟨hne, _, _, rfl, owns_below HO'.out (HG5.out.drewN _).below⟩, HSO.out, fun z => ?_, HB.out.trans ((HG5.out.drewN _).below.mono HB.out.size)⟩
        rw [HTK.out z, HM.out z]
        constructor
        ·exact Or.inr
        ·rintro (h | h)
         ·rw [h, ← HYX.out]
          exact (HM.out y).1 (List.mem_of_getElem? HY.out)
         ·exact h
       case measure => simp [RowKit.intOf]; omega
      ·have hqe := teq_f hyx
       have HNB : Hid (∀ z, R[a]? = some z → Pc.tol z x = false ∧ z ≠ x) := fun z hz => by
        have := HY.out
        rw [hz] at this
        cases this
        exact ⟨hq, hyx⟩
       clear hyx
       go_wp2_with fail
       obtain ⟨x1, x2, x3, y1, y2, y3, z1, zq⟩ := S5
       go_quiet (fail)
       clear x1 x2 x3 y1 y2 y3 z1 zq hqe
       obtain ⟨W9, hW9⟩ : ∃ W9, W9 = w5.drewN nq := ⟨_, rfl⟩
       have HG9 : Hid (Gr wk W9) := by rw [hW9]; exact HG5.out.drewN _
       rw [← hW9]
       clear hW9
       obtain ⟨hc1, hc2⟩ := owns_cap HO'.out
       unfold maxLen at hc2
       have zz1 : (0 : Int) ≤ (a : Int) := by omega
       have zz2 : (a : Int) ≤ (c3 : Int) := by omega
       have zz3 : ¬ c3 = 0 := by omega
       have zz4 : ¬ c3 = a := by omega
       have zz5 : (a : Int) ≤ (R.length : Int) := by omega
       have BW : Below w.heap.size w W9 := HB.out.trans (HG9.out.below.mono HB.out.size)
       have LX : Pc.Lst W9 (.slice (some ⟨b1, o1, none⟩) l.length cl) l := HL.out.below BW
       have L1 : Pc.Lst W9 (.slice (some ⟨g, 0, none⟩) a c3) (R.take a) := (Pc.owns_lst (owns_below HO'.out HG9.out.below)).cut (k := a) (by omega) c3
       have HL3 : Hid (Pc.Lst W9 (.slice (some ⟨g, a * 3, none⟩) (R.length - a) (c3 - a)) (R.drop a)) := (by have h := (Pc.owns_lst (owns_below HO'.out HG9.out.below)).tail (k := a) (c3 - a); rw [Nat.zero_add] at h; exact h)
       have HSEP : Hid (∀ k, (Value.ownBlock (.slice (some ⟨g, a * 3, none⟩) (R.length - a) (c3 - a))) = some k → k < W9.heap.size) := HL3.out.blk
       have HTA : Hid ((R.take a).length = a) := by show _ = _; rw [List.length_take]; omega
       have HDA : Hid ((R.drop a).length = R.length - a) := List.length_drop
       have hw0 := BW.size
       go_wp2_with (at_builtin; refine wpTL rfl _ _ rfl W9.heap.size (.slice none 0 0) 0 [] rfl (World.ownsRow_nil _ _ _ _) (.slice (some ⟨g, 0, none⟩) a c3) (R.take a) rfl L1 (by have := HTA.out; omega) (Nat.le_refl _) ?_)
       intro v6 w6 ho6 hg6
       have B6 : Below W9.heap.size W9 w6 := (Kp.grownBy (S := fun _ => False) hg6 (fun k hk => by simp [Value.ownBlock] at hk)).below (Nat.le_refl _) (fun _ h => h.elim)
       have ho6' : w6.ownsRow W9.heap.size 50 3 v6 a (Pc.flT (R.take a)) := owns_re ho6 (by have := HTA.out; omega) (by simp)
       have HL6 : Hid (Pc.Lst w6 (.slice (some ⟨g, a * 3, none⟩) (R.length - a) (c3 - a)) (R.drop a)) := HL3.out.below B6
       obtain ⟨bx, ox, cx, ex, zx, x1, x2, x3⟩ := (LX.below B6).atP HX.out
       simp only [Value.slice.injEq, Option.some.injEq, Addr.mk.injEq, and_true] at ex
       obtain ⟨⟨rfl, rfl⟩, -, rfl⟩ := ex
       have hw6 := B6.size
       clear ho6 hg6 L1 LX HL3
       go_wp2_with (at_builtin; refine wpT1 rfl _ _ rfl W9.heap.size v6 a _ rfl ho6' x (by first | rfl | simp) (by omega) hw6 ?_)
       intro g7 c7 w7 ho7 hg7 hl7
       have K7 : Kp (fun k => W9.heap.size ≤ k) w6 w7 := Kp.grownBy hg7 (fun k hk => (ho6'.lt k hk).1)
       have B7 : Below W9.heap.size W9 w7 := B6.trans (K7.below B6.size (fun _ h => h))
       have HL7 : Hid (Pc.Lst w7 (.slice (some ⟨g, a * 3, none⟩) (R.length - a) (c3 - a)) (R.drop a)) := K7.ls HL6.out (fun k hk e => nlt e (HSEP.out k hk))
       have hw7 := B7.size
       clear hg7 hl7 x1 x2 x3 zx
       go_wp2_with (at_builtin; refine wpTL rfl _ _ rfl W9.heap.size (.slice (some ⟨g7, 0, none⟩) (a + 1) c7) (a + 1) _ rfl ho7 (.slice (some ⟨g, a * 3, none⟩) (R.length - a) (c3 - a)) (R.drop a) rfl HL7.out (by have := HDA.out; omega) hw7 ?_)
       intro v8 w8 ho8 hg8
       have B8 : Below W9.heap.size W9 w8 := B7.trans ((Kp.grownBy (S := fun k => W9.heap.size ≤ k) hg8 (fun k hk => (ho7.lt k hk).1)).below B7.size (fun _ h => h))
       have BW8 : Hid (Below w.heap.size w w8) := BW.trans (B8.mono BW.size)
       have hlen : (R.take a ++ x :: R.drop a).length = a + 1 + (R.drop a).length := by rw [List.length_append, List.length_cons, HTA.out]; omega
       have HO8 : Hid (Out w.heap.size w8 v8 (R.take a ++ x :: R.drop a)) := by
        have ho9 : w8.ownsRow w.heap.size 50 3 v8 (R.take a ++ x :: R.drop a).length (Pc.flT (R.take a ++ x :: R.drop a)) := owns_base (owns_re ho8 (by rw [hlen]; have := HDA.out; omega) (by
         show _ = fl Pc.ET (R.take a ++ x :: R.drop a)
         rw [fl_append, fl_cons]
         first | done | rfl | simp [List.append_assoc] | simp)) hw0
        refine Or.inr ⟨by simp, ?_⟩
        rcases id ho9.2 with ⟨_, h0⟩ | ⟨g9, c9, cur, hv9, _⟩
        ·rw [hlen] at h0; omega
        ·exact ⟨g9, c9, hv9, ho9⟩
       have HL8 : Hid ((R.take a ++ x :: R.drop a).length ≤ k + 1) := by show _ ≤ _; rw [hlen, HDA.out]; omega
       clear ho8 hg8 ho7 hlen
       go_wp2
       go_roundw
       case rel => exact ⟨k + 1, R.take a ++ x :: R.drop a, by omega, HL8.out, by go_num, HO8.out, sorted_put HSO.out A.out HNB.out, fun y => by rw [mem_put, HTK.out y, HM.out y], BW8.out⟩
       case measure => simp [RowKit.intOf]; omega
    ·have halz : ¬ (a : Int) < (R.length : Int) := by omega
     have hgd : decide ((a : Int) < (R.length : Int)) = false := by simpa using halz
     go_wp2_with fail
     go_quiet (fail)
     obtain ⟨Wq, hWq⟩ : ∃ Wq, Wq = wr.drewN nq := ⟨_, rfl⟩
     have HGQ : Hid (Gr wk Wq) := by rw [hWq]; exact hga.drewN _
     rw [← hWq]
     clear hWq hga
     have haR : a = R.length := by omega
     have HNB : Hid (∀ z, R[a]? = some z → Pc.tol z x = false ∧ z ≠ x) := fun z hz => by
      have := (List.getElem?_eq_some_iff.1 hz).1
      omega
     go_wp2_with fail
     go_quiet (fail)
     obtain ⟨W9, hW9⟩ : ∃ W9, W9 = Wq.drewN nq := ⟨_, rfl⟩
     have HG9 : Hid (Gr wk W9) := by rw [hW9]; exact HGQ.out.drewN _
     rw [← hW9]
     clear hW9 hgd
     rcases HO.out with ⟨h0, hv0⟩ | ⟨hne, g, c, hv', ho⟩
     ·simp only [Value.slice.injEq] at hv0
      obtain ⟨rfl, hR0, rfl⟩ := hv0
      have ha0 : a = 0 := by omega
      subst h0
      subst ha0
      clear hR0 haR
      have BW : Below w.heap.size w W9 := HB.out.trans (HG9.out.below.mono HB.out.size)
      have LX : Pc.Lst W9 (.slice pl l.length cl) l := HL.out.below BW
      have L1 : Pc.Lst W9 (.slice none 0 0) (List.take 0 ([] : List Tri)) := by simpa using Ls.nil W9
      have HL3 : Hid (Pc.Lst W9 (.slice none 0 0) (List.drop 0 ([] : List Tri))) := by show Pc.Lst _ _ _; simpa using Ls.nil W9
      have HSEP : Hid (∀ k, (Value.ownBlock (.slice none 0 0)) = some k → k < W9.heap.size) := HL3.out.blk
      have HTA : Hid ((List.take 0 ([] : List Tri)).length = 0) := by show _ = _; rw [List.length_take]; omega
      have HDA : Hid ((List.drop 0 ([] : List Tri)).length = 0 - 0) := List.length_drop
      have hw0 := BW.size
      go_wp2_with (at_builtin; refine wpTL rfl _ _ rfl W9.heap.size (.slice none 0 0) 0 [] rfl (World.ownsRow_nil _ _ _ _) (.slice none 0 0) (List.take 0 ([] : List Tri)) rfl L1 (by have := HTA.out; omega) (Nat.le_refl _) ?_)
      intro v6 w6 ho6 hg6
      have B6 : Below W9.heap.size W9 w6 := (Kp.grownBy (S := fun _ => False) hg6 (fun k hk => by simp [Value.ownBlock] at hk)).below (Nat.le_refl _) (fun _ h => h.elim)
      have ho6' : w6.ownsRow W9.heap.size 50 3 v6 0 (Pc.flT (List.take 0 ([] : List Tri))) := owns_re ho6 (by have := HTA.out; omega) (by simp)
      have HL6 : Hid (Pc.Lst w6 (.slice none 0 0) (List.drop 0 ([] : List Tri))) := HL3.out.below B6
      obtain ⟨bx, ox, cx, ex, zx, x1, x2, x3⟩ := (LX.below B6).atP HX.out
      simp only [Value.slice.injEq] at ex
      obtain ⟨rfl, -, rfl⟩ := ex
      have hw6 := B6.size
      clear ho6 hg6 L1 LX HL3
      go_wp2_with (at_builtin; refine wpT1 rfl _ _ rfl W9.heap.size v6 0 _ rfl ho6' x (by first | rfl | simp) (by omega) hw6 ?_)
      intro g7 c7 w7 ho7 hg7 hl7
      have K7 : Kp (fun k => W9.heap.size ≤ k) w6 w7 := Kp.grownBy hg7 (fun k hk => (ho6'.lt k hk).1)
      have B7 : Below W9.heap.size W9 w7 := B6.trans (K7.below B6.size (fun _ h => h))
      have HL7 : Hid (Pc.Lst w7 (.slice none 0 0) (List.drop 0 ([] : List Tri))) := K7.ls HL6.out (fun k hk e => nlt e (HSEP.out k hk))
      have hw7 := B7.size
      clear hg7 hl7 x1 x2 x3 zx
      go_wp2_with (at_builtin; refine wpTL rfl _ _ rfl W9.heap.size (.slice (some ⟨g7, 0, none⟩) (0 + 1) c7) (0 + 1) _ rfl ho7 (.slice none 0 0) (List.drop 0 ([] : List Tri)) rfl HL7.out (by have := HDA.out; omega) hw7 ?_)
      intro v8 w8 ho8 hg8
      have B8 : Below W9.heap.size W9 w8 := B7.trans ((Kp.grownBy (S := fun k => W9.heap.size ≤ k) hg8 (fun k hk => (ho7.lt k hk).1)).below B7.size (fun _ h => h))
      have BW8 : Hid (Below w.heap.size w w8) := BW.trans (B8.mono BW.size)
      have hlen : (List.take 0 ([] : List Tri) ++ x :: List.drop 0 ([] : List Tri)).length = 0 + 1 + (List.drop 0 ([] : List Tri)).length := by rw [List.length_append, List.length_cons, HTA.out]; omega
      have HO8 : Hid (Out w.heap.size w8 v8 (List.take 0 ([] : List Tri) ++ x :: List.drop 0 ([] : List Tri))) := by
       have ho9 : w8.ownsRow w.heap.size 50 3 v8 (List.take 0 ([] : List Tri) ++ x :: List.drop 0 ([] : List Tri)).length (Pc.flT (List.take 0 ([] : List Tri) ++ x :: List.drop 0 ([] : List Tri))) := owns_base (owns_re ho8 (by rw [hlen]; have := HDA.out; omega) (by
        show _ = fl Pc.ET (List.take 0 ([] : List Tri) ++ x :: List.drop 0 ([] : List Tri))
        rw [fl_append, fl_cons]
        first | done | rfl | simp [List.append_assoc] | simp)) hw0
       refine Or.inr ⟨by simp, ?_⟩
       rcases id ho9.2 with ⟨_, h0⟩ | ⟨g9, c9, cur, hv9, _⟩
       ·rw [hlen] at h0; omega
       ·exact ⟨g9, c9, hv9, ho9⟩
      have HL8 : Hid ((List.take 0 ([] : List Tri) ++ x :: List.drop 0 ([] : List Tri)).length ≤ k + 1) := by show _ ≤ _; rw [hlen, HDA.out]; omega
      clear ho8 hg8 ho7 hlen
      go_wp2
      go_roundw
      case rel => exact ⟨k + 1, List.take 0 ([] : List Tri) ++ x :: List.drop 0 ([] : List Tri), by omega, HL8.out, by go_num, HO8.out, sorted_put HSO.out A.out HNB.out, fun y => by rw [mem_put, HTK.out y, HM.out y], BW8.out⟩
      case measure => simp [RowKit.intOf]; omega
     ·simp only [Value.slice.injEq] at hv'
      obtain ⟨rfl, -, rfl⟩ := hv'
      have HO' : Hid (wk.ownsRow w.heap.size 50 3 (.slice (some ⟨g, 0, none⟩) R.length c3) R.length (Pc.flT R)) := ho
      clear ho HO
      obtain ⟨hc1, hc2⟩ := owns_cap HO'.out
      unfold maxLen at hc2
      have HAR : Hid (a = R.length) := haR
      have hRp : 0 < R.length := List.length_pos_iff.2 hne
      have zz1 : (0 : Int) ≤ (a : Int) := by omega
      have zz2 : (a : Int) ≤ (c3 : Int) := by omega
      have zz3 : ¬ c3 = 0 := by omega
      have zz5 : (a : Int) ≤ (R.length : Int) := by omega
      clear haR halz
      by_cases hca : c3 = a
      ·subst hca
       have BW : Below w.heap.size w W9 := HB.out.trans (HG9.out.below.mono HB.out.size)
       have LX : Pc.Lst W9 (.slice pl l.length cl) l := HL.out.below BW
       have hRc : R.length = c3 := HAR.out.symm
       have HTA : Hid (R.take c3 = R) := List.take_of_length_le (by omega)
       have HDR : Hid (R.drop c3 = []) := List.drop_of_length_le (by omega)
       have L1 : Pc.Lst W9 (.slice (some ⟨g, 0, none⟩) c3 c3) R := by
        have h := Pc.owns_lst (owns_below HO'.out HG9.out.below)
        rw [hRc] at h
        exact h
       have HRC : Hid (R.length = c3) := hRc
       have hw0 := BW.size
       clear hRc
       go_wp2_with (at_builtin; refine wpTL rfl _ _ rfl W9.heap.size (.slice none 0 0) 0 [] rfl (World.ownsRow_nil _ _ _ _) (.slice (some ⟨g, 0, none⟩) c3 c3) R rfl L1 (by have := HRC.out; omega) (Nat.le_refl _) ?_)
       intro v6 w6 ho6 hg6
       have B6 : Below W9.heap.size W9 w6 := (Kp.grownBy (S := fun _ => False) hg6 (fun k hk => by simp [Value.ownBlock] at hk)).below (Nat.le_refl _) (fun _ h => h.elim)
       have ho6' : w6.ownsRow W9.heap.size 50 3 v6 c3 (Pc.flT R) := owns_re ho6 (by have := HRC.out; omega) (by simp)
       obtain ⟨bx, ox, cx, ex, zx, x1, x2, x3⟩ := (LX.below B6).atP HX.out
       simp only [Value.slice.injEq] at ex
       obtain ⟨rfl, -, rfl⟩ := ex
       have hw6 := B6.size
       clear ho6 hg6 L1 LX
       go_wp2_with (at_builtin; refine wpT1 rfl _ _ rfl W9.heap.size v6 c3 _ rfl ho6' x (by first | rfl | simp) (by omega) hw6 ?_)
       intro g7 c7 w7 ho7 hg7 hl7
       have K7 : Kp (fun k => W9.heap.size ≤ k) w6 w7 := Kp.grownBy hg7 (fun k hk => (ho6'.lt k hk).1)
       have B7 : Below W9.heap.size W9 w7 := B6.trans (K7.below B6.size (fun _ h => h))
       have hd0 : R.length - c3 = 0 := by have := HRC.out; omega
       have hgl : g < w7.heap.size := Nat.lt_of_lt_of_le ((owns_below HO'.out HG9.out.below).lt g rfl).2 B7.size
       have L3 : Pc.Lst w7 (.slice (some ⟨g, 0, none⟩) 0 0) [] := Or.inr ⟨g, 0, 0, rfl, hgl, fun j u hj => by simp [fl] at hj⟩
       have hw7 := B7.size
       clear hg7 hl7 x1 x2 x3 zx
       go_wp2_with (at_builtin; refine wpTL rfl _ _ rfl W9.heap.size (.slice (some ⟨g7, 0, none⟩) (c3 + 1) c7) (c3 + 1) _ rfl ho7 (.slice (some ⟨g, 0, none⟩) 0 0) [] rfl L3 (by simp only [List.length_nil]; omega) hw7 ?_)
       intro v8 w8 ho8 hg8
       have B8 : Below W9.heap.size W9 w8 := B7.trans ((Kp.grownBy (S := fun k => W9.heap.size ≤ k) hg8 (fun k hk => (ho7.lt k hk).1)).below B7.size (fun _ h => h))
       have BW8 : Hid (Below w.heap.size w w8) := BW.trans (B8.mono BW.size)
       have hlen : (R.take c3 ++ x :: R.drop c3).length = c3 + 1 := by rw [HTA.out, HDR.out, List.length_append, HRC.out]; rfl
       have HO8 : Hid (Out w.heap.size w8 v8 (R.take c3 ++ x :: R.drop c3)) := by
        have ho9 : w8.ownsRow w.heap.size 50 3 v8 (R.take c3 ++ x :: R.drop c3).length (Pc.flT (R.take c3 ++ x :: R.drop c3)) := by
         refine owns_base (owns_re ho8 (by first | exact hlen.symm | (rw [hlen]; simp)) ?_) hw0
         show _ = fl Pc.ET (R.take c3 ++ x :: R.drop c3)
         rw [HTA.out, HDR.out, fl_append, fl_one]
         first | done | simp [fl]
        refine Or.inr ⟨by simp, ?_⟩
        rcases id ho9.2 with ⟨_, h0⟩ | ⟨g9, c9, cur, hv9, _⟩
        ·rw [hlen] at h0; omega
        ·exact ⟨g9, c9, hv9, ho9⟩
       have HL8 : Hid ((R.take c3 ++ x :: R.drop c3).length ≤ k + 1) := by show _ ≤ _; rw [hlen]; omega
       clear ho7 ho8 hg8 hlen hd0
       go_wp2
       go_roundw
       case rel => exact ⟨k + 1, R.take c3 ++ x :: R.drop c3, by omega, HL8.out, by go_num, HO8.out, sorted_put HSO.out A.out HNB.out, fun y => by rw [mem_put, HTK.out y, HM.out y], BW8.out⟩
       case measure => simp [RowKit.intOf]; omega
      ·have zz4 : ¬ c3 = a := hca
       have BW : Below w.heap.size w W9 := HB.out.trans (HG9.out.below.mono HB.out.size)
       have LX : Pc.Lst W9 (.slice pl l.length cl) l := HL.out.below BW
       have L1 : Pc.Lst W9 (.slice (some ⟨g, 0, none⟩) a c3) (R.take a) := (Pc.owns_lst (owns_below HO'.out HG9.out.below)).cut (k := a) (by omega) c3
       have HL3 : Hid (Pc.Lst W9 (.slice (some ⟨g, a * 3, none⟩) (R.length - a) (c3 - a)) (R.drop a)) := (by have h := (Pc.owns_lst (owns_below HO'.out HG9.out.below)).tail (k := a) (c3 - a); rw [Nat.zero_add] at h; exact h)
       have HSEP : Hid (∀ k, (Value.ownBlock (.slice (some ⟨g, a * 3, none⟩) (R.length - a) (c3 - a))) = some k → k < W9.heap.size) := HL3.out.blk
       have HTA : Hid ((R.take a).length = a) := by show _ = _; rw [List.length_take]; omega
       have HDA : Hid ((R.drop a).length = R.length - a) := List.length_drop
       have hw0 := BW.size
       go_wp2_with (at_builtin; refine wpTL rfl _ _ rfl W9.heap.size (.slice none 0 0) 0 [] rfl (World.ownsRow_nil _ _ _ _) (.slice (some ⟨g, 0, none⟩) a c3) (R.take a) rfl L1 (by have := HTA.out; omega) (Nat.le_refl _) ?_)
       intro v6 w6 ho6 hg6
       have B6 : Below W9.heap.size W9 w6 := (Kp.grownBy (S := fun _ => False) hg6 (fun k hk => by simp [Value.ownBlock] at hk)).below (Nat.le_refl _) (fun _ h => h.elim)
       have ho6' : w6.ownsRow W9.heap.size 50 3 v6 a (Pc.flT (R.take a)) := owns_re ho6 (by have := HTA.out; omega) (by simp)
       have HL6 : Hid (Pc.Lst w6 (.slice (some ⟨g, a * 3, none⟩) (R.length - a) (c3 - a)) (R.drop a)) := HL3.out.below B6
       obtain ⟨bx, ox, cx, ex, zx, x1, x2, x3⟩ := (LX.below B6).atP HX.out
       simp only [Value.slice.injEq] at ex
       obtain ⟨rfl, -, rfl⟩ := ex
       have hw6 := B6.size
       clear ho6 hg6 L1 LX HL3
       go_wp2_with (at_builtin; refine wpT1 rfl _ _ rfl W9.heap.size v6 a _ rfl ho6' x (by first | rfl | simp) (by omega) hw6 ?_)
       intro g7 c7 w7 ho7 hg7 hl7
       have K7 : Kp (fun k => W9.heap.size ≤ k) w6 w7 := Kp.grownBy hg7 (fun k hk => (ho6'.lt k hk).1)
       have B7 : Below W9.heap.size W9 w7 := B6.trans (K7.below B6.size (fun _ h => h))
       have HL7 : Hid (Pc.Lst w7 (.slice (some ⟨g, a * 3, none⟩) (R.length - a) (c3 - a)) (R.drop a)) := K7.ls HL6.out (fun k hk e => nlt e (HSEP.out k hk))
       have hw7 := B7.size
       clear hg7 hl7 x1 x2 x3 zx
       go_wp2_with (at_builtin; refine wpTL rfl _ _ rfl W9.heap.size (.slice (some ⟨g7, 0, none⟩) (a + 1) c7) (a + 1) _ rfl ho7 (.slice (some ⟨g, a * 3, none⟩) (R.length - a) (c3 - a)) (R.drop a) rfl HL7.out (by have := HDA.out; omega) hw7 ?_)
       intro v8 w8 ho8 hg8
       have B8 : Below W9.heap.size W9 w8 := B7.trans ((Kp.grownBy (S := fun k => W9.heap.size ≤ k) hg8 (fun k hk => (ho7.lt k hk).1)).below B7.size (fun _ h => h))
       have BW8 : Hid (Below w.heap.size w w8) := BW.trans (B8.mono BW.size)
       have hlen : (R.take a ++ x :: R.drop a).length = a + 1 + (R.drop a).length := by rw [List.length_append, List.length_cons, HTA.out]; omega
       have HO8 : Hid (Out w.heap.size w8 v8 (R.take a ++ x :: R.drop a)) := by
        have ho9 : w8.ownsRow w.heap.size 50 3 v8 (R.take a ++ x :: R.drop a).length (Pc.flT (R.take a ++ x :: R.drop a)) := owns_base (owns_re ho8 (by rw [hlen]; have := HDA.out; omega) (by
         show _ = fl Pc.ET (R.take a ++ x :: R.drop a)
         rw [fl_append, fl_cons]
         first | done | rfl | simp [List.append_assoc] | simp)) hw0
        refine Or.inr ⟨by simp, ?_⟩
        rcases id ho9.2 with ⟨_, h0⟩ | ⟨g9, c9, cur, hv9, _⟩
        ·rw [hlen] at h0; omega
        ·exact ⟨g9, c9, hv9, ho9⟩
       have HL8 : Hid ((R.take a ++ x :: R.drop a).length ≤ k + 1) := by show _ ≤ _; rw [hlen, HDA.out]; omega
       clear ho8 hg8 ho7 hlen
       go_wp2
       go_roundw
       case rel => exact ⟨k + 1, R.take a ++ x :: R.drop a, by omega, HL8.out, by go_num, HO8.out, sorted_put HSO.out A.out HNB.out, fun y => by rw [mem_put, HTK.out y, HM.out y], BW8.out⟩
       case measure => simp [RowKit.intOf]; omega
  ·have hltz : ¬ (k : Int) < (l.length : Int) := by omega
   have hkl : k = l.length := by omega
   subst hkl
   rw [List.take_length] at HI
   go_wp2
   go_ret
   exact ⟨_, rfl, R, HI.out.1, HI.out.2.1, fun a b c p => HI.out.2.2.1 ⟨(a, b, c), p⟩, HI.out.2.2.2⟩
def lsB (l : List Tri) (y : Tri) : Bool := l.all fun z => decide (z = y) || !Pc.bel z y
theorem lsB_take_succ {l : List Tri} {j : Nat} {z : Tri} (h : l[j]? = some z) (y : Tri) : lsB (l.take (j + 1)) y = (lsB (l.take j) y && (decide (z = y) || !Pc.bel z y)) := by
 unfold lsB
 rw [List.take_add_one, h, List.all_append]
 simp
theorem lsB_iff {l : List Tri} {y : Tri} : lsB l y = true ↔ ∀ z ∈ l, Pc.bel z y = true → z = y := by
 unfold lsB
 rw [List.all_eq_true]
 constructor
 ·intro h z hz hb
  have := h z hz
  rw [hb] at this
  simpa using this
 ·intro h z hz
  by_cases e : z = y
  ·simp [e]
  ·cases hb : Pc.bel z y with
   | true => exact absurd (h z hz hb) e
   | false => simp
theorem Out.mono {b b' : Nat} {w : World} {v : Value} {R : List Tri} (h : Out b' w v R) (hb : b ≤ b') : Out b w v R := by
 rcases h with h | ⟨h0, g, c, hv, h⟩
 ·exact Or.inl h
 ·refine Or.inr ⟨h0, g, c, hv, h.1, h.2.imp id ?_⟩
  rintro ⟨g1, c1, cur, h1, h2, h3⟩
  exact ⟨g1, c1, cur, h1, Nat.le_trans hb h2, h3⟩
set_option maxHeartbeats 2000000 in
set_option maxRecDepth 100000 in
theorem rfront_any (v : Value) (l : List Tri) (w : World) (hv : Pc.Lst w v l) (hl : (l.length + 1) * 24 ≤ 140737488355328) :
    Calls Tryz.prog 23 #[v] w fun e w' => ∃ (v' : Value) (r : List Tri), e = .returned v' ∧ Out w.heap.size w' v' r ∧ (r.Pairwise fun p q => Pc.tol p q = true) ∧ (∀ y, y ∈ r ↔ y ∈ l ∧ ∀ z ∈ l, Pc.bel z y = true → z = y) ∧ Below w.heap.size w w' := by
 have hmx : Tryz.prog.follows .mixedOrders = true := by kernel_rfl
 have heq := fun a b c x y z W => run_eqT a b c x y z W
 obtain ⟨pl, cl, rfl⟩ := hv.form
 have HL : Hid (Pc.Lst w (.slice pl l.length cl) l) := hv
 clear hv
 go_enter Tryz.func23, Tryz.ntmps23
 go_wp2_with fail
 go_loopw [3, 4, 5, 6] (fun s3 s4 _ _ wr => ∃ k : Nat, k ≤ l.length ∧ s4 = .int .i64 k ∧ Hid (wr.ownsRow w.heap.size 50 3 s3 ((l.take k).filter (lsB l)).length (Pc.flT ((l.take k).filter (lsB l))) ∧ Below w.heap.size w wr)) (fun _ s4 _ _ _ => l.length - (RowKit.intOf s4).toNat)
 case atStart => exact ⟨0, Nat.zero_le _, rfl, World.ownsRow_nil _ _ _ _, Below.refl _ _⟩
 case round =>
  obtain ⟨k, hk, rfl, HI⟩ := hrel
  by_cases hlt : k < l.length
  ·have hltz : (k : Int) < (l.length : Int) := by omega
   obtain ⟨y, hy⟩ : ∃ y, l[k]? = some y := ⟨l[k], by simp⟩
   have HY : Hid (l[k]? = some y) := hy
   have HF : Hid ((l.take (k + 1)).filter (lsB l) = (l.take k).filter (lsB l) ++ (if lsB l y then [y] else [])) := by
    show _ = _
    rw [filter_take_succ hy]
   have hFL : ((l.take k).filter (lsB l)).length ≤ k := Nat.le_trans (List.length_filter_le _ _) (by rw [List.length_take]; omega)
   clear hy
   generalize (l.take k).filter (lsB l) = F at *
   obtain ⟨wi, hwi⟩ : ∃ wi, wi = wr := ⟨wr, rfl⟩
   subst hwi
   go_wp2_with fail
   go_loopw [5, 6] (fun s5 s6 wq => ∃ j : Nat, j ≤ l.length ∧ s6 = .int .i64 j ∧ s5 = .bool (lsB (l.take j) y) ∧ Gr wi wq) (fun _ s6 _ => l.length - (RowKit.intOf s6).toNat)
   case atStart => exact ⟨0, Nat.zero_le _, rfl, rfl, Gr.refl _⟩
   case round =>
    obtain ⟨j, hj, rfl, rfl, hgj⟩ := hrel
    by_cases hjl : j < l.length
    ·have hjz : (j : Int) < (l.length : Int) := by omega
     obtain ⟨z, hz⟩ : ∃ z, l[j]? = some z := ⟨l[j], by simp⟩
     have HGS : Hid (lsB (l.take (j + 1)) y = (lsB (l.take j) y && (decide (z = y) || !Pc.bel z y))) := lsB_take_succ hz y
     have BJ : Below w.heap.size w wr := HI.out.2.trans (hgj.below.mono HI.out.2.size)
     obtain ⟨b2, o2, c2, e2, z2, x1, x2, x3⟩ := (HL.out.below BJ).atP hz
     obtain ⟨b3, o3, c3, e3, z3, y1, y2, y3⟩ := (HL.out.below BJ).atP HY.out
     simp only [Value.slice.injEq] at e2
     obtain ⟨rfl, -, rfl⟩ := e2
     simp only [Value.slice.injEq, Option.some.injEq, Addr.mk.injEq, and_true] at e3
     obtain ⟨⟨rfl, rfl⟩, -⟩ := e3
     clear hz BJ
     generalize lsB (l.take j) y = L0 at *
     by_cases hzy : z = y
     ·have hq := teq_t hzy
      have HG2 : Hid (lsB (l.take (j + 1)) y = L0) := by rw [HGS.out, decide_eq_true hzy]; simp [Hid]
      clear HGS hzy
      go_wp2_with fail
      go_quiet (fail)
      have G9 : Gr wi (wr.drewN nq) := hgj.drewN nq
      go_wp2
      go_roundw
      case rel => exact ⟨j + 1, by omega, by go_num, by rw [HG2.out], G9⟩
      case measure => simp [RowKit.intOf]; omega
     ·have hq := teq_f hzy
      have g1 := cell_grown (a := ⟨b2, o2 + j * 3, none⟩) z2 x1
      have g2 := cell_grown (a := ⟨b2, o2 + j * 3 + 1, none⟩) z2 x2
      have g3 := cell_grown (a := ⟨b2, o2 + j * 3 + 2, none⟩) z2 x3
      have g4 := cell_grown (a := ⟨b2, o2 + k * 3, none⟩) z3 y1
      have g5 := cell_grown (a := ⟨b2, o2 + k * 3 + 1, none⟩) z3 y2
      have g6 := cell_grown (a := ⟨b2, o2 + k * 3 + 2, none⟩) z3 y3
      have hra := fun W => r5ahead_any z y W
      cases hb : Pc.bel z y with
      | true =>
       rw [hb] at hra
       have HG2 : Hid (lsB (l.take (j + 1)) y = false) := by rw [HGS.out, decide_eq_false hzy, hb]; simp [Hid]
       clear HGS hzy hb x1 x2 x3 y1 y2 y3
       go_wp2_with fail
       go_quiet_grown (first | (go_at_call 20; refine Calls.grown_of (hra _)))
       have G9 : Gr wi (grow (wr.drewN nq) osq) := (hgj.drewN nq).grown osq
       go_wp2
       go_roundw
       case rel => exact ⟨j + 1, by omega, by go_num, by rw [HG2.out], G9⟩
       case measure => simp [RowKit.intOf]; omega
      | false =>
       rw [hb] at hra
       have HG2 : Hid (lsB (l.take (j + 1)) y = L0) := by rw [HGS.out, hb]; simp [Hid]
       clear HGS hzy hb x1 x2 x3 y1 y2 y3
       go_wp2_with fail
       go_quiet_grown (first | (go_at_call 20; refine Calls.grown_of (hra _)))
       have G9 : Gr wi (grow (wr.drewN nq) osq) := (hgj.drewN nq).grown osq
       go_wp2
       go_roundw
       case rel => exact ⟨j + 1, by omega, by go_num, by rw [HG2.out], G9⟩
       case measure => simp [RowKit.intOf]; omega
    ·have hjz : ¬ (j : Int) < (l.length : Int) := by omega
     have hjj : j = l.length := by omega
     subst hjj
     rw [List.take_length]
     have BJ : Hid (Below w.heap.size w wr) := HI.out.2.trans (hgj.below.mono HI.out.2.size)
     have HOJ : Hid (wr.ownsRow w.heap.size 50 3 u3 F.length (Pc.flT F)) := owns_below HI.out.1 hgj.below
     obtain ⟨bf, of, ccf, ef, zf, f1, f2, f3⟩ := (HL.out.below BJ.out).atP HY.out
     simp only [Value.slice.injEq] at ef
     obtain ⟨rfl, -, rfl⟩ := ef
     clear HI hgj
     cases hg0 : lsB l y with
     | false =>
      rw [hg0] at HF
      have HN2 : Hid ((l.take (k + 1)).filter (lsB l) = F) := by rw [HF.out]; simp [Hid]
      clear HF hg0
      go_wp2
      go_roundw
      case rel => exact ⟨k + 1, by omega, by go_num, by rw [HN2.out]; exact ⟨HOJ.out, BJ.out⟩⟩
      case measure => simp [RowKit.intOf]; omega
     | true =>
      rw [hg0] at HF
      have HN2 : Hid ((l.take (k + 1)).filter (lsB l) = F ++ [y]) := by rw [HF.out]; simp [Hid]
      have hbz := BJ.out.size
      clear HF hg0
      go_wp2_with (at_builtin; refine wpT1 rfl _ _ rfl w.heap.size _ F.length _ rfl HOJ.out y rfl (by omega) hbz ?_)
      intro g' cap' w6 ho6 hg6 hl6
      have HE6 : Hid (w6.ownsRow w.heap.size 50 3 (.slice (some ⟨g', 0, none⟩) (F.length + 1) cap') (F ++ [y]).length (Pc.flT (F ++ [y])) ∧ Below w.heap.size w w6) := ⟨owns_re ho6 (by simp) (by rw [Pc.flT_append, Pc.flT_one]), BJ.out.trans ((Kp.grownBy (S := fun k => w.heap.size ≤ k) hg6 (fun k hk => (HOJ.out.lt k hk).1)).below BJ.out.size (fun _ h => h))⟩
      clear ho6 hg6 hl6
      go_wp2
      go_roundw
      case rel => exact ⟨k + 1, by omega, by go_num, by rw [HN2.out]; exact HE6.out⟩
      case measure => simp [RowKit.intOf]; omega
  ·have hltz : ¬ (k : Int) < (l.length : Int) := by omega
   have hkk : k = l.length := by omega
   subst hkk
   rw [List.take_length] at HI
   have hFL := List.length_filter_le (lsB l) l
   have HB : Hid (Below w.heap.size w wr) := HI.out.2
   have hso := rsorted_any u3 (l.filter (lsB l)) wr (owns_ls (E := Pc.ET) HI.out.1) (by omega)
   clear HI
   go_wp2_with fail
   refine hso.mono ?_
   rintro e w9 ⟨v9, r, rfl, ho9, hp9, hm9, hb9⟩
   have HO9 : Hid (Out wr.heap.size w9 v9 r ∧ (r.Pairwise fun p q => Pc.tol p q = true) ∧ (∀ y, y ∈ r ↔ y ∈ l ∧ ∀ z ∈ l, Pc.bel z y = true → z = y) ∧ Below w.heap.size w w9) := ⟨ho9, hp9, fun y => by rw [hm9 y, List.mem_filter, lsB_iff], HB.out.trans (hb9.mono HB.out.size)⟩
   have HWZ : Hid (w.heap.size ≤ wr.heap.size) := HB.out.size
   clear hso ho9 hp9 hm9 hb9 HB
   go_wp2
   go_ret
   obtain ⟨h1, h2⟩ := HO9.out
   exact ⟨_, r, rfl, h1.mono HWZ.out, h2⟩
end Go.Proofs.YtjppkehnjnmbnaaGreat.Lf

namespace Go.Proofs.YtjppkehnjnmbnaaGreat.Lf
open Go.RowKit Go.Sort Pt
attribute [local go_sem ↓] Go.wp_at_zero Go.wp_at_succ
end Go.Proofs.YtjppkehnjnmbnaaGreat.Lf

namespace Go.Proofs.YtjppkehnjnmbnaaGreat.Lf
open Go.RowKit Go.Sort Pt
open Df (hid LV EL tk_store tk_lt ls_atL)
attribute [local go_sem ↓] Go.wp_at_zero Go.wp_at_succ
def Tv (M : Nat) (w : World) (tv : Value) (n : Nat) (R : Nat → Nat → List Tri) : Prop := (tv = .pointer none ∧ n = 0) ∨ ∃ tb, tv = .pointer (some ⟨tb, 0, none⟩) ∧ TP M w tb n R
theorem Tv.keep {M n : Nat} {w w' : World} {tv : Value} {R : Nat → Nat → List Tri} (h : Tv M w tv n R) (hb : Below M w w') : Tv M w' tv n R := by
 rcases h with h | ⟨tb, h1, h2⟩
 ·exact Or.inl h
 ·exact Or.inr ⟨tb, h1, h2.keep hb⟩
def bt (n : Nat) (R : Nat → Nat → List Tri) (p q : Int) : List Tri := if (0 ≤ p ∧ p < n) ∧ 0 ≤ q ∧ q < n then R p.toNat q.toNat else []
theorem bt_in {n p q : Nat} {R : Nat → Nat → List Tri} (hp : p < n) (hq : q < n) : bt n R p q = R p q := by
 unfold bt
 rw [if_pos ⟨⟨by omega, by omega⟩, by omega, by omega⟩]
 simp
theorem Tq.at {M n : Nat} {w : World} {v : Value} {R : Nat → Nat → List Tri} (h : Tq M w v n R) : ∃ ps cs, v = .slice ps n cs ∧ ∀ p q, p < n → q < n → ∃ b off b2 o2 c2 pq cq, ps = some ⟨b, off, none⟩ ∧ b < w.heap.size ∧ w.cell? ⟨b, off + p, none⟩ = some (.slice (some ⟨b2, o2, none⟩) n c2) ∧ b2 < w.heap.size ∧ w.cell? ⟨b2, o2 + q, none⟩ = some (.slice pq (R p q).length cq) ∧ Lq Pc.ET M w (.slice pq (R p q).length cq) (R p q) := by
 obtain ⟨us, h1, h2, h3⟩ := h
 obtain ⟨ps, cs, e⟩ := h1.1.form
 rw [h2] at e
 refine ⟨ps, cs, e, fun p q hp hq => ?_⟩
 obtain ⟨u, hu⟩ : ∃ u, us[p]? = some u := ⟨us[p]'(by omega), by simp⟩
 obtain ⟨vs, a1, a2, a3⟩ := h3 p u hu
 obtain ⟨x, hx⟩ : ∃ x, vs[q]? = some x := ⟨vs[q]'(by omega), by simp⟩
 obtain ⟨b, off, c, e1, hb, hc⟩ := ls_atL h1.1 hu
 rw [e] at e1
 simp only [Value.slice.injEq] at e1
 obtain ⟨b2, o2, c2, e2, hb2, hc2⟩ := ls_atL a1.1 hx
 rw [a2] at e2
 have hx3 := a3 q x hx
 obtain ⟨pq, cq, e3⟩ := hx3.1.form
 rw [e3] at hc2 hx3
 rw [e2] at hc
 exact ⟨b, off, b2, o2, c2, pq, cq, e1.1, hb, hc, hb2, hc2, hx3⟩
theorem places_any {M n : Nat} {tv : Value} {R : Nat → Nat → List Tri} (w : World) (h : Tv M w tv n R) : Calls Tryz.prog 29 #[tv] w fun e w' => e = .returned (.int .i64 (n : Nat)) ∧ w' = w := by
 rcases h with ⟨rfl, rfl⟩ | ⟨tb, rfl, v, h1, _, h3⟩
 ·go_enter Tryz.func29, Tryz.ntmps29
  go_wp2
  go_ret
  exact ⟨rfl, rfl⟩
 ·obtain ⟨ps, cs, rfl, _⟩ := h3.at
  have c1 := (tk_store h1).1
  have l1 := tk_lt h1
  clear h1 h3
  go_enter Tryz.func29, Tryz.ntmps29
  go_wp2
  go_ret
  exact ⟨rfl, rfl⟩
theorem among_any (x : Int) (n : Nat) (b : Bool) (hb : b = decide (0 ≤ x ∧ x < n)) (w : World) : Calls Tryz.prog 63 #[.int .i64 x, .int .i64 (n : Nat)] w fun e w' => e = .returned (.bool b) ∧ w' = w := by
 by_cases h0 : 0 ≤ x
 ·by_cases h1 : x < n
  ·have e : b = true := by rw [hb]; simp; omega
   subst e
   clear hb
   go_enter Tryz.func63, Tryz.ntmps63
   go_wp2
   go_ret
   exact ⟨rfl, rfl⟩
  ·have e : b = false := by rw [hb]; simp; omega
   subst e
   clear hb
   go_enter Tryz.func63, Tryz.ntmps63
   go_wp2
   go_ret
   exact ⟨rfl, rfl⟩
 ·have e : b = false := by rw [hb]; simp; omega
  subst e
  clear hb
  go_enter Tryz.func63, Tryz.ntmps63
  go_wp2
  go_ret
  exact ⟨rfl, rfl⟩
set_option maxHeartbeats 1000000 in
theorem between_any {M n : Nat} {tv : Value} {R : Nat → Nat → List Tri} (p q : Int) (w : World) (h : Tv M w tv n R) : Calls Tryz.prog 37 #[tv, .int .i64 p, .int .i64 q] w fun e w' => ∃ pp c, e = .returned (.slice pp (bt n R p q).length c) ∧ w' = w ∧ Lq Pc.ET M w (.slice pp (bt n R p q).length c) (bt n R p q) := by
 obtain ⟨bp, hbp⟩ : ∃ b, b = decide (0 ≤ p ∧ p < (n : Int)) := ⟨_, rfl⟩
 obtain ⟨bq, hbq⟩ : ∃ b, b = decide (0 ≤ q ∧ q < (n : Int)) := ⟨_, rfl⟩
 have hpl := places_any w h
 have hap := among_any p n bp hbp w
 have haq := among_any q n bq hbq w
 have HT := hid h
 have HBP := hid hbp
 have HBQ := hid hbq
 clear h hbp hbq
 cases bp with
 | false =>
  have HE : Hid (bt n R p q = []) := by
   unfold bt
   rw [if_neg (fun h => ?_)]
   ·exact rfl
   ·have := HBP.out
    rw [decide_eq_true h.1] at this
    cases this
  rw [HE.out]
  go_enter Tryz.func37, Tryz.ntmps37
  go_wp2_with fail
  refine hpl.mono ?_
  rintro e w1 ⟨rfl, hw1⟩
  rw [hw1]
  clear hw1
  go_wp2_with fail
  refine hap.mono ?_
  rintro e w2 ⟨rfl, hw2⟩
  rw [hw2]
  clear hw2
  go_wp2
  go_ret
  exact ⟨none, 0, rfl, rfl, Ls.nil w, fun k hk => by simp [Value.ownBlock] at hk⟩
 | true =>
  cases bq with
  | false =>
   have HE : Hid (bt n R p q = []) := by
    unfold bt
    rw [if_neg (fun h => ?_)]
    ·exact rfl
    ·have := HBQ.out
     rw [decide_eq_true h.2] at this
     cases this
   rw [HE.out]
   go_enter Tryz.func37, Tryz.ntmps37
   go_wp2_with fail
   refine hpl.mono ?_
   rintro e w1 ⟨rfl, hw1⟩
   rw [hw1]
   clear hw1
   go_wp2_with fail
   refine hap.mono ?_
   rintro e w2 ⟨rfl, hw2⟩
   rw [hw2]
   clear hw2
   go_wp2_with fail
   refine hpl.mono ?_
   rintro e w3 ⟨rfl, hw3⟩
   rw [hw3]
   clear hw3
   go_wp2_with fail
   refine haq.mono ?_
   rintro e w4 ⟨rfl, hw4⟩
   rw [hw4]
   clear hw4
   go_wp2
   go_ret
   exact ⟨none, 0, rfl, rfl, Ls.nil w, fun k hk => by simp [Value.ownBlock] at hk⟩
  | true =>
   obtain ⟨h1, h2⟩ := of_decide_eq_true HBP.out.symm
   obtain ⟨h3, h4⟩ := of_decide_eq_true HBQ.out.symm
   obtain ⟨pn, rfl⟩ := Int.eq_ofNat_of_zero_le h1
   obtain ⟨qn, rfl⟩ := Int.eq_ofNat_of_zero_le h3
   have hpn : pn < n := by omega
   have hqn : qn < n := by omega
   rw [bt_in hpn hqn]
   rcases HT.out with ⟨_, h0⟩ | ⟨tb, rfl, v, b1, _, b3⟩
   ·omega
   ·obtain ⟨ps, cs, rfl, hat⟩ := b3.at
    obtain ⟨b, off, b2, o2, c2, pq, cq, rfl, z1, z2, z3, z4, z5⟩ := hat pn qn hpn hqn
    have c1 := (tk_store b1).1
    have l1 := tk_lt b1
    have HZ := hid z5
    clear b1 b3 hat z5 HT
    generalize hrl : (R pn qn).length = rl at *
    go_enter Tryz.func37, Tryz.ntmps37
    go_wp2_with fail
    refine hpl.mono ?_
    rintro e w1 ⟨rfl, hw1⟩
    rw [hw1]
    clear hw1
    go_wp2_with fail
    refine hap.mono ?_
    rintro e w2 ⟨rfl, hw2⟩
    rw [hw2]
    clear hw2
    go_wp2_with fail
    refine hpl.mono ?_
    rintro e w3 ⟨rfl, hw3⟩
    rw [hw3]
    clear hw3
    go_wp2_with fail
    refine haq.mono ?_
    rintro e w4 ⟨rfl, hw4⟩
    rw [hw4]
    clear hw4
    go_wp2
    go_ret
    exact ⟨pq, cq, rfl, rfl, HZ.out⟩
set_option maxHeartbeats 1000000 in
theorem least_any {M n : Nat} {tv : Value} {R : Nat → Nat → List Tri} (p q : Int) (w : World) (h : Tv M w tv n R) (hl : (bt n R p q).length ≤ 64) : Calls Tryz.prog 12 #[tv, .int .i64 p, .int .i64 q] w fun e w' => ∃ v', e = .returned v' ∧ w'.ownsRow w.heap.size 39 3 v' (bt n R p q).length (fl Pc.ET (bt n R p q)) ∧ Below w.heap.size w w' := by
 have hb := between_any p q w h
 clear h
 generalize bt n R p q = l at *
 go_enter Tryz.func12, Tryz.ntmps12
 go_wp2_with fail
 refine hb.mono ?_
 rintro e w1 ⟨pp, c, rfl, hw1, hq⟩
 rw [hw1]
 clear hw1 hb
 have hcl := Pc.Cn.clone_any _ l w hq.1 (by omega)
 clear hq
 go_wp2_with fail
 refine hcl.mono ?_
 rintro e w2 ⟨v', rfl, h1, h2⟩
 clear hcl
 go_wp2
 go_ret
 exact ⟨_, rfl, h1, h2⟩
end Go.Proofs.YtjppkehnjnmbnaaGreat.Lf

namespace Go.Proofs.YtjppkehnjnmbnaaGreat.Lf
open Go.RowKit Go.Sort Pt
open Df (hid LV EL EI tk_store tk_lt)
attribute [local go_sem ↓] Go.wp_at_zero Go.wp_at_succ
def PredB (g : Nat) (lb : Array Value) (p : Tri → Bool) (w : World) : Prop := ∀ (W : World) (x : Tri), Below w.heap.size w W → Calls Tryz.prog g (#[Pc.tv x] ++ lb) W fun e w' => e = .returned (.bool (p x)) ∧ Below W.heap.size W w'
set_option maxHeartbeats 2000000 in
set_option maxRecDepth 100000 in
theorem indexFuncB_any (v : Value) (l : List Tri) (g : Nat) (lb : Array Value) (p : Tri → Bool) (w : World) (hv : Pc.Lst w v l) (hl : l.length ≤ maxLen) (eg : ∀ args w, (callFunc g args).run Tryz.prog w = .ok (.enter g args) w) (hp : PredB g lb p w) :
    Calls Tryz.prog 64 #[v, .func (.func g) #[] lb] w fun e w' => e = .returned (.int .i64 (Pc.Cn.idxv p l)) ∧ Below w.heap.size w w' := by
 unfold maxLen at hl
 obtain ⟨pl, cl, rfl⟩ := hv.form
 have HL : Hid (Pc.Lst w (.slice pl l.length cl) l) := hv
 have HP : Hid (PredB g lb p w) := hp
 clear hv hp
 obtain ⟨r, hr⟩ : ∃ r, r = Pc.Cn.idxv p l := ⟨_, rfl⟩
 rw [← hr]
 have HRR : Hid (r = Pc.Cn.idxv p l) := hr
 clear hr
 go_enter Tryz.func64, Tryz.ntmps64
 go_wp2_with fail
 go_loopw [5, 8] (fun s5 s8 wr => ∃ k : Nat, k ≤ l.length ∧ s8 = .int .i64 k ∧ Below w.heap.size w wr ∧ Hid (∀ j y, j < k → l[j]? = some y → p y = false)) (fun _ s8 _ => l.length - (RowKit.intOf s8).toNat)
 case atStart => exact ⟨0, Nat.zero_le _, rfl, Below.refl _ _, fun j _ hj => absurd hj (Nat.not_lt_zero _)⟩
 case round =>
  obtain ⟨k, hk, rfl, hgr, A⟩ := hrel
  by_cases hlt : k < l.length
  ·have hltz : (k : Int) < (l.length : Int) := by omega
   obtain ⟨x, hx⟩ : ∃ x, l[k]? = some x := ⟨l[k], by simp⟩
   obtain ⟨b1, o1, c1, e1, z1, x1, x2, x3⟩ := (HL.out.below hgr).atP hx
   simp only [Value.slice.injEq] at e1
   obtain ⟨rfl, -, rfl⟩ := e1
   have HX : Hid (l[k]? = some x) := hx
   clear hx
   have hcall := HP.out wr x hgr
   cases hq : p x with
   | true =>
    rw [hq] at hcall
    go_wp2_with (go_at_fn g; refine hcall.mono ?_; rintro e w' ⟨rfl, hb'⟩)
    go_ret
    exact ⟨by rw [HRR.out, Pc.Cn.idxv_hit HX.out hq A.out]; rfl, hgr.trans (hb'.mono hgr.size)⟩
   | false =>
    rw [hq] at hcall
    go_wp2_with (go_at_fn g; refine hcall.mono ?_; rintro e w' ⟨rfl, hb'⟩)
    refine ⟨⟨k + 1, by omega, by go_num, hgr.trans (hb'.mono hgr.size), fun j y hj hy => ?_⟩, by simp [RowKit.intOf]; omega⟩
    by_cases e : j = k
    ·subst e
     have := HX.out
     rw [hy] at this
     cases this; exact hq
    ·exact A.out j y (by omega) hy
  ·have hltz : ¬ (k : Int) < (l.length : Int) := by omega
   have hk' : k = l.length := by omega
   subst hk'
   go_wp2
   go_ret
   exact ⟨by rw [HRR.out, Pc.Cn.idxv_miss A.out]; rfl, hgr⟩
set_option maxHeartbeats 2000000 in
theorem containsFuncB_any (v : Value) (l : List Tri) (g : Nat) (lb : Array Value) (p : Tri → Bool) (w : World) (hv : Pc.Lst w v l) (hl : l.length ≤ maxLen) (eg : ∀ args w, (callFunc g args).run Tryz.prog w = .ok (.enter g args) w) (hp : PredB g lb p w) :
    Calls Tryz.prog 43 #[v, .func (.func g) #[] lb] w fun e w' => e = .returned (.bool (l.any p)) ∧ Below w.heap.size w w' := by
 have h := indexFuncB_any v l g lb p w hv hl eg hp
 rw [← Pc.Cn.idxv_neg]
 generalize Pc.Cn.idxv p l = r at h ⊢
 go_enter Tryz.func43, Tryz.ntmps43
 go_wp2_with fail
 refine h.mono ?_
 rintro e w1 ⟨rfl, hg⟩
 go_wp2
 go_ret
 exact ⟨by first | rfl | simp, hg⟩
theorem on_any (a b : Tri) (w : World) : Calls Tryz.prog 45 #[Pc.tv a, Pc.tv b] w fun e w' => e = .returned (.tuple #[Pc.tv (thv a b), .bool (thn3 a b).isSome]) ∧ Below w.heap.size w w' := by
 obtain ⟨x1, x2, x3, y1, y2, y3, ⟨e1, e2, e3⟩, ⟨f1, f2, f3⟩, ⟨g1, g2, g3⟩, ⟨h1, h2, h3⟩, k0, k1, k2, k3⟩ := thv_nat a b
 have h := On_any x1 x2 x3 y1 y2 y3 w g1 g2 g3 h1 h2 h3
 rw [k1, k2, k3, k0] at h
 unfold Pc.tv
 rw [e1, e2, e3, f1, f2, f3]
 exact h
def cldP (s u b : Tri) : Bool := (thn3 b s).isSome && Pc.bel (thv b s) u
set_option maxHeartbeats 1000000 in
theorem could1_any {s u : Hf.Th} {B1 B2 : Nat} (x : Tri) (w : World) (h1 : w.heap[B1]? = some (.cells #[.int .i64 s.1, .int .u64 s.2.1.1, .int .u64 s.2.1.2.1, .int .u64 s.2.1.2.2] 52 (0, 0))) (h2 : w.heap[B2]? = some (.cells #[.int .i64 u.1, .int .u64 u.2.1.1, .int .u64 u.2.1.2.1, .int .u64 u.2.1.2.2] 52 (0, 0))) :
    Calls Tryz.prog 44 #[Pc.tv x, .pointer (some ⟨B1, 0, none⟩), .pointer (some ⟨B2, 0, none⟩)] w fun e w' => e = .returned (.bool (cldP s.2 u.2 x)) ∧ Below w.heap.size w w' := by
 unfold cldP
 have hon := fun W => on_any x s.2 W
 have hah := fun W => pAhead_any (thv x s.2).1.1 (thv x s.2).1.2.1 (thv x s.2).1.2.2 u.2.1.1 u.2.1.2.1 u.2.1.2.2 W
 rw [show tle (thv x s.2).1.1 (thv x s.2).1.2.1 (thv x s.2).1.2.2 u.2.1.1 u.2.1.2.1 u.2.1.2.2 = Pc.bel (thv x s.2) u.2 from rfl] at hah
 generalize Pc.bel (thv x s.2) u.2 = bb at hah ⊢
 generalize thv x s.2 = cv at hon hah
 generalize (thn3 x s.2).isSome = ok at hon ⊢
 unfold Pc.tv at hon
 have HS : Hid (∀ W, Below w.heap.size w W → W.heap[B1]? = some (.cells #[.int .i64 s.1, .int .u64 s.2.1.1, .int .u64 s.2.1.2.1, .int .u64 s.2.1.2.2] 52 (0, 0)) ∧ W.heap[B2]? = some (.cells #[.int .i64 u.1, .int .u64 u.2.1.1, .int .u64 u.2.1.2.1, .int .u64 u.2.1.2.2] 52 (0, 0))) := fun W hb => ⟨(hb.block _ (tk_lt h1)).trans h1, (hb.block _ (tk_lt h2)).trans h2⟩
 obtain ⟨W0, hW0⟩ : ∃ W, W = w.alloc (.cells #[.int .u64 x.1.1, .int .u64 x.1.2.1, .int .u64 x.1.2.2] 39) := ⟨_, rfl⟩
 obtain ⟨xb, hxb⟩ : ∃ b, b = w.heap.size := ⟨_, rfl⟩
 have B0 : Hid (Below w.heap.size w W0 ∧ W0.heap[xb]? = some (.cells #[.int .u64 x.1.1, .int .u64 x.1.2.1, .int .u64 x.1.2.2] 39 (0, 0))) := by
  rw [hW0, hxb]
  exact ⟨((Gr.refl w).alloc _).below, heap_new' _ _⟩
 have HW0 : Hid (w.alloc (.cells #[.int .u64 x.1.1, .int .u64 x.1.2.1, .int .u64 x.1.2.2] 39) = W0 ∧ w.heap.size = xb) := ⟨hW0.symm, hxb.symm⟩
 clear h1 h2 hW0 hxb
 go_enter Tryz.func44, Tryz.ntmps44
 go_upto_region 1 with fail
 rw [HW0.out.1, HW0.out.2]
 clear HW0
 obtain ⟨q1, q2⟩ := HS.out _ B0.out.1
 have c1 := (tk_store q1).1
 have l1 := tk_lt q1
 have c2 := (tk_store B0.out.2).1
 have l2 := tk_lt B0.out.2
 clear q1 q2
 go_wp2_with fail
 refine (hon _).mono ?_
 rintro e w1 ⟨rfl, hb1⟩
 clear c1 l1 c2 l2
 have HB1 : Hid (Below w.heap.size w w1) := B0.out.1.trans (hb1.mono B0.out.1.size)
 obtain ⟨W2, hW2⟩ : ∃ W, W = w1.alloc (.cells #[.int .u64 cv.1.1, .int .u64 cv.1.2.1, .int .u64 cv.1.2.2] 50) := ⟨_, rfl⟩
 obtain ⟨yb, hyb⟩ : ∃ b, b = w1.heap.size := ⟨_, rfl⟩
 have P2 : Hid (Below w.heap.size w W2 ∧ W2.heap[yb]? = some (.cells #[.int .u64 cv.1.1, .int .u64 cv.1.2.1, .int .u64 cv.1.2.2] 50 (0, 0))) := by
  rw [hW2, hyb]
  exact ⟨HB1.out.trans (((Gr.refl w1).alloc _).below.mono HB1.out.size), heap_new' _ _⟩
 have HW2 : Hid (w1.alloc (.cells #[.int .u64 cv.1.1, .int .u64 cv.1.2.1, .int .u64 cv.1.2.2] 50) = W2 ∧ w1.heap.size = yb) := ⟨hW2.symm, hyb.symm⟩
 clear hW2 hyb hb1
 go_upto_region 2 with fail
 rw [HW2.out.1, HW2.out.2]
 clear HW2
 obtain ⟨q1, q2⟩ := HS.out _ P2.out.1
 have c1 := (tk_store q2).1
 have l1 := tk_lt q2
 have c2 := (tk_store P2.out.2).1
 have l2 := tk_lt P2.out.2
 clear q1 q2
 cases ok with
 | true =>
  go_wp2_with fail
  refine (hah _).mono ?_
  rintro e w3 ⟨rfl, hg3⟩
  clear c1 l1 c2 l2
  go_wp2
  go_ret
  exact ⟨by simp, P2.out.1.trans (hg3.below.mono P2.out.1.size)⟩
 | false =>
  go_wp2
  go_ret
  exact ⟨by simp, P2.out.1⟩
set_option maxHeartbeats 1000000 in
theorem could_any {M n : Nat} {tv : Value} {R : Nat → Nat → List Tri} (s u : Hf.Th) (w : World) (h : Tv M w tv n R) (hM : M ≤ w.heap.size) (hl : (bt n R s.1 u.1).length ≤ 64) : Calls Tryz.prog 17 #[tv, .agg #[.int .i64 s.1, .int .u64 s.2.1.1, .int .u64 s.2.1.2.1, .int .u64 s.2.1.2.2], .agg #[.int .i64 u.1, .int .u64 u.2.1.1, .int .u64 u.2.1.2.1, .int .u64 u.2.1.2.2]] w fun e w' => e = .returned (.bool ((bt n R s.1 u.1).any (cldP s.2 u.2))) ∧ Below w.heap.size w w' := by
 obtain ⟨W0, hW0⟩ : ∃ W, W = (w.alloc (.cells #[.int .i64 s.1, .int .u64 s.2.1.1, .int .u64 s.2.1.2.1, .int .u64 s.2.1.2.2] 52)).alloc (.cells #[.int .i64 u.1, .int .u64 u.2.1.1, .int .u64 u.2.1.2.1, .int .u64 u.2.1.2.2] 52) := ⟨_, rfl⟩
 obtain ⟨xb, hxb⟩ : ∃ b, b = w.heap.size := ⟨_, rfl⟩
 have B0 : Hid (Below w.heap.size w W0 ∧ W0.heap[xb]? = some (.cells #[.int .i64 s.1, .int .u64 s.2.1.1, .int .u64 s.2.1.2.1, .int .u64 s.2.1.2.2] 52 (0, 0)) ∧ W0.heap[xb + 1]? = some (.cells #[.int .i64 u.1, .int .u64 u.2.1.1, .int .u64 u.2.1.2.1, .int .u64 u.2.1.2.2] 52 (0, 0))) := by
  rw [hW0, hxb]
  exact ⟨(((Gr.refl w).alloc _).alloc _).below, Df.new1 w _ _, Df.new2 w _ _⟩
 have HW0 : Hid ((w.alloc (.cells #[.int .i64 s.1, .int .u64 s.2.1.1, .int .u64 s.2.1.2.1, .int .u64 s.2.1.2.2] 52)).alloc (.cells #[.int .i64 u.1, .int .u64 u.2.1.1, .int .u64 u.2.1.2.1, .int .u64 u.2.1.2.2] 52) = W0 ∧ w.heap.size = xb) := ⟨hW0.symm, hxb.symm⟩
 have hb := between_any s.1 u.1 W0 (h.keep (B0.out.1.mono hM))
 clear hW0 hxb h hM
 have hpr : PredB 44 #[.pointer (some ⟨xb, 0, none⟩), .pointer (some ⟨xb + 1, 0, none⟩)] (cldP s.2 u.2) W0 := fun W x hW => could1_any x W ((hW.block _ (tk_lt B0.out.2.1)).trans B0.out.2.1) ((hW.block _ (tk_lt B0.out.2.2)).trans B0.out.2.2)
 have HPR := hid hpr
 have c1 := (tk_store B0.out.2.1).1
 have l1 := tk_lt B0.out.2.1
 have c2 := (tk_store B0.out.2.2).1
 have l2 := tk_lt B0.out.2.2
 clear hpr
 generalize bt n R s.1 u.1 = l at *
 go_enter Tryz.func17, Tryz.ntmps17
 go_upto_region 1 with fail
 rw [HW0.out.1, HW0.out.2]
 clear HW0
 go_wp2_with fail
 refine hb.mono ?_
 rintro e w1 ⟨pp, c, rfl, hw1, hq⟩
 rw [hw1]
 clear hw1 hb
 have hct := containsFuncB_any _ l 44 #[.pointer (some ⟨xb, 0, none⟩), .pointer (some ⟨xb + 1, 0, none⟩)] (cldP s.2 u.2) W0 hq.1 (by unfold maxLen; omega) (enters_of Tryz.func44 (by kernel_rfl) rfl) HPR.out
 clear hq c1 l1 c2 l2
 go_wp2_with fail
 refine hct.mono ?_
 rintro e w2 ⟨rfl, h2⟩
 clear hct
 have HB2 : Hid (Below w.heap.size w w2) := B0.out.1.trans (h2.mono B0.out.1.size)
 clear h2
 go_wp2
 go_ret
 exact ⟨rfl, HB2.out⟩
end Go.Proofs.YtjppkehnjnmbnaaGreat.Lf
