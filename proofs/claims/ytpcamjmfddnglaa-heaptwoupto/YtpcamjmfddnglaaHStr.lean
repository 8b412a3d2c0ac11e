import Derived.Test.YtpcamjmfddnglaaHQS
namespace Go.Proofs.Ytpcamjmfddnglaa.Hs
open Go.RowKit Go.Sort Hp
attribute [local go_sem ↓] Go.wp_at_zero Go.wp_at_succ
/-- Texts in a row. -/
def ES : El ByteArray where
  k := 1
  enc s := [.string s]
  len _ := rfl
  one x u hu := by
    simp at hu
    subst hu; rfl
theorem s_at {w : World} {v : Value} {ts : List ByteArray} (h : Ls ES w v ts) {j : Nat} {x : ByteArray} (hj : ts[j]? = some x) :
    ∃ b off c, v = .slice (some ⟨b, off, none⟩) ts.length c ∧ b < w.heap.size ∧ w.cell? ⟨b, off + j, none⟩ = some (.string x) := by
  obtain ⟨b, off, c, hv, hb, hc⟩ := h.get hj
  have := hc 0 _ (by decide) rfl
  rw [Nat.add_zero, show ES.k = 1 from rfl, Nat.mul_one] at this
  exact ⟨b, off, c, hv, hb, this⟩
theorem list_inj {a b : ByteArray} (h : a.toList = b.toList) : a = b := by
  rw [ByteArray.toList_eq, ByteArray.toList_eq] at h
  cases a; cases b
  simp only [ByteArray.mk.injEq]
  exact Array.toList_inj.1 h
theorem beq_of {a b : ByteArray} : (a.toList == b.toList) = decide (a = b) := by
  rw [Bool.eq_iff_iff, beq_iff_eq, decide_eq_true_iff]
  exact ⟨list_inj, fun h => by rw [h]⟩
theorem beq_t {a b : ByteArray} (h : a = b) : (a.toList == b.toList) = true := by rw [h]; simp
theorem beq_f {a b : ByteArray} (h : ¬ a = b) : (a.toList == b.toList) = false := by rw [beq_of]; simp [h]
/-- How often. -/
def cnt (x : ByteArray) (l : List ByteArray) : Nat := (l.filter fun y => decide (y = x)).length
theorem cnt_take {x y : ByteArray} {l : List ByteArray} {k : Nat} (h : l[k]? = some y) : cnt x (l.take (k + 1)) = cnt x (l.take k) + (if y = x then 1 else 0) := by
  unfold cnt
  rw [List.take_add_one, h]
  by_cases e : y = x <;> simp [e]
theorem cnt_le (x : ByteArray) (l : List ByteArray) : cnt x l ≤ l.length := List.length_filter_le _ _

set_option maxHeartbeats 2000000 in
set_option maxRecDepth 100000 in
theorem alike_any (va vb : Value) (a b : List ByteArray) (w : World) (ha : Ls ES w va a) (hb : Ls ES w vb b) (hla : a.length ≤ 1000000000) (hp : a.Perm b) :
    Calls Try.prog 19 #[va, vb] w fun e w' => e = .returned (.bool true) ∧ Gr w w' := by
  have hmx : Try.prog.follows .mixedOrders = true := by kernel_rfl
  obtain ⟨pa, ca, rfl⟩ := ha.form
  obtain ⟨pb, cb, rfl⟩ := hb.form
  have HA : Hid (Ls ES w (.slice pa a.length ca) a) := ha
  have HB : Hid (Ls ES w (.slice pb b.length cb) b) := hb
  have hlb : b.length ≤ 1000000000 := by rw [← hp.length_eq]; exact hla
  have HLN : Hid (a.length = b.length) := hp.length_eq
  have HC : Hid (∀ x, cnt x a = cnt x b) := fun x => (hp.filter _).length_eq
  clear ha hb hp
  go_enter Try.func19, Try.ntmps19
  go_wp2_with fail
  go_loopw [5, 6, 7, 8] (fun s5 _ _ _ wr => ∃ i : Nat, i ≤ a.length ∧ s5 = .int .i64 i ∧ Gr w wr) (fun s5 _ _ _ _ => a.length - (RowKit.intOf s5).toNat)
  case atStart => exact ⟨0, Nat.zero_le _, rfl, Gr.refl _⟩
  case round =>
    obtain ⟨i, hi, rfl, hgr⟩ := hrel
    by_cases hlt : i < a.length
    · have hltz : (i : Int) < (a.length : Int) := by omega
      obtain ⟨x, hx⟩ : ∃ x, a[i]? = some x := ⟨a[i], by rw [List.getElem?_eq_getElem]⟩
      obtain ⟨b1, o1, c1, e1, z1, x1⟩ := s_at (HA.out.below hgr.below) hx
      simp only [Value.slice.injEq] at e1
      obtain ⟨rfl, -, rfl⟩ := e1
      clear hx
      have HG0 : Hid (Gr w wr) := hgr
      have i0 : (0 : Int) ≤ (i : Int) := by omega
      go_wp2_with fail
      go_loopw [6, 7] (fun s6 s7 w2 => ∃ j : Nat, j ≤ a.length ∧ s7 = .int .i64 j ∧ s6 = .int .i64 (cnt x (a.take j) : Nat) ∧ Gr wr w2) (fun _ s7 _ => a.length - (RowKit.intOf s7).toNat)
      case atStart => exact ⟨0, Nat.zero_le _, rfl, by simp [cnt], Gr.refl _⟩
      case round =>
        obtain ⟨j, hj, rfl, rfl, hg2⟩ := hrel
        by_cases hlt2 : j < a.length
        · have hlt2z : (j : Int) < (a.length : Int) := by omega
          have j0 : (0 : Int) ≤ (j : Int) := by omega
          obtain ⟨y, hy⟩ : ∃ y, a[j]? = some y := ⟨a[j], by rw [List.getElem?_eq_getElem]⟩
          obtain ⟨b2, o2, c2, e2, z2, y1⟩ := s_at (HA.out.below (HG0.out.trans hg2).below) hy
          simp only [Value.slice.injEq, Option.some.injEq, Addr.mk.injEq, and_true] at e2
          obtain ⟨⟨rfl, rfl⟩, -, rfl⟩ := e2
          have HCT := hid (cnt_take (x := x) hy)
          have hcl : cnt x (a.take j) ≤ a.length := Nat.le_trans (cnt_le _ _) (by rw [List.length_take]; omega)
          have x2 := (hg2.cell z1).trans x1
          have z3 := Nat.lt_of_lt_of_le z1 hg2.size
          generalize cnt x (a.take j) = m at HCT hcl ⊢
          clear hy
          by_cases exy : y = x
          · have hq := beq_t exy
            rw [if_pos exy] at HCT
            clear exy
            go_wp2_with fail
            go_quiet (fail)
            go_wp2
            go_roundw
            case rel => exact ⟨j + 1, by omega, by go_num, by rw [HCT.out]; go_num, hg2.drewN _⟩
            case measure => simp [RowKit.intOf]; omega
          · have hq := beq_f exy
            rw [if_neg exy] at HCT
            clear exy
            go_wp2_with fail
            go_quiet (fail)
            go_wp2
            go_roundw
            case rel => exact ⟨j + 1, by omega, by go_num, by rw [HCT.out, Nat.add_zero], hg2.drewN _⟩
            case measure => simp [RowKit.intOf]; omega
        · have hlt2z : ¬ (j : Int) < (a.length : Int) := by omega
          have hja : j = a.length := by omega
          subst hja
          rw [List.take_length]
          have hcl : cnt x a ≤ a.length := cnt_le _ _
          have HGW : Hid (Gr w wr) := HG0.out.trans hg2
          have x2 := (hg2.cell z1).trans x1
          have z3 := Nat.lt_of_lt_of_le z1 hg2.size
          have HCX := hid (HC.out x)
          generalize cnt x a = m at HCX hcl ⊢
          clear hg2 HG0 x1 z1
          go_wp2_with fail
          go_loopw [6, 8] (fun s6 s8 w3 => ∃ (j : Nat), j ≤ b.length ∧ s8 = .int .i64 j ∧ s6 = .int .i64 ((m : Int) - (cnt x (b.take j) : Nat)) ∧ Gr wr w3) (fun _ s8 _ => b.length - (RowKit.intOf s8).toNat)
          case atStart => exact ⟨0, Nat.zero_le _, rfl, by simp [cnt], Gr.refl _⟩
          case round =>
            obtain ⟨j, hj, rfl, rfl, hg3⟩ := hrel
            by_cases hlt3 : j < b.length
            · have hlt3z : (j : Int) < (b.length : Int) := by omega
              have j0 : (0 : Int) ≤ (j : Int) := by omega
              obtain ⟨y, hy⟩ : ∃ y, b[j]? = some y := ⟨b[j], by rw [List.getElem?_eq_getElem]⟩
              obtain ⟨b2, o2, c2, e2, z2, y1⟩ := s_at (HB.out.below (HGW.out.trans hg3).below) hy
              simp only [Value.slice.injEq] at e2
              obtain ⟨rfl, -, rfl⟩ := e2
              have HCT := hid (cnt_take (x := x) hy)
              have hcl2 : cnt x (b.take j) ≤ b.length := Nat.le_trans (cnt_le _ _) (by rw [List.length_take]; omega)
              have x3 := (hg3.cell z3).trans x2
              have z4 := Nat.lt_of_lt_of_le z3 hg3.size
              generalize cnt x (b.take j) = q at HCT hcl2 ⊢
              clear hy
              by_cases exy : y = x
              · have hq := beq_t exy
                rw [if_pos exy] at HCT
                clear exy
                go_wp2_with fail
                go_quiet (fail)
                go_wp2
                go_roundw
                case rel => exact ⟨j + 1, by omega, by go_num, by rw [HCT.out]; go_num, hg3.drewN _⟩
                case measure => simp [RowKit.intOf]; omega
              · have hq := beq_f exy
                rw [if_neg exy] at HCT
                clear exy
                go_wp2_with fail
                go_quiet (fail)
                go_wp2
                go_roundw
                case rel => exact ⟨j + 1, by omega, by go_num, by rw [HCT.out, Nat.add_zero], hg3.drewN _⟩
                case measure => simp [RowKit.intOf]; omega
            · have hlt3z : ¬ (j : Int) < (b.length : Int) := by omega
              have hjb : j = b.length := by omega
              subst hjb
              rw [List.take_length, ← HCX.out]
              have hz0 : (m : Int) - (m : Int) = 0 := by omega
              rw [hz0]
              go_wp2
              go_roundw
              case rel => exact ⟨i + 1, by omega, by go_num, HGW.out.trans hg3⟩
              case measure => simp [RowKit.intOf]; omega
    · have hltz : ¬ (i : Int) < (a.length : Int) := by omega
      have hlz : (a.length : Int) = (b.length : Int) := by rw [HLN.out]
      go_wp2
      go_ret
      exact ⟨by first | rfl | simp [hlz], hgr⟩
end Go.Proofs.Ytpcamjmfddnglaa.Hs
