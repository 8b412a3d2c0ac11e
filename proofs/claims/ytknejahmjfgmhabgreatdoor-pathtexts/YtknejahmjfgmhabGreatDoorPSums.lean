import Derived.Test.YtknejahmjfgmhabGreatDoorPRef2
import Derived.Test.YtknejahmjfgmhabGreatDoorPWays
import Derived.Test.YtknejahmjfgmhabGreatDoorPApp
import Derived.Deep.RegionHeld3
namespace Go.Proofs.YtknejahmjfgmhabGreatDoor
open Go.RowKit Go.Shelf Go.Lib
open Go.Sort hiding Below

theorem infoU : (Tryz.prog.info? 22).map (fun i => (i.zero, i.size, i.bytes)) = some (some (.int .u64 0), 1, 8) := by kernel_rfl
/-- Numbers as cells. -/
def ucells (l : List Nat) : List Value := l.map fun (n : Nat) => Value.int .u64 (n : Int)
theorem ucells_len (l : List Nat) : (ucells l).length = l.length := by simp [ucells]
/-- Three numbers at a block. -/
def Nums (W : World) (b : Nat) (l : List Nat) : Prop := b < W.heap.size ∧ ∀ j n : Nat, l[j]? = some n → W.cell? ⟨b, j, none⟩ = some (.int .u64 (n : Int))
theorem Nums.below {W W' : World} {b : Nat} {l : List Nat} (h : Nums W b l) (hb : Below W.heap.size W W') : Nums W' b l :=
  ⟨Nat.lt_of_lt_of_le h.1 hb.size, fun j n hj => (hb.cell (p := ⟨b, j, none⟩) h.1).trans (h.2 j n hj)⟩
/-- Sums, place by place. -/
def sums2 (l m : List Nat) : List Nat := List.zipWith (· + ·) l m
theorem sums_take {l m : List Nat} {k a x : Nat} (ha : l[k]? = some a) (hx : m[k]? = some x) : sums2 (l.take (k + 1)) (m.take (k + 1)) = sums2 (l.take k) (m.take k) ++ [a + x] := by
  obtain ⟨h1, rfl⟩ := List.getElem?_eq_some_iff.1 ha
  obtain ⟨h2, rfl⟩ := List.getElem?_eq_some_iff.1 hx
  unfold sums2
  rw [List.take_add_one, List.take_add_one, List.getElem?_eq_getElem h1, List.getElem?_eq_getElem h2, List.zipWith_append (by simp; omega)]
  rfl

theorem ukeep {w w' : World} {ba bx k B n : Nat} {p q v : Value} {e : TypeId} {xs : List Value} (h : w.cell? ⟨ba, k, none⟩ = some p ∧ w.cell? ⟨bx, k, none⟩ = some q) (hown : w.ownsRow B e 1 v n xs) (ha : ba < B) (hx : bx < B) (hB : B ≤ w.heap.size) (hg : w.grownBy w' v.ownBlock) :
    w'.cell? ⟨ba, k, none⟩ = some p ∧ w'.cell? ⟨bx, k, none⟩ = some q := by
  have h1 : some ba ≠ v.ownBlock := fun e => by have := (hown.lt ba e.symm).1; omega
  have h2 : some bx ≠ v.ownBlock := fun e => by have := (hown.lt bx e.symm).1; omega
  exact ⟨(hg.cell_far ⟨ba, k, none⟩ (by show ba < _; omega) h1).trans h.1, (hg.cell_far ⟨bx, k, none⟩ (by show bx < _; omega) h2).trans h.2⟩
/-- How sums ends. -/
def SumsEnd (l m : List Nat) (w : World) (e : Ending) (w' : World) : Prop :=
  ∃ g cap, w.heap.size ≤ g ∧ ((∀ k a x : Nat, l[k]? = some a → m[k]? = some x → a + x < 18446744073709551616) ∧ e = .returned (.tuple #[.slice (some ⟨g, 0, none⟩) 3 cap, .bool true]) ∧ Nums w' g (sums2 l m) ∨
        (∃ k a x : Nat, l[k]? = some a ∧ m[k]? = some x ∧ ¬ a + x < 18446744073709551616) ∧ e = .returned (.tuple #[.slice (some ⟨g, 0, none⟩) 3 cap, .bool false]) ∧ Nums w' g [0, 0, 0]) ∧ Below w.heap.size w w'

set_option maxHeartbeats 4000000 in
set_option maxRecDepth 100000 in
theorem psums_any (ba bx : Nat) (l m : List Nat) (w : World) (hl : l.length = 3) (hm : m.length = 3) (HA : Nums w ba l) (HX : Nums w bx m) (hlt : ∀ n ∈ l, n < 18446744073709551616) (hmt : ∀ n ∈ m, n < 18446744073709551616) :
    Calls Tryz.prog 30 #[.slice (some ⟨ba, 0, none⟩) 3 3, .slice (some ⟨bx, 0, none⟩) 3 3] w fun e w' => SumsEnd l m w e w' := by
  obtain ⟨i0, hi, hz0, hz1, hz2⟩ := info_parts infoU
  have Hi : Hid (Tryz.prog.info? 22 = some i0) := hi
  have Hz0 : Hid (i0.zero = some (.int .u64 0)) := hz0
  have Hz1 : Hid (i0.size = 1) := hz1
  have Hz2 : Hid (i0.bytes = 8) := hz2
  have hmx : Tryz.prog.follows .mixedOrders = true := by kernel_rfl
  clear hi hz0 hz1 hz2
  go_enter Tryz.func30, Tryz.ntmps30
  go_wp2_with fail
  go_loopw [6, 7] (fun s6 s7 wr => ∃ k : Nat, k ≤ 3 ∧ s7 = .int .i64 k ∧ wr.ownsRow w.heap.size 22 1 s6 k (ucells (sums2 (l.take k) (m.take k))) ∧ (∀ j a x : Nat, j < k → l[j]? = some a → m[j]? = some x → a + x < 18446744073709551616) ∧ Below w.heap.size w wr) (fun _ s7 _ => 3 - (RowKit.intOf s7).toNat)
  case atStart => exact ⟨0, by omega, rfl, ⟨by simp [ucells, sums2], Or.inl ⟨rfl, rfl⟩⟩, fun j a x h => absurd h (Nat.not_lt_zero _), Below.refl _ _⟩
  case round =>
    obtain ⟨k, hk, rfl, hown, hall, hbw⟩ := hrel
    have HAll : Hid (∀ j a x : Nat, j < k → l[j]? = some a → m[j]? = some x → a + x < 18446744073709551616) := hall
    clear hall
    have hsz := hbw.size
    by_cases hk3 : k < 3
    · have hkz : (k : Int) < 3 := by omega
      obtain ⟨a, ha⟩ : ∃ a, l[k]? = some a := ⟨l[k], by simp⟩
      obtain ⟨x, hx⟩ : ∃ x, m[k]? = some x := ⟨m[k], by simp⟩
      have ha' := hlt a (List.mem_of_getElem? ha)
      have hx' := hmt x (List.mem_of_getElem? hx)
      have HXa : Hid (l[k]? = some a ∧ m[k]? = some x) := ⟨ha, hx⟩
      have za : ba < w.heap.size := HA.1
      have zx : bx < w.heap.size := HX.1
      have c1 : wr.cell? ⟨ba, k, none⟩ = some (.int .u64 a) := (hbw.cell (p := ⟨ba, k, none⟩) za).trans (HA.2 k a ha)
      have c2 : wr.cell? ⟨bx, k, none⟩ = some (.int .u64 x) := (hbw.cell (p := ⟨bx, k, none⟩) zx).trans (HX.2 k x hx)
      have hwr : IntKind.u64.wrap (18446744073709551615 - (x : Int)) = 18446744073709551615 - (x : Int) := by rw [IntKind.wrap_u64]; omega
      clear ha hx
      by_cases hs : a + x < 18446744073709551616
      · have hc : ¬ (18446744073709551615 - (x : Int) < (a : Int)) := by omega
        have hwa : IntKind.u64.wrap ((a : Int) + (x : Int)) = (a : Int) + x := by rw [IntKind.wrap_u64]; omega
        go_wp2_with fail
        go_quiet (fail)
        have hgn : Gr wr (wr.drewN nq) := (Gr.refl _).drewN nq
        generalize wr.drewN nq = wn at hgn ⊢
        have hown' := owns_below2 hown hgn.below
        have hbn := hbw.trans (hgn.below.mono hsz)
        have hszn := hbn.size
        replace c1 := (hgn.cell (b := ba) (o := k) (by omega)).trans c1
        replace c2 := (hgn.cell (b := bx) (o := k) (by omega)).trans c2
        have HT : Hid (ucells (sums2 (l.take (k + 1)) (m.take (k + 1))) = ucells (sums2 (l.take k) (m.take k)) ++ [.int .u64 ((a : Int) + x)]) := by
          unfold Hid
          rw [sums_take HXa.out.1 HXa.out.2]
          simp [ucells]
        clear hown hbw hgn hsz
        generalize ucells (sums2 (l.take k) (m.take k)) = us at *
        go_wp2_with fail
        go_region_held3 (fun w' => w'.cell? ⟨ba, k, none⟩ = some (.int .u64 (a : Int)) ∧ w'.cell? ⟨bx, k, none⟩ = some (.int .u64 (x : Int))) (first | go_keep | exact ukeep (by assumption) (World.ownsRow.alloc (w := wn.drew) hown' _) za zx (by simp; omega) (by assumption))
          (first | (refine step_append_lies _ rfl _ _ 51 rfl w.heap.size 22 i0 (.int .u64 0) 1 8 Tryz.underlying51 Hi.out Hz0.out Hz1.out Hz2.out rfl (by decide) u6 k us rfl (World.ownsRow.alloc (w := wn.drew) hown' _) ⟨wn.heap.size, 0, none⟩ 1 1 [.int .u64 ((a : Int) + x)] rfl rfl (World.news_of_block (heap_new' _ _)) (fun u hu => by simp at hu; subst hu; rfl) (by decide) (by unfold maxLen; omega) (by omega) (by simp; omega) _ rfl ?_; intro g cap w5 hown5 hgrow hat hlt5))
        go_wp2
        refine ⟨⟨k + 1, by omega, by go_num, by rw [HT.out]; exact hown5, fun j a' x' hj h1 h2 => ?_, ?_⟩, by simp [RowKit.intOf]; omega⟩
        · rcases Nat.lt_succ_iff_lt_or_eq.1 hj with h | rfl
          · exact HAll.out j a' x' h h1 h2
          · rw [HXa.out.1] at h1
            rw [HXa.out.2] at h2
            cases h1; cases h2
            exact hs
        · have hbd : Below w.heap.size w wn.drew := ⟨hbn.os, hbn.tape, hbn.output, hbn.size, hbn.block⟩
          exact (hbd.alloc hbd.size _).grown hgrow (by have := hbd.size; simp; omega) (fun q hq => (hown'.lt q hq).1)
      · have hc : 18446744073709551615 - (x : Int) < (a : Int) := by omega
        go_wp2_with fail
        go_quiet (fail)
        go_wp2
        go_ret2
        have hbn : Below w.heap.size w (wr.drewN nq) := hbw.trans (((Gr.refl wr).drewN nq).below.mono hsz)
        refine ⟨_, _, hsz, Or.inr ⟨⟨k, a, x, HXa.out.1, HXa.out.2, hs⟩, rfl, by simp, fun j n hj => ?_⟩, hbn.alloc hbn.size _⟩
        match j, hj with
        | 0, hj => simp at hj; subst hj; exact (At3.new (wr.drewN nq) (.int .u64 0) (.int .u64 0) (.int .u64 0) 22).c0
        | 1, hj => simp at hj; subst hj; exact (At3.new (wr.drewN nq) (.int .u64 0) (.int .u64 0) (.int .u64 0) 22).c1
        | 2, hj => simp at hj; subst hj; exact (At3.new (wr.drewN nq) (.int .u64 0) (.int .u64 0) (.int .u64 0) 22).c2
        | j + 3, hj => simp at hj
    · have hkz : ¬ (k : Int) < 3 := by omega
      have hk' : k = 3 := by omega
      subst hk'
      rw [List.take_of_length_le (by omega), List.take_of_length_le (by omega)] at hown
      obtain ⟨g, cap, rfl, hg1, hg2⟩ := hown.form (by omega)
      have HO : Hid (wr.ownsRow w.heap.size 22 1 (.slice (some ⟨g, 0, none⟩) 3 cap) 3 (ucells (sums2 l m))) := hown
      clear hown
      go_wp2
      go_ret2
      refine ⟨g, cap, hg1, Or.inl ⟨fun j a x h1 h2 => HAll.out j a x (by have := (List.getElem?_eq_some_iff.1 h1).1; omega) h1 h2, rfl, hg2, fun j n hj => ?_⟩, hbw⟩
      rw [HO.out.cellAt j (by have := (List.getElem?_eq_some_iff.1 hj).1; simp [sums2] at this; omega)]
      simp [ucells, hj]
end Go.Proofs.YtknejahmjfgmhabGreatDoor
