import Derived.Test.YtijbmchgajhkeaaSuCopy
namespace Go.Proofs.Ytijbmchgajhkeaa
open Go.RowKit Go.Sort Go.Maps Go.Shelf
attribute [local go_sem ↓] Go.wp_at_zero Go.wp_at_succ

theorem em_made {w wr : World} {nb N : Nat} (hm : Mp ZT wr nb 0 (fun _ => none)) (hn : w.heap.size ≤ nb) (hb : Below w.heap.size w wr) :
    Su (wr.alloc (.cells #[.map none, .map (some nb)] 67)) (fun k => w.heap.size ≤ k) N wr.heap.size [] ∧ Below w.heap.size w (wr.alloc (.cells #[.map none, .map (some nb)] 67)) :=
  ⟨.inl ⟨rfl, some nb, heap_new' _ _, hb.size, fun kb e => by cases e; exact ⟨hn, (hm.kept (Below.heap_alloc _ _ _ hm.lt)).mono (Nat.zero_le _)⟩⟩, hb.trans (((Gr.refl wr).alloc _).below.mono hb.size)⟩
set_option maxHeartbeats 4000000 in
set_option maxRecDepth 100000 in
theorem scopy_em {S : Nat → Prop} {N sb : Nat} (w : World) (h : Em w S N sb) :
    Calls Try.prog 14 #[.pointer (some ⟨sb, 0, none⟩)] w fun e w' => ∃ sc, e = .returned (.pointer (some ⟨sc, 0, none⟩)) ∧ Hid (Su w' (fun k => w.heap.size ≤ k) N sc [] ∧ Below w.heap.size w w') := by
  have hmh := run_makeMapH
  obtain ⟨o, h1, h2, h3⟩ := h
  have hlt := (Array.getElem?_eq_some_iff.1 h1).1
  have c0 : w.cell? ⟨sb, 0, none⟩ = some (.map none) := by simp [World.cell?, h1]
  have c1 : w.cell? ⟨sb, 1, none⟩ = some (.map o) := by simp [World.cell?, h1]
  have HC0 : Hid (w.cell? ⟨sb, 0, none⟩ = some (.map none) ∧ sb < w.heap.size) := ⟨c0, hlt⟩
  obtain ⟨nb, hnb⟩ : ∃ nb, nb = w.heap.size := ⟨_, rfl⟩
  obtain ⟨W1, hW1⟩ : ∃ W1, W1 = w.alloc (.map #[] 0) := ⟨_, rfl⟩
  have G1 : Gr w W1 := by rw [hW1]; exact (Gr.refl _).alloc _
  have HM1 : Hid (Mp ZT W1 nb 0 (fun _ => none)) := by
    have := Mp.made (Z := ZT) w
    rw [← hW1, ← hnb] at this
    exact this
  have HNB : Hid (w.heap.size ≤ nb) := Nat.le_of_eq hnb.symm
  have c11 := (G1.cell (o := 1) hlt).trans c1
  have hlt1 := Nat.lt_of_lt_of_le hlt G1.size
  have hcl := fun W => AnyW.maps_Clone_nil Try.lCloneX W
  have hcl : ∀ W, Calls Try.prog 31 #[.map none] W fun e w' => e = .returned (.map none) ∧ w' = W := hcl
  cases o with
  | none =>
    have hlen : ∀ ty, (Builtin.len_ #[63] ty #[.map none]).run Try.prog w = .ok (.int .i64 ((0 : Nat) : Int)) w := fun ty => Maps.len_nil Try.underlying63 ty
    have hrg := run_range_nilMap (P := Try.prog) W1 63 32 64 Try.underlying63
    have hnx : ∀ ty, (Instr.next (.pointer (some ⟨W1.heap.size, 0, none⟩)) false ty).run Try.prog (W1.alloc (.mapIter none 0 #[] 0)) = _ := fun ty => run_next_nilMap _ ty 0 0 #[]
    have hmh0 : (Instr.makeMap 63 (some (.int .i64 0))).run Try.prog w = .ok (.map (some w.heap.size)) (w.alloc (.map #[] 0)) := hmh 0 w
    have HG2 : Hid (Gr w (W1.alloc (.mapIter none 0 #[] 0))) := G1.alloc _
    have HM2 : Hid (Mp ZT (W1.alloc (.mapIter none 0 #[] 0)) nb 0 (fun _ => none)) := HM1.out.kept (Below.heap_alloc _ _ _ HM1.out.lt)
    have c02 := (HG2.out.cell (o := 0) hlt).trans c0
    have hlt2 := Nat.lt_of_lt_of_le hlt HG2.out.size
    clear h1 h3
    go_enter Try.func14, Try.ntmps14
    go_upto_region 4 with fail
    rw [← hnb, ← hW1]
    clear hW1 hnb G1
    go_wp2_with fail
    refine wp_loop_rounds 1 ?_
    rw [rounds_succ]
    go_wp2_with fail
    refine (hcl _).mono ?_
    rintro e w9 ⟨rfl, rfl⟩
    go_wp2
    go_ret
    exact ⟨_, rfl, by have h := em_made (N := N) HM2.out HNB.out HG2.out.below; rw [World.size_alloc] at h; exact h⟩
  | some kb =>
    obtain ⟨D, hown, hat0, hhs0⟩ := (h3 kb rfl).2
    have hlen := fun ty => hown.len Try.underlying63 ty
    have hown1 : W1.ownsMap Try.prog 32 ptE kb N D := by
      obtain ⟨es, cl, hb, h3⟩ := hown
      exact ⟨es, cl, (G1.below.block kb (Array.getElem?_eq_some_iff.1 hb).1).trans hb, h3⟩
    have HHS := hid hhs0
    have HG1 := hid G1
    clear h1 h3 hown hat0
    go_enter Try.func14, Try.ntmps14
    go_upto_region 4 with fail
    rw [← hnb, ← hW1]
    clear hW1 hnb G1
    go_wp2_with (first
      | (at_range; refine wpList_range_own _ rfl _ 63 rfl 32 64 ZT.law Try.underlying63 _ kb N _ rfl hown1 ?_; intro w0 hrg0 hg0 hs0)
      | go_in)
    have HB0 : Hid (Below w.heap.size w w0) := HG1.out.below.trans ⟨hg0.os, hg0.tape, hg0.output, hg0.size, fun k hk => hg0.block k (Nat.lt_of_lt_of_le hk HG1.out.size) (by simp)⟩
    have HM2 : Hid (Mp ZT w0 nb 0 (fun _ => none)) := HM1.out.kept (hg0.block nb HM1.out.lt (by simp))
    obtain ⟨it, hit⟩ : ∃ it, it = W1.heap.size := ⟨_, rfl⟩
    rw [← hit] at hrg0
    rw [← hit]
    clear hg0 hs0 hit hown1
    go_loopw [4, 5] (fun _ _ wr => wr = w0) (fun _ _ wr => wr.rangeLeft kb it)
    case atStart => exact rfl
    case round =>
      obtain rfl := hrel
      go_wp2_with (first
        | (at_next; refine wpList_next_ranges _ rfl _ rfl 32 ZT.law ptE tv pv (fun key kl hk => invTm key kl hk) (fun v y hv => by obtain ⟨o, rfl, _⟩ := ptE_inv hv; exact ⟨o, rfl⟩) kb it N _ _ _ rfl hrg0 ?_ ?_)
        | go_in)
      · intro hc0 hl0
        have c0r := (HB0.out.cell (p := ⟨sb, 0, none⟩) HC0.out.2).trans HC0.out.1
        have hltr := Nat.lt_of_lt_of_le HC0.out.2 HB0.out.size
        go_wp2_with fail
        refine (hcl _).mono ?_
        rintro e w9 ⟨rfl, rfl⟩
        go_wp2
        go_ret
        exact ⟨_, rfl, em_made HM2.out HNB.out HB0.out⟩
      · intro ta tb tc tp c kl yd yp w2 cnt2 hkey hlk hv hat hrg2 hlt2 hg2 hs2 hen
        exfalso
        have h7 := (ZT.key ⟨(ta, tb, tc), tp⟩).symm.trans hkey
        have h8 := has_true_of_atKey hat
        rw [← Option.some.inj h7, HHS.out] at h8
        cases h8
theorem scopy_any {S : Nat → Prop} {N sb : Nat} {A : List Ct} (w : World) (h : Su w S N sb A) (hN : N ≤ 100000000) :
    Calls Try.prog 14 #[.pointer (some ⟨sb, 0, none⟩)] w fun e w' => ∃ sc, e = .returned (.pointer (some ⟨sc, 0, none⟩)) ∧ Hid (Su w' (fun k => w.heap.size ≤ k) N sc A ∧ Below w.heap.size w w') := by
  rcases h with ⟨rfl, h⟩ | ⟨mb, kb, T, B, h1, h2⟩
  · exact scopy_em w h
  · exact scopy_full w h1 h2 hN
end Go.Proofs.Ytijbmchgajhkeaa
