import Derived.Test.YtdnnfgabdkkdjaaGreatJ6
import Derived.Lib.SliceRun
import Derived.Test.YtdnnfgabdkkdjaaGreatJ4
import Derived.Test.YtdnnfgabdkkdjaaGreatJ2
import Derived.Test.YtdnnfgabdkkdjaaGreatJ5
namespace Go.Proofs.YtdnnfgabdkkdjaaGreat.Pc.Cn
open Go.RowKit Go.Sort
attribute [local go_sem ↓] Go.wp_at_zero Go.wp_at_succ
def Blk (w : World) (cb fb ff : Nat) (v : Value) : Prop := w.heap[cb]? = some (.cells #[fv fb, fv ff, v] 129 (0, 0))
theorem Blk.set {w : World} {cb fb ff : Nat} {v v2 : Value} {l2 : List Tm} (h : Blk w cb fb ff v) (ho : w.ownsRow 0 39 3 v2 l2.length (flT l2)) (hoff : v2.ownBlock ≠ some cb) : Ch (w.setCell ⟨cb, 2, none⟩ v2) cb fb ff v2 l2 ∧ Kp (fun k => k = cb) w (w.setCell ⟨cb, 2, none⟩ v2) := by
 have e := setCell_eq_setRow w cb 2 _ _ _ v2 h
 have hk : Kp (fun k => k = cb) w (w.setCell ⟨cb, 2, none⟩ v2) := by
  rw [e]
  exact ⟨rfl, rfl, rfl, by simp [World.setRow], fun k _ hne => setRow_other w cb k _ (by omega)⟩
 refine ⟨⟨?_, owns_kp hk ho (fun k hk he => hoff (he ▸ hk)), hoff⟩, hk⟩
 rw [e, setRow_heap w cb _ _ _ _ h]
 simp
theorem Blk.cells {w : World} {cb fb ff : Nat} {v : Value} (h : Blk w cb fb ff v) : w.cell? ⟨cb, 2, none⟩ = some v ∧ w.frozen? ⟨cb, 2, none⟩ = false ∧ cb < w.heap.size := by
 unfold Blk at h
 exact ⟨by simp [World.cell?, h], by simp [World.frozen?, h], (Array.getElem?_eq_some_iff.1 h).1⟩
set_option maxHeartbeats 2000000 in
set_option maxRecDepth 100000 in
theorem insert_any {cb fb ff : Nat} {v : Value} {l : List Tm} {bel fst : Tm → Tm → Bool} (x : Tm) (w : World) (hc : Ch w cb fb ff v l) (hl : (l.length + 1) * 24 ≤ 140737488355328) (hB : FnOk fb bel) (hF : FnOk ff fst) :
    Calls Tryz.prog 48 #[.pointer (some ⟨cb, 0, none⟩), tv x] w fun e w' => ∃ v', e = .returned (.bool (!ccov bel l x)) ∧ Ch w' cb fb ff v' (cins bel fst l x) ∧ Turn cb v v' w w' := by
 obtain ⟨W1, hW1⟩ : ∃ W1, W1 = w.alloc (.cells #[.int .u64 x.1.1, .int .u64 x.1.2.1, .int .u64 x.1.2.2] 39) := ⟨_, rfl⟩
 have G1 : Gr w W1 := by rw [hW1]; exact (Gr.refl _).alloc _
 have hz : w.heap.size < W1.heap.size := by rw [hW1]; simp
 have HB1 : Hid (W1.cell? ⟨w.heap.size, 0, none⟩ = some (.int .u64 x.1.1)) := by rw [hW1]; simp [Hid]
 have HB2 : Hid (W1.cell? ⟨w.heap.size, 1, none⟩ = some (.int .u64 x.1.2.1)) := by rw [hW1]; simp [Hid]
 have HB3 : Hid (W1.cell? ⟨w.heap.size, 2, none⟩ = some (.int .u64 x.1.2.2)) := by rw [hW1]; simp [Hid]
 have hc1 := hc.below G1.below
 have h1 := covers_any x W1 hc1 (by omega) hB
 have HC : Hid (Ch w cb fb ff v l) := hc
 have HZ : Hid (w.heap.size < W1.heap.size) := hz
 cases hcv : ccov bel l x with
 | true =>
  have HE : Hid (cins bel fst l x = l) := by unfold cins; rw [hcv]; simp [Hid]
  rw [hcv] at h1
  rw [HE.out]
  clear hcv hc hc1 hz
  subst hW1
  go_enter Tryz.func48, Tryz.ntmps48
  go_wp2_with fail
  refine h1.mono ?_
  rintro e w2 ⟨rfl, hg2⟩
  go_wp2
  go_ret
  exact ⟨v, rfl, HC.out.below (G1.trans hg2).below, Turn.of_below (G1.trans hg2).below⟩
 | false =>
  have HE : Hid (cins bel fst l x = cput fst (ccut bel l x) x) := by unfold cins; rw [hcv]; simp [Hid]
  rw [hcv] at h1
  rw [HE.out]
  have h2 := fun (W : World) (hW : Gr W1 W) => staying_any (bel := bel) x W (hc1.below hW.below) (by omega) hB
  have hml := ccut_length (bel := bel) l x
  generalize hm : ccut bel l x = m at *
  clear hcv hc hc1 hz hm
  subst hW1
  go_enter Tryz.func48, Tryz.ntmps48
  go_wp2_with fail
  refine h1.mono ?_
  rintro e w2 ⟨rfl, hg2⟩
  have a1 := (hg2.cell HZ.out).trans HB1.out
  have a2 := (hg2.cell HZ.out).trans HB2.out
  have a4 := (hg2.cell HZ.out).trans HB3.out
  have a3 := Nat.lt_of_lt_of_le HZ.out hg2.size
  have h2' := h2 w2 hg2
  have A2 : Hid (Below w.heap.size w w2) := (G1.trans hg2).below
  clear h1 h2
  go_wp2_with fail
  refine h2'.mono ?_
  rintro e w3 ⟨v3, rfl, ho3, hb3, hor⟩
  have b1 := (hb3.cell (p := ⟨w.heap.size, 0, none⟩) a3).trans a1
  have b2 := (hb3.cell (p := ⟨w.heap.size, 1, none⟩) a3).trans a2
  have b4 := (hb3.cell (p := ⟨w.heap.size, 2, none⟩) a3).trans a4
  have b3 := Nat.lt_of_lt_of_le a3 hb3.size
  have A3 : Hid (Below w.heap.size w w3) := A2.out.trans (hb3.mono (Nat.le_of_lt a3))
  have hc3 : Hid (Ch w3 cb fb ff v l) := HC.out.below A3.out
  have h3 := place_any x w3 hc3.out (owns_lst ho3) (by omega) hF
  have hpl : m.findIdx (fun y => fst x y) ≤ m.length := List.findIdx_le_length
  have HPL : Hid (cput fst m x = m.take (m.findIdx fun y => fst x y) ++ x :: m.drop (m.findIdx fun y => fst x y)) := rfl
  generalize List.findIdx (fun y => fst x y) m = at_ at *
  have HO3 : Hid (w3.ownsRow 0 39 3 v3 m.length (flT m)) := ho3
  have HOR : Hid (v3 = v ∨ ∀ g, v3.ownBlock = some g → w2.heap.size ≤ g) := hor
  clear a1 a2 a4 h2' ho3 hor
  go_wp2_with fail
  refine h3.mono ?_
  rintro e w4 ⟨rfl, hg4⟩
  have c1 := (hg4.cell b3).trans b1
  have c2 := (hg4.cell b3).trans b2
  have c4 := (hg4.cell b3).trans b4
  have c3 := Nat.lt_of_lt_of_le b3 hg4.size
  have h4 := put_any v3 m at_ x w4 (owns_below HO3.out hg4.below) hpl (by omega)
  clear b1 b2 b4 h3
  go_wp2_with fail
  refine h4.mono ?_
  rintro e w5 ⟨g, cap, rfl, ho5, hk5, hor5⟩
  have hlt := HC.out.lt
  have hnoff : v3.ownBlock ≠ some cb := by
   intro h
   rcases HOR.out with rfl | h'
   ·exact HC.out.off h
   ·have := h' cb h; omega
  have A4 : Hid (Below w.heap.size w w4) := A3.out.trans (hg4.below.mono (Nat.le_of_lt b3))
  have hblk4 : Blk w4 cb fb ff v := (HC.out.below A4.out).blk
  have hblk5 : Blk w5 cb fb ff v := (hk5.block cb (Nat.lt_trans hlt c3) hnoff).trans hblk4
  obtain ⟨d1, d2, d3⟩ := hblk5.cells
  clear c1 c2 c4 h4
  go_wp2
  go_ret
  have hgcb : (Value.slice (some ⟨g, 0, none⟩) (m.length + 1) cap).ownBlock ≠ some cb := by
   simp only [Value.ownBlock]
   intro h
   rcases hor5 with h' | h'
   ·exact hnoff (h'.trans h)
   ·simp at h; omega
  have hlen : (cput fst m x).length = m.length + 1 := cput_length m x
  obtain ⟨hch, hks⟩ := hblk5.set (v2 := .slice (some ⟨g, 0, none⟩) (m.length + 1) cap) (l2 := cput fst m x) (by rw [hlen, HPL.out]; exact ho5) hgcb
  refine ⟨_, rfl, hch, ⟨?_, ?_⟩⟩
  ·refine ((Kp.of_below A4.out).trans hk5 (fun j hj h => ?_)).trans hks (fun j _ h => Or.inl h)
   rcases HOR.out with rfl | h'
   ·exact Or.inr h
   ·have := h' j h; omega
  ·intro g' hg'
   simp [Value.ownBlock] at hg'
   subst hg'
   rcases hor5 with h' | h'
   ·rcases HOR.out with rfl | h''
    ·exact Or.inl h'
    ·right; have := h'' _ h'; omega
   ·right; omega
end Go.Proofs.YtdnnfgabdkkdjaaGreat.Pc.Cn

namespace Go.Proofs.YtdnnfgabdkkdjaaGreat.Pc.Cn
open Go.RowKit Go.Sort
attribute [local go_sem ↓] Go.wp_at_zero Go.wp_at_succ
set_option maxHeartbeats 1000000 in
theorem clone_any (v : Value) (l : List Tm) (w : World) (hv : Lst w v l) (hl : l.length * 24 ≤ 140737488355328) :
    Calls Tryz.prog 36 #[v] w fun e w' => ∃ v', e = .returned v' ∧ w'.ownsRow w.heap.size 39 3 v' l.length (flT l) ∧ Below w.heap.size w w' := by
 have HV : Hid (Lst w v l) := hv
 have hen := fun (W : World) (a : Option Addr) (n c : Nat) => Lib.run_eql_slice_nil (P := Tryz.prog) W 35 39 a n c 0 0 Tryz.underlying35
 rcases hv with ⟨rfl, rfl⟩ | ⟨b, off, c, rfl, hb, ht⟩
 ·go_enter Tryz.func36, Tryz.ntmps36
  go_wp2
  go_ret
  exact ⟨_, rfl, World.ownsRow_nil _ _ _ _, Below.refl _ _⟩
 ·clear ht
  go_enter Tryz.func36, Tryz.ntmps36
  go_wp2_with (at_builtin; refine wpAppL rfl _ _ rfl w.heap.size (.slice (some ⟨w.heap.size, 0, none⟩) 0 0) 0 [] rfl (World.ownsRow_made w #[] 0 (Nat.le_refl _) (by unfold maxLen; omega) rfl) _ l rfl (HV.out.below ((Gr.refl w).alloc _).below) (by omega) (by simp) ?_)
  intro v' w' h1 h2
  go_wp2
  go_ret
  refine ⟨_, rfl, by simpa using h1, ?_⟩
  exact ((Gr.refl w).alloc _).below.trans ((Kp.grownBy (S := fun k => w.heap.size ≤ k) h2 (fun k hk => by simp [Value.ownBlock] at hk; omega)).below (by simp) (fun _ h => h))
set_option maxHeartbeats 1000000 in
theorem list_any {cb fb ff : Nat} {v : Value} {l : List Tm} (w : World) (hc : Ch w cb fb ff v l) (hl : l.length * 24 ≤ 140737488355328) :
    Calls Tryz.prog 49 #[.pointer (some ⟨cb, 0, none⟩)] w fun e w' => ∃ v', e = .returned v' ∧ w'.ownsRow w.heap.size 39 3 v' l.length (flT l) ∧ Below w.heap.size w w' := by
 have h := clone_any v l w hc.lst hl
 have k2 := hc.c2
 have kl := hc.lt
 clear hc
 go_enter Tryz.func49, Tryz.ntmps49
 go_wp2_with fail
 refine h.mono ?_
 rintro e w1 ⟨v', rfl, h1, h2⟩
 go_wp2
 go_ret
 exact ⟨_, rfl, h1, h2⟩
set_option maxHeartbeats 1000000 in
theorem len_any {cb fb ff : Nat} {v : Value} {l : List Tm} (w : World) (hc : Ch w cb fb ff v l) :
    Calls Tryz.prog 95 #[.pointer (some ⟨cb, 0, none⟩)] w fun e w' => e = .returned (.int .i64 (l.length : Nat)) ∧ w' = w := by
 obtain ⟨pl, cl, rfl⟩ := hc.lst.form
 have k2 := hc.c2
 have kl := hc.lt
 go_enter Tryz.func95, Tryz.ntmps95
 go_wp2
 go_ret
 exact ⟨rfl, rfl⟩
theorem cnew_any (fb ff : Nat) (w : World) : Calls Tryz.prog 66 #[fv fb, fv ff] w fun e w' => e = .returned (.pointer (some ⟨w.heap.size, 0, none⟩)) ∧ Ch w' w.heap.size fb ff (.slice none 0 0) [] ∧ Gr w w' := by
 go_enter Tryz.func66, Tryz.ntmps66
 go_wp2
 go_ret
 exact ⟨rfl, ⟨heap_new' _ _, World.ownsRow_nil _ _ _ _, by simp [Value.ownBlock]⟩, (Gr.refl _).alloc _⟩
theorem noneYet_any (w : World) : Calls Tryz.prog 47 #[] w fun e w' => e = .returned (.pointer (some ⟨w.heap.size, 0, none⟩)) ∧ Ch w' w.heap.size 46 67 (.slice none 0 0) [] ∧ Gr w w' := by
 have h := cnew_any 46 67 w
 go_enter Tryz.func47, Tryz.ntmps47
 go_wp2_with fail
 refine h.mono ?_
 rintro e w1 ⟨rfl, h1, h2⟩
 go_wp2
 go_ret
 exact ⟨rfl, h1, h2⟩
end Go.Proofs.YtdnnfgabdkkdjaaGreat.Pc.Cn

namespace Go.Proofs.YtdnnfgabdkkdjaaGreat.Hf
open Go.RowKit Go.Sort Hp
attribute [local go_sem ↓] Go.wp_at_zero Go.wp_at_succ
def kf (a : Th) : Int := a.2.1.1 * 340282366920938463463374607431768211456 + a.2.1.2.1 * 18446744073709551616 + a.2.1.2.2
theorem kf_lt (a b : Th) : kf a < kf b ↔ Pc.tol a.2 b.2 = true := by
 rw [Pc.tol_iff]
 have h1 := Pt.tri_bd a.2
 have h2 := Pt.tri_bd b.2
 unfold kf
 omega
theorem kf_key (a b : Th) : key kf a b = Pc.tol a.2 b.2 := by
 unfold key
 cases h : Pc.tol a.2 b.2
 ·exact decide_eq_false (fun e => by rw [(kf_lt a b).1 e] at h; cases h)
 ·exact decide_eq_true ((kf_lt a b).2 h)
set_option maxHeartbeats 1000000 in
theorem wait_ok : FnOk 92 (key kf) := by
 refine ⟨enters_of Tryz.func92 (by kernel_rfl) rfl, fun a b W => ?_⟩
 have h := fun W => Pc.told_ok.calls a.2 b.2 W
 rw [kf_key]
 generalize Pc.tol a.2 b.2 = r at h ⊢
 have et := Pc.told_ok.enter
 go_enter Tryz.func92, Tryz.ntmps92
 go_wp2_with fail
 refine (h _).mono ?_
 rintro e w' ⟨rfl, hg⟩
 go_wp2
 go_ret
 exact ⟨rfl, (((Gr.refl _).alloc _).alloc _).trans hg⟩
end Go.Proofs.YtdnnfgabdkkdjaaGreat.Hf

namespace Go.Proofs.YtdnnfgabdkkdjaaGreat.Pt
section
variable {α : Type} {X : Px α} {St : Nat → Nat → α → Prop} {p : Nat}
theorem ccov_iff {bel : α → α → Bool} (hb : ∀ a b, bel a b = true ↔ X.ahd a b) (l : List α) (w : α) : ccov bel l w = true ↔ Cov X l w := by
 unfold ccov Cov
 rw [List.any_eq_true]
 exact ⟨fun ⟨x, h1, h2⟩ => ⟨x, h1, (hb _ _).1 h2⟩, fun ⟨x, h1, h2⟩ => ⟨x, h1, (hb _ _).2 h2⟩⟩
theorem cins_iv {bel fst : α → α → Bool} (hb : ∀ a b, bel a b = true ↔ X.ahd a b) (hf : ∀ a b, fst a b = true ↔ X.tld a b) (hX : X.Ok) {rows : Nat → List α} {opn : List (Nat × α)} {q0 : Nat} {w : α} (h : Iv X St p rows opn) (hm : (q0, w) ∈ opn) :
    cins bel fst (rows q0) w = if ccov bel (rows q0) w then rows q0 else rows q0 ++ [w] := by
 unfold cins
 split
 ·rfl
 ·rename_i hc
  have h1 : ccut bel (rows q0) w = rows q0 := by
   unfold ccut
   refine List.filter_eq_self.2 (fun x hx => ?_)
   cases e : bel w x with
   | false => rfl
   | true =>
    have := h.ls q0 x hx w (h.ow q0 w hm) ((hb _ _).1 e)
    subst this
    exact absurd ((ccov_iff hb _ _).2 ⟨w, hx, hX.refl w⟩) hc
  have h2 : (rows q0).findIdx (fun y => fst w y) = (rows q0).length := by
   refine List.findIdx_eq_length_of_false (fun x hx => ?_)
   cases e : fst w x with
   | false => rfl
   | true => exact absurd ((hf _ _).1 e) (h.lo q0 x hx q0 w hm)
  rw [h1]
  unfold cput
  rw [h2, List.take_length, List.drop_length]
def tot (n : Nat) (rows : Nat → List α) : Nat := ((List.range n).map (fun q => (rows q).length)).sum
theorem tot_succ (n : Nat) (rows : Nat → List α) : tot (n + 1) rows = tot n rows + (rows n).length := by simp [tot, List.range_succ]
theorem tot_put1 {n q0 : Nat} {w : α} (rows : Nat → List α) : tot n (put1 rows q0 w) = tot n rows + if q0 < n then 1 else 0 := by
 induction n with
 | zero => simp [tot]
 | succ n ih =>
  rw [tot_succ, tot_succ, ih]
  unfold put1
  by_cases e : n = q0
  ·subst e; simp; omega
  ·rw [if_neg e]
   by_cases k : q0 < n
   ·rw [if_pos k, if_pos (by omega)]; omega
   ·rw [if_neg k, if_neg (by omega)]; omega
theorem tot_le {n m : Nat} {rows : Nat → List α} (h : ∀ q, q < n → (rows q).length ≤ m) : tot n rows ≤ m * n := by
 induction n with
 | zero => simp [tot]
 | succ n ih =>
  rw [tot_succ, Nat.mul_succ]
  have h1 := ih (fun q hq => h q (by omega))
  have h2 := h n (by omega)
  omega
def mes (n d : Nat) (rows : Nat → List α) (k : Nat) : Nat := (64 * n - tot n rows) * (d + 1) + k
theorem mes_init {n d : Nat} : mes n d (fun _ => ([] : List α)) 1 = 64 * n * (d + 1) + 1 := by
 have : tot n (fun _ => ([] : List α)) = 0 := by
  have := tot_le (n := n) (m := 0) (rows := fun _ => ([] : List α)) (fun _ _ => by simp)
  omega
 unfold mes
 rw [this, Nat.sub_zero]
theorem mes_take {n d q0 k k' : Nat} {w : α} {rows : Nat → List α} (hq : q0 < n) (hl : ∀ q, q < n → (put1 rows q0 w q).length ≤ 64) (hk : 0 < k) (hk' : k' ≤ k - 1 + d) : mes n d (put1 rows q0 w) k' < mes n d rows k := by
 have h1 := tot_le hl
 have h2 := tot_put1 (n := n) (q0 := q0) (w := w) rows
 rw [if_pos hq] at h2
 unfold mes
 have h3 : 64 * n - tot n rows = (64 * n - tot n (put1 rows q0 w)) + 1 := by omega
 rw [h3, Nat.add_mul, Nat.one_mul]
 omega
theorem mes_ge {n d k : Nat} {rows : Nat → List α} : k ≤ mes n d rows k := Nat.le_add_left _ _
end
end Go.Proofs.YtdnnfgabdkkdjaaGreat.Pt
