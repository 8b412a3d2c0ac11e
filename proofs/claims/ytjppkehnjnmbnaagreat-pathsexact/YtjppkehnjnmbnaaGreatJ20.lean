import Derived.Test.YtjppkehnjnmbnaaGreatJ19
import Derived.BigQuiet
import Derived.Test.YtjppkehnjnmbnaaGreatRows
import Derived.Test.YtjppkehnjnmbnaaGreatGFlaw
import Derived.ProofKit
import Derived.Lay
import Derived.LaidMore
import Derived.Deep.DeepHandedRow
import Derived.Lib.SmallJoins
import Derived.OpenShut
import Derived.Deep.Slices
import Derived.ChangeOld
import Derived.Test.YtjppkehnjnmbnaaGreatJ12
namespace Go.Proofs.YtjppkehnjnmbnaaGreat.Lf
open Go.RowKit Go.Sort Pt
open Df (hid LV EL EI infoI tk_store tk_lt)
attribute [local go_sem ↓] Go.wp_at_zero Go.wp_at_succ
theorem sm_row1 {w : World} {b c : Nat} {s : Hf.Th} (hb : w.heap[b]? = some (.cells #[.int .i64 s.1, .int .u64 s.2.1.1, .int .u64 s.2.1.2.1, .int .u64 s.2.1.2.2] 52 (0, 0))) : Ls EF w (.slice (some ⟨b, 0, none⟩) 1 c) [s] := by
 refine Or.inr ⟨b, 0, c, rfl, tk_lt hb, fun j u hj => ?_⟩
 rw [Nat.zero_add, (tk_store hb).1, ← Array.getElem?_toList]
 exact hj
set_option maxRecDepth 100000 in
set_option maxHeartbeats 2000000 in
theorem rfrontT_any {M M2 n rb : Nat} {sv : Value} {R : Nat → Nat → List Tri} {l : List Hf.Th} (q : Int) (w : World) (h : TR M w rb n R) (hM : M ≤ w.heap.size) (hR : ∀ p q, (bt n R p q).length ≤ 64) (hs : Df.Lz EF M2 w sv l) (hl : (64 * l.length + 1) * 24 ≤ 140737488355328) : Calls Tryz.prog 27 #[.pointer (some ⟨rb, 0, none⟩), .int .i64 q, sv] w fun e w' => ∃ v', e = .returned v' ∧ w'.ownsRow w.heap.size 50 3 v' (frt (allT n R q l)).length (fl Pc.ET (frt (allT n R q l))) ∧ Below w.heap.size w w' := by
 have hmx : Tryz.prog.follows .mixedOrders = true := by kernel_rfl
 have HT : Hid (∀ W, Below w.heap.size w W → TR M W rb n R) := fun W hb => h.keep (hb.mono hM)
 obtain ⟨ps, cs, rfl⟩ := hs.form
 have HS := hid hs
 have HR := hid hR
 have HM := hid hM
 have HBD : Hid (∀ k : Nat, k ≤ 64 * l.length → (k + 1) * 24 ≤ 140737488355328) := fun k hk => Nat.le_trans (Nat.mul_le_mul_right 24 (Nat.add_le_add_right hk 1)) hl
 have hlb : l.length ≤ 91625968981 := by omega
 clear hl h hM hs hR
 go_enter Tryz.func27, Tryz.ntmps27
 go_wp2_with fail
 go_loopw [7, 8, 9, 10, 11, 12] (fun s7 s8 _ _ _ _ wr => ∃ i : Nat, i ≤ l.length ∧ s8 = .int .i64 i ∧ Hid (wr.ownsRow w.heap.size 50 3 s7 (allT n R q (l.take i)).length (Pc.flT (allT n R q (l.take i))) ∧ Below w.heap.size w wr)) (fun _ s8 _ _ _ _ _ => l.length - (RowKit.intOf s8).toNat)
 case atStart => exact ⟨0, Nat.zero_le _, rfl, World.ownsRow_nil _ _ _ _, Below.refl _ _⟩
 case round =>
  obtain ⟨i, hi, rfl, HI⟩ := hrel
  by_cases hlt : i < l.length
  ·have hltz : (i : Int) < (l.length : Int) := by omega
   have hi0 : (0 : Int) ≤ (i : Int) := by omega
   obtain ⟨s, hsi⟩ : ∃ s, l[i]? = some s := ⟨l[i], by simp⟩
   obtain ⟨b1, o1, c1, hv1, hb1, u0, u1, u2, u3⟩ := EF_at ((HS.out.below HI.out.2).ls hsi) hsi
   simp only [Value.slice.injEq] at hv1
   obtain ⟨rfl, -, rfl⟩ := hv1
   have HSI := hid hsi
   have HTK := hid (allT_take (n := n) (R := R) (q := q) hsi)
   have HLN : Hid ((allT n R q (l.take i)).length ≤ 64 * i) := by
    have := allT_len (q := q) HR.out (l.take i)
    rw [List.length_take, Nat.min_eq_left hi] at this
    exact this
   clear hsi
   have hbt := rleast_any s.1 q wr (HT.out wr HI.out.2)
   have hbl := HR.out s.1 q
   generalize bt n R s.1 q = bl at *
   generalize allT n R q (l.take i) = al at *
   go_wp2_with fail
   refine hbt.mono ?_
   rintro e w5 ⟨pp, c5, rfl, hw5, hq5⟩
   rw [hw5]
   have HJ : Hid (wr.ownsRow w.heap.size 50 3 u7 (al ++ onL (bl.take 0) s.2).length (Pc.flT (al ++ onL (bl.take 0) s.2)) ∧ Below w.heap.size w wr ∧ Lq Pc.ET M wr (.slice pp bl.length c5) bl) := by
    have h0 : al ++ onL (bl.take 0) s.2 = al := by simp [onL]
    rw [h0]
    exact ⟨HI.out.1, HI.out.2, hq5⟩
   clear hw5 hbt hq5 HI u0 u1 u2 u3 hb1
   go_wp2_with fail
   go_loopw [7, 10, 11, 12] (fun s7 s10 _ _ wx => ∃ j : Nat, j ≤ bl.length ∧ s10 = .int .i64 j ∧ Hid (wx.ownsRow w.heap.size 50 3 s7 (al ++ onL (bl.take j) s.2).length (Pc.flT (al ++ onL (bl.take j) s.2)) ∧ Below w.heap.size w wx ∧ Lq Pc.ET M wx (.slice pp bl.length c5) bl)) (fun _ s10 _ _ _ => bl.length - (RowKit.intOf s10).toNat)
   case atStart => exact ⟨0, Nat.zero_le _, rfl, HJ.out⟩
   case round =>
    clear HJ
    obtain ⟨j, hj, rfl, HJ⟩ := hrel
    by_cases hjl : j < bl.length
    ·have hjz : (j : Int) < (bl.length : Int) := by omega
     have hj0 : (0 : Int) ≤ (j : Int) := by omega
     obtain ⟨b, hbj⟩ : ∃ b, bl[j]? = some b := ⟨bl[j], by simp⟩
     obtain ⟨b2, o2, c2, hv2, hb2, v0, v1, v2⟩ := HJ.out.2.2.1.atP hbj
     simp only [Value.slice.injEq] at hv2
     obtain ⟨rfl, -, rfl⟩ := hv2
     obtain ⟨b3, o3, c3, hv3, hb3, u0, u1, u2, u3⟩ := EF_at ((HS.out.below HJ.out.2.1).ls HSI.out) HSI.out
     simp only [Value.slice.injEq, Option.some.injEq, Addr.mk.injEq, and_true] at hv3
     obtain ⟨⟨rfl, rfl⟩, -⟩ := hv3
     have HTJ := hid (onL_take s.2 hbj)
     have HLK : Hid ((al ++ onL (bl.take j) s.2).length ≤ 64 * l.length) := by
      show _ ≤ _
      rw [List.length_append]
      have h1 := HLN.out
      have h2 := onL_len (bl.take j) s.2
      rw [List.length_take, Nat.min_eq_left hj] at h2
      clear hjz hj0 hltz hi0 hb2 u0 u1 u2 u3 v0 v1 v2
      omega
     clear hbj
     have hon := fun W => ron_any b s.2 W
     obtain ⟨cv, hcv⟩ : ∃ z, z = thv b s.2 := ⟨_, rfl⟩
     obtain ⟨ok, hok⟩ : ∃ z, z = (thn3 b s.2).isSome := ⟨_, rfl⟩
     rw [← hcv, ← hok] at hon
     unfold Pc.tv at hon
     have HCV : Hid (cv = thv b s.2 ∧ ok = (thn3 b s.2).isSome) := ⟨hcv, hok⟩
     clear hcv hok
     have HSD : Hid (∀ W, Below wr.heap.size wr W → W.cell? ⟨b2, o2 + j * 3, none⟩ = some (.int .u64 b.1.1) ∧ W.cell? ⟨b2, o2 + j * 3 + 1, none⟩ = some (.int .u64 b.1.2.1) ∧ W.cell? ⟨b2, o2 + j * 3 + 2, none⟩ = some (.int .u64 b.1.2.2) ∧ W.cell? ⟨b1, o1 + i * 4 + 1, none⟩ = some (.int .u64 s.2.1.1) ∧ W.cell? ⟨b1, o1 + i * 4 + 2, none⟩ = some (.int .u64 s.2.1.2.1) ∧ W.cell? ⟨b1, o1 + i * 4 + 3, none⟩ = some (.int .u64 s.2.1.2.2) ∧ b2 < W.heap.size ∧ b1 < W.heap.size) := fun W hb =>
      ⟨(hb.cell (p := ⟨b2, o2 + j * 3, none⟩) hb2).trans v0, (hb.cell (p := ⟨b2, o2 + j * 3 + 1, none⟩) hb2).trans v1, (hb.cell (p := ⟨b2, o2 + j * 3 + 2, none⟩) hb2).trans v2, (hb.cell (p := ⟨b1, o1 + i * 4 + 1, none⟩) hb3).trans u1, (hb.cell (p := ⟨b1, o1 + i * 4 + 2, none⟩) hb3).trans u2, (hb.cell (p := ⟨b1, o1 + i * 4 + 3, none⟩) hb3).trans u3, Nat.lt_of_lt_of_le hb2 hb.size, Nat.lt_of_lt_of_le hb3 hb.size⟩
     clear v0 v1 v2 u0 u1 u2 u3 hb2 hb3
     have hth := hon
     clear hon
     go_upto_region 9 with fail
     have hB0 : Below wr.heap.size wr wr.drew := (Gr.refl wr).drew.below
     have hS0 := HSD.out _ hB0
     go_cut [11, 12] (fun s11 s12 wq => ∃ pb, s11 = .pointer (some ⟨pb, 0, none⟩) ∧ s12 = .bool ok ∧ Hid (Below wr.heap.size wr wq ∧ wq.heap[pb]? = some (.cells #[.int .u64 cv.1.1, .int .u64 cv.1.2.1, .int .u64 cv.1.2.2] 50 (0, 0)) ∧ wr.heap.size ≤ pb))
     case first =>
      refine wp_regionD (S := fun W => W.cell? ⟨b2, o2 + j * 3, none⟩ = some (.int .u64 b.1.1) ∧ W.cell? ⟨b2, o2 + j * 3 + 1, none⟩ = some (.int .u64 b.1.2.1) ∧ W.cell? ⟨b2, o2 + j * 3 + 2, none⟩ = some (.int .u64 b.1.2.2) ∧ W.cell? ⟨b1, o1 + i * 4 + 1, none⟩ = some (.int .u64 s.2.1.1) ∧ W.cell? ⟨b1, o1 + i * 4 + 2, none⟩ = some (.int .u64 s.2.1.2.1) ∧ W.cell? ⟨b1, o1 + i * 4 + 3, none⟩ = some (.int .u64 s.2.1.2.2) ∧ b2 < W.heap.size ∧ b1 < W.heap.size) (D := []) hmx ?_
      refine' wpAnyD_take (i := 0) (oi := {dst := some 34, op := .move (.tmp 9), type := 35, pos := "ref.go:148", after := #[], guard := none}) (v := _) rfl (by kernel_rfl) (by kernel_rfl) (by kernel_rfl) (fun _ _ _ h => h) (by kernel_rfl) (Or.inl ⟨by rfl, ?hy2001⟩) hS0 ?rest2001
      case hy2001 => (intro W hSw; go_simp; try (with_reducible rfl))
      try simp only [Act.put, List.setIfInBounds_toArray, List.set_cons_zero, List.set_cons_succ]
      refine' wpAnyD_take (i := 1) (oi := {dst := some 35, op := .move (.tmp 10), type := 3, pos := "ref.go:148", after := #[], guard := none}) (v := _) rfl (by kernel_rfl) (by kernel_rfl) (by kernel_rfl) (fun _ _ _ h => h) (by kernel_rfl) (Or.inl ⟨by rfl, ?hy2002⟩) hS0 ?rest2002
      case hy2002 => (intro W hSw; go_simp; try (with_reducible rfl))
      try simp only [Act.put, List.setIfInBounds_toArray, List.set_cons_zero, List.set_cons_succ]
      refine' wpAnyD_take (i := 2) (oi := {dst := some 36, op := .indexAddr 35 (.tmp 34) (.tmp 35), type := 0, pos := "ref.go:148", after := #[{on := 0, ground := .data}, {on := 1, ground := .data}], guard := none}) (v := _) rfl (by kernel_rfl) (by kernel_rfl) (by kernel_rfl) (fun _ _ _ h => h) (by kernel_rfl) (Or.inl ⟨by rfl, ?hy2003⟩) hS0 ?rest2003
      case hy2003 => (intro W hSw; go_simp; try (with_reducible rfl))
      try simp only [Act.put, List.setIfInBounds_toArray, List.set_cons_zero, List.set_cons_succ]
      refine' wpAnyD_take (i := 3) (oi := {dst := some 37, op := .load 39 (.tmp 36), type := 39, pos := "ref.go:148", after := #[{on := 2, ground := .data}], guard := none}) (v := _) rfl (by kernel_rfl) (by kernel_rfl) (by kernel_rfl) (fun _ _ _ h => h) (by kernel_rfl) (Or.inl ⟨by rfl, ?hy2004⟩) hS0 ?rest2004
      case hy2004 => (intro W hSw; obtain ⟨s1, s2, s3, s4, s5, s6, s7, s8⟩ := hSw; go_simp; try (with_reducible rfl))
      try simp only [Act.put, List.setIfInBounds_toArray, List.set_cons_zero, List.set_cons_succ]
      refine' wpAnyD_take (i := 4) (oi := {dst := some 38, op := .move (.tmp 2), type := 49, pos := "ref.go:148", after := #[], guard := none}) (v := _) rfl (by kernel_rfl) (by kernel_rfl) (by kernel_rfl) (fun _ _ _ h => h) (by kernel_rfl) (Or.inl ⟨by rfl, ?hy2005⟩) hS0 ?rest2005
      case hy2005 => (intro W hSw; go_simp; try (with_reducible rfl))
      try simp only [Act.put, List.setIfInBounds_toArray, List.set_cons_zero, List.set_cons_succ]
      refine' wpAnyD_take (i := 5) (oi := {dst := some 39, op := .move (.tmp 8), type := 3, pos := "ref.go:148", after := #[], guard := none}) (v := _) rfl (by kernel_rfl) (by kernel_rfl) (by kernel_rfl) (fun _ _ _ h => h) (by kernel_rfl) (Or.inl ⟨by rfl, ?hy2006⟩) hS0 ?rest2006
      case hy2006 => (intro W hSw; go_simp; try (with_reducible rfl))
      try simp only [Act.put, List.setIfInBounds_toArray, List.set_cons_zero, List.set_cons_succ]
      refine' wpAnyD_take (i := 6) (oi := {dst := some 40, op := .indexAddr 49 (.tmp 38) (.tmp 39), type := 0, pos := "ref.go:148", after := #[{on := 4, ground := .data}, {on := 5, ground := .data}], guard := none}) (v := _) rfl (by kernel_rfl) (by kernel_rfl) (by kernel_rfl) (fun _ _ _ h => h) (by kernel_rfl) (Or.inl ⟨by rfl, ?hy2007⟩) hS0 ?rest2007
      case hy2007 => (intro W hSw; go_simp; try (with_reducible rfl))
      try simp only [Act.put, List.setIfInBounds_toArray, List.set_cons_zero, List.set_cons_succ]
      refine' wpAnyD_take (i := 7) (oi := {dst := some 41, op := .fieldAddr 52 (.tmp 40) 1, type := 0, pos := "ref.go:148", after := #[{on := 6, ground := .data}], guard := none}) (v := _) rfl (by kernel_rfl) (by kernel_rfl) (by kernel_rfl) (fun _ _ _ h => h) (by kernel_rfl) (Or.inl ⟨by rfl, ?hy2008⟩) hS0 ?rest2008
      case hy2008 => (intro W hSw; go_simp; try (with_reducible rfl))
      try simp only [Act.put, List.setIfInBounds_toArray, List.set_cons_zero, List.set_cons_succ]
      refine' wpAnyD_take (i := 8) (oi := {dst := some 42, op := .load 50 (.tmp 41), type := 50, pos := "ref.go:148", after := #[{on := 7, ground := .data}], guard := none}) (v := _) rfl (by kernel_rfl) (by kernel_rfl) (by kernel_rfl) (fun _ _ _ h => h) (by kernel_rfl) (Or.inl ⟨by rfl, ?hy2009⟩) hS0 ?rest2009
      case hy2009 => (intro W hSw; obtain ⟨s1, s2, s3, s4, s5, s6, s7, s8⟩ := hSw; go_simp; try (with_reducible rfl))
      try simp only [Act.put, List.setIfInBounds_toArray, List.set_cons_zero, List.set_cons_succ]
      refine wpAnyD_two (i := 9) (j := 13) (oi := {dst := some 43, op := .call {callee := .value (.func 21), args := #[.tmp 37, .tmp 42], argTypes := #[39, 50]}, type := 60, pos := "ref.go:148", after := #[{on := 3, ground := .data}, {on := 8, ground := .data}], guard := none}) (oj := {dst := some 11, op := .alloc 50, type := 0, pos := "ref.go:148", after := #[], guard := none}) (by kernel_rfl) rfl rfl (fun K hK => ?tA) (fun K hK => ?tB)
      case tA =>
       go_simp
       refine (hth _).mono ?_
       rintro r w14 ⟨rfl, g14⟩
       have hS14 : Below wr.heap.size wr w14 := hB0.trans (g14.mono hB0.size)
       clear g14
       go_wp2_with fail
       refine hK.out _ _ (fun hD => HSD.out _ hS14) ?_
       clear hK K
       try simp only [Act.put, List.setIfInBounds_toArray, List.set_cons_zero, List.set_cons_succ]
       refine' wpAnyD_take (i := 10) (oi := {dst := some 33, op := .move (.tmp 43), type := 60, pos := "ref.go:148", after := #[{on := 9, ground := .data}], guard := none}) (v := _) rfl (by kernel_rfl) (by kernel_rfl) (by kernel_rfl) (fun _ _ _ h => h) (by kernel_rfl) (Or.inl ⟨by rfl, ?hy2010⟩) (HSD.out _ hS14) ?rest2010
       case hy2010 => (intro W hSw; go_simp; try (with_reducible rfl))
       try simp only [Act.put, List.setIfInBounds_toArray, List.set_cons_zero, List.set_cons_succ]
       refine' wpAnyD_take (i := 11) (oi := {dst := some 44, op := .extract (.tmp 33) 0, type := 50, pos := "ref.go:148", after := #[{on := 10, ground := .data}], guard := none}) (v := _) rfl (by kernel_rfl) (by kernel_rfl) (by kernel_rfl) (fun _ _ _ h => h) (by kernel_rfl) (Or.inl ⟨by rfl, ?hy2011⟩) (HSD.out _ hS14) ?rest2011
       case hy2011 => (intro W hSw; go_simp; try (with_reducible rfl))
       try simp only [Act.put, List.setIfInBounds_toArray, List.set_cons_zero, List.set_cons_succ]
       refine' wpAnyD_take (i := 12) (oi := {dst := some 45, op := .extract (.tmp 33) 1, type := 4, pos := "ref.go:148", after := #[{on := 10, ground := .data}, {on := 14, ground := .gcOnly .lateStores}], guard := none}) (v := _) rfl (by kernel_rfl) (by kernel_rfl) (by kernel_rfl) (fun _ _ _ h => h) (by kernel_rfl) (Or.inl ⟨by rfl, ?hy2012⟩) (HSD.out _ hS14) ?rest2012
       case hy2012 => (intro W hSw; go_simp; try (with_reducible rfl))
       try simp only [Act.put, List.setIfInBounds_toArray, List.set_cons_zero, List.set_cons_succ]
       refine wpAnyD_one (i := 13) (o := {dst := some 11, op := .alloc 50, type := 0, pos := "ref.go:148", after := #[], guard := none}) (by kernel_rfl) rfl (fun K hK => ?_)
       go_simp
       have hS15 : Below wr.heap.size wr (w14.alloc (.cells #[.int .u64 0, .int .u64 0, .int .u64 0] 50)) := hS14.trans (((Gr.refl w14).alloc _).below.mono hS14.size)
       refine hK.out _ _ (fun hD => HSD.out _ hS15) ?_
       clear hK K
       try simp only [Act.put, List.setIfInBounds_toArray, List.set_cons_zero, List.set_cons_succ]
       refine wpAnyD_one (i := 14) (o := {dst := none, op := .store 50 (.tmp 11) (.tmp 44), type := 0, pos := "ref.go:148", after := #[{on := 13, ground := .data}, {on := 11, ground := .data}, {on := 9, ground := .chain}, {on := 0, ground := .phase}, {on := 1, ground := .phase}, {on := 2, ground := .phase}, {on := 3, ground := .phase}, {on := 4, ground := .phase}, {on := 5, ground := .phase}, {on := 6, ground := .phase}, {on := 7, ground := .phase}, {on := 8, ground := .phase}, {on := 9, ground := .phase}, {on := 10, ground := .phase}, {on := 11, ground := .phase}, {on := 12, ground := .textOnly .lateStores}, {on := 13, ground := .phase}], guard := none}) (by kernel_rfl) rfl (fun K hK => ?_)
       go_simp
       have hS16 : Below wr.heap.size wr (w14.alloc (.cells #[.int .u64 cv.1.1, .int .u64 cv.1.2.1, .int .u64 cv.1.2.2] 50)) := hS14.trans (((Gr.refl w14).alloc _).below.mono hS14.size)
       refine hK.out _ _ (fun hD => HSD.out _ hS16) ?_
       clear hK K
       try simp only [Act.put, List.setIfInBounds_toArray, List.set_cons_zero, List.set_cons_succ]
       refine wpAnyD_one (i := 15) (o := {dst := some 12, op := .assign (.tmp 45), type := 4, pos := "ref.go:148", after := #[{on := 12, ground := .data}, {on := 14, ground := .chain}, {on := 0, ground := .phase}, {on := 1, ground := .phase}, {on := 2, ground := .phase}, {on := 3, ground := .phase}, {on := 4, ground := .phase}, {on := 5, ground := .phase}, {on := 6, ground := .phase}, {on := 7, ground := .phase}, {on := 8, ground := .phase}, {on := 9, ground := .phase}, {on := 10, ground := .phase}, {on := 11, ground := .phase}, {on := 12, ground := .phase}, {on := 13, ground := .phase}, {on := 14, ground := .phase}], guard := none}) (by kernel_rfl) rfl (fun K hK => ?_)
       go_simp
       refine hK.out _ _ (fun hD => HSD.out _ hS16) ?_
       clear hK K
       try simp only [Act.put, List.setIfInBounds_toArray, List.set_cons_zero, List.set_cons_succ]
       refine wpAnyD_done (by kernel_rfl) ?_ _
       go_wp2_with fail
       go_meet
       exact ⟨_, rfl, rfl, hS14.trans (((Gr.refl w14).alloc _).below.mono hS14.size), heap_new' _ _, hS14.size⟩
      case tB =>
       go_simp
       have hSa : Below wr.heap.size wr (wr.drew.alloc (.cells #[.int .u64 0, .int .u64 0, .int .u64 0] 50)) := hB0.trans (((Gr.refl wr.drew).alloc _).below.mono hB0.size)
       have hna := heap_new' wr.drew (.cells #[.int .u64 0, .int .u64 0, .int .u64 0] 50)
       refine hK.out _ _ (fun hD => HSD.out _ hSa) ?_
       clear hK K
       try simp only [Act.put, List.setIfInBounds_toArray, List.set_cons_zero, List.set_cons_succ]
       refine wpAnyD_one (i := 9) (o := {dst := some 43, op := .call {callee := .value (.func 21), args := #[.tmp 37, .tmp 42], argTypes := #[39, 50]}, type := 60, pos := "ref.go:148", after := #[{on := 3, ground := .data}, {on := 8, ground := .data}], guard := none}) (by kernel_rfl) rfl (fun K hK => ?_)
       go_simp
       refine (hth _).mono ?_
       rintro r w14 ⟨rfl, g14⟩
       have hS14 : Below wr.heap.size wr w14 := hSa.trans (g14.mono hSa.size)
       have hbk : w14.heap[wr.heap.size]? = some (.cells #[.int .u64 0, .int .u64 0, .int .u64 0] 50 (0, 0)) := (g14.block _ (tk_lt hna)).trans hna
       clear g14 hna hSa
       go_wp2_with fail
       refine hK.out _ _ (fun hD => HSD.out _ hS14) ?_
       clear hK K
       try simp only [Act.put, List.setIfInBounds_toArray, List.set_cons_zero, List.set_cons_succ]
       refine' wpAnyD_take (i := 10) (oi := {dst := some 33, op := .move (.tmp 43), type := 60, pos := "ref.go:148", after := #[{on := 9, ground := .data}], guard := none}) (v := _) rfl (by kernel_rfl) (by kernel_rfl) (by kernel_rfl) (fun _ _ _ h => h) (by kernel_rfl) (Or.inl ⟨by rfl, ?hy2013⟩) (HSD.out _ hS14) ?rest2013
       case hy2013 => (intro W hSw; go_simp; try (with_reducible rfl))
       try simp only [Act.put, List.setIfInBounds_toArray, List.set_cons_zero, List.set_cons_succ]
       refine' wpAnyD_take (i := 11) (oi := {dst := some 44, op := .extract (.tmp 33) 0, type := 50, pos := "ref.go:148", after := #[{on := 10, ground := .data}], guard := none}) (v := _) rfl (by kernel_rfl) (by kernel_rfl) (by kernel_rfl) (fun _ _ _ h => h) (by kernel_rfl) (Or.inl ⟨by rfl, ?hy2014⟩) (HSD.out _ hS14) ?rest2014
       case hy2014 => (intro W hSw; go_simp; try (with_reducible rfl))
       try simp only [Act.put, List.setIfInBounds_toArray, List.set_cons_zero, List.set_cons_succ]
       refine' wpAnyD_take (i := 12) (oi := {dst := some 45, op := .extract (.tmp 33) 1, type := 4, pos := "ref.go:148", after := #[{on := 10, ground := .data}, {on := 14, ground := .gcOnly .lateStores}], guard := none}) (v := _) rfl (by kernel_rfl) (by kernel_rfl) (by kernel_rfl) (fun _ _ _ h => h) (by kernel_rfl) (Or.inl ⟨by rfl, ?hy2015⟩) (HSD.out _ hS14) ?rest2015
       case hy2015 => (intro W hSw; go_simp; try (with_reducible rfl))
       try simp only [Act.put, List.setIfInBounds_toArray, List.set_cons_zero, List.set_cons_succ]
       have cb := (tk_store hbk).1
       have fb := (tk_store hbk).2
       have lb := tk_lt hbk
       refine wpAnyD_one (i := 14) (o := {dst := none, op := .store 50 (.tmp 11) (.tmp 44), type := 0, pos := "ref.go:148", after := #[{on := 13, ground := .data}, {on := 11, ground := .data}, {on := 9, ground := .chain}, {on := 0, ground := .phase}, {on := 1, ground := .phase}, {on := 2, ground := .phase}, {on := 3, ground := .phase}, {on := 4, ground := .phase}, {on := 5, ground := .phase}, {on := 6, ground := .phase}, {on := 7, ground := .phase}, {on := 8, ground := .phase}, {on := 9, ground := .phase}, {on := 10, ground := .phase}, {on := 11, ground := .phase}, {on := 12, ground := .textOnly .lateStores}, {on := 13, ground := .phase}], guard := none}) (by kernel_rfl) rfl (fun K hK => ?_)
       go_simp
       obtain ⟨b0, k0⟩ := Df.tk_set hbk 0 (.int .u64 cv.1.1)
       obtain ⟨b1, k1⟩ := Df.tk_set b0 1 (.int .u64 cv.1.2.1)
       obtain ⟨b2, k2⟩ := Df.tk_set b1 2 (.int .u64 cv.1.2.2)
       have kk : Below wr.heap.size wr (((w14.setCell ⟨wr.heap.size, 0, none⟩ (.int .u64 cv.1.1)).setCell ⟨wr.heap.size, 1, none⟩ (.int .u64 cv.1.2.1)).setCell ⟨wr.heap.size, 2, none⟩ (.int .u64 cv.1.2.2)) := hS14.trans (((k0.trans k1 (fun _ _ h => h)).trans k2 (fun _ _ h => h)).below hS14.size (fun k h => by rw [h]; exact Nat.le_refl _))
       clear k0 k1 k2 b0 b1 cb fb lb hbk
       generalize (((w14.setCell ⟨wr.heap.size, 0, none⟩ (.int .u64 cv.1.1)).setCell ⟨wr.heap.size, 1, none⟩ (.int .u64 cv.1.2.1)).setCell ⟨wr.heap.size, 2, none⟩ (.int .u64 cv.1.2.2)) = w16 at kk b2 ⊢
       refine hK.out _ _ (fun hD => HSD.out _ kk) ?_
       clear hK K
       try simp only [Act.put, List.setIfInBounds_toArray, List.set_cons_zero, List.set_cons_succ]
       refine wpAnyD_one (i := 15) (o := {dst := some 12, op := .assign (.tmp 45), type := 4, pos := "ref.go:148", after := #[{on := 12, ground := .data}, {on := 14, ground := .chain}, {on := 0, ground := .phase}, {on := 1, ground := .phase}, {on := 2, ground := .phase}, {on := 3, ground := .phase}, {on := 4, ground := .phase}, {on := 5, ground := .phase}, {on := 6, ground := .phase}, {on := 7, ground := .phase}, {on := 8, ground := .phase}, {on := 9, ground := .phase}, {on := 10, ground := .phase}, {on := 11, ground := .phase}, {on := 12, ground := .phase}, {on := 13, ground := .phase}, {on := 14, ground := .phase}], guard := none}) (by kernel_rfl) rfl (fun K hK => ?_)
       go_simp
       refine hK.out _ _ (fun hD => HSD.out _ kk) ?_
       clear hK K
       try simp only [Act.put, List.setIfInBounds_toArray, List.set_cons_zero, List.set_cons_succ]
       refine wpAnyD_done (by kernel_rfl) ?_ _
       go_wp2_with fail
       go_meet
       exact ⟨_, rfl, rfl, kk, b2, Nat.le_refl _⟩
     case rest =>
      obtain ⟨pb, rfl, rfl, HC⟩ := hcut
      clear hS0 hB0 hth HSD
      have cz := (tk_store HC.out.2.1).1
      have lz := tk_lt HC.out.2.1
      have HO := hid (owns_below HJ.out.1 HC.out.1)
      have HB := hid (HJ.out.2.1.trans (HC.out.1.mono HJ.out.2.1.size))
      have HQ := hid (HJ.out.2.2.keep (HC.out.1.mono (Nat.le_trans HM.out HJ.out.2.1.size)))
      have hwz := HB.out.size
      clear HJ
      cases ok with
      | true =>
       generalize hay : al ++ onL (bl.take j) s.2 = ay at *
       have HAY := hid hay
       clear hay
       go_wp2_with (at_builtin; refine wpT1 rfl _ _ rfl w.heap.size _ ay.length _ rfl HO.out cv rfl (HBD.out _ HLK.out) hwz ?_)
       intro g6 c6 w6 ho6 hg6 hl6
       have hK6 := Kp.grownBy (S := fun k => w.heap.size ≤ k) hg6 (fun k hk => (HO.out.lt k hk).1)
       have HE : Hid (w6.ownsRow w.heap.size 50 3 (.slice (some ⟨g6, 0, none⟩) (ay.length + 1) c6) (al ++ onL (bl.take (j + 1)) s.2).length (Pc.flT (al ++ onL (bl.take (j + 1)) s.2)) ∧ Below w.heap.size w w6 ∧ Lq Pc.ET M w6 (.slice (some ⟨b2, o2, none⟩) bl.length c5) bl) := by
        obtain ⟨z, hz⟩ := Option.isSome_iff_exists.1 HCV.out.2.symm
        rw [HTJ.out, hz, Option.toList_some, ← List.append_assoc, HAY.out, show z = cv by rw [HCV.out.1, thv_some hz]]
        exact ⟨owns_re ho6 (by simp) (by rw [Pc.flT_append, Pc.flT_one]), HB.out.trans (hK6.below HB.out.size (fun _ h => h)), HQ.out.keep (hK6.below (Nat.le_trans HM.out hwz) (fun k hk => Nat.le_trans HM.out hk))⟩
       clear ho6 hg6 hl6 hK6 cz lz
       go_wp2
       go_roundw
       case rel => exact ⟨j + 1, by omega, by first | rfl | go_num, HE.out⟩
       case measure => simp [RowKit.intOf]; omega
      | false =>
       have HE : Hid (wc.ownsRow w.heap.size 50 3 u7 (al ++ onL (bl.take (j + 1)) s.2).length (Pc.flT (al ++ onL (bl.take (j + 1)) s.2)) ∧ Below w.heap.size w wc ∧ Lq Pc.ET M wc (.slice (some ⟨b2, o2, none⟩) bl.length c5) bl) := by
        have hz : thn3 b s.2 = none := by
         have := HCV.out.2
         cases h : thn3 b s.2 with
         | none => rfl
         | some z => rw [h] at this; cases this
        rw [HTJ.out, hz, Option.toList_none, List.append_nil]
        exact ⟨HO.out, HB.out, HQ.out⟩
       clear cz lz
       go_wp2
       go_roundw
       case rel => exact ⟨j + 1, by omega, by first | rfl | go_num, HE.out⟩
       case measure => simp [RowKit.intOf]; omega
    ·have hjz : ¬ (j : Int) < (bl.length : Int) := by omega
     have hje : j = bl.length := by omega
     subst hje
     rw [List.take_length] at HJ
     have HN : Hid (wr.ownsRow w.heap.size 50 3 u7 (allT n R q (l.take (i + 1))).length (Pc.flT (allT n R q (l.take (i + 1)))) ∧ Below w.heap.size w wr) := by
      rw [HTK.out]
      exact ⟨HJ.out.1, HJ.out.2.1⟩
     clear HJ
     go_wp2
     go_roundw
     case rel => exact ⟨i + 1, by omega, by first | rfl | go_num, HN.out⟩
     case measure => simp [RowKit.intOf]; omega
  ·have hltz : ¬ (i : Int) < (l.length : Int) := by omega
   have hie : i = l.length := by omega
   subst hie
   rw [List.take_length] at HI
   have HLN := allT_len (q := q) HR.out l
   have hrf := rfront_any u7 (allT n R q l) wr (owns_ls (E := Pc.ET) HI.out.1) (HBD.out _ HLN)
   have HB := hid HI.out.2
   clear HI
   generalize hal : allT n R q l = al at *
   have HAL := hid hal
   clear hal
   go_wp2_with fail
   refine hrf.mono ?_
   rintro e w9 ⟨v9, r, rfl, ho9, hp9, hm9, hb9⟩
   have HF : Hid (w9.ownsRow w.heap.size 50 3 v9 (frt al).length (Pc.flT (frt al)) ∧ Below w.heap.size w w9) := by
    rw [← frt_of hp9 hm9]
    exact ⟨owns_base ho9.owns HB.out.size, HB.out.trans (hb9.mono HB.out.size)⟩
   clear hrf ho9 hp9 hm9 hb9
   go_wp2
   go_ret
   rw [HAL.out]
   exact ⟨v9, rfl, HF.out⟩
theorem any_onL (bl : List Tri) (s u : Tri) : (onL bl s).any (fun y => Pc.bel y u) = bl.any (cldP s u) := by
 induction bl with
 | nil => rfl
 | cons b l ih =>
  unfold onL at ih ⊢
  rw [List.filterMap_cons, List.any_cons, ← ih]
  cases h : thn3 b s with
  | none => simp [cldP, h]
  | some c => simp [cldP, h, thv_some h]
theorem cld_front {n : Nat} {R : Nat → Nat → List Tri} (s u : Hf.Th) : ccov Pc.bel (frt (allT n R u.1 [s])) u.2 = (bt n R s.1 u.1).any (cldP s.2 u.2) := by
 unfold frt
 rw [cov_all Pc.ords, ← any_onL]
 simp [allT]
set_option maxRecDepth 100000 in
set_option maxHeartbeats 1000000 in
theorem rcould_any {M n rb : Nat} {R : Nat → Nat → List Tri} (s u : Hf.Th) (w : World) (h : TR M w rb n R) (hM : M ≤ w.heap.size) (hR : ∀ p q, (bt n R p q).length ≤ 64) : Calls Tryz.prog 30 #[.pointer (some ⟨rb, 0, none⟩), .agg #[.int .i64 s.1, .int .u64 s.2.1.1, .int .u64 s.2.1.2.1, .int .u64 s.2.1.2.2], .agg #[.int .i64 u.1, .int .u64 u.2.1.1, .int .u64 u.2.1.2.1, .int .u64 u.2.1.2.2]] w fun e w' => e = .returned (.bool ((bt n R s.1 u.1).any (cldP s.2 u.2))) ∧ Below w.heap.size w w' := by
 have hmx : Tryz.prog.follows .mixedOrders = true := by kernel_rfl
 obtain ⟨W0, hW0⟩ : ∃ W, W = (w.alloc (.cells #[.int .i64 s.1, .int .u64 s.2.1.1, .int .u64 s.2.1.2.1, .int .u64 s.2.1.2.2] 52)).alloc (.cells #[.int .i64 u.1, .int .u64 u.2.1.1, .int .u64 u.2.1.2.1, .int .u64 u.2.1.2.2] 52) := ⟨_, rfl⟩
 obtain ⟨xb, hxb⟩ : ∃ b, b = w.heap.size := ⟨_, rfl⟩
 have B0 : Hid (Below w.heap.size w W0 ∧ W0.heap[xb]? = some (.cells #[.int .i64 s.1, .int .u64 s.2.1.1, .int .u64 s.2.1.2.1, .int .u64 s.2.1.2.2] 52 (0, 0)) ∧ W0.heap[xb + 1]? = some (.cells #[.int .i64 u.1, .int .u64 u.2.1.1, .int .u64 u.2.1.2.1, .int .u64 u.2.1.2.2] 52 (0, 0))) := by
  rw [hW0, hxb]
  exact ⟨(((Gr.refl w).alloc _).alloc _).below, Df.new1 w _ _, Df.new2 w _ _⟩
 have HW0 : Hid ((w.alloc (.cells #[.int .i64 s.1, .int .u64 s.2.1.1, .int .u64 s.2.1.2.1, .int .u64 s.2.1.2.2] 52)).alloc (.cells #[.int .i64 u.1, .int .u64 u.2.1.1, .int .u64 u.2.1.2.1, .int .u64 u.2.1.2.2] 52) = W0 ∧ w.heap.size = xb) := ⟨hW0.symm, hxb.symm⟩
 have HFR : Hid (∀ W b, Below W0.heap.size W0 W → W.heap[b]? = some (.cells #[.int .i64 s.1, .int .u64 s.2.1.1, .int .u64 s.2.1.2.1, .int .u64 s.2.1.2.2] 52 (0, 0)) → Calls Tryz.prog 27 #[.pointer (some ⟨rb, 0, none⟩), .int .i64 u.1, .slice (some ⟨b, 0, none⟩) 1 1] W fun e w' => ∃ v', e = .returned v' ∧ Hid (Ls Pc.ET w' v' (frt (allT n R u.1 [s])) ∧ Below W.heap.size W w')) := fun W b hb hbk => by
  have hB := B0.out.1.trans (hb.mono B0.out.1.size)
  refine (rfrontT_any (l := [s]) u.1 W (h.keep (hB.mono hM)) (Nat.le_trans hM hB.size) hR (Or.inl ⟨sm_row1 hbk, (sm_row1 (c := 1) hbk).blk⟩) (by simp)).mono ?_
  rintro e w' ⟨v', rfl, h1, h2⟩
  exact ⟨v', rfl, owns_ls (E := Pc.ET) h1, h2⟩
 have HLN : Hid ((frt (allT n R u.1 [s])).length ≤ 64) := by
  have h1 := frt_len (allT n R u.1 [s])
  have h2 := allT_len (q := u.1) hR [s]
  simp only [List.length_singleton] at h2
  exact Nat.le_trans h1 h2
 have HCE := hid (cld_front (n := n) (R := R) s u)
 rw [← HCE.out]
 clear h hM hR hW0 hxb HCE
 generalize frt (allT n R u.1 [s]) = fr at *
 have HS : Hid (∀ W, Below W0.heap.size W0 W → W.heap[xb]? = some (.cells #[.int .i64 s.1, .int .u64 s.2.1.1, .int .u64 s.2.1.2.1, .int .u64 s.2.1.2.2] 52 (0, 0)) ∧ W.heap[xb + 1]? = some (.cells #[.int .i64 u.1, .int .u64 u.2.1.1, .int .u64 u.2.1.2.1, .int .u64 u.2.1.2.2] 52 (0, 0))) := fun W hb => ⟨(hb.block _ (tk_lt B0.out.2.1)).trans B0.out.2.1, (hb.block _ (tk_lt B0.out.2.2)).trans B0.out.2.2⟩
 go_enter Tryz.func30, Tryz.ntmps30
 go_upto_region 1 with fail
 rw [HW0.out.1, HW0.out.2]
 clear HW0
 have hB0 : Below W0.heap.size W0 W0.drew := (Gr.refl W0).drew.below
 have hS0 := HS.out _ hB0
 refine wp_regionD (S := fun W => W.heap[xb]? = some (.cells #[.int .i64 s.1, .int .u64 s.2.1.1, .int .u64 s.2.1.2.1, .int .u64 s.2.1.2.2] 52 (0, 0)) ∧ W.heap[xb + 1]? = some (.cells #[.int .i64 u.1, .int .u64 u.2.1.1, .int .u64 u.2.1.2.1, .int .u64 u.2.1.2.2] 52 (0, 0))) (D := []) hmx ?_
 refine' wpAnyD_take (i := 0) (oi := {dst := some 7, op := .move (.tmp 0), type := 27, pos := "ref.go:159", after := #[], guard := none}) (v := _) rfl (by kernel_rfl) (by kernel_rfl) (by kernel_rfl) (fun _ _ _ h => h) (by kernel_rfl) (Or.inl ⟨by rfl, ?hy1⟩) hS0 ?rest1
 case hy1 => (intro W hSw; go_simp; try (with_reducible rfl))
 try simp only [Act.put, List.setIfInBounds_toArray, List.set_cons_zero, List.set_cons_succ]
 refine' wpAnyD_take (i := 1) (oi := {dst := some 8, op := .fieldAddr 52 (.tmp 5) 0, type := 0, pos := "ref.go:159", after := #[], guard := none}) (v := _) rfl (by kernel_rfl) (by kernel_rfl) (by kernel_rfl) (fun _ _ _ h => h) (by kernel_rfl) (Or.inl ⟨by rfl, ?hy2⟩) hS0 ?rest2
 case hy2 => (intro W hSw; go_simp; try (with_reducible rfl))
 try simp only [Act.put, List.setIfInBounds_toArray, List.set_cons_zero, List.set_cons_succ]
 refine' wpAnyD_take (i := 2) (oi := {dst := some 9, op := .load 3 (.tmp 8), type := 3, pos := "ref.go:159", after := #[{on := 1, ground := .data}], guard := none}) (v := _) rfl (by kernel_rfl) (by kernel_rfl) (by kernel_rfl) (fun _ _ _ h => h) (by kernel_rfl) (Or.inl ⟨by rfl, ?hy3⟩) hS0 ?rest3
 case hy3 => (intro W hSw; have hc := (tk_store hSw.2).1; have hl := tk_lt hSw.2; go_simp; try (with_reducible rfl))
 try simp only [Act.put, List.setIfInBounds_toArray, List.set_cons_zero, List.set_cons_succ]
 refine' wpAnyD_take (i := 3) (oi := {dst := some 10, op := .load 52 (.tmp 4), type := 52, pos := "ref.go:159", after := #[], guard := none}) (v := _) rfl (by kernel_rfl) (by kernel_rfl) (by kernel_rfl) (fun _ _ _ h => h) (by kernel_rfl) (Or.inl ⟨by rfl, ?hy4⟩) hS0 ?rest4
 case hy4 => (intro W hSw; have hc := (tk_store hSw.1).1; have hl := tk_lt hSw.1; go_simp; try (with_reducible rfl))
 try simp only [Act.put, List.setIfInBounds_toArray, List.set_cons_zero, List.set_cons_succ]
 refine' wpAnyD_take (i := 6) (oi := {dst := some 13, op := .fieldAddr 52 (.tmp 5) 1, type := 0, pos := "ref.go:159", after := #[], guard := none}) (v := _) rfl (by kernel_rfl) (by kernel_rfl) (by kernel_rfl) (fun _ _ _ h => h) (by kernel_rfl) (Or.inl ⟨by rfl, ?hy5⟩) hS0 ?rest5
 case hy5 => (intro W hSw; go_simp; try (with_reducible rfl))
 try simp only [Act.put, List.setIfInBounds_toArray, List.set_cons_zero, List.set_cons_succ]
 refine' wpAnyD_take (i := 7) (oi := {dst := some 14, op := .load 50 (.tmp 13), type := 50, pos := "ref.go:159", after := #[{on := 6, ground := .data}], guard := none}) (v := _) rfl (by kernel_rfl) (by kernel_rfl) (by kernel_rfl) (fun _ _ _ h => h) (by kernel_rfl) (Or.inl ⟨by rfl, ?hy6⟩) hS0 ?rest6
 case hy6 => (intro W hSw; have hc := (tk_store hSw.2).1; have hl := tk_lt hSw.2; go_simp; try (with_reducible rfl))
 try simp only [Act.put, List.setIfInBounds_toArray, List.set_cons_zero, List.set_cons_succ]
 refine wpAnyD_one (i := 4) (o := {dst := some 11, op := .buildSlice 49 1 #[(0, .tmp 10)], type := 49, pos := "ref.go:159", after := #[{on := 3, ground := .data}], guard := none}) (by kernel_rfl) rfl (fun K hK => ?_)
 go_simp
 have hS4 : Below W0.heap.size W0 (W0.drew.alloc (.cells #[.int .i64 s.1, .int .u64 s.2.1.1, .int .u64 s.2.1.2.1, .int .u64 s.2.1.2.2] 52)) := hB0.trans (((Gr.refl W0.drew).alloc _).below.mono hB0.size)
 have hn4 := heap_new' W0.drew (.cells #[.int .i64 s.1, .int .u64 s.2.1.1, .int .u64 s.2.1.2.1, .int .u64 s.2.1.2.2] 52)
 refine hK.out _ _ (fun hD => HS.out _ hS4) ?_
 clear hK K
 try simp only [Act.put, List.setIfInBounds_toArray, List.set_cons_zero, List.set_cons_succ]
 refine wpAnyD_one (i := 5) (o := {dst := some 12, op := .call {callee := .value (.func 27), args := #[.tmp 7, .tmp 9, .tmp 11], argTypes := #[27, 3, 49]}, type := 55, pos := "ref.go:159", after := #[{on := 0, ground := .data}, {on := 2, ground := .data}, {on := 4, ground := .data}], guard := none}) (by kernel_rfl) rfl (fun K hK => ?_)
 go_simp
 refine (HFR.out _ _ hS4 hn4).mono ?_
 rintro r w5 ⟨v5, rfl, H5⟩
 have hS5 : Below W0.heap.size W0 w5 := hS4.trans (H5.out.2.mono hS4.size)
 clear hS4 hn4
 go_wp2_with fail
 refine hK.out _ _ (fun hD => HS.out _ hS5) ?_
 clear hK K
 try simp only [Act.put, List.setIfInBounds_toArray, List.set_cons_zero, List.set_cons_succ]
 refine wpAnyD_one (i := 8) (o := {dst := some 15, op := .call {callee := .value (.func 18), args := #[.tmp 12, .tmp 14], argTypes := #[55, 50]}, type := 4, pos := "ref.go:159", after := #[{on := 5, ground := .data}, {on := 7, ground := .data}, {on := 5, ground := .chain}], guard := none}) (by kernel_rfl) rfl (fun K hK => ?_)
 go_simp
 refine (r5open_any v5 fr u.2 w5 H5.out.1 (by have := HLN.out; omega)).mono ?_
 rintro r w9 ⟨rfl, g9⟩
 have hb9 : Below W0.heap.size W0 w9 := hS5.trans (g9.below.mono hS5.size)
 clear g9 hS5 H5
 go_wp2_with fail
 refine hK.out _ _ (fun hD => HS.out _ hb9) ?_
 clear hK K
 try simp only [Act.put, List.setIfInBounds_toArray, List.set_cons_zero, List.set_cons_succ]
 refine wpAnyD_one (i := 9) (o := {dst := some 6, op := .assign (.tmp 15), type := 4, pos := "ref.go:159", after := #[{on := 8, ground := .data}, {on := 8, ground := .chain}, {on := 0, ground := .phase}, {on := 1, ground := .phase}, {on := 2, ground := .phase}, {on := 3, ground := .phase}, {on := 4, ground := .phase}, {on := 5, ground := .phase}, {on := 6, ground := .phase}, {on := 7, ground := .phase}, {on := 8, ground := .phase}], guard := none}) (by kernel_rfl) rfl (fun K hK => ?_)
 go_simp
 refine hK.out _ _ (fun hD => HS.out _ hb9) ?_
 clear hK K
 try simp only [Act.put, List.setIfInBounds_toArray, List.set_cons_zero, List.set_cons_succ]
 refine wpAnyD_done (by kernel_rfl) ?_ _
 clear hS0
 go_wp2
 go_ret
 exact ⟨rfl, B0.out.1.trans (hb9.mono B0.out.1.size)⟩
end Go.Proofs.YtjppkehnjnmbnaaGreat.Lf

namespace Go.Proofs.YtjppkehnjnmbnaaGreat.Lf
open Go.RowKit Go.Sort Pt
open Df (hid Gph plN Gok GR NV Edg gof gvc Gcap EI tk_store tk_lt owns_form owns_caps)
attribute [local go_sem ↓] Go.wp_at_zero Go.wp_at_succ
theorem bt_len {g : Gph} {R : Nat → Nat → List Tri} (h : ∀ p, p < plN g.nodes → Res PX (StG g) p (some (R p))) (p q : Int) : (bt (plN g.nodes) R p q).length ≤ 64 := by
 unfold bt
 split
 ·rename_i hc
  exact (h p.toNat (by omega) q.toNat).2.2
 ·exact Nat.zero_le _
def Hw (M M2 tb rb n : Nat) (R : Nat → Nat → List Tri) (sv : Value) (l : List Hf.Th) (W : World) : Prop := TP M W tb n R ∧ TR M W rb n R ∧ Df.Lz EF M2 W sv l ∧ M ≤ W.heap.size
section
variable {M M2 tb rb n : Nat} {R : Nat → Nat → List Tri} {sv : Value} {l : List Hf.Th} {W : World}
theorem Hw.le (h : Hw M M2 tb rb n R sv l W) (p q : Int) (hl : (bt n R p q).length ≤ 64) : Calls Tryz.prog 12 #[.pointer (some ⟨tb, 0, none⟩), .int .i64 p, .int .i64 q] W fun e w' => ∃ pp c, e = .returned (.slice pp (bt n R p q).length c) ∧ Hid (Ls Pc.ET w' (.slice pp (bt n R p q).length c) (bt n R p q) ∧ Below W.heap.size W w') := by
 refine (least_any p q W (Or.inr ⟨tb, rfl, h.1⟩) hl).mono ?_
 rintro e w' ⟨v, rfl, h1, h2⟩
 obtain ⟨pp, c, rfl⟩ := (owns_ls (E := Pc.ET) h1).form
 exact ⟨pp, c, rfl, owns_ls (E := Pc.ET) h1, h2⟩
theorem Hw.rle (h : Hw M M2 tb rb n R sv l W) (p q : Int) : Calls Tryz.prog 25 #[.pointer (some ⟨rb, 0, none⟩), .int .i64 p, .int .i64 q] W fun e w' => ∃ pp c, e = .returned (.slice pp (bt n R p q).length c) ∧ Hid (Ls Pc.ET w' (.slice pp (bt n R p q).length c) (bt n R p q) ∧ Below W.heap.size W w') := by
 refine (rleast_any p q W h.2.1).mono ?_
 rintro e w' ⟨pp, c, rfl, rfl, h1⟩
 exact ⟨pp, c, rfl, h1.1, Below.refl _ _⟩
theorem Hw.to (h : Hw M M2 tb rb n R sv l W) (p : Int) (hn : n ≤ 192) : Calls Tryz.prog 24 #[.pointer (some ⟨tb, 0, none⟩), .int .i64 p] W fun e w' => ∃ pp c, e = .returned (.slice pp (toL n R p n).length c) ∧ Hid (Ls EI w' (.slice pp (toL n R p n).length c) (toL n R p n) ∧ Below W.heap.size W w') := by
 refine (to_any p W (Or.inr ⟨tb, rfl, h.1⟩) h.2.2.2 hn).mono ?_
 rintro e w' ⟨v, rfl, h1, h2⟩
 obtain ⟨pp, c, rfl⟩ := (owns_ls (E := EI) h1).form
 exact ⟨pp, c, rfl, owns_ls (E := EI) h1, h2⟩
theorem Hw.rto (h : Hw M M2 tb rb n R sv l W) (p : Int) (hn : n ≤ 192) : Calls Tryz.prog 26 #[.pointer (some ⟨rb, 0, none⟩), .int .i64 p] W fun e w' => ∃ pp c, e = .returned (.slice pp (toL n R p n).length c) ∧ Hid (Ls EI w' (.slice pp (toL n R p n).length c) (toL n R p n) ∧ Below W.heap.size W w') := by
 refine (rto_any p W h.2.1 h.2.2.2 hn).mono ?_
 rintro e w' ⟨v, rfl, h1, h2⟩
 obtain ⟨pp, c, rfl⟩ := (owns_ls (E := EI) h1).form
 exact ⟨pp, c, rfl, owns_ls (E := EI) h1, h2⟩
theorem Hw.fr (h : Hw M M2 tb rb n R sv l W) (q : Int) (hR : ∀ p q, (bt n R p q).length ≤ 64) (hl : (64 * l.length + 1) * 24 ≤ 140737488355328) : Calls Tryz.prog 19 #[.pointer (some ⟨tb, 0, none⟩), .int .i64 q, sv] W fun e w' => ∃ pp c, e = .returned (.slice pp (frt (allT n R q l)).length c) ∧ Hid (Ls Pc.ET w' (.slice pp (frt (allT n R q l)).length c) (frt (allT n R q l)) ∧ Below W.heap.size W w') := by
 refine (front_any q W (Or.inr ⟨tb, rfl, h.1⟩) h.2.2.2 hR h.2.2.1 hl).mono ?_
 rintro e w' ⟨v, rfl, h1, h2⟩
 obtain ⟨pp, c, rfl⟩ := (owns_ls (E := Pc.ET) h1).form
 exact ⟨pp, c, rfl, owns_ls (E := Pc.ET) h1, h2⟩
theorem Hw.rfr (h : Hw M M2 tb rb n R sv l W) (q : Int) (hR : ∀ p q, (bt n R p q).length ≤ 64) (hl : (64 * l.length + 1) * 24 ≤ 140737488355328) : Calls Tryz.prog 27 #[.pointer (some ⟨rb, 0, none⟩), .int .i64 q, sv] W fun e w' => ∃ pp c, e = .returned (.slice pp (frt (allT n R q l)).length c) ∧ Hid (Ls Pc.ET w' (.slice pp (frt (allT n R q l)).length c) (frt (allT n R q l)) ∧ Below W.heap.size W w') := by
 refine (rfrontT_any q W h.2.1 h.2.2.2 hR h.2.2.1 hl).mono ?_
 rintro e w' ⟨v, rfl, h1, h2⟩
 obtain ⟨pp, c, rfl⟩ := (owns_ls (E := Pc.ET) h1).form
 exact ⟨pp, c, rfl, owns_ls (E := Pc.ET) h1, h2⟩
end
theorem frt_bd {g : Gph} {R : Nat → Nat → List Tri} (h : ∀ p q, (bt (plN g.nodes) R p q).length ≤ 64) {l : List Hf.Th} (hl : (64 * l.length + 1) * 24 ≤ 140737488355328) (q : Int) : (frt (allT (plN g.nodes) R q l)).length ≤ 140737488351232 := by
 have h1 := frt_len (allT (plN g.nodes) R q l)
 have h2 := allT_len (q := q) h l
 omega
set_option maxRecDepth 100000 in
set_option maxHeartbeats 8000000 in
theorem pathsExact_any {M0 M2 : Nat} {nv ev sv : Value} {a : Int} {xs : List NV} {es : List Edg} {l : List Hf.Th} (P Q : Int) (w : World) (hG : GR M0 w nv ev xs es) (hM : M0 ≤ w.heap.size) (hC : Gcap ev xs) (hP : Gpt (gof a xs es)) (hs : Df.Lz EF M2 w sv l) (hl : (64 * l.length + 1) * 24 ≤ 140737488355328) : Calls Tryz.prog 8 #[.agg #[.int .i64 a, nv, ev, .int .i64 P, .int .i64 Q, sv]] w fun e w' => e = .returned (.bool true) ∧ Below w.heap.size w w' := by
 have hmx : Tryz.prog.follows .mixedOrders = true := by kernel_rfl
 obtain ⟨ps, cs, rfl⟩ := hs.form
 obtain ⟨xb, hxb⟩ : ∃ b, b = w.heap.size := ⟨_, rfl⟩
 obtain ⟨W0, hW0⟩ : ∃ W, W = w.alloc (.cells #[.int .i64 a, nv, ev, .int .i64 P, .int .i64 Q, .slice ps l.length cs] 67) := ⟨_, rfl⟩
 have P0 : Hid (Below w.heap.size w W0 ∧ W0.heap[xb]? = some (.cells #[.int .i64 a, nv, ev, .int .i64 P, .int .i64 Q, .slice ps l.length cs] 67 (0, 0)) ∧ Df.Lz EF M2 W0 (.slice ps l.length cs) l) := by
  rw [hW0, hxb]
  exact ⟨((Gr.refl w).alloc _).below, heap_new' _ _, hs.below ((Gr.refl w).alloc _).below⟩
 have hbo := both_any (a := a) W0 (hG.below P0.out.1) (Nat.le_trans hM P0.out.1.size) hC hP
 have HW0 : Hid (w.alloc (.cells #[.int .i64 a, nv, ev, .int .i64 P, .int .i64 Q, .slice ps l.length cs] 67) = W0 ∧ w.heap.size = xb) := ⟨hW0.symm, hxb.symm⟩
 have c0 := (tk_store P0.out.2.1).1
 have l0 := tk_lt P0.out.2.1
 have hlb : l.length ≤ 91625968981 := by omega
 have HL := hid hl
 clear hG hM hC hP hs hW0 hxb hl
 obtain ⟨g, hg⟩ : ∃ g, g = gof a xs es := ⟨_, rfl⟩
 rw [← hg] at hbo
 clear hg
 go_enter Tryz.func8, Tryz.ntmps8
 go_upto_region 1 with fail
 rw [HW0.out.1, HW0.out.2]
 clear HW0
 go_wp2_with fail
 refine hbo.mono ?_
 clear hbo c0 l0
 rintro r w1 ⟨hb1, hr⟩
 have HB1 := hid hb1
 clear hb1
 rcases hr with rfl | ⟨tb, rb, R, hok, hres, rfl, htp, htr⟩
 ·go_wp2_with fail
  refine (known_any w1).mono ?_
  rintro r w2 ⟨rfl, H2⟩
  go_wp2
  go_ret
  exact ⟨rfl, P0.out.1.trans ((HB1.out.trans (H2.out.mono HB1.out.size)).mono P0.out.1.size)⟩
 ·have HR := hid (bt_len hres)
  have hn := Df.plN_le hok
  have HFB := hid (frt_bd HR.out HL.out)
  have HT := hid htp
  have HTR := hid htr
  clear hres htp htr hok
  generalize plN g.nodes = n at *
  go_wp2_with fail
  refine (known_any w1).mono ?_
  rintro r Wk ⟨rfl, H2⟩
  have HH : Hid (∀ W, Below Wk.heap.size Wk W → Hw w1.heap.size M2 tb rb n R (.slice ps l.length cs) l W) := fun W hb => by
   have h1 := H2.out.trans (hb.mono H2.out.size)
   have h2 := HB1.out.trans (h1.mono HB1.out.size)
   exact ⟨HT.out.keep h1, HTR.out.keep h1, P0.out.2.2.below h2, h1.size⟩
  have HSD : Hid (∀ W, Below Wk.heap.size Wk W → W.heap[xb]? = some (.cells #[.int .i64 a, nv, ev, .int .i64 P, .int .i64 Q, .slice ps l.length cs] 67 (0, 0)) ∧ ∃ rv, W.heap[rb]? = some (.cells #[.int .i64 (n : Nat), rv] 33 (0, 0))) := fun W hb => by
   have h1 := H2.out.trans (hb.mono H2.out.size)
   have h2 := HB1.out.trans (h1.mono HB1.out.size)
   obtain ⟨rv, q1, _⟩ := (HH.out W hb).2.1
   exact ⟨(h2.block _ (tk_lt P0.out.2.1)).trans P0.out.2.1, rv, q1⟩
  have HBk : Hid (Below w.heap.size w Wk) := P0.out.1.trans ((HB1.out.trans (H2.out.mono HB1.out.size)).mono P0.out.1.size)
  clear H2 HT HTR HB1 P0
  obtain ⟨rv, HRV⟩ : ∃ rv, Hid (∀ W, Below Wk.heap.size Wk W → W.heap[xb]? = some (.cells #[.int .i64 a, nv, ev, .int .i64 P, .int .i64 Q, .slice ps l.length cs] 67 (0, 0)) ∧ W.heap[rb]? = some (.cells #[.int .i64 (n : Nat), rv] 33 (0, 0))) := by
   obtain ⟨_, rv, h0⟩ := HSD.out Wk (Below.refl _ _)
   exact ⟨rv, fun W hb => ⟨(HSD.out W hb).1, (hb.block _ (tk_lt h0)).trans h0⟩⟩
  clear HSD
  go_upto_region 6 with fail
  have hB0 : Below Wk.heap.size Wk Wk.drew := (Gr.refl Wk).drew.below
  have hS0 := HRV.out _ hB0
  refine wp_regionD (S := fun W => W.heap[xb]? = some (.cells #[.int .i64 a, nv, ev, .int .i64 P, .int .i64 Q, .slice ps l.length cs] 67 (0, 0)) ∧ W.heap[rb]? = some (.cells #[.int .i64 (n : Nat), rv] 33 (0, 0))) (D := []) hmx ?_
  refine' wpAnyD_take (i := 0) (oi := {dst := some 25, op := .move (.tmp 3), type := 26, pos := "law.go:107", after := #[], guard := none}) (v := _) rfl (by kernel_rfl) (by kernel_rfl) (by kernel_rfl) (fun _ _ _ h => h) (by kernel_rfl) (Or.inl ⟨by rfl, ?hy1⟩) hS0 ?rest1
  case hy1 => (intro W hSw; go_simp; try (with_reducible rfl))
  try simp only [Act.put, List.setIfInBounds_toArray, List.set_cons_zero, List.set_cons_succ]
  refine' wpAnyD_take (i := 2) (oi := {dst := some 27, op := .move (.tmp 4), type := 27, pos := "law.go:107", after := #[], guard := none}) (v := _) rfl (by kernel_rfl) (by kernel_rfl) (by kernel_rfl) (fun _ _ _ h => h) (by kernel_rfl) (Or.inl ⟨by rfl, ?hy2⟩) hS0 ?rest2
  case hy2 => (intro W hSw; go_simp; try (with_reducible rfl))
  try simp only [Act.put, List.setIfInBounds_toArray, List.set_cons_zero, List.set_cons_succ]
  refine' wpAnyD_take (i := 3) (oi := {dst := some 28, op := .nilCheck (.tmp 27), type := 0, pos := "law.go:107", after := #[{on := 2, ground := .data}], guard := none}) (v := _) rfl (by kernel_rfl) (by kernel_rfl) (by kernel_rfl) (fun _ _ _ h => h) (by kernel_rfl) (Or.inl ⟨by rfl, ?hy3⟩) hS0 ?rest3
  case hy3 => (intro W hSw; have hc := (tk_store hSw.2).1; have hl := tk_lt hSw.2; go_simp; try (with_reducible rfl))
  try simp only [Act.put, List.setIfInBounds_toArray, List.set_cons_zero, List.set_cons_succ]
  refine' wpAnyD_take (i := 4) (oi := {dst := some 29, op := .fieldAddr 33 (.tmp 28) 0, type := 0, pos := "law.go:107", after := #[{on := 3, ground := .data}], guard := none}) (v := _) rfl (by kernel_rfl) (by kernel_rfl) (by kernel_rfl) (fun _ _ _ h => h) (by kernel_rfl) (Or.inl ⟨by rfl, ?hy4⟩) hS0 ?rest4
  case hy4 => (intro W hSw; go_simp; try (with_reducible rfl))
  try simp only [Act.put, List.setIfInBounds_toArray, List.set_cons_zero, List.set_cons_succ]
  refine' wpAnyD_take (i := 5) (oi := {dst := some 30, op := .load 3 (.tmp 29), type := 3, pos := "law.go:107", after := #[{on := 4, ground := .data}], guard := none}) (v := _) rfl (by kernel_rfl) (by kernel_rfl) (by kernel_rfl) (fun _ _ _ h => h) (by kernel_rfl) (Or.inl ⟨by rfl, ?hy5⟩) hS0 ?rest5
  case hy5 => (intro W hSw; have hc := (tk_store hSw.2).1; have hl := tk_lt hSw.2; go_simp; try (with_reducible rfl))
  try simp only [Act.put, List.setIfInBounds_toArray, List.set_cons_zero, List.set_cons_succ]
  refine wpAnyD_one (i := 1) (o := {dst := some 26, op := .call {callee := .value (.func 29), args := #[.tmp 25], argTypes := #[26]}, type := 3, pos := "law.go:107", after := #[{on := 0, ground := .data}], guard := none}) (by kernel_rfl) rfl (fun K hK => ?_)
  go_simp
  refine (places_any _ (Or.inr ⟨tb, rfl, (HH.out _ hB0).1⟩)).mono ?_
  rintro r w3 ⟨rfl, hw3⟩
  rw [hw3]
  clear hw3
  go_wp2_with fail
  refine hK.out _ _ (fun hD => hS0) ?_
  clear hK K
  try simp only [Act.put, List.setIfInBounds_toArray, List.set_cons_zero, List.set_cons_succ]
  refine' wpAnyD_take (i := 6) (oi := {dst := some 31, op := .binOp .neq 3 (.tmp 26) (.tmp 30) 3, type := 4, pos := "law.go:107", after := #[{on := 1, ground := .data}, {on := 5, ground := .data}], guard := none}) (v := _) rfl (by kernel_rfl) (by kernel_rfl) (by kernel_rfl) (fun _ _ _ h => h) (by kernel_rfl) (Or.inl ⟨by rfl, ?hy7⟩) hS0 ?rest7
  case hy7 => (intro W hSw; go_simp; try (with_reducible rfl))
  try simp only [Act.put, List.setIfInBounds_toArray, List.set_cons_zero, List.set_cons_succ]
  refine wpAnyD_done (by kernel_rfl) ?_ _
  clear hS0
  have HK : Hid (Below Wk.heap.size Wk Wk.drew) := hB0
  clear hB0
  go_wp2_with fail
  go_loopw [7, 8] (fun s7 _ wr => ∃ p : Int, -1 ≤ p ∧ p ≤ (n : Int) + 1 ∧ s7 = .int .i64 p ∧ Hid (Below Wk.heap.size Wk wr)) (fun s7 _ _ => ((n : Int) + 1 - RowKit.intOf s7).toNat)
  case atStart => exact ⟨-1, by omega, by omega, rfl, HK.out⟩
  case round =>
   clear HK
   obtain ⟨p, hp1, hp2, rfl, HK⟩ := hrel
   have ct := (tk_store (HRV.out _ HK.out).2).1
   have lt := tk_lt (HRV.out _ HK.out).2
   by_cases hlt : p ≤ (n : Int)
   ·have hwp : IntKind.i64.wrap (p + 1) = p + 1 := by rw [IntKind.wrap_i64]; omega
    go_wp2_with fail
    clear ct lt
    go_loopw [8] (fun s8 wx => ∃ q : Int, -1 ≤ q ∧ q ≤ (n : Int) + 1 ∧ s8 = .int .i64 q ∧ Hid (Below Wk.heap.size Wk wx)) (fun s8 _ => ((n : Int) + 1 - RowKit.intOf s8).toNat)
    case atStart => exact ⟨-1, by omega, by omega, rfl, HK.out⟩
    case round =>
     clear HK
     obtain ⟨q, hq1, hq2, rfl, HK⟩ := hrel
     have ct := (tk_store (HRV.out _ HK.out).2).1
     have lt := tk_lt (HRV.out _ HK.out).2
     by_cases hlq : q ≤ (n : Int)
     ·have hwq : IntKind.i64.wrap (q + 1) = q + 1 := by rw [IntKind.wrap_i64]; omega
      have hle := fun W hb => (HH.out W hb).le p q (HR.out p q)
      have hrle := fun W hb => (HH.out W hb).rle p q
      have hbl := HR.out p q
      generalize bt n R p q = bl at *
      go_wp2_with fail
      refine (hle _ HK.out).mono ?_
      rintro r w3 ⟨p3, c3, rfl, H3⟩
      have B3 : Hid (Below Wk.heap.size Wk w3) := HK.out.trans (H3.out.2.mono HK.out.size)
      clear ct lt hle
      go_wp2_with fail
      refine (hrle _ B3.out).mono ?_
      rintro r w4 ⟨p4, c4, rfl, H4⟩
      have B4 : Hid (Below Wk.heap.size Wk w4) := B3.out.trans (H4.out.2.mono B3.out.size)
      have hsm := sameP_eq w4 (H3.out.1.below H4.out.2) H4.out.1 (by omega)
      clear hrle B3
      go_wp2_with fail
      refine hsm.mono ?_
      rintro r w5 ⟨rfl, g5⟩
      have B5 : Hid (Below Wk.heap.size Wk w5) := B4.out.trans (g5.below.mono B4.out.size)
      clear hsm B4 H3 H4 g5
      go_wp2
      go_roundw
      case rel => exact ⟨q + 1, by omega, by omega, by first | rfl | go_num, B5.out⟩
      case measure => simp [RowKit.intOf]; omega
     ·have hto := fun W hb => (HH.out W hb).to p hn
      have hrto := fun W hb => (HH.out W hb).rto p hn
      have htl := toL_len n R p n
      have hfr := fun W hb => (HH.out W hb).fr p HR.out HL.out
      have hrfr := fun W hb => (HH.out W hb).rfr p HR.out HL.out
      have hfl := HFB.out p
      generalize toL n R p n = tl at *
      generalize frt (allT n R p l) = fr at *
      go_upto_region 16 with fail
      clear ct lt
      have hB0 : Below Wk.heap.size Wk wr.drew := HK.out.trans ((Gr.refl wr).drew.below.mono HK.out.size)
      have hS0 := HRV.out _ hB0
      refine wp_regionD (S := fun W => W.heap[xb]? = some (.cells #[.int .i64 a, nv, ev, .int .i64 P, .int .i64 Q, .slice ps l.length cs] 67 (0, 0)) ∧ W.heap[rb]? = some (.cells #[.int .i64 (n : Nat), rv] 33 (0, 0))) (D := []) hmx ?_
      refine' wpAnyD_take (i := 0) (oi := {dst := some 58, op := .move (.tmp 3), type := 26, pos := "law.go:116", after := #[], guard := none}) (v := _) rfl (by kernel_rfl) (by kernel_rfl) (by kernel_rfl) (fun _ _ _ h => h) (by kernel_rfl) (Or.inl ⟨by rfl, ?hy8⟩) hS0 ?rest8
      case hy8 => (intro W hSw; go_simp; try (with_reducible rfl))
      try simp only [Act.put, List.setIfInBounds_toArray, List.set_cons_zero, List.set_cons_succ]
      refine' wpAnyD_take (i := 1) (oi := {dst := some 59, op := .move (.tmp 7), type := 3, pos := "law.go:116", after := #[], guard := none}) (v := _) rfl (by kernel_rfl) (by kernel_rfl) (by kernel_rfl) (fun _ _ _ h => h) (by kernel_rfl) (Or.inl ⟨by rfl, ?hy9⟩) hS0 ?rest9
      case hy9 => (intro W hSw; go_simp; try (with_reducible rfl))
      try simp only [Act.put, List.setIfInBounds_toArray, List.set_cons_zero, List.set_cons_succ]
      refine' wpAnyD_take (i := 3) (oi := {dst := some 61, op := .move (.tmp 4), type := 27, pos := "law.go:116", after := #[], guard := none}) (v := _) rfl (by kernel_rfl) (by kernel_rfl) (by kernel_rfl) (fun _ _ _ h => h) (by kernel_rfl) (Or.inl ⟨by rfl, ?hy10⟩) hS0 ?rest10
      case hy10 => (intro W hSw; go_simp; try (with_reducible rfl))
      try simp only [Act.put, List.setIfInBounds_toArray, List.set_cons_zero, List.set_cons_succ]
      refine' wpAnyD_take (i := 4) (oi := {dst := some 62, op := .move (.tmp 7), type := 3, pos := "law.go:116", after := #[], guard := none}) (v := _) rfl (by kernel_rfl) (by kernel_rfl) (by kernel_rfl) (fun _ _ _ h => h) (by kernel_rfl) (Or.inl ⟨by rfl, ?hy11⟩) hS0 ?rest11
      case hy11 => (intro W hSw; go_simp; try (with_reducible rfl))
      try simp only [Act.put, List.setIfInBounds_toArray, List.set_cons_zero, List.set_cons_succ]
      refine wpAnyD_one (i := 2) (o := {dst := some 60, op := .call {callee := .value (.func 24), args := #[.tmp 58, .tmp 59], argTypes := #[26, 3]}, type := 59, pos := "law.go:116", after := #[{on := 0, ground := .data}, {on := 1, ground := .data}], guard := none}) (by kernel_rfl) rfl (fun K hK => ?_)
      go_simp
      refine (hto _ hB0).mono ?_
      rintro r w3 ⟨p3, c3, rfl, H3⟩
      have Bw3 : Below Wk.heap.size Wk w3 := hB0.trans (H3.out.2.mono hB0.size)
      go_wp2_with fail
      refine hK.out _ _ (fun hD => (HRV.out _ Bw3)) ?_
      clear hK K
      try simp only [Act.put, List.setIfInBounds_toArray, List.set_cons_zero, List.set_cons_succ]
      refine wpAnyD_one (i := 5) (o := {dst := some 63, op := .call {callee := .value (.func 26), args := #[.tmp 61, .tmp 62], argTypes := #[27, 3]}, type := 59, pos := "law.go:116", after := #[{on := 3, ground := .data}, {on := 4, ground := .data}, {on := 2, ground := .chain}], guard := none}) (by kernel_rfl) rfl (fun K hK => ?_)
      go_simp
      refine (hrto _ Bw3).mono ?_
      rintro r w4 ⟨p4, c4, rfl, H4⟩
      have Bw4 : Below Wk.heap.size Wk w4 := Bw3.trans (H4.out.2.mono Bw3.size)
      go_wp2_with fail
      refine hK.out _ _ (fun hD => (HRV.out _ Bw4)) ?_
      clear hK K
      try simp only [Act.put, List.setIfInBounds_toArray, List.set_cons_zero, List.set_cons_succ]
      refine wpAnyD_one (i := 6) (o := {dst := some 64, op := .call {callee := .value (.func 28), args := #[.tmp 60, .tmp 63], argTypes := #[59, 59]}, type := 4, pos := "law.go:116", after := #[{on := 2, ground := .data}, {on := 5, ground := .data}, {on := 5, ground := .chain}], guard := none}) (by kernel_rfl) rfl (fun K hK => ?_)
      go_simp
      refine (sameI_eq w4 (H3.out.1.below H4.out.2) H4.out.1 (by omega)).mono ?_
      rintro r w5 ⟨rfl, g5⟩
      have Bw5 : Below Wk.heap.size Wk w5 := Bw4.trans (g5.below.mono Bw4.size)
      go_wp2_with fail
      refine hK.out _ _ (fun hD => (HRV.out _ Bw5)) ?_
      clear hK K
      try simp only [Act.put, List.setIfInBounds_toArray, List.set_cons_zero, List.set_cons_succ]
      refine' wpAnyD_take (i := 7) (oi := {dst := some 65, op := .unOp .not 4 (.tmp 64), type := 4, pos := "law.go:116", after := #[{on := 6, ground := .data}], guard := none}) (v := _) rfl (by kernel_rfl) (by kernel_rfl) (by kernel_rfl) (fun _ _ _ h => h) (by kernel_rfl) (Or.inl ⟨by rfl, ?hy15⟩) (HRV.out _ Bw5) ?rest15
      case hy15 => (intro W hSw; go_simp; try (with_reducible rfl))
      try simp only [Act.put, List.setIfInBounds_toArray, List.set_cons_zero, List.set_cons_succ]
      refine' wpAnyD_take (i := 8) (oi := {dst := some 66, op := .move (.tmp 65), type := 4, pos := "law.go:116", after := #[{on := 7, ground := .data}, {on := 6, ground := .chain}], guard := none}) (v := _) rfl (by kernel_rfl) (by kernel_rfl) (by kernel_rfl) (fun _ _ _ h => h) (by kernel_rfl) (Or.inl ⟨by rfl, ?hy16⟩) (HRV.out _ Bw5) ?rest16
      case hy16 => (intro W hSw; go_simp; try (with_reducible rfl))
      try simp only [Act.put, List.setIfInBounds_toArray, List.set_cons_zero, List.set_cons_succ]
      refine' wpAnyD_take (i := 9) (oi := {dst := some 67, op := .move (.tmp 3), type := 26, pos := "law.go:116", after := #[{on := 8, ground := .guard}], guard := some (8, false)}) (v := _) rfl (by kernel_rfl) (by kernel_rfl) (by kernel_rfl) (fun _ _ _ h => h) (by kernel_rfl) (Or.inl ⟨by rfl, ?hy17⟩) (HRV.out _ Bw5) ?rest17
      case hy17 => (intro W hSw; go_simp; try (with_reducible rfl))
      try simp only [Act.put, List.setIfInBounds_toArray, List.set_cons_zero, List.set_cons_succ]
      refine' wpAnyD_take (i := 10) (oi := {dst := some 68, op := .move (.tmp 7), type := 3, pos := "law.go:116", after := #[{on := 8, ground := .guard}], guard := some (8, false)}) (v := _) rfl (by kernel_rfl) (by kernel_rfl) (by kernel_rfl) (fun _ _ _ h => h) (by kernel_rfl) (Or.inl ⟨by rfl, ?hy18⟩) (HRV.out _ Bw5) ?rest18
      case hy18 => (intro W hSw; go_simp; try (with_reducible rfl))
      try simp only [Act.put, List.setIfInBounds_toArray, List.set_cons_zero, List.set_cons_succ]
      refine' wpAnyD_take (i := 11) (oi := {dst := some 69, op := .fieldAddr 67 (.tmp 1) 3, type := 0, pos := "law.go:116", after := #[{on := 8, ground := .guard}], guard := some (8, false)}) (v := _) rfl (by kernel_rfl) (by kernel_rfl) (by kernel_rfl) (fun _ _ _ h => h) (by kernel_rfl) (Or.inl ⟨by rfl, ?hy19⟩) (HRV.out _ Bw5) ?rest19
      case hy19 => (intro W hSw; go_simp; try (with_reducible rfl))
      try simp only [Act.put, List.setIfInBounds_toArray, List.set_cons_zero, List.set_cons_succ]
      refine' wpAnyD_take (i := 12) (oi := {dst := some 70, op := .load 49 (.tmp 69), type := 49, pos := "law.go:116", after := #[{on := 11, ground := .data}, {on := 8, ground := .guard}], guard := some (8, false)}) (v := _) rfl (by kernel_rfl) (by kernel_rfl) (by kernel_rfl) (fun _ _ _ h => h) (by kernel_rfl) (Or.inl ⟨by rfl, ?hy20⟩) (HRV.out _ Bw5) ?rest20
      case hy20 => (intro W hSw; have hc := (tk_store hSw.1).1; have hl := tk_lt hSw.1; go_simp; try (with_reducible rfl))
      try simp only [Act.put, List.setIfInBounds_toArray, List.set_cons_zero, List.set_cons_succ]
      refine' wpAnyD_take (i := 14) (oi := {dst := some 72, op := .move (.tmp 4), type := 27, pos := "law.go:116", after := #[{on := 8, ground := .guard}], guard := some (8, false)}) (v := _) rfl (by kernel_rfl) (by kernel_rfl) (by kernel_rfl) (fun _ _ _ h => h) (by kernel_rfl) (Or.inl ⟨by rfl, ?hy21⟩) (HRV.out _ Bw5) ?rest21
      case hy21 => (intro W hSw; go_simp; try (with_reducible rfl))
      try simp only [Act.put, List.setIfInBounds_toArray, List.set_cons_zero, List.set_cons_succ]
      refine' wpAnyD_take (i := 15) (oi := {dst := some 73, op := .move (.tmp 7), type := 3, pos := "law.go:116", after := #[{on := 8, ground := .guard}], guard := some (8, false)}) (v := _) rfl (by kernel_rfl) (by kernel_rfl) (by kernel_rfl) (fun _ _ _ h => h) (by kernel_rfl) (Or.inl ⟨by rfl, ?hy22⟩) (HRV.out _ Bw5) ?rest22
      case hy22 => (intro W hSw; go_simp; try (with_reducible rfl))
      try simp only [Act.put, List.setIfInBounds_toArray, List.set_cons_zero, List.set_cons_succ]
      refine' wpAnyD_take (i := 16) (oi := {dst := some 74, op := .fieldAddr 67 (.tmp 1) 3, type := 0, pos := "law.go:116", after := #[{on := 8, ground := .guard}], guard := some (8, false)}) (v := _) rfl (by kernel_rfl) (by kernel_rfl) (by kernel_rfl) (fun _ _ _ h => h) (by kernel_rfl) (Or.inl ⟨by rfl, ?hy23⟩) (HRV.out _ Bw5) ?rest23
      case hy23 => (intro W hSw; go_simp; try (with_reducible rfl))
      try simp only [Act.put, List.setIfInBounds_toArray, List.set_cons_zero, List.set_cons_succ]
      refine' wpAnyD_take (i := 17) (oi := {dst := some 75, op := .load 49 (.tmp 74), type := 49, pos := "law.go:116", after := #[{on := 16, ground := .data}, {on := 8, ground := .guard}], guard := some (8, false)}) (v := _) rfl (by kernel_rfl) (by kernel_rfl) (by kernel_rfl) (fun _ _ _ h => h) (by kernel_rfl) (Or.inl ⟨by rfl, ?hy24⟩) (HRV.out _ Bw5) ?rest24
      case hy24 => (intro W hSw; have hc := (tk_store hSw.1).1; have hl := tk_lt hSw.1; go_simp; try (with_reducible rfl))
      try simp only [Act.put, List.setIfInBounds_toArray, List.set_cons_zero, List.set_cons_succ]
      refine wpAnyD_one (i := 13) (o := {dst := some 71, op := .call {callee := .value (.func 19), args := #[.tmp 67, .tmp 68, .tmp 70], argTypes := #[26, 3, 49]}, type := 55, pos := "law.go:116", after := #[{on := 9, ground := .data}, {on := 10, ground := .data}, {on := 12, ground := .data}, {on := 8, ground := .chain}, {on := 8, ground := .guard}], guard := some (8, false)}) (by kernel_rfl) rfl (fun K hK => ?_)
      rw [if_pos (by kernel_rfl)]
      go_simp
      refine (hfr _ Bw5).mono ?_
      rintro r w6 ⟨p6, c6, rfl, H6⟩
      have Bw6 : Below Wk.heap.size Wk w6 := Bw5.trans (H6.out.2.mono Bw5.size)
      go_wp2_with fail
      refine hK.out _ _ (fun hD => (HRV.out _ Bw6)) ?_
      clear hK K
      try simp only [Act.put, List.setIfInBounds_toArray, List.set_cons_zero, List.set_cons_succ]
      refine wpAnyD_one (i := 18) (o := {dst := some 76, op := .call {callee := .value (.func 27), args := #[.tmp 72, .tmp 73, .tmp 75], argTypes := #[27, 3, 49]}, type := 55, pos := "law.go:116", after := #[{on := 14, ground := .data}, {on := 15, ground := .data}, {on := 17, ground := .data}, {on := 13, ground := .chain}, {on := 8, ground := .guard}], guard := some (8, false)}) (by kernel_rfl) rfl (fun K hK => ?_)
      rw [if_pos (by kernel_rfl)]
      go_simp
      refine (hrfr _ Bw6).mono ?_
      rintro r w7 ⟨p7, c7, rfl, H7⟩
      have Bw7 : Below Wk.heap.size Wk w7 := Bw6.trans (H7.out.2.mono Bw6.size)
      go_wp2_with fail
      refine hK.out _ _ (fun hD => (HRV.out _ Bw7)) ?_
      clear hK K
      try simp only [Act.put, List.setIfInBounds_toArray, List.set_cons_zero, List.set_cons_succ]
      refine wpAnyD_one (i := 19) (o := {dst := some 77, op := .call {callee := .value (.func 22), args := #[.tmp 71, .tmp 76], argTypes := #[55, 55]}, type := 4, pos := "law.go:116", after := #[{on := 13, ground := .data}, {on := 18, ground := .data}, {on := 18, ground := .chain}, {on := 8, ground := .guard}], guard := some (8, false)}) (by kernel_rfl) rfl (fun K hK => ?_)
      rw [if_pos (by kernel_rfl)]
      go_simp
      refine (sameT_eq w7 (H6.out.1.below H7.out.2) H7.out.1 hfl).mono ?_
      rintro r w8 ⟨rfl, g8⟩
      have Bw8 : Below Wk.heap.size Wk w8 := Bw7.trans (g8.below.mono Bw7.size)
      go_wp2_with fail
      refine hK.out _ _ (fun hD => (HRV.out _ Bw8)) ?_
      clear hK K
      try simp only [Act.put, List.setIfInBounds_toArray, List.set_cons_zero, List.set_cons_succ]
      refine' wpAnyD_take (i := 20) (oi := {dst := some 78, op := .unOp .not 4 (.tmp 77), type := 4, pos := "law.go:116", after := #[{on := 19, ground := .data}, {on := 8, ground := .guard}], guard := some (8, false)}) (v := _) rfl (by kernel_rfl) (by kernel_rfl) (by kernel_rfl) (fun _ _ _ h => h) (by kernel_rfl) (Or.inl ⟨by rfl, ?hy28⟩) (HRV.out _ Bw8) ?rest28
      case hy28 => (intro W hSw; go_simp; try (with_reducible rfl))
      try simp only [Act.put, List.setIfInBounds_toArray, List.set_cons_zero, List.set_cons_succ]
      refine' wpAnyD_take (i := 21) (oi := {dst := some 79, op := .pick (.tmp 66) (.const (.bool true)) (.tmp 78), type := 4, pos := "law.go:116", after := #[{on := 8, ground := .data}, {on := 20, ground := .data}], guard := none}) (v := _) rfl (by kernel_rfl) (by kernel_rfl) (by kernel_rfl) (fun _ _ _ h => h) (by kernel_rfl) (Or.inl ⟨by rfl, ?hy29⟩) (HRV.out _ Bw8) ?rest29
      case hy29 => (intro W hSw; go_simp; try (with_reducible rfl))
      try simp only [Act.put, List.setIfInBounds_toArray, List.set_cons_zero, List.set_cons_succ]
      refine wpAnyD_done (by kernel_rfl) ?_ _
      have HK8 : Hid (Below Wk.heap.size Wk w8) := Bw8
      clear Bw8 Bw7 Bw6 Bw5 Bw4 Bw3 hB0 hS0 hto hrto hfr hrfr H3 H4 H6 H7 g5 g8
      go_wp2
      go_roundw
      case rel => exact ⟨p + 1, by omega, by omega, by first | rfl | go_num, HK8.out⟩
      case measure => simp [RowKit.intOf]; omega
   ·go_wp2_with fail
    clear ct lt
    go_loopw [9, 10] (fun s9 _ wx => ∃ i : Nat, i ≤ 30 ∧ i ≤ l.length ∧ s9 = .int .i64 i ∧ Hid (Below Wk.heap.size Wk wx)) (fun s9 _ _ => 30 - (RowKit.intOf s9).toNat)
    case atStart => exact ⟨0, by omega, by omega, rfl, HK.out⟩
    case round =>
     clear HK
     obtain ⟨i, hi, hi2, rfl, HK⟩ := hrel
     have cx := (tk_store (HRV.out _ HK.out).1).1
     have lx := tk_lt (HRV.out _ HK.out).1
     by_cases hil : i < l.length ∧ i < 30
     ·have hilz : (i : Int) < (l.length : Int) := by omega
      have hil3 : (i : Int) < 30 := by omega
      go_wp2_with fail
      clear cx lx
      go_loopw [10] (fun s10 wx => ∃ j : Nat, j ≤ 30 ∧ j ≤ l.length ∧ s10 = .int .i64 j ∧ Hid (Below Wk.heap.size Wk wx)) (fun s10 _ => 30 - (RowKit.intOf s10).toNat)
      case atStart => exact ⟨0, by omega, by omega, rfl, HK.out⟩
      case round =>
       clear HK
       obtain ⟨j, hj, hj2, rfl, HK⟩ := hrel
       have cx := (tk_store (HRV.out _ HK.out).1).1
       have lx := tk_lt (HRV.out _ HK.out).1
       by_cases hjl : j < l.length ∧ j < 30
       ·have hjlz : (j : Int) < (l.length : Int) := by omega
        have hjl3 : (j : Int) < 30 := by omega
        have hi0 : (0 : Int) ≤ (i : Int) := by omega
        have hj0 : (0 : Int) ≤ (j : Int) := by omega
        obtain ⟨s, hs⟩ : ∃ s, l[i]? = some s := ⟨l[i]'(by omega), by simp⟩
        obtain ⟨u, hu⟩ : ∃ u, l[j]? = some u := ⟨l[j]'(by omega), by simp⟩
        obtain ⟨b1, o1, c1, hv1, hb1, s0, s1, s2, s3⟩ := EF_at ((HH.out _ HK.out).2.2.1.ls hs) hs
        obtain ⟨b2, o2, c2, hv2, hb2, u0, u1, u2, u3⟩ := EF_at ((HH.out _ HK.out).2.2.1.ls hu) hu
        simp only [Value.slice.injEq] at hv1 hv2
        obtain ⟨rfl, -, rfl⟩ := hv1
        simp only [Option.some.injEq, Addr.mk.injEq, and_true] at hv2
        obtain ⟨⟨rfl, rfl⟩, -⟩ := hv2
        have hco := fun W hb => could_any s u W (Or.inr ⟨tb, rfl, (HH.out W hb).1⟩) (HH.out W hb).2.2.2 (HR.out s.1 u.1)
        have hrco := fun W hb => rcould_any s u W (HH.out W hb).2.1 (HH.out W hb).2.2.2 HR.out
        generalize (bt n R s.1 u.1).any (cldP s.2 u.2) = cb at *
        have HSE : Hid (∀ W, Below wr.heap.size wr W → W.heap[xb]? = some (.cells #[.int .i64 a, nv, ev, .int .i64 P, .int .i64 Q, .slice (some ⟨b1, o1, none⟩) l.length cs] 67 (0, 0)) ∧ (W.cell? ⟨b1, o1 + i * 4, none⟩ = some (.int .i64 s.1) ∧ W.cell? ⟨b1, o1 + i * 4 + 1, none⟩ = some (.int .u64 s.2.1.1) ∧ W.cell? ⟨b1, o1 + i * 4 + 2, none⟩ = some (.int .u64 s.2.1.2.1) ∧ W.cell? ⟨b1, o1 + i * 4 + 3, none⟩ = some (.int .u64 s.2.1.2.2)) ∧ (W.cell? ⟨b1, o1 + j * 4, none⟩ = some (.int .i64 u.1) ∧ W.cell? ⟨b1, o1 + j * 4 + 1, none⟩ = some (.int .u64 u.2.1.1) ∧ W.cell? ⟨b1, o1 + j * 4 + 2, none⟩ = some (.int .u64 u.2.1.2.1) ∧ W.cell? ⟨b1, o1 + j * 4 + 3, none⟩ = some (.int .u64 u.2.1.2.2)) ∧ b1 < W.heap.size) := fun W hb => ⟨(HRV.out W (HK.out.trans (hb.mono HK.out.size))).1, ⟨(hb.cell (p := ⟨b1, o1 + i * 4, none⟩) hb1).trans s0, (hb.cell (p := ⟨b1, o1 + i * 4 + 1, none⟩) hb1).trans s1, (hb.cell (p := ⟨b1, o1 + i * 4 + 2, none⟩) hb1).trans s2, (hb.cell (p := ⟨b1, o1 + i * 4 + 3, none⟩) hb1).trans s3⟩, ⟨(hb.cell (p := ⟨b1, o1 + j * 4, none⟩) hb1).trans u0, (hb.cell (p := ⟨b1, o1 + j * 4 + 1, none⟩) hb1).trans u1, (hb.cell (p := ⟨b1, o1 + j * 4 + 2, none⟩) hb1).trans u2, (hb.cell (p := ⟨b1, o1 + j * 4 + 3, none⟩) hb1).trans u3⟩, Nat.lt_of_lt_of_le hb1 hb.size⟩
        clear hs hu s0 s1 s2 s3 u0 u1 u2 u3 hb2
        go_upto_region 24 with fail
        clear cx lx
        have hB0 : Below wr.heap.size wr wr.drew := (Gr.refl wr).drew.below
        have hS0 := HSE.out _ hB0
        refine wp_regionD (S := fun W => W.heap[xb]? = some (.cells #[.int .i64 a, nv, ev, .int .i64 P, .int .i64 Q, .slice (some ⟨b1, o1, none⟩) l.length cs] 67 (0, 0)) ∧ (W.cell? ⟨b1, o1 + i * 4, none⟩ = some (.int .i64 s.1) ∧ W.cell? ⟨b1, o1 + i * 4 + 1, none⟩ = some (.int .u64 s.2.1.1) ∧ W.cell? ⟨b1, o1 + i * 4 + 2, none⟩ = some (.int .u64 s.2.1.2.1) ∧ W.cell? ⟨b1, o1 + i * 4 + 3, none⟩ = some (.int .u64 s.2.1.2.2)) ∧ (W.cell? ⟨b1, o1 + j * 4, none⟩ = some (.int .i64 u.1) ∧ W.cell? ⟨b1, o1 + j * 4 + 1, none⟩ = some (.int .u64 u.2.1.1) ∧ W.cell? ⟨b1, o1 + j * 4 + 2, none⟩ = some (.int .u64 u.2.1.2.1) ∧ W.cell? ⟨b1, o1 + j * 4 + 3, none⟩ = some (.int .u64 u.2.1.2.2)) ∧ b1 < W.heap.size) (D := []) hmx ?_
        refine' wpAnyD_take (i := 0) (oi := {dst := some 102, op := .move (.tmp 3), type := 26, pos := "law.go:122", after := #[], guard := none}) (v := _) rfl (by kernel_rfl) (by kernel_rfl) (by kernel_rfl) (fun _ _ _ h => h) (by kernel_rfl) (Or.inl ⟨by rfl, ?hy30⟩) hS0 ?rest30
        case hy30 => (intro W hSw; go_simp; try (with_reducible rfl))
        try simp only [Act.put, List.setIfInBounds_toArray, List.set_cons_zero, List.set_cons_succ]
        refine' wpAnyD_take (i := 1) (oi := {dst := some 103, op := .fieldAddr 67 (.tmp 1) 3, type := 0, pos := "law.go:122", after := #[], guard := none}) (v := _) rfl (by kernel_rfl) (by kernel_rfl) (by kernel_rfl) (fun _ _ _ h => h) (by kernel_rfl) (Or.inl ⟨by rfl, ?hy31⟩) hS0 ?rest31
        case hy31 => (intro W hSw; go_simp; try (with_reducible rfl))
        try simp only [Act.put, List.setIfInBounds_toArray, List.set_cons_zero, List.set_cons_succ]
        refine' wpAnyD_take (i := 2) (oi := {dst := some 104, op := .load 49 (.tmp 103), type := 49, pos := "law.go:122", after := #[{on := 1, ground := .data}], guard := none}) (v := _) rfl (by kernel_rfl) (by kernel_rfl) (by kernel_rfl) (fun _ _ _ h => h) (by kernel_rfl) (Or.inl ⟨by rfl, ?hy32⟩) hS0 ?rest32
        case hy32 => (intro W hSw; have hc := (tk_store hSw.1).1; have hl := tk_lt hSw.1; go_simp; try (with_reducible rfl))
        try simp only [Act.put, List.setIfInBounds_toArray, List.set_cons_zero, List.set_cons_succ]
        refine' wpAnyD_take (i := 3) (oi := {dst := some 105, op := .move (.tmp 9), type := 3, pos := "law.go:122", after := #[], guard := none}) (v := _) rfl (by kernel_rfl) (by kernel_rfl) (by kernel_rfl) (fun _ _ _ h => h) (by kernel_rfl) (Or.inl ⟨by rfl, ?hy33⟩) hS0 ?rest33
        case hy33 => (intro W hSw; go_simp; try (with_reducible rfl))
        try simp only [Act.put, List.setIfInBounds_toArray, List.set_cons_zero, List.set_cons_succ]
        refine' wpAnyD_take (i := 4) (oi := {dst := some 106, op := .indexAddr 49 (.tmp 104) (.tmp 105), type := 0, pos := "law.go:122", after := #[{on := 2, ground := .data}, {on := 3, ground := .data}], guard := none}) (v := _) rfl (by kernel_rfl) (by kernel_rfl) (by kernel_rfl) (fun _ _ _ h => h) (by kernel_rfl) (Or.inl ⟨by rfl, ?hy34⟩) hS0 ?rest34
        case hy34 => (intro W hSw; go_simp; try (with_reducible rfl))
        try simp only [Act.put, List.setIfInBounds_toArray, List.set_cons_zero, List.set_cons_succ]
        refine' wpAnyD_take (i := 5) (oi := {dst := some 107, op := .load 52 (.tmp 106), type := 52, pos := "law.go:122", after := #[{on := 4, ground := .data}], guard := none}) (v := _) rfl (by kernel_rfl) (by kernel_rfl) (by kernel_rfl) (fun _ _ _ h => h) (by kernel_rfl) (Or.inl ⟨by rfl, ?hy35⟩) hS0 ?rest35
        case hy35 => (intro W hSw; obtain ⟨_, ⟨t0, t1, t2, t3⟩, ⟨v0, v1, v2, v3⟩, hl⟩ := hSw; go_simp; try (with_reducible rfl))
        try simp only [Act.put, List.setIfInBounds_toArray, List.set_cons_zero, List.set_cons_succ]
        refine' wpAnyD_take (i := 6) (oi := {dst := some 108, op := .fieldAddr 67 (.tmp 1) 3, type := 0, pos := "law.go:122", after := #[], guard := none}) (v := _) rfl (by kernel_rfl) (by kernel_rfl) (by kernel_rfl) (fun _ _ _ h => h) (by kernel_rfl) (Or.inl ⟨by rfl, ?hy36⟩) hS0 ?rest36
        case hy36 => (intro W hSw; go_simp; try (with_reducible rfl))
        try simp only [Act.put, List.setIfInBounds_toArray, List.set_cons_zero, List.set_cons_succ]
        refine' wpAnyD_take (i := 7) (oi := {dst := some 109, op := .load 49 (.tmp 108), type := 49, pos := "law.go:122", after := #[{on := 6, ground := .data}], guard := none}) (v := _) rfl (by kernel_rfl) (by kernel_rfl) (by kernel_rfl) (fun _ _ _ h => h) (by kernel_rfl) (Or.inl ⟨by rfl, ?hy37⟩) hS0 ?rest37
        case hy37 => (intro W hSw; have hc := (tk_store hSw.1).1; have hl := tk_lt hSw.1; go_simp; try (with_reducible rfl))
        try simp only [Act.put, List.setIfInBounds_toArray, List.set_cons_zero, List.set_cons_succ]
        refine' wpAnyD_take (i := 8) (oi := {dst := some 110, op := .move (.tmp 10), type := 3, pos := "law.go:122", after := #[], guard := none}) (v := _) rfl (by kernel_rfl) (by kernel_rfl) (by kernel_rfl) (fun _ _ _ h => h) (by kernel_rfl) (Or.inl ⟨by rfl, ?hy38⟩) hS0 ?rest38
        case hy38 => (intro W hSw; go_simp; try (with_reducible rfl))
        try simp only [Act.put, List.setIfInBounds_toArray, List.set_cons_zero, List.set_cons_succ]
        refine' wpAnyD_take (i := 9) (oi := {dst := some 111, op := .indexAddr 49 (.tmp 109) (.tmp 110), type := 0, pos := "law.go:122", after := #[{on := 7, ground := .data}, {on := 8, ground := .data}], guard := none}) (v := _) rfl (by kernel_rfl) (by kernel_rfl) (by kernel_rfl) (fun _ _ _ h => h) (by kernel_rfl) (Or.inl ⟨by rfl, ?hy39⟩) hS0 ?rest39
        case hy39 => (intro W hSw; go_simp; try (with_reducible rfl))
        try simp only [Act.put, List.setIfInBounds_toArray, List.set_cons_zero, List.set_cons_succ]
        refine' wpAnyD_take (i := 10) (oi := {dst := some 112, op := .load 52 (.tmp 111), type := 52, pos := "law.go:122", after := #[{on := 9, ground := .data}], guard := none}) (v := _) rfl (by kernel_rfl) (by kernel_rfl) (by kernel_rfl) (fun _ _ _ h => h) (by kernel_rfl) (Or.inl ⟨by rfl, ?hy40⟩) hS0 ?rest40
        case hy40 => (intro W hSw; obtain ⟨_, ⟨t0, t1, t2, t3⟩, ⟨v0, v1, v2, v3⟩, hl⟩ := hSw; go_simp; try (with_reducible rfl))
        try simp only [Act.put, List.setIfInBounds_toArray, List.set_cons_zero, List.set_cons_succ]
        refine' wpAnyD_take (i := 12) (oi := {dst := some 114, op := .move (.tmp 4), type := 27, pos := "law.go:122", after := #[], guard := none}) (v := _) rfl (by kernel_rfl) (by kernel_rfl) (by kernel_rfl) (fun _ _ _ h => h) (by kernel_rfl) (Or.inl ⟨by rfl, ?hy41⟩) hS0 ?rest41
        case hy41 => (intro W hSw; go_simp; try (with_reducible rfl))
        try simp only [Act.put, List.setIfInBounds_toArray, List.set_cons_zero, List.set_cons_succ]
        refine' wpAnyD_take (i := 13) (oi := {dst := some 115, op := .fieldAddr 67 (.tmp 1) 3, type := 0, pos := "law.go:122", after := #[], guard := none}) (v := _) rfl (by kernel_rfl) (by kernel_rfl) (by kernel_rfl) (fun _ _ _ h => h) (by kernel_rfl) (Or.inl ⟨by rfl, ?hy42⟩) hS0 ?rest42
        case hy42 => (intro W hSw; go_simp; try (with_reducible rfl))
        try simp only [Act.put, List.setIfInBounds_toArray, List.set_cons_zero, List.set_cons_succ]
        refine' wpAnyD_take (i := 14) (oi := {dst := some 116, op := .load 49 (.tmp 115), type := 49, pos := "law.go:122", after := #[{on := 13, ground := .data}], guard := none}) (v := _) rfl (by kernel_rfl) (by kernel_rfl) (by kernel_rfl) (fun _ _ _ h => h) (by kernel_rfl) (Or.inl ⟨by rfl, ?hy43⟩) hS0 ?rest43
        case hy43 => (intro W hSw; have hc := (tk_store hSw.1).1; have hl := tk_lt hSw.1; go_simp; try (with_reducible rfl))
        try simp only [Act.put, List.setIfInBounds_toArray, List.set_cons_zero, List.set_cons_succ]
        refine' wpAnyD_take (i := 15) (oi := {dst := some 117, op := .move (.tmp 9), type := 3, pos := "law.go:122", after := #[], guard := none}) (v := _) rfl (by kernel_rfl) (by kernel_rfl) (by kernel_rfl) (fun _ _ _ h => h) (by kernel_rfl) (Or.inl ⟨by rfl, ?hy44⟩) hS0 ?rest44
        case hy44 => (intro W hSw; go_simp; try (with_reducible rfl))
        try simp only [Act.put, List.setIfInBounds_toArray, List.set_cons_zero, List.set_cons_succ]
        refine' wpAnyD_take (i := 16) (oi := {dst := some 118, op := .indexAddr 49 (.tmp 116) (.tmp 117), type := 0, pos := "law.go:122", after := #[{on := 14, ground := .data}, {on := 15, ground := .data}], guard := none}) (v := _) rfl (by kernel_rfl) (by kernel_rfl) (by kernel_rfl) (fun _ _ _ h => h) (by kernel_rfl) (Or.inl ⟨by rfl, ?hy45⟩) hS0 ?rest45
        case hy45 => (intro W hSw; go_simp; try (with_reducible rfl))
        try simp only [Act.put, List.setIfInBounds_toArray, List.set_cons_zero, List.set_cons_succ]
        refine' wpAnyD_take (i := 17) (oi := {dst := some 119, op := .load 52 (.tmp 118), type := 52, pos := "law.go:122", after := #[{on := 16, ground := .data}], guard := none}) (v := _) rfl (by kernel_rfl) (by kernel_rfl) (by kernel_rfl) (fun _ _ _ h => h) (by kernel_rfl) (Or.inl ⟨by rfl, ?hy46⟩) hS0 ?rest46
        case hy46 => (intro W hSw; obtain ⟨_, ⟨t0, t1, t2, t3⟩, ⟨v0, v1, v2, v3⟩, hl⟩ := hSw; go_simp; try (with_reducible rfl))
        try simp only [Act.put, List.setIfInBounds_toArray, List.set_cons_zero, List.set_cons_succ]
        refine' wpAnyD_take (i := 18) (oi := {dst := some 120, op := .fieldAddr 67 (.tmp 1) 3, type := 0, pos := "law.go:122", after := #[], guard := none}) (v := _) rfl (by kernel_rfl) (by kernel_rfl) (by kernel_rfl) (fun _ _ _ h => h) (by kernel_rfl) (Or.inl ⟨by rfl, ?hy47⟩) hS0 ?rest47
        case hy47 => (intro W hSw; go_simp; try (with_reducible rfl))
        try simp only [Act.put, List.setIfInBounds_toArray, List.set_cons_zero, List.set_cons_succ]
        refine' wpAnyD_take (i := 19) (oi := {dst := some 121, op := .load 49 (.tmp 120), type := 49, pos := "law.go:122", after := #[{on := 18, ground := .data}], guard := none}) (v := _) rfl (by kernel_rfl) (by kernel_rfl) (by kernel_rfl) (fun _ _ _ h => h) (by kernel_rfl) (Or.inl ⟨by rfl, ?hy48⟩) hS0 ?rest48
        case hy48 => (intro W hSw; have hc := (tk_store hSw.1).1; have hl := tk_lt hSw.1; go_simp; try (with_reducible rfl))
        try simp only [Act.put, List.setIfInBounds_toArray, List.set_cons_zero, List.set_cons_succ]
        refine' wpAnyD_take (i := 20) (oi := {dst := some 122, op := .move (.tmp 10), type := 3, pos := "law.go:122", after := #[], guard := none}) (v := _) rfl (by kernel_rfl) (by kernel_rfl) (by kernel_rfl) (fun _ _ _ h => h) (by kernel_rfl) (Or.inl ⟨by rfl, ?hy49⟩) hS0 ?rest49
        case hy49 => (intro W hSw; go_simp; try (with_reducible rfl))
        try simp only [Act.put, List.setIfInBounds_toArray, List.set_cons_zero, List.set_cons_succ]
        refine' wpAnyD_take (i := 21) (oi := {dst := some 123, op := .indexAddr 49 (.tmp 121) (.tmp 122), type := 0, pos := "law.go:122", after := #[{on := 19, ground := .data}, {on := 20, ground := .data}], guard := none}) (v := _) rfl (by kernel_rfl) (by kernel_rfl) (by kernel_rfl) (fun _ _ _ h => h) (by kernel_rfl) (Or.inl ⟨by rfl, ?hy50⟩) hS0 ?rest50
        case hy50 => (intro W hSw; go_simp; try (with_reducible rfl))
        try simp only [Act.put, List.setIfInBounds_toArray, List.set_cons_zero, List.set_cons_succ]
        refine' wpAnyD_take (i := 22) (oi := {dst := some 124, op := .load 52 (.tmp 123), type := 52, pos := "law.go:122", after := #[{on := 21, ground := .data}], guard := none}) (v := _) rfl (by kernel_rfl) (by kernel_rfl) (by kernel_rfl) (fun _ _ _ h => h) (by kernel_rfl) (Or.inl ⟨by rfl, ?hy51⟩) hS0 ?rest51
        case hy51 => (intro W hSw; obtain ⟨_, ⟨t0, t1, t2, t3⟩, ⟨v0, v1, v2, v3⟩, hl⟩ := hSw; go_simp; try (with_reducible rfl))
        try simp only [Act.put, List.setIfInBounds_toArray, List.set_cons_zero, List.set_cons_succ]
        refine wpAnyD_one (i := 11) (o := {dst := some 113, op := .call {callee := .value (.func 17), args := #[.tmp 102, .tmp 107, .tmp 112], argTypes := #[26, 52, 52]}, type := 4, pos := "law.go:122", after := #[{on := 0, ground := .data}, {on := 5, ground := .data}, {on := 10, ground := .data}], guard := none}) (by kernel_rfl) rfl (fun K hK => ?_)
        go_simp
        refine (hco _ (HK.out.trans (hB0.mono HK.out.size))).mono ?_
        rintro r w3 ⟨rfl, hb3⟩
        have B3 : Below wr.heap.size wr w3 := hB0.trans (hb3.mono hB0.size)
        go_wp2_with fail
        refine hK.out _ _ (fun hD => (HSE.out _ B3)) ?_
        clear hK K
        try simp only [Act.put, List.setIfInBounds_toArray, List.set_cons_zero, List.set_cons_succ]
        refine wpAnyD_one (i := 23) (o := {dst := some 125, op := .call {callee := .value (.func 30), args := #[.tmp 114, .tmp 119, .tmp 124], argTypes := #[27, 52, 52]}, type := 4, pos := "law.go:122", after := #[{on := 12, ground := .data}, {on := 17, ground := .data}, {on := 22, ground := .data}, {on := 11, ground := .chain}], guard := none}) (by kernel_rfl) rfl (fun K hK => ?_)
        go_simp
        refine (hrco _ (HK.out.trans (B3.mono HK.out.size))).mono ?_
        rintro r w4 ⟨rfl, hb4⟩
        have B4 : Below wr.heap.size wr w4 := B3.trans (hb4.mono B3.size)
        go_wp2_with fail
        refine hK.out _ _ (fun hD => (HSE.out _ B4)) ?_
        clear hK K
        try simp only [Act.put, List.setIfInBounds_toArray, List.set_cons_zero, List.set_cons_succ]
        refine' wpAnyD_take (i := 24) (oi := {dst := some 126, op := .binOp .neq 4 (.tmp 113) (.tmp 125) 4, type := 4, pos := "law.go:122", after := #[{on := 11, ground := .data}, {on := 23, ground := .data}], guard := none}) (v := _) rfl (by kernel_rfl) (by kernel_rfl) (by kernel_rfl) (fun _ _ _ h => h) (by kernel_rfl) (Or.inl ⟨by rfl, ?hy54⟩) (HSE.out _ B4) ?rest54
        case hy54 => (intro W hSw; go_simp; try (with_reducible rfl))
        try simp only [Act.put, List.setIfInBounds_toArray, List.set_cons_zero, List.set_cons_succ]
        refine wpAnyD_done (by kernel_rfl) ?_ _
        have HK4 : Hid (Below Wk.heap.size Wk w4) := HK.out.trans (B4.mono HK.out.size)
        clear B3 B4 hb3 hb4 hB0 hS0 HSE hco hrco hb1
        go_wp2
        go_roundw
        case rel => exact ⟨j + 1, by omega, by omega, by first | rfl | go_num, HK4.out⟩
        case measure => simp [RowKit.intOf]; omega
       ·have HK5 := hid HK.out
        by_cases h1 : j < l.length
        ·have hjlz : (j : Int) < (l.length : Int) := by omega
         have hjl3 : ¬ (j : Int) < 30 := by omega
         go_wp2
         go_roundw
         case rel => exact ⟨i + 1, by omega, by omega, by first | rfl | go_num, HK5.out⟩
         case measure => simp [RowKit.intOf]; omega
        ·have hjlz : ¬ (j : Int) < (l.length : Int) := by omega
         go_wp2
         go_roundw
         case rel => exact ⟨i + 1, by omega, by omega, by first | rfl | go_num, HK5.out⟩
         case measure => simp [RowKit.intOf]; omega
     ·have hle := fun W hb => (HH.out W hb).le P Q (HR.out P Q)
      have hrle := fun W hb => (HH.out W hb).rle P Q
      have hbl := HR.out P Q
      have hto := fun W hb => (HH.out W hb).to P hn
      have hrto := fun W hb => (HH.out W hb).rto P hn
      have htl := toL_len n R P n
      have hfr := fun W hb => (HH.out W hb).fr Q HR.out HL.out
      have hrfr := fun W hb => (HH.out W hb).rfr Q HR.out HL.out
      have hfl := HFB.out Q
      generalize bt n R P Q = bl at *
      generalize toL n R P n = tl at *
      generalize frt (allT n R Q l) = fr at *
      have hB0 : Below Wk.heap.size Wk wr.drew := HK.out.trans ((Gr.refl wr).drew.below.mono HK.out.size)
      have hS0 := HRV.out _ hB0
      have HB0 := hid hB0
      have HS0 := hid hS0
      clear hB0 hS0
      have hcond : ((i : Int) < (l.length : Int) ∧ ¬ (i : Int) < 30) ∨ ¬ (i : Int) < (l.length : Int) := by omega
      rcases hcond with ⟨hilz, hil3⟩ | hilz
      ·go_upto_region 26 with fail
       clear cx lx hilz hil3
       have hB0 := HB0.out
       have hS0 := HS0.out
       refine wp_regionD (S := fun W => W.heap[xb]? = some (.cells #[.int .i64 a, nv, ev, .int .i64 P, .int .i64 Q, .slice ps l.length cs] 67 (0, 0)) ∧ W.heap[rb]? = some (.cells #[.int .i64 (n : Nat), rv] 33 (0, 0))) (D := []) hmx ?_
       refine' wpAnyD_take (i := 0) (oi := {dst := some 127, op := .move (.tmp 3), type := 26, pos := "law.go:127", after := #[], guard := none}) (v := _) rfl (by kernel_rfl) (by kernel_rfl) (by kernel_rfl) (fun _ _ _ h => h) (by kernel_rfl) (Or.inl ⟨by rfl, ?hy55⟩) hS0 ?rest55
       case hy55 => (intro W hSw; go_simp; try (with_reducible rfl))
       try simp only [Act.put, List.setIfInBounds_toArray, List.set_cons_zero, List.set_cons_succ]
       refine' wpAnyD_take (i := 1) (oi := {dst := some 128, op := .fieldAddr 67 (.tmp 1) 1, type := 0, pos := "law.go:127", after := #[], guard := none}) (v := _) rfl (by kernel_rfl) (by kernel_rfl) (by kernel_rfl) (fun _ _ _ h => h) (by kernel_rfl) (Or.inl ⟨by rfl, ?hy56⟩) hS0 ?rest56
       case hy56 => (intro W hSw; go_simp; try (with_reducible rfl))
       try simp only [Act.put, List.setIfInBounds_toArray, List.set_cons_zero, List.set_cons_succ]
       refine' wpAnyD_take (i := 2) (oi := {dst := some 129, op := .load 3 (.tmp 128), type := 3, pos := "law.go:127", after := #[{on := 1, ground := .data}], guard := none}) (v := _) rfl (by kernel_rfl) (by kernel_rfl) (by kernel_rfl) (fun _ _ _ h => h) (by kernel_rfl) (Or.inl ⟨by rfl, ?hy57⟩) hS0 ?rest57
       case hy57 => (intro W hSw; have hc := (tk_store hSw.1).1; have hl := tk_lt hSw.1; go_simp; try (with_reducible rfl))
       try simp only [Act.put, List.setIfInBounds_toArray, List.set_cons_zero, List.set_cons_succ]
       refine' wpAnyD_take (i := 3) (oi := {dst := some 130, op := .fieldAddr 67 (.tmp 1) 2, type := 0, pos := "law.go:127", after := #[], guard := none}) (v := _) rfl (by kernel_rfl) (by kernel_rfl) (by kernel_rfl) (fun _ _ _ h => h) (by kernel_rfl) (Or.inl ⟨by rfl, ?hy58⟩) hS0 ?rest58
       case hy58 => (intro W hSw; go_simp; try (with_reducible rfl))
       try simp only [Act.put, List.setIfInBounds_toArray, List.set_cons_zero, List.set_cons_succ]
       refine' wpAnyD_take (i := 4) (oi := {dst := some 131, op := .load 3 (.tmp 130), type := 3, pos := "law.go:127", after := #[{on := 3, ground := .data}], guard := none}) (v := _) rfl (by kernel_rfl) (by kernel_rfl) (by kernel_rfl) (fun _ _ _ h => h) (by kernel_rfl) (Or.inl ⟨by rfl, ?hy59⟩) hS0 ?rest59
       case hy59 => (intro W hSw; have hc := (tk_store hSw.1).1; have hl := tk_lt hSw.1; go_simp; try (with_reducible rfl))
       try simp only [Act.put, List.setIfInBounds_toArray, List.set_cons_zero, List.set_cons_succ]
       refine' wpAnyD_take (i := 6) (oi := {dst := some 133, op := .move (.tmp 4), type := 27, pos := "law.go:127", after := #[], guard := none}) (v := _) rfl (by kernel_rfl) (by kernel_rfl) (by kernel_rfl) (fun _ _ _ h => h) (by kernel_rfl) (Or.inl ⟨by rfl, ?hy60⟩) hS0 ?rest60
       case hy60 => (intro W hSw; go_simp; try (with_reducible rfl))
       try simp only [Act.put, List.setIfInBounds_toArray, List.set_cons_zero, List.set_cons_succ]
       refine' wpAnyD_take (i := 7) (oi := {dst := some 134, op := .fieldAddr 67 (.tmp 1) 1, type := 0, pos := "law.go:127", after := #[], guard := none}) (v := _) rfl (by kernel_rfl) (by kernel_rfl) (by kernel_rfl) (fun _ _ _ h => h) (by kernel_rfl) (Or.inl ⟨by rfl, ?hy61⟩) hS0 ?rest61
       case hy61 => (intro W hSw; go_simp; try (with_reducible rfl))
       try simp only [Act.put, List.setIfInBounds_toArray, List.set_cons_zero, List.set_cons_succ]
       refine' wpAnyD_take (i := 8) (oi := {dst := some 135, op := .load 3 (.tmp 134), type := 3, pos := "law.go:127", after := #[{on := 7, ground := .data}], guard := none}) (v := _) rfl (by kernel_rfl) (by kernel_rfl) (by kernel_rfl) (fun _ _ _ h => h) (by kernel_rfl) (Or.inl ⟨by rfl, ?hy62⟩) hS0 ?rest62
       case hy62 => (intro W hSw; have hc := (tk_store hSw.1).1; have hl := tk_lt hSw.1; go_simp; try (with_reducible rfl))
       try simp only [Act.put, List.setIfInBounds_toArray, List.set_cons_zero, List.set_cons_succ]
       refine' wpAnyD_take (i := 9) (oi := {dst := some 136, op := .fieldAddr 67 (.tmp 1) 2, type := 0, pos := "law.go:127", after := #[], guard := none}) (v := _) rfl (by kernel_rfl) (by kernel_rfl) (by kernel_rfl) (fun _ _ _ h => h) (by kernel_rfl) (Or.inl ⟨by rfl, ?hy63⟩) hS0 ?rest63
       case hy63 => (intro W hSw; go_simp; try (with_reducible rfl))
       try simp only [Act.put, List.setIfInBounds_toArray, List.set_cons_zero, List.set_cons_succ]
       refine' wpAnyD_take (i := 10) (oi := {dst := some 137, op := .load 3 (.tmp 136), type := 3, pos := "law.go:127", after := #[{on := 9, ground := .data}], guard := none}) (v := _) rfl (by kernel_rfl) (by kernel_rfl) (by kernel_rfl) (fun _ _ _ h => h) (by kernel_rfl) (Or.inl ⟨by rfl, ?hy64⟩) hS0 ?rest64
       case hy64 => (intro W hSw; have hc := (tk_store hSw.1).1; have hl := tk_lt hSw.1; go_simp; try (with_reducible rfl))
       try simp only [Act.put, List.setIfInBounds_toArray, List.set_cons_zero, List.set_cons_succ]
       refine wpAnyD_one (i := 5) (o := {dst := some 132, op := .call {callee := .value (.func 12), args := #[.tmp 127, .tmp 129, .tmp 131], argTypes := #[26, 3, 3]}, type := 35, pos := "law.go:127", after := #[{on := 0, ground := .data}, {on := 2, ground := .data}, {on := 4, ground := .data}], guard := none}) (by kernel_rfl) rfl (fun K hK => ?_)
       go_simp
       refine (hle _ hB0).mono ?_
       rintro r w3 ⟨p3, c3, rfl, H3⟩
       have Bw3 : Below Wk.heap.size Wk w3 := hB0.trans (H3.out.2.mono hB0.size)
       go_wp2_with fail
       refine hK.out _ _ (fun hD => (HRV.out _ Bw3)) ?_
       clear hK K
       try simp only [Act.put, List.setIfInBounds_toArray, List.set_cons_zero, List.set_cons_succ]
       refine wpAnyD_one (i := 11) (o := {dst := some 138, op := .call {callee := .value (.func 25), args := #[.tmp 133, .tmp 135, .tmp 137], argTypes := #[27, 3, 3]}, type := 35, pos := "law.go:127", after := #[{on := 6, ground := .data}, {on := 8, ground := .data}, {on := 10, ground := .data}, {on := 5, ground := .chain}], guard := none}) (by kernel_rfl) rfl (fun K hK => ?_)
       go_simp
       refine (hrle _ Bw3).mono ?_
       rintro r w4 ⟨p4, c4, rfl, H4⟩
       have Bw4 : Below Wk.heap.size Wk w4 := Bw3.trans (H4.out.2.mono Bw3.size)
       go_wp2_with fail
       refine hK.out _ _ (fun hD => (HRV.out _ Bw4)) ?_
       clear hK K
       try simp only [Act.put, List.setIfInBounds_toArray, List.set_cons_zero, List.set_cons_succ]
       refine wpAnyD_one (i := 12) (o := {dst := some 139, op := .call {callee := .value (.func 11), args := #[.tmp 132, .tmp 138], argTypes := #[35, 35]}, type := 4, pos := "law.go:127", after := #[{on := 5, ground := .data}, {on := 11, ground := .data}, {on := 11, ground := .chain}], guard := none}) (by kernel_rfl) rfl (fun K hK => ?_)
       go_simp
       refine (sameP_eq w4 (H3.out.1.below H4.out.2) H4.out.1 (by omega)).mono ?_
       rintro r w5 ⟨rfl, g5⟩
       have Bw5 : Below Wk.heap.size Wk w5 := Bw4.trans (g5.below.mono Bw4.size)
       go_wp2_with fail
       refine hK.out _ _ (fun hD => (HRV.out _ Bw5)) ?_
       clear hK K
       try simp only [Act.put, List.setIfInBounds_toArray, List.set_cons_zero, List.set_cons_succ]
       refine' wpAnyD_take (i := 13) (oi := {dst := some 140, op := .move (.tmp 139), type := 4, pos := "law.go:127", after := #[{on := 12, ground := .data}, {on := 12, ground := .chain}], guard := none}) (v := _) rfl (by kernel_rfl) (by kernel_rfl) (by kernel_rfl) (fun _ _ _ h => h) (by kernel_rfl) (Or.inl ⟨by rfl, ?hy68⟩) (HRV.out _ Bw5) ?rest68
       case hy68 => (intro W hSw; go_simp; try (with_reducible rfl))
       try simp only [Act.put, List.setIfInBounds_toArray, List.set_cons_zero, List.set_cons_succ]
       refine' wpAnyD_take (i := 14) (oi := {dst := some 141, op := .move (.tmp 3), type := 26, pos := "law.go:127", after := #[{on := 13, ground := .guard}], guard := some (13, true)}) (v := _) rfl (by kernel_rfl) (by kernel_rfl) (by kernel_rfl) (fun _ _ _ h => h) (by kernel_rfl) (Or.inl ⟨by rfl, ?hy69⟩) (HRV.out _ Bw5) ?rest69
       case hy69 => (intro W hSw; go_simp; try (with_reducible rfl))
       try simp only [Act.put, List.setIfInBounds_toArray, List.set_cons_zero, List.set_cons_succ]
       refine' wpAnyD_take (i := 15) (oi := {dst := some 142, op := .fieldAddr 67 (.tmp 1) 1, type := 0, pos := "law.go:127", after := #[{on := 13, ground := .guard}], guard := some (13, true)}) (v := _) rfl (by kernel_rfl) (by kernel_rfl) (by kernel_rfl) (fun _ _ _ h => h) (by kernel_rfl) (Or.inl ⟨by rfl, ?hy70⟩) (HRV.out _ Bw5) ?rest70
       case hy70 => (intro W hSw; go_simp; try (with_reducible rfl))
       try simp only [Act.put, List.setIfInBounds_toArray, List.set_cons_zero, List.set_cons_succ]
       refine' wpAnyD_take (i := 16) (oi := {dst := some 143, op := .load 3 (.tmp 142), type := 3, pos := "law.go:127", after := #[{on := 15, ground := .data}, {on := 13, ground := .guard}], guard := some (13, true)}) (v := _) rfl (by kernel_rfl) (by kernel_rfl) (by kernel_rfl) (fun _ _ _ h => h) (by kernel_rfl) (Or.inl ⟨by rfl, ?hy71⟩) (HRV.out _ Bw5) ?rest71
       case hy71 => (intro W hSw; have hc := (tk_store hSw.1).1; have hl := tk_lt hSw.1; go_simp; try (with_reducible rfl))
       try simp only [Act.put, List.setIfInBounds_toArray, List.set_cons_zero, List.set_cons_succ]
       refine' wpAnyD_take (i := 18) (oi := {dst := some 145, op := .move (.tmp 4), type := 27, pos := "law.go:127", after := #[{on := 13, ground := .guard}], guard := some (13, true)}) (v := _) rfl (by kernel_rfl) (by kernel_rfl) (by kernel_rfl) (fun _ _ _ h => h) (by kernel_rfl) (Or.inl ⟨by rfl, ?hy72⟩) (HRV.out _ Bw5) ?rest72
       case hy72 => (intro W hSw; go_simp; try (with_reducible rfl))
       try simp only [Act.put, List.setIfInBounds_toArray, List.set_cons_zero, List.set_cons_succ]
       refine' wpAnyD_take (i := 19) (oi := {dst := some 146, op := .fieldAddr 67 (.tmp 1) 1, type := 0, pos := "law.go:127", after := #[{on := 13, ground := .guard}], guard := some (13, true)}) (v := _) rfl (by kernel_rfl) (by kernel_rfl) (by kernel_rfl) (fun _ _ _ h => h) (by kernel_rfl) (Or.inl ⟨by rfl, ?hy73⟩) (HRV.out _ Bw5) ?rest73
       case hy73 => (intro W hSw; go_simp; try (with_reducible rfl))
       try simp only [Act.put, List.setIfInBounds_toArray, List.set_cons_zero, List.set_cons_succ]
       refine' wpAnyD_take (i := 20) (oi := {dst := some 147, op := .load 3 (.tmp 146), type := 3, pos := "law.go:127", after := #[{on := 19, ground := .data}, {on := 13, ground := .guard}], guard := some (13, true)}) (v := _) rfl (by kernel_rfl) (by kernel_rfl) (by kernel_rfl) (fun _ _ _ h => h) (by kernel_rfl) (Or.inl ⟨by rfl, ?hy74⟩) (HRV.out _ Bw5) ?rest74
       case hy74 => (intro W hSw; have hc := (tk_store hSw.1).1; have hl := tk_lt hSw.1; go_simp; try (with_reducible rfl))
       try simp only [Act.put, List.setIfInBounds_toArray, List.set_cons_zero, List.set_cons_succ]
       refine wpAnyD_one (i := 17) (o := {dst := some 144, op := .call {callee := .value (.func 24), args := #[.tmp 141, .tmp 143], argTypes := #[26, 3]}, type := 59, pos := "law.go:127", after := #[{on := 14, ground := .data}, {on := 16, ground := .data}, {on := 13, ground := .chain}, {on := 13, ground := .guard}], guard := some (13, true)}) (by kernel_rfl) rfl (fun K hK => ?_)
       rw [if_pos (by kernel_rfl)]
       go_simp
       refine (hto _ Bw5).mono ?_
       rintro r w6 ⟨p6, c6, rfl, H6⟩
       have Bw6 : Below Wk.heap.size Wk w6 := Bw5.trans (H6.out.2.mono Bw5.size)
       go_wp2_with fail
       refine hK.out _ _ (fun hD => (HRV.out _ Bw6)) ?_
       clear hK K
       try simp only [Act.put, List.setIfInBounds_toArray, List.set_cons_zero, List.set_cons_succ]
       refine wpAnyD_one (i := 21) (o := {dst := some 148, op := .call {callee := .value (.func 26), args := #[.tmp 145, .tmp 147], argTypes := #[27, 3]}, type := 59, pos := "law.go:127", after := #[{on := 18, ground := .data}, {on := 20, ground := .data}, {on := 17, ground := .chain}, {on := 13, ground := .guard}], guard := some (13, true)}) (by kernel_rfl) rfl (fun K hK => ?_)
       rw [if_pos (by kernel_rfl)]
       go_simp
       refine (hrto _ Bw6).mono ?_
       rintro r w7 ⟨p7, c7, rfl, H7⟩
       have Bw7 : Below Wk.heap.size Wk w7 := Bw6.trans (H7.out.2.mono Bw6.size)
       go_wp2_with fail
       refine hK.out _ _ (fun hD => (HRV.out _ Bw7)) ?_
       clear hK K
       try simp only [Act.put, List.setIfInBounds_toArray, List.set_cons_zero, List.set_cons_succ]
       refine wpAnyD_one (i := 22) (o := {dst := some 149, op := .call {callee := .value (.func 28), args := #[.tmp 144, .tmp 148], argTypes := #[59, 59]}, type := 4, pos := "law.go:127", after := #[{on := 17, ground := .data}, {on := 21, ground := .data}, {on := 21, ground := .chain}, {on := 13, ground := .guard}], guard := some (13, true)}) (by kernel_rfl) rfl (fun K hK => ?_)
       rw [if_pos (by kernel_rfl)]
       go_simp
       refine (sameI_eq w7 (H6.out.1.below H7.out.2) H7.out.1 (by omega)).mono ?_
       rintro r w8 ⟨rfl, g8⟩
       have Bw8 : Below Wk.heap.size Wk w8 := Bw7.trans (g8.below.mono Bw7.size)
       go_wp2_with fail
       refine hK.out _ _ (fun hD => (HRV.out _ Bw8)) ?_
       clear hK K
       try simp only [Act.put, List.setIfInBounds_toArray, List.set_cons_zero, List.set_cons_succ]
       refine' wpAnyD_take (i := 23) (oi := {dst := some 150, op := .pick (.tmp 140) (.tmp 149) (.const (.bool false)), type := 4, pos := "law.go:127", after := #[{on := 13, ground := .data}, {on := 22, ground := .data}], guard := none}) (v := _) rfl (by kernel_rfl) (by kernel_rfl) (by kernel_rfl) (fun _ _ _ h => h) (by kernel_rfl) (Or.inl ⟨by rfl, ?hy78⟩) (HRV.out _ Bw8) ?rest78
       case hy78 => (intro W hSw; go_simp; try (with_reducible rfl))
       try simp only [Act.put, List.setIfInBounds_toArray, List.set_cons_zero, List.set_cons_succ]
       refine' wpAnyD_take (i := 24) (oi := {dst := some 151, op := .move (.tmp 150), type := 4, pos := "law.go:127", after := #[{on := 23, ground := .data}, {on := 22, ground := .chain}], guard := none}) (v := _) rfl (by kernel_rfl) (by kernel_rfl) (by kernel_rfl) (fun _ _ _ h => h) (by kernel_rfl) (Or.inl ⟨by rfl, ?hy79⟩) (HRV.out _ Bw8) ?rest79
       case hy79 => (intro W hSw; go_simp; try (with_reducible rfl))
       try simp only [Act.put, List.setIfInBounds_toArray, List.set_cons_zero, List.set_cons_succ]
       refine' wpAnyD_take (i := 25) (oi := {dst := some 152, op := .move (.tmp 3), type := 26, pos := "law.go:127", after := #[{on := 24, ground := .guard}], guard := some (24, true)}) (v := _) rfl (by kernel_rfl) (by kernel_rfl) (by kernel_rfl) (fun _ _ _ h => h) (by kernel_rfl) (Or.inl ⟨by rfl, ?hy80⟩) (HRV.out _ Bw8) ?rest80
       case hy80 => (intro W hSw; go_simp; try (with_reducible rfl))
       try simp only [Act.put, List.setIfInBounds_toArray, List.set_cons_zero, List.set_cons_succ]
       refine' wpAnyD_take (i := 26) (oi := {dst := some 153, op := .fieldAddr 67 (.tmp 1) 2, type := 0, pos := "law.go:127", after := #[{on := 24, ground := .guard}], guard := some (24, true)}) (v := _) rfl (by kernel_rfl) (by kernel_rfl) (by kernel_rfl) (fun _ _ _ h => h) (by kernel_rfl) (Or.inl ⟨by rfl, ?hy81⟩) (HRV.out _ Bw8) ?rest81
       case hy81 => (intro W hSw; go_simp; try (with_reducible rfl))
       try simp only [Act.put, List.setIfInBounds_toArray, List.set_cons_zero, List.set_cons_succ]
       refine' wpAnyD_take (i := 27) (oi := {dst := some 154, op := .load 3 (.tmp 153), type := 3, pos := "law.go:127", after := #[{on := 26, ground := .data}, {on := 24, ground := .guard}], guard := some (24, true)}) (v := _) rfl (by kernel_rfl) (by kernel_rfl) (by kernel_rfl) (fun _ _ _ h => h) (by kernel_rfl) (Or.inl ⟨by rfl, ?hy82⟩) (HRV.out _ Bw8) ?rest82
       case hy82 => (intro W hSw; have hc := (tk_store hSw.1).1; have hl := tk_lt hSw.1; go_simp; try (with_reducible rfl))
       try simp only [Act.put, List.setIfInBounds_toArray, List.set_cons_zero, List.set_cons_succ]
       refine' wpAnyD_take (i := 28) (oi := {dst := some 155, op := .fieldAddr 67 (.tmp 1) 3, type := 0, pos := "law.go:127", after := #[{on := 24, ground := .guard}], guard := some (24, true)}) (v := _) rfl (by kernel_rfl) (by kernel_rfl) (by kernel_rfl) (fun _ _ _ h => h) (by kernel_rfl) (Or.inl ⟨by rfl, ?hy83⟩) (HRV.out _ Bw8) ?rest83
       case hy83 => (intro W hSw; go_simp; try (with_reducible rfl))
       try simp only [Act.put, List.setIfInBounds_toArray, List.set_cons_zero, List.set_cons_succ]
       refine' wpAnyD_take (i := 29) (oi := {dst := some 156, op := .load 49 (.tmp 155), type := 49, pos := "law.go:127", after := #[{on := 28, ground := .data}, {on := 24, ground := .guard}], guard := some (24, true)}) (v := _) rfl (by kernel_rfl) (by kernel_rfl) (by kernel_rfl) (fun _ _ _ h => h) (by kernel_rfl) (Or.inl ⟨by rfl, ?hy84⟩) (HRV.out _ Bw8) ?rest84
       case hy84 => (intro W hSw; have hc := (tk_store hSw.1).1; have hl := tk_lt hSw.1; go_simp; try (with_reducible rfl))
       try simp only [Act.put, List.setIfInBounds_toArray, List.set_cons_zero, List.set_cons_succ]
       refine' wpAnyD_take (i := 31) (oi := {dst := some 158, op := .move (.tmp 4), type := 27, pos := "law.go:127", after := #[{on := 24, ground := .guard}], guard := some (24, true)}) (v := _) rfl (by kernel_rfl) (by kernel_rfl) (by kernel_rfl) (fun _ _ _ h => h) (by kernel_rfl) (Or.inl ⟨by rfl, ?hy85⟩) (HRV.out _ Bw8) ?rest85
       case hy85 => (intro W hSw; go_simp; try (with_reducible rfl))
       try simp only [Act.put, List.setIfInBounds_toArray, List.set_cons_zero, List.set_cons_succ]
       refine' wpAnyD_take (i := 32) (oi := {dst := some 159, op := .fieldAddr 67 (.tmp 1) 2, type := 0, pos := "law.go:127", after := #[{on := 24, ground := .guard}], guard := some (24, true)}) (v := _) rfl (by kernel_rfl) (by kernel_rfl) (by kernel_rfl) (fun _ _ _ h => h) (by kernel_rfl) (Or.inl ⟨by rfl, ?hy86⟩) (HRV.out _ Bw8) ?rest86
       case hy86 => (intro W hSw; go_simp; try (with_reducible rfl))
       try simp only [Act.put, List.setIfInBounds_toArray, List.set_cons_zero, List.set_cons_succ]
       refine' wpAnyD_take (i := 33) (oi := {dst := some 160, op := .load 3 (.tmp 159), type := 3, pos := "law.go:127", after := #[{on := 32, ground := .data}, {on := 24, ground := .guard}], guard := some (24, true)}) (v := _) rfl (by kernel_rfl) (by kernel_rfl) (by kernel_rfl) (fun _ _ _ h => h) (by kernel_rfl) (Or.inl ⟨by rfl, ?hy87⟩) (HRV.out _ Bw8) ?rest87
       case hy87 => (intro W hSw; have hc := (tk_store hSw.1).1; have hl := tk_lt hSw.1; go_simp; try (with_reducible rfl))
       try simp only [Act.put, List.setIfInBounds_toArray, List.set_cons_zero, List.set_cons_succ]
       refine' wpAnyD_take (i := 34) (oi := {dst := some 161, op := .fieldAddr 67 (.tmp 1) 3, type := 0, pos := "law.go:127", after := #[{on := 24, ground := .guard}], guard := some (24, true)}) (v := _) rfl (by kernel_rfl) (by kernel_rfl) (by kernel_rfl) (fun _ _ _ h => h) (by kernel_rfl) (Or.inl ⟨by rfl, ?hy88⟩) (HRV.out _ Bw8) ?rest88
       case hy88 => (intro W hSw; go_simp; try (with_reducible rfl))
       try simp only [Act.put, List.setIfInBounds_toArray, List.set_cons_zero, List.set_cons_succ]
       refine' wpAnyD_take (i := 35) (oi := {dst := some 162, op := .load 49 (.tmp 161), type := 49, pos := "law.go:127", after := #[{on := 34, ground := .data}, {on := 24, ground := .guard}], guard := some (24, true)}) (v := _) rfl (by kernel_rfl) (by kernel_rfl) (by kernel_rfl) (fun _ _ _ h => h) (by kernel_rfl) (Or.inl ⟨by rfl, ?hy89⟩) (HRV.out _ Bw8) ?rest89
       case hy89 => (intro W hSw; have hc := (tk_store hSw.1).1; have hl := tk_lt hSw.1; go_simp; try (with_reducible rfl))
       try simp only [Act.put, List.setIfInBounds_toArray, List.set_cons_zero, List.set_cons_succ]
       refine wpAnyD_one (i := 30) (o := {dst := some 157, op := .call {callee := .value (.func 19), args := #[.tmp 152, .tmp 154, .tmp 156], argTypes := #[26, 3, 49]}, type := 55, pos := "law.go:127", after := #[{on := 25, ground := .data}, {on := 27, ground := .data}, {on := 29, ground := .data}, {on := 24, ground := .chain}, {on := 24, ground := .guard}], guard := some (24, true)}) (by kernel_rfl) rfl (fun K hK => ?_)
       rw [if_pos (by kernel_rfl)]
       go_simp
       refine (hfr _ Bw8).mono ?_
       rintro r w9 ⟨p9, c9, rfl, H9⟩
       have Bw9 : Below Wk.heap.size Wk w9 := Bw8.trans (H9.out.2.mono Bw8.size)
       go_wp2_with fail
       refine hK.out _ _ (fun hD => (HRV.out _ Bw9)) ?_
       clear hK K
       try simp only [Act.put, List.setIfInBounds_toArray, List.set_cons_zero, List.set_cons_succ]
       refine wpAnyD_one (i := 36) (o := {dst := some 163, op := .call {callee := .value (.func 27), args := #[.tmp 158, .tmp 160, .tmp 162], argTypes := #[27, 3, 49]}, type := 55, pos := "law.go:127", after := #[{on := 31, ground := .data}, {on := 33, ground := .data}, {on := 35, ground := .data}, {on := 30, ground := .chain}, {on := 24, ground := .guard}], guard := some (24, true)}) (by kernel_rfl) rfl (fun K hK => ?_)
       rw [if_pos (by kernel_rfl)]
       go_simp
       refine (hrfr _ Bw9).mono ?_
       rintro r w10 ⟨p10, c10, rfl, H10⟩
       have Bw10 : Below Wk.heap.size Wk w10 := Bw9.trans (H10.out.2.mono Bw9.size)
       go_wp2_with fail
       refine hK.out _ _ (fun hD => (HRV.out _ Bw10)) ?_
       clear hK K
       try simp only [Act.put, List.setIfInBounds_toArray, List.set_cons_zero, List.set_cons_succ]
       refine wpAnyD_one (i := 37) (o := {dst := some 164, op := .call {callee := .value (.func 22), args := #[.tmp 157, .tmp 163], argTypes := #[55, 55]}, type := 4, pos := "law.go:127", after := #[{on := 30, ground := .data}, {on := 36, ground := .data}, {on := 36, ground := .chain}, {on := 24, ground := .guard}], guard := some (24, true)}) (by kernel_rfl) rfl (fun K hK => ?_)
       rw [if_pos (by kernel_rfl)]
       go_simp
       refine (sameT_eq w10 (H9.out.1.below H10.out.2) H10.out.1 hfl).mono ?_
       rintro r w11 ⟨rfl, g11⟩
       have Bw11 : Below Wk.heap.size Wk w11 := Bw10.trans (g11.below.mono Bw10.size)
       go_wp2_with fail
       refine hK.out _ _ (fun hD => (HRV.out _ Bw11)) ?_
       clear hK K
       try simp only [Act.put, List.setIfInBounds_toArray, List.set_cons_zero, List.set_cons_succ]
       refine' wpAnyD_take (i := 38) (oi := {dst := some 165, op := .pick (.tmp 151) (.tmp 164) (.const (.bool false)), type := 4, pos := "law.go:127", after := #[{on := 24, ground := .data}, {on := 37, ground := .data}], guard := none}) (v := _) rfl (by kernel_rfl) (by kernel_rfl) (by kernel_rfl) (fun _ _ _ h => h) (by kernel_rfl) (Or.inl ⟨by rfl, ?hy93⟩) (HRV.out _ Bw11) ?rest93
       case hy93 => (intro W hSw; go_simp; try (with_reducible rfl))
       try simp only [Act.put, List.setIfInBounds_toArray, List.set_cons_zero, List.set_cons_succ]
       refine wpAnyD_one (i := 39) (o := {dst := some 2, op := .assign (.tmp 165), type := 4, pos := "law.go:127", after := #[{on := 38, ground := .data}, {on := 37, ground := .chain}, {on := 0, ground := .phase}, {on := 1, ground := .phase}, {on := 2, ground := .phase}, {on := 3, ground := .phase}, {on := 4, ground := .phase}, {on := 5, ground := .phase}, {on := 6, ground := .phase}, {on := 7, ground := .phase}, {on := 8, ground := .phase}, {on := 9, ground := .phase}, {on := 10, ground := .phase}, {on := 11, ground := .phase}, {on := 12, ground := .phase}, {on := 13, ground := .phase}, {on := 14, ground := .phase}, {on := 15, ground := .phase}, {on := 16, ground := .phase}, {on := 17, ground := .phase}, {on := 18, ground := .phase}, {on := 19, ground := .phase}, {on := 20, ground := .phase}, {on := 21, ground := .phase}, {on := 22, ground := .phase}, {on := 23, ground := .phase}, {on := 24, ground := .phase}, {on := 25, ground := .phase}, {on := 26, ground := .phase}, {on := 27, ground := .phase}, {on := 28, ground := .phase}, {on := 29, ground := .phase}, {on := 30, ground := .phase}, {on := 31, ground := .phase}, {on := 32, ground := .phase}, {on := 33, ground := .phase}, {on := 34, ground := .phase}, {on := 35, ground := .phase}, {on := 36, ground := .phase}, {on := 37, ground := .phase}, {on := 38, ground := .phase}], guard := none}) (by kernel_rfl) rfl (fun K hK => ?_)
       go_simp
       refine hK.out _ _ (fun hD => (HRV.out _ Bw11)) ?_
       clear hK K
       try simp only [Act.put, List.setIfInBounds_toArray, List.set_cons_zero, List.set_cons_succ]
       refine wpAnyD_done (by kernel_rfl) ?_ _
       go_wp2
       go_ret
       exact ⟨rfl, HBk.out.trans (Bw11.mono HBk.out.size)⟩
      ·go_upto_region 26 with fail
       clear cx lx hilz
       have hB0 := HB0.out
       have hS0 := HS0.out
       refine wp_regionD (S := fun W => W.heap[xb]? = some (.cells #[.int .i64 a, nv, ev, .int .i64 P, .int .i64 Q, .slice ps l.length cs] 67 (0, 0)) ∧ W.heap[rb]? = some (.cells #[.int .i64 (n : Nat), rv] 33 (0, 0))) (D := []) hmx ?_
       refine' wpAnyD_take (i := 0) (oi := {dst := some 127, op := .move (.tmp 3), type := 26, pos := "law.go:127", after := #[], guard := none}) (v := _) rfl (by kernel_rfl) (by kernel_rfl) (by kernel_rfl) (fun _ _ _ h => h) (by kernel_rfl) (Or.inl ⟨by rfl, ?hy95⟩) hS0 ?rest95
       case hy95 => (intro W hSw; go_simp; try (with_reducible rfl))
       try simp only [Act.put, List.setIfInBounds_toArray, List.set_cons_zero, List.set_cons_succ]
       refine' wpAnyD_take (i := 1) (oi := {dst := some 128, op := .fieldAddr 67 (.tmp 1) 1, type := 0, pos := "law.go:127", after := #[], guard := none}) (v := _) rfl (by kernel_rfl) (by kernel_rfl) (by kernel_rfl) (fun _ _ _ h => h) (by kernel_rfl) (Or.inl ⟨by rfl, ?hy96⟩) hS0 ?rest96
       case hy96 => (intro W hSw; go_simp; try (with_reducible rfl))
       try simp only [Act.put, List.setIfInBounds_toArray, List.set_cons_zero, List.set_cons_succ]
       refine' wpAnyD_take (i := 2) (oi := {dst := some 129, op := .load 3 (.tmp 128), type := 3, pos := "law.go:127", after := #[{on := 1, ground := .data}], guard := none}) (v := _) rfl (by kernel_rfl) (by kernel_rfl) (by kernel_rfl) (fun _ _ _ h => h) (by kernel_rfl) (Or.inl ⟨by rfl, ?hy97⟩) hS0 ?rest97
       case hy97 => (intro W hSw; have hc := (tk_store hSw.1).1; have hl := tk_lt hSw.1; go_simp; try (with_reducible rfl))
       try simp only [Act.put, List.setIfInBounds_toArray, List.set_cons_zero, List.set_cons_succ]
       refine' wpAnyD_take (i := 3) (oi := {dst := some 130, op := .fieldAddr 67 (.tmp 1) 2, type := 0, pos := "law.go:127", after := #[], guard := none}) (v := _) rfl (by kernel_rfl) (by kernel_rfl) (by kernel_rfl) (fun _ _ _ h => h) (by kernel_rfl) (Or.inl ⟨by rfl, ?hy98⟩) hS0 ?rest98
       case hy98 => (intro W hSw; go_simp; try (with_reducible rfl))
       try simp only [Act.put, List.setIfInBounds_toArray, List.set_cons_zero, List.set_cons_succ]
       refine' wpAnyD_take (i := 4) (oi := {dst := some 131, op := .load 3 (.tmp 130), type := 3, pos := "law.go:127", after := #[{on := 3, ground := .data}], guard := none}) (v := _) rfl (by kernel_rfl) (by kernel_rfl) (by kernel_rfl) (fun _ _ _ h => h) (by kernel_rfl) (Or.inl ⟨by rfl, ?hy99⟩) hS0 ?rest99
       case hy99 => (intro W hSw; have hc := (tk_store hSw.1).1; have hl := tk_lt hSw.1; go_simp; try (with_reducible rfl))
       try simp only [Act.put, List.setIfInBounds_toArray, List.set_cons_zero, List.set_cons_succ]
       refine' wpAnyD_take (i := 6) (oi := {dst := some 133, op := .move (.tmp 4), type := 27, pos := "law.go:127", after := #[], guard := none}) (v := _) rfl (by kernel_rfl) (by kernel_rfl) (by kernel_rfl) (fun _ _ _ h => h) (by kernel_rfl) (Or.inl ⟨by rfl, ?hy100⟩) hS0 ?rest100
       case hy100 => (intro W hSw; go_simp; try (with_reducible rfl))
       try simp only [Act.put, List.setIfInBounds_toArray, List.set_cons_zero, List.set_cons_succ]
       refine' wpAnyD_take (i := 7) (oi := {dst := some 134, op := .fieldAddr 67 (.tmp 1) 1, type := 0, pos := "law.go:127", after := #[], guard := none}) (v := _) rfl (by kernel_rfl) (by kernel_rfl) (by kernel_rfl) (fun _ _ _ h => h) (by kernel_rfl) (Or.inl ⟨by rfl, ?hy101⟩) hS0 ?rest101
       case hy101 => (intro W hSw; go_simp; try (with_reducible rfl))
       try simp only [Act.put, List.setIfInBounds_toArray, List.set_cons_zero, List.set_cons_succ]
       refine' wpAnyD_take (i := 8) (oi := {dst := some 135, op := .load 3 (.tmp 134), type := 3, pos := "law.go:127", after := #[{on := 7, ground := .data}], guard := none}) (v := _) rfl (by kernel_rfl) (by kernel_rfl) (by kernel_rfl) (fun _ _ _ h => h) (by kernel_rfl) (Or.inl ⟨by rfl, ?hy102⟩) hS0 ?rest102
       case hy102 => (intro W hSw; have hc := (tk_store hSw.1).1; have hl := tk_lt hSw.1; go_simp; try (with_reducible rfl))
       try simp only [Act.put, List.setIfInBounds_toArray, List.set_cons_zero, List.set_cons_succ]
       refine' wpAnyD_take (i := 9) (oi := {dst := some 136, op := .fieldAddr 67 (.tmp 1) 2, type := 0, pos := "law.go:127", after := #[], guard := none}) (v := _) rfl (by kernel_rfl) (by kernel_rfl) (by kernel_rfl) (fun _ _ _ h => h) (by kernel_rfl) (Or.inl ⟨by rfl, ?hy103⟩) hS0 ?rest103
       case hy103 => (intro W hSw; go_simp; try (with_reducible rfl))
       try simp only [Act.put, List.setIfInBounds_toArray, List.set_cons_zero, List.set_cons_succ]
       refine' wpAnyD_take (i := 10) (oi := {dst := some 137, op := .load 3 (.tmp 136), type := 3, pos := "law.go:127", after := #[{on := 9, ground := .data}], guard := none}) (v := _) rfl (by kernel_rfl) (by kernel_rfl) (by kernel_rfl) (fun _ _ _ h => h) (by kernel_rfl) (Or.inl ⟨by rfl, ?hy104⟩) hS0 ?rest104
       case hy104 => (intro W hSw; have hc := (tk_store hSw.1).1; have hl := tk_lt hSw.1; go_simp; try (with_reducible rfl))
       try simp only [Act.put, List.setIfInBounds_toArray, List.set_cons_zero, List.set_cons_succ]
       refine wpAnyD_one (i := 5) (o := {dst := some 132, op := .call {callee := .value (.func 12), args := #[.tmp 127, .tmp 129, .tmp 131], argTypes := #[26, 3, 3]}, type := 35, pos := "law.go:127", after := #[{on := 0, ground := .data}, {on := 2, ground := .data}, {on := 4, ground := .data}], guard := none}) (by kernel_rfl) rfl (fun K hK => ?_)
       go_simp
       refine (hle _ hB0).mono ?_
       rintro r w3 ⟨p3, c3, rfl, H3⟩
       have Bw3 : Below Wk.heap.size Wk w3 := hB0.trans (H3.out.2.mono hB0.size)
       go_wp2_with fail
       refine hK.out _ _ (fun hD => (HRV.out _ Bw3)) ?_
       clear hK K
       try simp only [Act.put, List.setIfInBounds_toArray, List.set_cons_zero, List.set_cons_succ]
       refine wpAnyD_one (i := 11) (o := {dst := some 138, op := .call {callee := .value (.func 25), args := #[.tmp 133, .tmp 135, .tmp 137], argTypes := #[27, 3, 3]}, type := 35, pos := "law.go:127", after := #[{on := 6, ground := .data}, {on := 8, ground := .data}, {on := 10, ground := .data}, {on := 5, ground := .chain}], guard := none}) (by kernel_rfl) rfl (fun K hK => ?_)
       go_simp
       refine (hrle _ Bw3).mono ?_
       rintro r w4 ⟨p4, c4, rfl, H4⟩
       have Bw4 : Below Wk.heap.size Wk w4 := Bw3.trans (H4.out.2.mono Bw3.size)
       go_wp2_with fail
       refine hK.out _ _ (fun hD => (HRV.out _ Bw4)) ?_
       clear hK K
       try simp only [Act.put, List.setIfInBounds_toArray, List.set_cons_zero, List.set_cons_succ]
       refine wpAnyD_one (i := 12) (o := {dst := some 139, op := .call {callee := .value (.func 11), args := #[.tmp 132, .tmp 138], argTypes := #[35, 35]}, type := 4, pos := "law.go:127", after := #[{on := 5, ground := .data}, {on := 11, ground := .data}, {on := 11, ground := .chain}], guard := none}) (by kernel_rfl) rfl (fun K hK => ?_)
       go_simp
       refine (sameP_eq w4 (H3.out.1.below H4.out.2) H4.out.1 (by omega)).mono ?_
       rintro r w5 ⟨rfl, g5⟩
       have Bw5 : Below Wk.heap.size Wk w5 := Bw4.trans (g5.below.mono Bw4.size)
       go_wp2_with fail
       refine hK.out _ _ (fun hD => (HRV.out _ Bw5)) ?_
       clear hK K
       try simp only [Act.put, List.setIfInBounds_toArray, List.set_cons_zero, List.set_cons_succ]
       refine' wpAnyD_take (i := 13) (oi := {dst := some 140, op := .move (.tmp 139), type := 4, pos := "law.go:127", after := #[{on := 12, ground := .data}, {on := 12, ground := .chain}], guard := none}) (v := _) rfl (by kernel_rfl) (by kernel_rfl) (by kernel_rfl) (fun _ _ _ h => h) (by kernel_rfl) (Or.inl ⟨by rfl, ?hy108⟩) (HRV.out _ Bw5) ?rest108
       case hy108 => (intro W hSw; go_simp; try (with_reducible rfl))
       try simp only [Act.put, List.setIfInBounds_toArray, List.set_cons_zero, List.set_cons_succ]
       refine' wpAnyD_take (i := 14) (oi := {dst := some 141, op := .move (.tmp 3), type := 26, pos := "law.go:127", after := #[{on := 13, ground := .guard}], guard := some (13, true)}) (v := _) rfl (by kernel_rfl) (by kernel_rfl) (by kernel_rfl) (fun _ _ _ h => h) (by kernel_rfl) (Or.inl ⟨by rfl, ?hy109⟩) (HRV.out _ Bw5) ?rest109
       case hy109 => (intro W hSw; go_simp; try (with_reducible rfl))
       try simp only [Act.put, List.setIfInBounds_toArray, List.set_cons_zero, List.set_cons_succ]
       refine' wpAnyD_take (i := 15) (oi := {dst := some 142, op := .fieldAddr 67 (.tmp 1) 1, type := 0, pos := "law.go:127", after := #[{on := 13, ground := .guard}], guard := some (13, true)}) (v := _) rfl (by kernel_rfl) (by kernel_rfl) (by kernel_rfl) (fun _ _ _ h => h) (by kernel_rfl) (Or.inl ⟨by rfl, ?hy110⟩) (HRV.out _ Bw5) ?rest110
       case hy110 => (intro W hSw; go_simp; try (with_reducible rfl))
       try simp only [Act.put, List.setIfInBounds_toArray, List.set_cons_zero, List.set_cons_succ]
       refine' wpAnyD_take (i := 16) (oi := {dst := some 143, op := .load 3 (.tmp 142), type := 3, pos := "law.go:127", after := #[{on := 15, ground := .data}, {on := 13, ground := .guard}], guard := some (13, true)}) (v := _) rfl (by kernel_rfl) (by kernel_rfl) (by kernel_rfl) (fun _ _ _ h => h) (by kernel_rfl) (Or.inl ⟨by rfl, ?hy111⟩) (HRV.out _ Bw5) ?rest111
       case hy111 => (intro W hSw; have hc := (tk_store hSw.1).1; have hl := tk_lt hSw.1; go_simp; try (with_reducible rfl))
       try simp only [Act.put, List.setIfInBounds_toArray, List.set_cons_zero, List.set_cons_succ]
       refine' wpAnyD_take (i := 18) (oi := {dst := some 145, op := .move (.tmp 4), type := 27, pos := "law.go:127", after := #[{on := 13, ground := .guard}], guard := some (13, true)}) (v := _) rfl (by kernel_rfl) (by kernel_rfl) (by kernel_rfl) (fun _ _ _ h => h) (by kernel_rfl) (Or.inl ⟨by rfl, ?hy112⟩) (HRV.out _ Bw5) ?rest112
       case hy112 => (intro W hSw; go_simp; try (with_reducible rfl))
       try simp only [Act.put, List.setIfInBounds_toArray, List.set_cons_zero, List.set_cons_succ]
       refine' wpAnyD_take (i := 19) (oi := {dst := some 146, op := .fieldAddr 67 (.tmp 1) 1, type := 0, pos := "law.go:127", after := #[{on := 13, ground := .guard}], guard := some (13, true)}) (v := _) rfl (by kernel_rfl) (by kernel_rfl) (by kernel_rfl) (fun _ _ _ h => h) (by kernel_rfl) (Or.inl ⟨by rfl, ?hy113⟩) (HRV.out _ Bw5) ?rest113
       case hy113 => (intro W hSw; go_simp; try (with_reducible rfl))
       try simp only [Act.put, List.setIfInBounds_toArray, List.set_cons_zero, List.set_cons_succ]
       refine' wpAnyD_take (i := 20) (oi := {dst := some 147, op := .load 3 (.tmp 146), type := 3, pos := "law.go:127", after := #[{on := 19, ground := .data}, {on := 13, ground := .guard}], guard := some (13, true)}) (v := _) rfl (by kernel_rfl) (by kernel_rfl) (by kernel_rfl) (fun _ _ _ h => h) (by kernel_rfl) (Or.inl ⟨by rfl, ?hy114⟩) (HRV.out _ Bw5) ?rest114
       case hy114 => (intro W hSw; have hc := (tk_store hSw.1).1; have hl := tk_lt hSw.1; go_simp; try (with_reducible rfl))
       try simp only [Act.put, List.setIfInBounds_toArray, List.set_cons_zero, List.set_cons_succ]
       refine wpAnyD_one (i := 17) (o := {dst := some 144, op := .call {callee := .value (.func 24), args := #[.tmp 141, .tmp 143], argTypes := #[26, 3]}, type := 59, pos := "law.go:127", after := #[{on := 14, ground := .data}, {on := 16, ground := .data}, {on := 13, ground := .chain}, {on := 13, ground := .guard}], guard := some (13, true)}) (by kernel_rfl) rfl (fun K hK => ?_)
       rw [if_pos (by kernel_rfl)]
       go_simp
       refine (hto _ Bw5).mono ?_
       rintro r w6 ⟨p6, c6, rfl, H6⟩
       have Bw6 : Below Wk.heap.size Wk w6 := Bw5.trans (H6.out.2.mono Bw5.size)
       go_wp2_with fail
       refine hK.out _ _ (fun hD => (HRV.out _ Bw6)) ?_
       clear hK K
       try simp only [Act.put, List.setIfInBounds_toArray, List.set_cons_zero, List.set_cons_succ]
       refine wpAnyD_one (i := 21) (o := {dst := some 148, op := .call {callee := .value (.func 26), args := #[.tmp 145, .tmp 147], argTypes := #[27, 3]}, type := 59, pos := "law.go:127", after := #[{on := 18, ground := .data}, {on := 20, ground := .data}, {on := 17, ground := .chain}, {on := 13, ground := .guard}], guard := some (13, true)}) (by kernel_rfl) rfl (fun K hK => ?_)
       rw [if_pos (by kernel_rfl)]
       go_simp
       refine (hrto _ Bw6).mono ?_
       rintro r w7 ⟨p7, c7, rfl, H7⟩
       have Bw7 : Below Wk.heap.size Wk w7 := Bw6.trans (H7.out.2.mono Bw6.size)
       go_wp2_with fail
       refine hK.out _ _ (fun hD => (HRV.out _ Bw7)) ?_
       clear hK K
       try simp only [Act.put, List.setIfInBounds_toArray, List.set_cons_zero, List.set_cons_succ]
       refine wpAnyD_one (i := 22) (o := {dst := some 149, op := .call {callee := .value (.func 28), args := #[.tmp 144, .tmp 148], argTypes := #[59, 59]}, type := 4, pos := "law.go:127", after := #[{on := 17, ground := .data}, {on := 21, ground := .data}, {on := 21, ground := .chain}, {on := 13, ground := .guard}], guard := some (13, true)}) (by kernel_rfl) rfl (fun K hK => ?_)
       rw [if_pos (by kernel_rfl)]
       go_simp
       refine (sameI_eq w7 (H6.out.1.below H7.out.2) H7.out.1 (by omega)).mono ?_
       rintro r w8 ⟨rfl, g8⟩
       have Bw8 : Below Wk.heap.size Wk w8 := Bw7.trans (g8.below.mono Bw7.size)
       go_wp2_with fail
       refine hK.out _ _ (fun hD => (HRV.out _ Bw8)) ?_
       clear hK K
       try simp only [Act.put, List.setIfInBounds_toArray, List.set_cons_zero, List.set_cons_succ]
       refine' wpAnyD_take (i := 23) (oi := {dst := some 150, op := .pick (.tmp 140) (.tmp 149) (.const (.bool false)), type := 4, pos := "law.go:127", after := #[{on := 13, ground := .data}, {on := 22, ground := .data}], guard := none}) (v := _) rfl (by kernel_rfl) (by kernel_rfl) (by kernel_rfl) (fun _ _ _ h => h) (by kernel_rfl) (Or.inl ⟨by rfl, ?hy118⟩) (HRV.out _ Bw8) ?rest118
       case hy118 => (intro W hSw; go_simp; try (with_reducible rfl))
       try simp only [Act.put, List.setIfInBounds_toArray, List.set_cons_zero, List.set_cons_succ]
       refine' wpAnyD_take (i := 24) (oi := {dst := some 151, op := .move (.tmp 150), type := 4, pos := "law.go:127", after := #[{on := 23, ground := .data}, {on := 22, ground := .chain}], guard := none}) (v := _) rfl (by kernel_rfl) (by kernel_rfl) (by kernel_rfl) (fun _ _ _ h => h) (by kernel_rfl) (Or.inl ⟨by rfl, ?hy119⟩) (HRV.out _ Bw8) ?rest119
       case hy119 => (intro W hSw; go_simp; try (with_reducible rfl))
       try simp only [Act.put, List.setIfInBounds_toArray, List.set_cons_zero, List.set_cons_succ]
       refine' wpAnyD_take (i := 25) (oi := {dst := some 152, op := .move (.tmp 3), type := 26, pos := "law.go:127", after := #[{on := 24, ground := .guard}], guard := some (24, true)}) (v := _) rfl (by kernel_rfl) (by kernel_rfl) (by kernel_rfl) (fun _ _ _ h => h) (by kernel_rfl) (Or.inl ⟨by rfl, ?hy120⟩) (HRV.out _ Bw8) ?rest120
       case hy120 => (intro W hSw; go_simp; try (with_reducible rfl))
       try simp only [Act.put, List.setIfInBounds_toArray, List.set_cons_zero, List.set_cons_succ]
       refine' wpAnyD_take (i := 26) (oi := {dst := some 153, op := .fieldAddr 67 (.tmp 1) 2, type := 0, pos := "law.go:127", after := #[{on := 24, ground := .guard}], guard := some (24, true)}) (v := _) rfl (by kernel_rfl) (by kernel_rfl) (by kernel_rfl) (fun _ _ _ h => h) (by kernel_rfl) (Or.inl ⟨by rfl, ?hy121⟩) (HRV.out _ Bw8) ?rest121
       case hy121 => (intro W hSw; go_simp; try (with_reducible rfl))
       try simp only [Act.put, List.setIfInBounds_toArray, List.set_cons_zero, List.set_cons_succ]
       refine' wpAnyD_take (i := 27) (oi := {dst := some 154, op := .load 3 (.tmp 153), type := 3, pos := "law.go:127", after := #[{on := 26, ground := .data}, {on := 24, ground := .guard}], guard := some (24, true)}) (v := _) rfl (by kernel_rfl) (by kernel_rfl) (by kernel_rfl) (fun _ _ _ h => h) (by kernel_rfl) (Or.inl ⟨by rfl, ?hy122⟩) (HRV.out _ Bw8) ?rest122
       case hy122 => (intro W hSw; have hc := (tk_store hSw.1).1; have hl := tk_lt hSw.1; go_simp; try (with_reducible rfl))
       try simp only [Act.put, List.setIfInBounds_toArray, List.set_cons_zero, List.set_cons_succ]
       refine' wpAnyD_take (i := 28) (oi := {dst := some 155, op := .fieldAddr 67 (.tmp 1) 3, type := 0, pos := "law.go:127", after := #[{on := 24, ground := .guard}], guard := some (24, true)}) (v := _) rfl (by kernel_rfl) (by kernel_rfl) (by kernel_rfl) (fun _ _ _ h => h) (by kernel_rfl) (Or.inl ⟨by rfl, ?hy123⟩) (HRV.out _ Bw8) ?rest123
       case hy123 => (intro W hSw; go_simp; try (with_reducible rfl))
       try simp only [Act.put, List.setIfInBounds_toArray, List.set_cons_zero, List.set_cons_succ]
       refine' wpAnyD_take (i := 29) (oi := {dst := some 156, op := .load 49 (.tmp 155), type := 49, pos := "law.go:127", after := #[{on := 28, ground := .data}, {on := 24, ground := .guard}], guard := some (24, true)}) (v := _) rfl (by kernel_rfl) (by kernel_rfl) (by kernel_rfl) (fun _ _ _ h => h) (by kernel_rfl) (Or.inl ⟨by rfl, ?hy124⟩) (HRV.out _ Bw8) ?rest124
       case hy124 => (intro W hSw; have hc := (tk_store hSw.1).1; have hl := tk_lt hSw.1; go_simp; try (with_reducible rfl))
       try simp only [Act.put, List.setIfInBounds_toArray, List.set_cons_zero, List.set_cons_succ]
       refine' wpAnyD_take (i := 31) (oi := {dst := some 158, op := .move (.tmp 4), type := 27, pos := "law.go:127", after := #[{on := 24, ground := .guard}], guard := some (24, true)}) (v := _) rfl (by kernel_rfl) (by kernel_rfl) (by kernel_rfl) (fun _ _ _ h => h) (by kernel_rfl) (Or.inl ⟨by rfl, ?hy125⟩) (HRV.out _ Bw8) ?rest125
       case hy125 => (intro W hSw; go_simp; try (with_reducible rfl))
       try simp only [Act.put, List.setIfInBounds_toArray, List.set_cons_zero, List.set_cons_succ]
       refine' wpAnyD_take (i := 32) (oi := {dst := some 159, op := .fieldAddr 67 (.tmp 1) 2, type := 0, pos := "law.go:127", after := #[{on := 24, ground := .guard}], guard := some (24, true)}) (v := _) rfl (by kernel_rfl) (by kernel_rfl) (by kernel_rfl) (fun _ _ _ h => h) (by kernel_rfl) (Or.inl ⟨by rfl, ?hy126⟩) (HRV.out _ Bw8) ?rest126
       case hy126 => (intro W hSw; go_simp; try (with_reducible rfl))
       try simp only [Act.put, List.setIfInBounds_toArray, List.set_cons_zero, List.set_cons_succ]
       refine' wpAnyD_take (i := 33) (oi := {dst := some 160, op := .load 3 (.tmp 159), type := 3, pos := "law.go:127", after := #[{on := 32, ground := .data}, {on := 24, ground := .guard}], guard := some (24, true)}) (v := _) rfl (by kernel_rfl) (by kernel_rfl) (by kernel_rfl) (fun _ _ _ h => h) (by kernel_rfl) (Or.inl ⟨by rfl, ?hy127⟩) (HRV.out _ Bw8) ?rest127
       case hy127 => (intro W hSw; have hc := (tk_store hSw.1).1; have hl := tk_lt hSw.1; go_simp; try (with_reducible rfl))
       try simp only [Act.put, List.setIfInBounds_toArray, List.set_cons_zero, List.set_cons_succ]
       refine' wpAnyD_take (i := 34) (oi := {dst := some 161, op := .fieldAddr 67 (.tmp 1) 3, type := 0, pos := "law.go:127", after := #[{on := 24, ground := .guard}], guard := some (24, true)}) (v := _) rfl (by kernel_rfl) (by kernel_rfl) (by kernel_rfl) (fun _ _ _ h => h) (by kernel_rfl) (Or.inl ⟨by rfl, ?hy128⟩) (HRV.out _ Bw8) ?rest128
       case hy128 => (intro W hSw; go_simp; try (with_reducible rfl))
       try simp only [Act.put, List.setIfInBounds_toArray, List.set_cons_zero, List.set_cons_succ]
       refine' wpAnyD_take (i := 35) (oi := {dst := some 162, op := .load 49 (.tmp 161), type := 49, pos := "law.go:127", after := #[{on := 34, ground := .data}, {on := 24, ground := .guard}], guard := some (24, true)}) (v := _) rfl (by kernel_rfl) (by kernel_rfl) (by kernel_rfl) (fun _ _ _ h => h) (by kernel_rfl) (Or.inl ⟨by rfl, ?hy129⟩) (HRV.out _ Bw8) ?rest129
       case hy129 => (intro W hSw; have hc := (tk_store hSw.1).1; have hl := tk_lt hSw.1; go_simp; try (with_reducible rfl))
       try simp only [Act.put, List.setIfInBounds_toArray, List.set_cons_zero, List.set_cons_succ]
       refine wpAnyD_one (i := 30) (o := {dst := some 157, op := .call {callee := .value (.func 19), args := #[.tmp 152, .tmp 154, .tmp 156], argTypes := #[26, 3, 49]}, type := 55, pos := "law.go:127", after := #[{on := 25, ground := .data}, {on := 27, ground := .data}, {on := 29, ground := .data}, {on := 24, ground := .chain}, {on := 24, ground := .guard}], guard := some (24, true)}) (by kernel_rfl) rfl (fun K hK => ?_)
       rw [if_pos (by kernel_rfl)]
       go_simp
       refine (hfr _ Bw8).mono ?_
       rintro r w9 ⟨p9, c9, rfl, H9⟩
       have Bw9 : Below Wk.heap.size Wk w9 := Bw8.trans (H9.out.2.mono Bw8.size)
       go_wp2_with fail
       refine hK.out _ _ (fun hD => (HRV.out _ Bw9)) ?_
       clear hK K
       try simp only [Act.put, List.setIfInBounds_toArray, List.set_cons_zero, List.set_cons_succ]
       refine wpAnyD_one (i := 36) (o := {dst := some 163, op := .call {callee := .value (.func 27), args := #[.tmp 158, .tmp 160, .tmp 162], argTypes := #[27, 3, 49]}, type := 55, pos := "law.go:127", after := #[{on := 31, ground := .data}, {on := 33, ground := .data}, {on := 35, ground := .data}, {on := 30, ground := .chain}, {on := 24, ground := .guard}], guard := some (24, true)}) (by kernel_rfl) rfl (fun K hK => ?_)
       rw [if_pos (by kernel_rfl)]
       go_simp
       refine (hrfr _ Bw9).mono ?_
       rintro r w10 ⟨p10, c10, rfl, H10⟩
       have Bw10 : Below Wk.heap.size Wk w10 := Bw9.trans (H10.out.2.mono Bw9.size)
       go_wp2_with fail
       refine hK.out _ _ (fun hD => (HRV.out _ Bw10)) ?_
       clear hK K
       try simp only [Act.put, List.setIfInBounds_toArray, List.set_cons_zero, List.set_cons_succ]
       refine wpAnyD_one (i := 37) (o := {dst := some 164, op := .call {callee := .value (.func 22), args := #[.tmp 157, .tmp 163], argTypes := #[55, 55]}, type := 4, pos := "law.go:127", after := #[{on := 30, ground := .data}, {on := 36, ground := .data}, {on := 36, ground := .chain}, {on := 24, ground := .guard}], guard := some (24, true)}) (by kernel_rfl) rfl (fun K hK => ?_)
       rw [if_pos (by kernel_rfl)]
       go_simp
       refine (sameT_eq w10 (H9.out.1.below H10.out.2) H10.out.1 hfl).mono ?_
       rintro r w11 ⟨rfl, g11⟩
       have Bw11 : Below Wk.heap.size Wk w11 := Bw10.trans (g11.below.mono Bw10.size)
       go_wp2_with fail
       refine hK.out _ _ (fun hD => (HRV.out _ Bw11)) ?_
       clear hK K
       try simp only [Act.put, List.setIfInBounds_toArray, List.set_cons_zero, List.set_cons_succ]
       refine' wpAnyD_take (i := 38) (oi := {dst := some 165, op := .pick (.tmp 151) (.tmp 164) (.const (.bool false)), type := 4, pos := "law.go:127", after := #[{on := 24, ground := .data}, {on := 37, ground := .data}], guard := none}) (v := _) rfl (by kernel_rfl) (by kernel_rfl) (by kernel_rfl) (fun _ _ _ h => h) (by kernel_rfl) (Or.inl ⟨by rfl, ?hy133⟩) (HRV.out _ Bw11) ?rest133
       case hy133 => (intro W hSw; go_simp; try (with_reducible rfl))
       try simp only [Act.put, List.setIfInBounds_toArray, List.set_cons_zero, List.set_cons_succ]
       refine wpAnyD_one (i := 39) (o := {dst := some 2, op := .assign (.tmp 165), type := 4, pos := "law.go:127", after := #[{on := 38, ground := .data}, {on := 37, ground := .chain}, {on := 0, ground := .phase}, {on := 1, ground := .phase}, {on := 2, ground := .phase}, {on := 3, ground := .phase}, {on := 4, ground := .phase}, {on := 5, ground := .phase}, {on := 6, ground := .phase}, {on := 7, ground := .phase}, {on := 8, ground := .phase}, {on := 9, ground := .phase}, {on := 10, ground := .phase}, {on := 11, ground := .phase}, {on := 12, ground := .phase}, {on := 13, ground := .phase}, {on := 14, ground := .phase}, {on := 15, ground := .phase}, {on := 16, ground := .phase}, {on := 17, ground := .phase}, {on := 18, ground := .phase}, {on := 19, ground := .phase}, {on := 20, ground := .phase}, {on := 21, ground := .phase}, {on := 22, ground := .phase}, {on := 23, ground := .phase}, {on := 24, ground := .phase}, {on := 25, ground := .phase}, {on := 26, ground := .phase}, {on := 27, ground := .phase}, {on := 28, ground := .phase}, {on := 29, ground := .phase}, {on := 30, ground := .phase}, {on := 31, ground := .phase}, {on := 32, ground := .phase}, {on := 33, ground := .phase}, {on := 34, ground := .phase}, {on := 35, ground := .phase}, {on := 36, ground := .phase}, {on := 37, ground := .phase}, {on := 38, ground := .phase}], guard := none}) (by kernel_rfl) rfl (fun K hK => ?_)
       go_simp
       refine hK.out _ _ (fun hD => (HRV.out _ Bw11)) ?_
       clear hK K
       try simp only [Act.put, List.setIfInBounds_toArray, List.set_cons_zero, List.set_cons_succ]
       refine wpAnyD_done (by kernel_rfl) ?_ _
       go_wp2
       go_ret
       exact ⟨rfl, HBk.out.trans (Bw11.mono HBk.out.size)⟩
end Go.Proofs.YtjppkehnjnmbnaaGreat.Lf

namespace Go.Proofs.YtjppkehnjnmbnaaGreat
open Go.ChangeShapes Go.WideShapes Go.ChangeAt Go.RowKit Go.Joins
def laidL : List (String × DataW Unit) := []
theorem own : ownKnob Tryz.prog.godebug = none := by kernel_rfl
theorem laidOut : laidOutB Tryz.prog = true := by kernel_rfl
theorem witness {H : Type} {enc : TypeId × Value → H} {os : Os} {f : FuncId} {fn : Func} {s : OpenSpec} {conds : List PathCond} {apart : Bool} (args : Array Value)
    (hsh : ((World.laidAll Tryz.prog os laidL).forCall (fun _ _ => 0) ⟨#[], args, []⟩).Shaped Tryz.prog)
    (hok : Input.okWideB Tryz.prog ((World.laidAll Tryz.prog os laidL).forCall (fun _ _ => 0) ⟨#[], args, []⟩) f ⟨#[], args, []⟩ = true)
    (hrow : s.preRow enc Tryz.prog fn conds apart laidL ((World.laidAll Tryz.prog os laidL).forCall (fun _ _ => 0) ⟨#[], args, []⟩).memory args) :
    ∃ (w : World) (tape : Tape) (i : Input), w.os = os ∧ (w.forCall tape i).Shaped Tryz.prog ∧ i.vars = [] ∧ Input.okWide Tryz.prog (w.forCall tape i) .any w.heap.size f i ∧
     s.preRow enc Tryz.prog fn conds apart laidL (w.forCall tape i).memory i.args ∧ ({} : Assume).holds Tryz.prog (lone (Frame.enter Tryz.prog f i.args .normal) [] (w.forCall tape i)) :=
 ⟨World.laidAll Tryz.prog os laidL, fun _ _ => 0, ⟨#[], args, []⟩, World.laidAll_os _ _ _, hsh, (Input.okWide_of_okWideB (base := 0) hok).1, (Input.okWide_of_okWideB hok).2, hrow, by
  simp only [Assume.holds]
  exact ⟨by simp, by simp, by simp, by simp, by simp⟩⟩
theorem laid_met (os : Os) (args : Array Value) : laidMetH Tryz.prog laidL ((World.laidAll Tryz.prog os laidL).forCall (fun _ _ => 0) ⟨#[], args, []⟩).memory := by
 rw [MakeChecks.laidMetH_plain _ _ _ (by kernel_rfl)]
 exact laidMet_laidAll _ (by kernel_rfl) (by kernel_rfl)
theorem i64_bd {x : Int} (h : (Lit.int .i64 x).wf = true) : -9223372036854775808 ≤ x ∧ x ≤ 9223372036854775807 := by
 simpa [Lit.wf, IntKind.min, IntKind.max, IntKind.signed, IntKind.bits] using h
theorem u64_bd {x : Int} (h : (Lit.int .u64 x).wf = true) : 0 ≤ x ∧ x ≤ 18446744073709551615 := by
 simpa [Lit.wf, IntKind.min, IntKind.max, IntKind.signed, IntKind.bits] using h
end Go.Proofs.YtjppkehnjnmbnaaGreat
namespace Go.Proofs.YtjppkehnjnmbnaaGreat.Df
open Go.ChangeShapes Go.WideShapes Go.ChangeAt Go.RowKit Go.Joins
theorem cell_in {W : World} {a : Addr} {u : Value} (h : W.cell? a = some u) : a.spot = none ∧ a.block < W.heap.size := by
 unfold World.cell? at h
 split at h
 ·rename_i hh
  refine ⟨?_, (Array.getElem?_eq_some_iff.1 hh).1⟩
  split at h
  ·cases h
  ·rename_i hs
   simpa using hs
 ·cases h
theorem weights_all {H : Type} {P : Program} {e : TypeId} {l : List (DataW H)} {d : DataW H} (hd : d ∈ l) {n : Nat} (hn : n ∈ d.weights P e) : n ∈ DataW.weightsAll P e l := by
 induction l with
 | nil => cases hd
 | cons x l ih =>
  simp only [DataW.weightsAll, List.mem_append]
  rcases List.mem_cons.1 hd with rfl | hd
  ·exact Or.inl hn
  ·exact Or.inr (ih hd)
def Wgt {H : Type} (P : Program) (t : TypeId) (d : DataW H) : Prop := ∀ n ∈ d.weights P t, n ≤ reachBytes
theorem trod_list {P : Program} {α : Type} [Inhabited α] (E : El α) (Pr : α → Prop) {sT eT : TypeId} (hu : P.underlying sT = some (.slice eT)) (hc : P.cellsOf eT = E.k) (hk : 0 < E.k)
    {H : Type} {enc : TypeId × Value → H} {W : World} {base : Nat} {sp : Nat → Bool} {held : Bool}
    (hel : ∀ fuel cs y, cs.length = E.k → DataW.trod enc P W base sp held fuel eT cs = some y → Wgt P eT y.1 → ∃ x, cs = E.enc x ∧ Pr x)
    (fuel : Nat) (cs : List Value) (y : DataW H × List MemPlace) (h : DataW.trod enc P W base sp held fuel sT cs = some y) (hw : Wgt P sT y.1) :
    ∃ (q : Option Addr) (c : Nat) (ts : List α), cs = [.slice q ts.length c] ∧ Lz E W.heap.size W (.slice q ts.length c) ts ∧ (∀ x ∈ ts, Pr x) ∧ ts.length * P.bytesOf eT ≤ reachBytes ∧ ts.length ≤ c := by
 rcases Deep.open_slice hu h with ⟨hcs, hx⟩ | ⟨a, len, cap, m, n, D, Pl, hcs, hb, hl, hm, hmm, hx, hall⟩
 ·exact ⟨none, 0, [], hcs, Lz.nil _ _ _, fun _ h => (by cases h), by simp, Nat.le_refl _⟩
 ·have hlm : len ≤ m := by rw [hmm]; split <;> omega
  have hws : Wgt P sT (.slice ((List.range len).map D) ((List.range (m - len)).map fun j => D (len + j))) := by rw [hx] at hw; exact hw
  have hsz : len * P.bytesOf eT ≤ reachBytes := by
   have h1 := hws (((List.range len).map D).length * P.bytesOf eT + ((List.range (m - len)).map fun j => D (len + j)).length * P.bytesOf eT) (by simp [DataW.weights, hu, Nat.add_mul])
   simp only [List.length_map, List.length_range] at h1
   omega
  by_cases h0 : len = 0
  ·subst h0
   exact ⟨some a, cap, [], hcs, Or.inr ⟨rfl, _, _, rfl⟩, fun _ h => (by cases h), by simp, Nat.zero_le _⟩
  ·obtain ⟨cs0, g1, _⟩ := hall 0 (by omega)
   rw [hc] at g1
   obtain ⟨_, hl0, hc0⟩ := World.cells?_some g1
   have g0 := hc0 0 hk
   rw [show (a.add (0 * E.k)).add 0 = a by simp [Addr.add]] at g0
   obtain ⟨u0, hu0⟩ : ∃ u, cs0[0]? = some u := ⟨cs0[0]'(by omega), by simp⟩
   obtain ⟨hsp, hlt⟩ := cell_in (g0.trans hu0)
   clear g0 hc0 hl0 g1 hu0
   obtain ⟨b, off, spot⟩ := a
   simp only at hsp hlt
   subst hsp
   obtain ⟨V, hV⟩ := Deep.choose_lt (α := α) (p := fun i t => (∀ j u, j < E.k → (E.enc t)[j]? = some u → W.cell? ⟨b, off + i * E.k + j, none⟩ = some u) ∧ Pr t) (n := len) (fun i hi => by
    obtain ⟨cs', h1, h2⟩ := hall i (by omega)
    rw [hc] at h1
    obtain ⟨_, hl3, hc'⟩ := World.cells?_some h1
    have hwi : Wgt P eT (D i) := fun n hn => hws n (by
     simp only [DataW.weights, hu, List.mem_cons, List.mem_append]
     exact Or.inr (Or.inl (weights_all (List.mem_map.2 ⟨i, List.mem_range.2 hi, rfl⟩) hn)))
    obtain ⟨x, rfl, hPr⟩ := hel _ _ _ hl3 h2 hwi
    refine ⟨x, fun j u hj hu' => ?_, hPr⟩
    have g0 := hc' j hj
    rw [Deep.add_add, addA] at g0
    rw [← Nat.add_assoc] at g0
    rw [g0]
    exact hu')
   refine ⟨some ⟨b, off, none⟩, cap, (List.range len).map V, by simpa using hcs, Or.inl ⟨Or.inr ⟨b, off, cap, rfl, hlt, fun j u hj => ?_⟩, fun k hk => ?_⟩, fun x hx => ?_, by simpa using hsz, by simpa using hl⟩
   ·have hjl : j < len * E.k := by
      have := (List.getElem?_eq_some_iff.1 hj).1
      rw [fl_length] at this
      simpa using this
    have hi : j / E.k < len := (Nat.div_lt_iff_lt_mul hk).2 hjl
    have hg := fl_get E ((List.range len).map V) (j / E.k) (j % E.k) (V (j / E.k)) (by simp [hi]) (Nat.mod_lt _ hk)
    rw [Nat.div_add_mod', hj] at hg
    have := (hV (j / E.k) hi).1 (j % E.k) u (Nat.mod_lt _ hk) hg.symm
    rwa [Nat.add_assoc, Nat.div_add_mod'] at this
   ·simp [Value.ownBlock] at hk
    omega
   ·obtain ⟨i, hi, rfl⟩ := List.mem_map.1 hx
    exact (hV i (List.mem_range.1 hi)).2
theorem c1i : Tryz.prog.cellsOf 3 = 1 := by kernel_rfl
theorem c1b : Tryz.prog.cellsOf 4 = 1 := by kernel_rfl
theorem c1u : Tryz.prog.cellsOf 37 = 1 := by kernel_rfl
theorem c3p : Tryz.prog.cellsOf 39 = 3 := by kernel_rfl
theorem c1o : Tryz.prog.cellsOf 87 = 1 := by kernel_rfl
theorem c1c : Tryz.prog.cellsOf 85 = 1 := by kernel_rfl
instance : Inhabited Opd := ⟨⟨0, 0⟩⟩
instance : Inhabited Con := ⟨⟨0, 0, (0, 0, 0)⟩⟩
instance : Inhabited Edg := ⟨⟨0, 0, 0, 0, false⟩⟩
instance : Inhabited NV := ⟨⟨⟨0, 0, 0, [], (0, 0, 0), 0, [], false⟩, none, 0, 0, none, 0, 0⟩⟩
section
variable {H : Type} {enc : TypeId × Value → H} {W : World} {base : Nat} {sp : Nat → Bool} {held : Bool}
theorem trod_i {fuel : Nat} {c : Value} {y : DataW H × List MemPlace} (h : DataW.trod enc Tryz.prog W base sp held fuel 3 [c] = some y) : ∃ n : Int, c = .int .i64 n ∧ I64 n := by
 obtain ⟨u, e, _, w⟩ := DataW.trod_int Tryz.underlying3 h
 simp at e
 exact ⟨u, e, i64_bd w⟩
theorem trod_u {fuel : Nat} {c : Value} {y : DataW H × List MemPlace} (h : DataW.trod enc Tryz.prog W base sp held fuel 37 [c] = some y) : ∃ n : Nat, c = .int .u64 (n : Nat) ∧ U64 n := by
 obtain ⟨u, e, _, w⟩ := DataW.trod_int Tryz.underlying37 h
 have b := u64_bd w
 simp at e
 exact ⟨u.toNat, by rw [e, Int.toNat_of_nonneg b.1], by unfold U64; omega⟩
set_option maxRecDepth 100000 in
theorem trod_pth (fuel : Nat) (c0 c1 c2 : Value) (y : DataW H × List MemPlace) (h : DataW.trod enc Tryz.prog W base sp held fuel 39 [c0, c1, c2] = some y) : ∃ p : Pth, c0 = .int .u64 (p.1 : Nat) ∧ c1 = .int .u64 (p.2.1 : Nat) ∧ c2 = .int .u64 (p.2.2 : Nat) ∧ PthT p := by
 obtain ⟨xs, k, _, _, _, hxl, hff⟩ := DataW.trod_struct Tryz.underlying39 h
 match xs, hxl with
 | [y0, y1, y2], _ =>
  have k0 : DataW.trod enc Tryz.prog W base sp held k 37 (([c0, c1, c2].drop 0).take (Tryz.prog.cellsOf 37)) = some y0 := hff 0 _ rfl
  have k1 : DataW.trod enc Tryz.prog W base sp held k 37 (([c0, c1, c2].drop 1).take (Tryz.prog.cellsOf 37)) = some y1 := hff 1 _ rfl
  have k2 : DataW.trod enc Tryz.prog W base sp held k 37 (([c0, c1, c2].drop 2).take (Tryz.prog.cellsOf 37)) = some y2 := hff 2 _ rfl
  rw [c1u] at k0 k1 k2
  obtain ⟨a, ea, ta⟩ := trod_u k0
  obtain ⟨b, eb, tb⟩ := trod_u k1
  obtain ⟨c, ec, tc⟩ := trod_u k2
  exact ⟨(a, b, c), ea, eb, ec, ta, tb, tc⟩
set_option maxRecDepth 100000 in
theorem trod_opd (fuel : Nat) (cs : List Value) (y : DataW H × List MemPlace) (hl : cs.length = 2) (h : DataW.trod enc Tryz.prog W base sp held fuel 138 cs = some y) : ∃ o : Opd, cs = EO.enc o ∧ OpdT o := by
 obtain ⟨xs, k, _, _, _, hxl, hff⟩ := DataW.trod_struct Tryz.underlying138 h
 match cs, hl, xs, hxl with
 | [c0, c1], _, [y0, y1], _ =>
  have k0 : DataW.trod enc Tryz.prog W base sp held k 3 (([c0, c1].drop 0).take (Tryz.prog.cellsOf 3)) = some y0 := hff 0 _ rfl
  have k1 : DataW.trod enc Tryz.prog W base sp held k 37 (([c0, c1].drop 1).take (Tryz.prog.cellsOf 37)) = some y1 := hff 1 _ rfl
  rw [c1i] at k0
  rw [c1u] at k1
  obtain ⟨a, rfl, ta⟩ := trod_i k0
  obtain ⟨b, rfl, tb⟩ := trod_u k1
  exact ⟨⟨a, b⟩, rfl, ta, tb⟩
set_option maxRecDepth 100000 in
theorem trod_con (fuel : Nat) (cs : List Value) (y : DataW H × List MemPlace) (hl : cs.length = 5) (h : DataW.trod enc Tryz.prog W base sp held fuel 92 cs = some y) : ∃ o : Con, cs = EC.enc o ∧ ConT o := by
 obtain ⟨xs, k, _, _, _, hxl, hff⟩ := DataW.trod_struct Tryz.underlying92 h
 match cs, hl, xs, hxl with
 | [c0, c1, c2, c3, c4], _, [y0, y1, y2], _ =>
  have k0 : DataW.trod enc Tryz.prog W base sp held k 3 (([c0, c1, c2, c3, c4].drop 0).take (Tryz.prog.cellsOf 3)) = some y0 := hff 0 _ rfl
  have k1 : DataW.trod enc Tryz.prog W base sp held k 3 (([c0, c1, c2, c3, c4].drop 1).take (Tryz.prog.cellsOf 3)) = some y1 := hff 1 _ rfl
  have k2 : DataW.trod enc Tryz.prog W base sp held k 39 (([c0, c1, c2, c3, c4].drop 2).take (Tryz.prog.cellsOf 39)) = some y2 := hff 2 _ rfl
  rw [c1i] at k0 k1
  rw [c3p] at k2
  obtain ⟨a, rfl, ta⟩ := trod_i k0
  obtain ⟨b, rfl, tb⟩ := trod_i k1
  obtain ⟨p, rfl, rfl, rfl, tp⟩ := trod_pth _ _ _ _ _ k2
  exact ⟨⟨a, b, p⟩, rfl, ta, tb, tp⟩
set_option maxRecDepth 100000 in
theorem trod_edg (fuel : Nat) (cs : List Value) (y : DataW H × List MemPlace) (hl : cs.length = 5) (h : DataW.trod enc Tryz.prog W base sp held fuel 94 cs = some y) : ∃ o : Edg, cs = ED.enc o ∧ EdgT o := by
 obtain ⟨xs, k, _, _, _, hxl, hff⟩ := DataW.trod_struct Tryz.underlying94 h
 match cs, hl, xs, hxl with
 | [c0, c1, c2, c3, c4], _, [y0, y1, y2, y3, y4], _ =>
  have k0 : DataW.trod enc Tryz.prog W base sp held k 3 (([c0, c1, c2, c3, c4].drop 0).take (Tryz.prog.cellsOf 3)) = some y0 := hff 0 _ rfl
  have k1 : DataW.trod enc Tryz.prog W base sp held k 3 (([c0, c1, c2, c3, c4].drop 1).take (Tryz.prog.cellsOf 3)) = some y1 := hff 1 _ rfl
  have k2 : DataW.trod enc Tryz.prog W base sp held k 3 (([c0, c1, c2, c3, c4].drop 2).take (Tryz.prog.cellsOf 3)) = some y2 := hff 2 _ rfl
  have k3 : DataW.trod enc Tryz.prog W base sp held k 3 (([c0, c1, c2, c3, c4].drop 3).take (Tryz.prog.cellsOf 3)) = some y3 := hff 3 _ rfl
  have k4 : DataW.trod enc Tryz.prog W base sp held k 4 (([c0, c1, c2, c3, c4].drop 4).take (Tryz.prog.cellsOf 4)) = some y4 := hff 4 _ rfl
  rw [c1i] at k0 k1 k2 k3
  rw [c1b] at k4
  obtain ⟨a, rfl, ta⟩ := trod_i k0
  obtain ⟨b, rfl, tb⟩ := trod_i k1
  obtain ⟨c, rfl, tc⟩ := trod_i k2
  obtain ⟨d, rfl, td⟩ := trod_i k3
  obtain ⟨e, he, _⟩ := DataW.trod_bool Tryz.underlying4 k4
  simp at he
  subst he
  exact ⟨⟨a, b, c, d, e⟩, rfl, ta, tb, tc, td⟩
end
end Go.Proofs.YtjppkehnjnmbnaaGreat.Df
namespace Go.Proofs.YtjppkehnjnmbnaaGreat.Df
open Go.ChangeShapes Go.WideShapes Go.ChangeAt Go.RowKit Go.Joins
section
variable {H : Type} {enc : TypeId × Value → H} {W : World} {base : Nat} {sp : Nat → Bool} {held : Bool}
def NodK2 (W : World) (x : NV) : Prop := NodT x.n ∧ NR W.heap.size W x ∧ x.n.code.length * 16 ≤ 140737488351232 ∧ x.n.conns.length * 40 ≤ 140737488351232 ∧ x.n.conns.length ≤ x.dc
def Sz (xs : List NV) (es : List Edg) : Prop := xs.length * 112 ≤ 140737488351232 ∧ es.length * 40 ≤ 140737488351232 ∧ ∀ x ∈ xs, x.n.code.length * 16 ≤ 140737488351232 ∧ x.n.conns.length * 40 ≤ 140737488351232
set_option maxRecDepth 100000 in
theorem trod_nod2 (fuel : Nat) (cs : List Value) (y : DataW H × List MemPlace) (hl : cs.length = 10) (h : DataW.trod enc Tryz.prog W base sp held fuel 89 cs = some y) (hw : Wgt Tryz.prog 89 y.1) : ∃ x : NV, cs = EV.enc x ∧ NodK2 W x := by
 obtain ⟨xs, k, _, hxy, _, hxl, hff⟩ := DataW.trod_struct Tryz.underlying89 h
 match cs, hl, xs, hxl with
 | [c0, c1, c2, c3, c4, c5, c6, c7, c8, c9], _, [y0, y1, y2, y3, y4, y5, y6, y7], _ =>
  have hwe : ∀ n ∈ DataW.weightsEach Tryz.prog [3, 3, 3, 87, 39, 37, 85, 4] [y0.1, y1.1, y2.1, y3.1, y4.1, y5.1, y6.1, y7.1], n ≤ reachBytes := fun n hn => hw n (by
   rw [hxy]
   simp only [DataW.weights, Tryz.underlying89]
   exact hn)
  have k0 : DataW.trod enc Tryz.prog W base sp held k 3 (([c0, c1, c2, c3, c4, c5, c6, c7, c8, c9].drop 0).take (Tryz.prog.cellsOf 3)) = some y0 := hff 0 _ rfl
  have k1 : DataW.trod enc Tryz.prog W base sp held k 3 (([c0, c1, c2, c3, c4, c5, c6, c7, c8, c9].drop 1).take (Tryz.prog.cellsOf 3)) = some y1 := hff 1 _ rfl
  have k2 : DataW.trod enc Tryz.prog W base sp held k 3 (([c0, c1, c2, c3, c4, c5, c6, c7, c8, c9].drop 2).take (Tryz.prog.cellsOf 3)) = some y2 := hff 2 _ rfl
  have k3 : DataW.trod enc Tryz.prog W base sp held k 87 (([c0, c1, c2, c3, c4, c5, c6, c7, c8, c9].drop 3).take (Tryz.prog.cellsOf 87)) = some y3 := hff 3 _ rfl
  have k4 : DataW.trod enc Tryz.prog W base sp held k 39 (([c0, c1, c2, c3, c4, c5, c6, c7, c8, c9].drop 4).take (Tryz.prog.cellsOf 39)) = some y4 := hff 4 _ rfl
  have k5 : DataW.trod enc Tryz.prog W base sp held k 37 (([c0, c1, c2, c3, c4, c5, c6, c7, c8, c9].drop 7).take (Tryz.prog.cellsOf 37)) = some y5 := hff 5 _ rfl
  have k6 : DataW.trod enc Tryz.prog W base sp held k 85 (([c0, c1, c2, c3, c4, c5, c6, c7, c8, c9].drop 8).take (Tryz.prog.cellsOf 85)) = some y6 := hff 6 _ rfl
  have k7 : DataW.trod enc Tryz.prog W base sp held k 4 (([c0, c1, c2, c3, c4, c5, c6, c7, c8, c9].drop 9).take (Tryz.prog.cellsOf 4)) = some y7 := hff 7 _ rfl
  rw [c1i] at k0 k1 k2
  rw [c1o] at k3
  rw [c3p] at k4
  rw [c1u] at k5
  rw [c1c] at k6
  rw [c1b] at k7
  obtain ⟨a, rfl, ta⟩ := trod_i k0
  obtain ⟨b, rfl, tb⟩ := trod_i k1
  obtain ⟨c, rfl, tc⟩ := trod_i k2
  obtain ⟨q3, d3, l3, e3, z3, p3, s3, _⟩ := trod_list EO OpdT Tryz.underlying87 (by kernel_rfl) (by decide) (fun fuel cs y hl h _ => trod_opd fuel cs y hl h) _ _ _ k3 (fun n hn => hwe n (DataW.weights_mem_each (j := 3) rfl rfl n hn))
  obtain ⟨p, rfl, rfl, rfl, tp⟩ := trod_pth _ _ _ _ _ k4
  obtain ⟨u, rfl, tu⟩ := trod_u k5
  obtain ⟨q6, d6, l6, e6, z6, p6, s6, t6⟩ := trod_list EC ConT Tryz.underlying85 (by kernel_rfl) (by decide) (fun fuel cs y hl h _ => trod_con fuel cs y hl h) _ _ _ k6 (fun n hn => hwe n (DataW.weights_mem_each (j := 6) rfl rfl n hn))
  obtain ⟨e, he, _⟩ := DataW.trod_bool Tryz.underlying4 k7
  simp at he e3 e6
  subst he e3 e6
  rw [show Tryz.prog.bytesOf 138 = 16 by kernel_rfl] at s3
  rw [show Tryz.prog.bytesOf 92 = 40 by kernel_rfl] at s6
  have hrb : reachBytes ≤ 140737488351232 := by decide
  exact ⟨⟨⟨a, b, c, l3, p, u, l6, e⟩, q3, l3.length, d3, q6, l6.length, d6⟩, rfl, ⟨ta, tb, tc, p3, tp, tu, p6⟩, ⟨z3, z6⟩, by simp only; omega, by simp only; omega, t6⟩
end
end Go.Proofs.YtjppkehnjnmbnaaGreat.Df

namespace Go.Proofs.YtjppkehnjnmbnaaGreat.Lf
open Go.ChangeShapes Go.WideShapes Go.ChangeAt Go.RowKit Go.Joins Go.Sort Pt
open Df (Gph gof GR Gcap NV Edg GphT EdgT)
theorem bulk_one {H : Type} (d : DataW H) : 1 ≤ Rows.uptoBulk d := by
 cases d with
 | lit l => cases l <;> simp [Rows.uptoBulk]
 | nil => simp [Rows.uptoBulk]
 | ptr d => simp [Rows.uptoBulk]
 | slice elems spare => simp [Rows.uptoBulk]
 | agg parts => simp [Rows.uptoBulk]
 | iface t d => simp [Rows.uptoBulk]
 | map entries => simp [Rows.uptoBulk]
 | held h => simp [Rows.uptoBulk]
theorem bulk_len {H : Type} (l : List (DataW H)) : l.length ≤ Rows.uptoBulkAll l := by
 induction l with
 | nil => simp [Rows.uptoBulkAll]
 | cons x r ih => have := bulk_one x; simp only [Rows.uptoBulkAll, List.length_cons]; omega
section
variable {H : Type} {enc : TypeId × Value → H} {W : World} {base : Nat} {sp : Nat → Bool} {held : Bool}
theorem trod_bulk {P : Program} {sT eT : TypeId} (hu : P.underlying sT = some (.slice eT)) {fuel : Nat} {q : Option Addr} {n c : Nat} {y : DataW H × List MemPlace} (h : DataW.trod enc P W base sp held fuel sT [.slice q n c] = some y) : n ≤ Rows.uptoBulk y.1 := by
 rcases Deep.open_slice hu h with ⟨hcs, hx⟩ | ⟨a, len, cap, m, n', D, Pl, hcs, hb, hl, hm, hmm, hx, hall⟩
 ·simp at hcs
  omega
 ·simp at hcs
  obtain ⟨rfl, rfl, rfl⟩ := hcs
  rw [hx]
  have := bulk_len ((List.range n).map D)
  simp only [Rows.uptoBulk]
  simp only [List.length_map, List.length_range] at this
  omega
theorem trod_w {fuel : Nat} {c : Value} {y : DataW H × List MemPlace} (h : DataW.trod enc Tryz.prog W base sp held fuel 37 [c] = some y) : ∃ n : Int, c = .int .u64 n ∧ (Lit.int .u64 n).wf = true := by
 obtain ⟨u, e, _, w⟩ := DataW.trod_int Tryz.underlying37 h
 simp at e
 exact ⟨u, e, w⟩
set_option maxRecDepth 100000 in
theorem trod_stamp (fuel : Nat) (cs : List Value) (y : DataW H × List MemPlace) (hl : cs.length = 4) (h : DataW.trod enc Tryz.prog W base sp held fuel 52 cs = some y) : ∃ x : Hf.Th, cs = EF.enc x ∧ True := by
 have hthree : Tryz.prog.cellsOf 50 = 3 := by kernel_rfl
 match cs, hl with
 | [c3, c4, c5, c6], _ =>
  obtain ⟨zs, k', _, _, _, hzl, hgg⟩ := DataW.trod_struct Tryz.underlying52 h
  match zs, hzl with
  | [z0, z1], _ =>
   have j0 : DataW.trod enc Tryz.prog W base sp held k' 3 (([c3, c4, c5, c6].drop 0).take (Tryz.prog.cellsOf 3)) = some z0 := hgg 0 _ rfl
   have j1 : DataW.trod enc Tryz.prog W base sp held k' 50 (([c3, c4, c5, c6].drop 1).take (Tryz.prog.cellsOf 50)) = some z1 := hgg 1 _ rfl
   rw [Df.c1i] at j0
   rw [hthree] at j1
   obtain ⟨u3, rfl, _⟩ := Df.trod_i j0
   simp only [List.drop_succ_cons, List.drop_zero, List.take_succ_cons, List.take_zero] at j1
   obtain ⟨ts, k2', _, _, _, htl, hhh⟩ := DataW.trod_struct Tryz.underlying50 j1
   match ts, htl with
   | [t0, t1, t2], _ =>
    have i0 : DataW.trod enc Tryz.prog W base sp held k2' 37 (([c4, c5, c6].drop 0).take (Tryz.prog.cellsOf 37)) = some t0 := hhh 0 _ rfl
    have i1 : DataW.trod enc Tryz.prog W base sp held k2' 37 (([c4, c5, c6].drop 1).take (Tryz.prog.cellsOf 37)) = some t1 := hhh 1 _ rfl
    have i2 : DataW.trod enc Tryz.prog W base sp held k2' 37 (([c4, c5, c6].drop 2).take (Tryz.prog.cellsOf 37)) = some t2 := hhh 2 _ rfl
    rw [Df.c1u] at i0 i1 i2
    obtain ⟨u4, rfl, w4⟩ := trod_w i0
    obtain ⟨u5, rfl, w5⟩ := trod_w i1
    obtain ⟨u6, rfl, w6⟩ := trod_w i2
    exact ⟨(u3, ⟨(u4, u5, u6), w4, w5, w6⟩), rfl, trivial⟩
set_option maxRecDepth 100000 in
theorem trod_graph (fuel : Nat) (c0 c1 c2 : Value) (y : DataW H × List MemPlace) (h : DataW.trod enc Tryz.prog W base sp held fuel 25 [c0, c1, c2] = some y) (hw : Df.Wgt Tryz.prog 25 y.1) :
    ∃ (a : Int) (xs : List NV) (es : List Edg), c0 = .int .i64 a ∧ GphT (gof a xs es) ∧ GR W.heap.size W c1 c2 xs es ∧ Df.Sz xs es ∧ Gcap c2 xs := by
 obtain ⟨xs, k, _, hxy, _, hxl, hff⟩ := DataW.trod_struct Tryz.underlying25 h
 match xs, hxl with
 | [y0, y1, y2], _ =>
  have hwe : ∀ n ∈ DataW.weightsEach Tryz.prog [3, 22, 23] [y0.1, y1.1, y2.1], n ≤ reachBytes := fun n hn => hw n (by
   rw [hxy]
   simp only [DataW.weights, Tryz.underlying25]
   exact hn)
  have h0 : DataW.trod enc Tryz.prog W base sp held k 3 (([c0, c1, c2].drop 0).take (Tryz.prog.cellsOf 3)) = some y0 := hff 0 _ rfl
  have h1 : DataW.trod enc Tryz.prog W base sp held k 22 (([c0, c1, c2].drop 1).take (Tryz.prog.cellsOf 22)) = some y1 := hff 1 _ rfl
  have h2 : DataW.trod enc Tryz.prog W base sp held k 23 (([c0, c1, c2].drop 2).take (Tryz.prog.cellsOf 23)) = some y2 := hff 2 _ rfl
  rw [Df.c1i] at h0
  rw [show Tryz.prog.cellsOf 22 = 1 by kernel_rfl] at h1
  rw [show Tryz.prog.cellsOf 23 = 1 by kernel_rfl] at h2
  obtain ⟨a, rfl, ta⟩ := Df.trod_i h0
  obtain ⟨q1, d1, l1, e1, z1, p1, s1, _⟩ := Df.trod_list Df.EV (Df.NodK2 W) Tryz.underlying22 (by kernel_rfl) (by decide) (fun fuel cs y hl h hw => Df.trod_nod2 fuel cs y hl h hw) _ _ _ h1 (fun n hn => hwe n (DataW.weights_mem_each (j := 1) rfl rfl n hn))
  obtain ⟨q2, d2, l2, e2, z2, p2, s2, t2⟩ := Df.trod_list Df.ED EdgT Tryz.underlying23 (by kernel_rfl) (by decide) (fun fuel cs y hl h _ => Df.trod_edg fuel cs y hl h) _ _ _ h2 (fun n hn => hwe n (DataW.weights_mem_each (j := 2) rfl rfl n hn))
  simp at e1 e2
  subst e1 e2
  rw [show Tryz.prog.bytesOf 89 = 112 by kernel_rfl] at s1
  rw [show Tryz.prog.bytesOf 94 = 40 by kernel_rfl] at s2
  have hrb : reachBytes ≤ 140737488351232 := by decide
  refine ⟨a, l1, l2, rfl, ⟨ta, fun n hn => ?_, p2⟩, ⟨z1, z2, fun x hx => (p1 x hx).2.1, fun x hx => by have := (p1 x hx).2.2; omega, by omega, by omega⟩, ⟨by omega, by omega, fun x hx => ⟨(p1 x hx).2.2.1, (p1 x hx).2.2.2.1⟩⟩, ⟨fun p n c e => by simp only [Value.slice.injEq] at e; omega, fun x hx => ⟨(p1 x hx).2.2.2.2, by have := (p1 x hx).2.2.2.1; omega⟩⟩⟩
  obtain ⟨x, hx, rfl⟩ := List.mem_map.1 hn
  exact (p1 x hx).1
end
theorem GphT.gpt {g : Gph} (h : GphT g) : Gpt g := fun n hn => ⟨(h.2.1 n hn).2.2.2.2.1, fun c hc => ((h.2.1 n hn).2.2.2.2.2.2 c hc).2.2⟩
theorem array6 {cs : Array Value} (h : cs.size = 6) : ∃ c0 c1 c2 c3 c4 c5, cs = #[c0, c1, c2, c3, c4, c5] := by
 obtain ⟨l⟩ := cs
 match l, h with
 | [c0, c1, c2, c3, c4, c5], _ => exact ⟨c0, c1, c2, c3, c4, c5, rfl⟩
set_option maxRecDepth 100000 in
theorem open_ask11 {H : Type} {enc : TypeId × Value → H} {W : World} {r : Reach} {b0 base : Nat} {sp : Nat → Bool} {held : Bool} {v : Value} {d : DataW H} {p : List MemPlace} (hv : Value.okWide Tryz.prog W r b0 67 v) (h : DataW.Trod enc Tryz.prog W base sp held 67 v d p) (hw : Df.Wgt Tryz.prog 67 d) :
    (∀ x ∈ p, x.block < W.heap.size) ∧ ∃ (a : Int) (nv ev sv : Value) (P Q : Int) (xs : List NV) (es : List Edg) (l : List Hf.Th), v = .agg #[.int .i64 a, nv, ev, .int .i64 P, .int .i64 Q, sv] ∧ GphT (gof a xs es) ∧ GR W.heap.size W nv ev xs es ∧ Df.Sz xs es ∧ Gcap ev xs ∧ Df.Lz EF W.heap.size W sv l ∧ l.length * 32 ≤ 140737488351232 ∧ l.length ≤ Rows.uptoBulk d := by
 have hlt : ∀ x ∈ p, x.block < W.heap.size := by
  obtain ⟨fuel, hf⟩ := h
  exact DataW.trod_lt fuel _ _ _ hf
 refine ⟨hlt, ?_⟩
 obtain ⟨cs, rfl, hsz⟩ := okWide_struct Tryz.underlying67 hv
 obtain ⟨c0, c1, c2, c3, c4, c5, rfl⟩ := array6 (hsz.trans (by kernel_rfl))
 obtain ⟨fuel, hf⟩ := h
 simp only [Value.cells] at hf
 obtain ⟨xs, k, _, hxy, _, hxl, hff⟩ := DataW.trod_struct Tryz.underlying67 hf
 match xs, hxl with
 | [y0, y1, y2, y3], _ =>
  simp only [Prod.mk.injEq, List.map_cons, List.map_nil] at hxy
  obtain ⟨rfl, _⟩ := hxy
  have hwe : ∀ n ∈ DataW.weightsEach Tryz.prog [25, 3, 3, 49] [y0.1, y1.1, y2.1, y3.1], n ≤ reachBytes := fun n hn => hw n (by
   simp only [DataW.weights, Tryz.underlying67]
   exact hn)
  have h0 : DataW.trod enc Tryz.prog W base sp held k 25 (([c0, c1, c2, c3, c4, c5].drop 0).take (Tryz.prog.cellsOf 25)) = some y0 := hff 0 _ rfl
  have h1 : DataW.trod enc Tryz.prog W base sp held k 3 (([c0, c1, c2, c3, c4, c5].drop 3).take (Tryz.prog.cellsOf 3)) = some y1 := hff 1 _ rfl
  have h2 : DataW.trod enc Tryz.prog W base sp held k 3 (([c0, c1, c2, c3, c4, c5].drop 4).take (Tryz.prog.cellsOf 3)) = some y2 := hff 2 _ rfl
  have h3 : DataW.trod enc Tryz.prog W base sp held k 49 (([c0, c1, c2, c3, c4, c5].drop 5).take (Tryz.prog.cellsOf 49)) = some y3 := hff 3 _ rfl
  rw [show Tryz.prog.cellsOf 25 = 3 by kernel_rfl] at h0
  rw [Df.c1i] at h1 h2
  rw [show Tryz.prog.cellsOf 49 = 1 by kernel_rfl] at h3
  obtain ⟨a, xs, es, rfl, hT, hG, hS, hC⟩ := trod_graph _ _ _ _ _ h0 (fun n hn => hwe n (DataW.weights_mem_each (j := 0) rfl rfl n hn))
  obtain ⟨P, rfl, _⟩ := Df.trod_i h1
  obtain ⟨Q, rfl, _⟩ := Df.trod_i h2
  obtain ⟨q3, d3, l3, e3, z3, _, s3, _⟩ := Df.trod_list EF (fun _ => True) Tryz.underlying49 (by kernel_rfl) (by decide) (fun fuel cs y hl h _ => trod_stamp fuel cs y hl h) _ _ _ h3 (fun n hn => hwe n (DataW.weights_mem_each (j := 3) rfl rfl n hn))
  simp at e3
  subst e3
  rw [show Tryz.prog.bytesOf 52 = 32 by kernel_rfl] at s3
  have hrb : reachBytes ≤ 140737488351232 := by decide
  have hbk := trod_bulk Tryz.underlying49 h3
  refine ⟨a, c1, c2, _, P, Q, xs, es, l3, rfl, hT, hG, hS, hC, z3, by omega, ?_⟩
  simp only [Rows.uptoBulk, Rows.uptoBulkAll]
  omega
end Go.Proofs.YtjppkehnjnmbnaaGreat.Lf
