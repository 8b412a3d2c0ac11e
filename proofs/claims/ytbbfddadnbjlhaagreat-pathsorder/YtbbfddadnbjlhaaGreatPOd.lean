import Derived.Test.YtbbfddadnbjlhaaGreatJ21
import Derived.Test.YtbbfddadnbjlhaaGreatJ22
namespace Go.Proofs.YtbbfddadnbjlhaaGreat.Lf
open Go.RowKit Go.Sort Pt
open Df (hid Gph plN Gok GR NV Edg gof gvc Gcap EI tk_store tk_lt owns_form owns_caps stL ordN)
attribute [local go_sem ↓] Go.wp_at_zero Go.wp_at_succ
theorem cld_at {n : Nat} {R : Nat → Nat → List Tri} {St : Nat → Nat → Tri → Prop} (h : ∀ p, p < n → Res PX St p (some (R p))) {s u : Hf.Th} (hs : 0 ≤ s.1 ∧ s.1 < (n : Int)) (hu : 0 ≤ u.1 ∧ u.1 < (n : Int)) : cldB n R s u = true ↔ Cld St s.1.toNat s.2 u.1.toNat u.2 := by
 have h1 := cldB_iff h (i := s.1.toNat) (j := u.1.toNat) (by omega) (by omega) (t := s.2) (u := u.2)
 rw [Int.toNat_of_nonneg hs.1, Int.toNat_of_nonneg hu.1] at h1
 exact h1
theorem cldB_later {n : Nat} {R : Nat → Nat → List Tri} {St : Nat → Nat → Tri → Prop} (h : ∀ p, p < n → Res PX St p (some (R p))) {s u : Hf.Th} (hs : 0 ≤ s.1 ∧ s.1 < (n : Int)) (he : s.1 = u.1) (hb : Pc.bel s.2 u.2 = true) : cldB n R s u = true := by
 refine (cld_at h hs (by rw [← he]; exact hs)).2 ?_
 rw [← he]
 exact Cld.refl ((Pc.bel_iff _ _).1 hb)
theorem cldB_trans {n : Nat} {R : Nat → Nat → List Tri} {St : Nat → Nat → Tri → Prop} (h : ∀ p, p < n → Res PX St p (some (R p))) {s u v : Hf.Th} (hs : 0 ≤ s.1 ∧ s.1 < (n : Int)) (hu : 0 ≤ u.1 ∧ u.1 < (n : Int)) (hv : 0 ≤ v.1 ∧ v.1 < (n : Int)) (h1 : cldB n R s u = true) (h2 : cldB n R u v = true) : cldB n R s v = true :=
 (cld_at h hs hv).2 (Cld.trans ((cld_at h hs hu).1 h1) ((cld_at h hu hv).1 h2))
theorem cldB_anti {g : Gph} {R : Nat → Nat → List Tri} (hP : Gpt g) (hok : Gok g) (ho : ordN (stL g).length (stL g) (stL g).length ≠ none) (h : ∀ p, p < plN g.nodes → Res PX (StG g) p (some (R p))) {s u : Hf.Th} (hs : 0 ≤ s.1 ∧ s.1 < (plN g.nodes : Int)) (hu : 0 ≤ u.1 ∧ u.1 < (plN g.nodes : Int)) (hne : s ≠ u) (h1 : cldB (plN g.nodes) R s u = true) : cldB (plN g.nodes) R u s = false := by
 cases e : cldB (plN g.nodes) R u s with
 | false => rfl
 | true =>
  obtain ⟨k1, k2⟩ := cld_anti hP hok ho ((cld_at h hs hu).1 h1) ((cld_at h hu hs).1 e)
  exact absurd (Prod.ext (by omega) k2) hne
set_option maxRecDepth 100000 in
set_option maxHeartbeats 64000000 in
theorem pathsOrder_any {M0 M2 : Nat} {nv ev sv : Value} {a : Int} {xs : List NV} {es : List Edg} {l : List Hf.Th} (w : World) (hG : GR M0 w nv ev xs es) (hM : M0 ≤ w.heap.size) (hC : Gcap ev xs) (hP : Gpt (gof a xs es)) (hs : Df.Lz EF M2 w sv l) (hll : l.length * 32 ≤ 140737488351232) : Calls Tryz.prog 4 #[.agg (gvc a nv ev), sv] w fun e w' => e = .returned (.bool true) ∧ Below w.heap.size w w' := by
 have hmx : Tryz.prog.follows .mixedOrders = true := by kernel_rfl
 obtain ⟨ps, cs, rfl⟩ := hs.form
 obtain ⟨xb, hxb⟩ : ∃ b, b = w.heap.size := ⟨_, rfl⟩
 obtain ⟨W0, hW0⟩ : ∃ W, W = w.alloc (.cells (gvc a nv ev) 25) := ⟨_, rfl⟩
 have P0 : Hid (Below w.heap.size w W0 ∧ W0.heap[xb]? = some (.cells (gvc a nv ev) 25 (0, 0)) ∧ Df.Lz EF M2 W0 (.slice ps l.length cs) l) := by
  rw [hW0, hxb]
  exact ⟨((Gr.refl w).alloc _).below, heap_new' _ _, hs.below ((Gr.refl w).alloc _).below⟩
 have hbo := both2_any (a := a) W0 (hG.below P0.out.1) (Nat.le_trans hM P0.out.1.size) hC hP
 have HPT := hid hP
 have HW0 : Hid (w.alloc (.cells (gvc a nv ev) 25) = W0 ∧ w.heap.size = xb) := ⟨hW0.symm, hxb.symm⟩
 have c0 := (tk_store P0.out.2.1).1
 have l0 := tk_lt P0.out.2.1
 have hlz : (l.length : Int) ≤ 140737488351232 := by omega
 clear hG hM hC hP hs hW0 hxb hll
 obtain ⟨g, hg⟩ : ∃ g, g = gof a xs es := ⟨_, rfl⟩
 rw [← hg] at hbo HPT
 clear hg
 go_enter Tryz.func4, Tryz.ntmps4
 go_upto_region 1 with fail
 rw [HW0.out.1, HW0.out.2]
 clear HW0
 go_wp2_with fail
 refine hbo.mono ?_
 clear hbo c0 l0
 rintro r w1 ⟨hb1, hr⟩
 have HB1 := hid hb1
 clear hb1
 rcases hr with rfl | ⟨tb, rb, R, hord, hok, hres, rfl, htp, htr⟩
 ·go_wp2_with fail
  refine (known_any w1).mono ?_
  rintro r w2 ⟨rfl, H2⟩
  have HBz : Hid (Below w.heap.size w w2) := P0.out.1.trans ((HB1.out.trans (H2.out.mono HB1.out.size)).mono P0.out.1.size)
  go_wp2_with fail
  go_ret
  exact ⟨rfl, HBz.out⟩
 ·have HR := hid (bt_len hres)
  have HRS := hid hres
  have HT := hid htp
  have HTR := hid htr
  have HOK := hid hok
  have hn := Df.plN_le hok
  have HAN : Hid (∀ s u : Hf.Th, 0 ≤ s.1 ∧ s.1 < (plN g.nodes : Int) → 0 ≤ u.1 ∧ u.1 < (plN g.nodes : Int) → s ≠ u → cldB (plN g.nodes) R s u = true → cldB (plN g.nodes) R u s = false) := fun s u h1 h2 h3 h4 => cldB_anti HPT.out hok hord hres h1 h2 h3 h4
  clear hres htp htr hok hord
  obtain ⟨n, hnn⟩ : ∃ n, n = plN g.nodes := ⟨_, rfl⟩
  rw [← hnn] at HR HRS HT HTR HAN hn
  clear hnn
  go_wp2_with fail
  refine (known_any w1).mono ?_
  rintro r Wk ⟨rfl, H2⟩
  have HBk : Hid (Below w.heap.size w Wk) := P0.out.1.trans ((HB1.out.trans (H2.out.mono HB1.out.size)).mono P0.out.1.size)
  obtain ⟨rv, HSD⟩ : ∃ rv, Hid (∀ W, Below Wk.heap.size Wk W → W.heap[rb]? = some (.cells #[.int .i64 (n : Nat), rv] 33 (0, 0)) ∧ Df.Lz EF M2 W (.slice ps l.length cs) l) := by
   obtain ⟨rv, q1, _⟩ := HTR.out.keep H2.out
   refine ⟨rv, fun W hb => ?_⟩
   have h1 := H2.out.trans (hb.mono H2.out.size)
   have h2 := HB1.out.trans (h1.mono HB1.out.size)
   exact ⟨(hb.block _ (tk_lt q1)).trans q1, P0.out.2.2.below h2⟩
  have HTK : Hid (∀ W, Below Wk.heap.size Wk W → TP w1.heap.size W tb n R ∧ w1.heap.size ≤ W.heap.size) := fun W hb => by
   have h1 := H2.out.trans (hb.mono H2.out.size)
   exact ⟨HT.out.keep h1, h1.size⟩
  clear H2 HT HTR HB1 P0
  go_wp2_with fail
  go_loopw [9, 10] (fun s9 s10 wr => ∃ (i : Nat) (acc : List Hf.Th), i ≤ l.length ∧ acc.length ≤ 12 ∧ s10 = .int .i64 i ∧ Hid ((∀ s ∈ acc, 0 ≤ s.1 ∧ s.1 < (n : Int)) ∧ wr.ownsRow Wk.heap.size 52 4 s9 acc.length (fl EF acc) ∧ Below Wk.heap.size Wk wr)) (fun _ s10 _ => l.length - (RowKit.intOf s10).toNat)
  case atStart => exact ⟨0, [], by omega, by simp, rfl, fun _ h => (by cases h), World.ownsRow_nil _ _ _ _, Below.refl _ _⟩
  case round =>
   obtain ⟨i, acc, hi, hacc, rfl, HL⟩ := hrel
   obtain ⟨pa, ca, hpa⟩ := (owns_ls (E := EF) HL.out.2.1).form
   subst hpa
   obtain ⟨m, hm⟩ : ∃ m, m = acc.length := ⟨_, rfl⟩
   have HM := hid hm
   rw [← hm] at hacc ⊢
   clear hm
   go_upto_region 8 with fail
   go_cut [38] from 30 to 38 (fun s38 wx => ∃ b : Bool, s38 = .bool b ∧ (b = true ↔ i < l.length ∧ m < 12) ∧ wx = wr)
   case first =>
    by_cases h1 : (i : Int) < (l.length : Int)
    ·by_cases h2 : (m : Int) < 12
     ·go_wp2_with fail
      go_meet
      exact ⟨true, by simp, by simp; omega, rfl⟩
     ·go_wp2_with fail
      go_meet
      exact ⟨false, by simp, by simp; omega, rfl⟩
    ·go_wp2_with fail
     go_meet
     exact ⟨false, by simp, by simp; omega, rfl⟩
   case rest =>
   obtain ⟨b, hs38, hb, hwc⟩ := hcut
   have hwd := hwc.symm
   subst hs38
   subst hwd
   clear hwc
   cases b with
   | true =>
    have hil := hb.1 rfl
    clear hb
    obtain ⟨s, hs⟩ : ∃ s, l[i]? = some s := ⟨l[i]'hil.1, by simp⟩
    obtain ⟨b1, o1, c1, hv1, hb1, hc1⟩ := ((HSD.out _ HL.out.2.2).2.ls hs).get hs
    simp only [Value.slice.injEq] at hv1
    obtain ⟨rfl, -, rfl⟩ := hv1
    have x0 : wr.cell? ⟨b1, o1 + i * 4, none⟩ = some (.int .i64 s.1) := hc1 0 _ (by decide) rfl
    have x1 : wr.cell? ⟨b1, o1 + i * 4 + 1, none⟩ = some (.int .u64 s.2.1.1) := hc1 1 _ (by decide) rfl
    have x2 : wr.cell? ⟨b1, o1 + i * 4 + 2, none⟩ = some (.int .u64 s.2.1.2.1) := hc1 2 _ (by decide) rfl
    have x3 : wr.cell? ⟨b1, o1 + i * 4 + 3, none⟩ = some (.int .u64 s.2.1.2.2) := hc1 3 _ (by decide) rfl
    clear hc1 hs
    have hilz : (i : Int) < (l.length : Int) := by omega
    have hi0 : (0 : Int) ≤ (i : Int) := by omega
    have cr := (tk_store (HSD.out _ HL.out.2.2).1).1
    have lr := tk_lt (HSD.out _ HL.out.2.2).1
    have HIM : Hid (i < l.length ∧ m < 12) := hil
    clear hil
    go_upto_region 10 with fail
    go_cut [58] from 41 to 58 (fun s58 wx => s58 = .bool (decide (0 ≤ s.1 ∧ s.1 < (n : Int))) ∧ wx = wr.drew)
    case first =>
     by_cases hneg : 0 ≤ s.1
     ·have HCC : Hid (decide (0 ≤ s.1 ∧ s.1 < (n : Int)) = decide (s.1 < (n : Int))) := by
        show _ = _
        simp [hneg]
      refine wp_regionD (S := fun X => X = wr.drew) (D := []) hmx ?_
      refine' wpAnyD_take (i := 0) (oi := ⟨some 41, .move (.tmp 1), 49, "law.go:298", #[], none⟩) (v := _) rfl (by kernel_rfl) (by kernel_rfl) (by kernel_rfl) (fun _ _ _ h => h) (by kernel_rfl) (Or.inl ⟨by rfl, ?hy1⟩) rfl ?rest1
      case hy1 => (intro W hSw; subst hSw; go_simp; try (with_reducible rfl))
      try simp only [Act.put, List.setIfInBounds_toArray, List.set_cons_zero, List.set_cons_succ]
      refine' wpAnyD_take (i := 1) (oi := ⟨some 42, .move (.tmp 10), 3, "law.go:298", #[], none⟩) (v := _) rfl (by kernel_rfl) (by kernel_rfl) (by kernel_rfl) (fun _ _ _ h => h) (by kernel_rfl) (Or.inl ⟨by rfl, ?hy2⟩) rfl ?rest2
      case hy2 => (intro W hSw; subst hSw; go_simp; try (with_reducible rfl))
      try simp only [Act.put, List.setIfInBounds_toArray, List.set_cons_zero, List.set_cons_succ]
      refine' wpAnyD_take (i := 2) (oi := ⟨some 43, .indexAddr 49 (.tmp 41) (.tmp 42), 0, "law.go:298", #[⟨0, .data⟩, ⟨1, .data⟩], none⟩) (v := _) rfl (by kernel_rfl) (by kernel_rfl) (by kernel_rfl) (fun _ _ _ h => h) (by kernel_rfl) (Or.inl ⟨by rfl, ?hy3⟩) rfl ?rest3
      case hy3 => (intro W hSw; subst hSw; go_simp; try (with_reducible rfl))
      try simp only [Act.put, List.setIfInBounds_toArray, List.set_cons_zero, List.set_cons_succ]
      refine' wpAnyD_take (i := 3) (oi := ⟨some 44, .fieldAddr 52 (.tmp 43) 0, 0, "law.go:298", #[⟨2, .data⟩], none⟩) (v := _) rfl (by kernel_rfl) (by kernel_rfl) (by kernel_rfl) (fun _ _ _ h => h) (by kernel_rfl) (Or.inl ⟨by rfl, ?hy4⟩) rfl ?rest4
      case hy4 => (intro W hSw; subst hSw; go_simp; try (with_reducible rfl))
      try simp only [Act.put, List.setIfInBounds_toArray, List.set_cons_zero, List.set_cons_succ]
      refine' wpAnyD_take (i := 4) (oi := ⟨some 45, .load 3 (.tmp 44), 3, "law.go:298", #[⟨3, .data⟩], none⟩) (v := _) rfl (by kernel_rfl) (by kernel_rfl) (by kernel_rfl) (fun _ _ _ h => h) (by kernel_rfl) (Or.inl ⟨by rfl, ?hy5⟩) rfl ?rest5
      case hy5 => (intro W hSw; subst hSw; go_simp; try (with_reducible rfl))
      try simp only [Act.put, List.setIfInBounds_toArray, List.set_cons_zero, List.set_cons_succ]
      refine' wpAnyD_take (i := 5) (oi := ⟨some 46, .binOp .geq 3 (.tmp 45) (.const (.int .i64 0)) 3, 4, "law.go:298", #[⟨4, .data⟩], none⟩) (v := .bool true) rfl (by kernel_rfl) (by kernel_rfl) (by kernel_rfl) (fun _ _ _ h => h) (by kernel_rfl) (Or.inl ⟨by rfl, ?hy6⟩) rfl ?rest6
      case hy6 => (intro W hSw; subst hSw; go_simp; first | done | (with_reducible rfl) | simp [hneg])
      try simp only [Act.put, List.setIfInBounds_toArray, List.set_cons_zero, List.set_cons_succ]
      refine' wpAnyD_take (i := 6) (oi := ⟨some 47, .move (.tmp 46), 4, "law.go:298", #[⟨5, .data⟩], none⟩) (v := _) rfl (by kernel_rfl) (by kernel_rfl) (by kernel_rfl) (fun _ _ _ h => h) (by kernel_rfl) (Or.inl ⟨by rfl, ?hy7⟩) rfl ?rest7
      case hy7 => (intro W hSw; subst hSw; go_simp; try (with_reducible rfl))
      try simp only [Act.put, List.setIfInBounds_toArray, List.set_cons_zero, List.set_cons_succ]
      refine' wpAnyD_take (i := 7) (oi := ⟨some 48, .move (.tmp 1), 49, "law.go:298", #[⟨6, .guard⟩], some (6, true)⟩) (v := _) rfl (by kernel_rfl) (by kernel_rfl) (by kernel_rfl) (fun _ _ _ h => h) (by kernel_rfl) (Or.inl ⟨by rfl, ?hy8⟩) rfl ?rest8
      case hy8 => (intro W hSw; subst hSw; go_simp; try (with_reducible rfl))
      try simp only [Act.put, List.setIfInBounds_toArray, List.set_cons_zero, List.set_cons_succ]
      refine' wpAnyD_take (i := 8) (oi := ⟨some 49, .move (.tmp 10), 3, "law.go:298", #[⟨6, .guard⟩], some (6, true)⟩) (v := _) rfl (by kernel_rfl) (by kernel_rfl) (by kernel_rfl) (fun _ _ _ h => h) (by kernel_rfl) (Or.inl ⟨by rfl, ?hy9⟩) rfl ?rest9
      case hy9 => (intro W hSw; subst hSw; go_simp; try (with_reducible rfl))
      try simp only [Act.put, List.setIfInBounds_toArray, List.set_cons_zero, List.set_cons_succ]
      refine' wpAnyD_take (i := 9) (oi := ⟨some 50, .indexAddr 49 (.tmp 48) (.tmp 49), 0, "law.go:298", #[⟨7, .data⟩, ⟨8, .data⟩, ⟨6, .guard⟩], some (6, true)⟩) (v := _) rfl (by kernel_rfl) (by kernel_rfl) (by kernel_rfl) (fun _ _ _ h => h) (by kernel_rfl) (Or.inl ⟨by rfl, ?hy10⟩) rfl ?rest10
      case hy10 => (intro W hSw; subst hSw; go_simp; try (with_reducible rfl))
      try simp only [Act.put, List.setIfInBounds_toArray, List.set_cons_zero, List.set_cons_succ]
      refine' wpAnyD_take (i := 10) (oi := ⟨some 51, .fieldAddr 52 (.tmp 50) 0, 0, "law.go:298", #[⟨9, .data⟩, ⟨6, .guard⟩], some (6, true)⟩) (v := _) rfl (by kernel_rfl) (by kernel_rfl) (by kernel_rfl) (fun _ _ _ h => h) (by kernel_rfl) (Or.inl ⟨by rfl, ?hy11⟩) rfl ?rest11
      case hy11 => (intro W hSw; subst hSw; go_simp; try (with_reducible rfl))
      try simp only [Act.put, List.setIfInBounds_toArray, List.set_cons_zero, List.set_cons_succ]
      refine' wpAnyD_take (i := 11) (oi := ⟨some 52, .load 3 (.tmp 51), 3, "law.go:298", #[⟨10, .data⟩, ⟨6, .guard⟩], some (6, true)⟩) (v := _) rfl (by kernel_rfl) (by kernel_rfl) (by kernel_rfl) (fun _ _ _ h => h) (by kernel_rfl) (Or.inl ⟨by rfl, ?hy12⟩) rfl ?rest12
      case hy12 => (intro W hSw; subst hSw; go_simp; try (with_reducible rfl))
      try simp only [Act.put, List.setIfInBounds_toArray, List.set_cons_zero, List.set_cons_succ]
      refine' wpAnyD_take (i := 12) (oi := ⟨some 53, .move (.tmp 6), 27, "law.go:298", #[⟨6, .guard⟩], some (6, true)⟩) (v := _) rfl (by kernel_rfl) (by kernel_rfl) (by kernel_rfl) (fun _ _ _ h => h) (by kernel_rfl) (Or.inl ⟨by rfl, ?hy13⟩) rfl ?rest13
      case hy13 => (intro W hSw; subst hSw; go_simp; try (with_reducible rfl))
      try simp only [Act.put, List.setIfInBounds_toArray, List.set_cons_zero, List.set_cons_succ]
      refine' wpAnyD_take (i := 13) (oi := ⟨some 54, .nilCheck (.tmp 53), 0, "law.go:298", #[⟨12, .data⟩, ⟨6, .guard⟩], some (6, true)⟩) (v := _) rfl (by kernel_rfl) (by kernel_rfl) (by kernel_rfl) (fun _ _ _ h => h) (by kernel_rfl) (Or.inl ⟨by rfl, ?hy14⟩) rfl ?rest14
      case hy14 => (intro W hSw; subst hSw; go_simp; try (with_reducible rfl))
      try simp only [Act.put, List.setIfInBounds_toArray, List.set_cons_zero, List.set_cons_succ]
      refine' wpAnyD_take (i := 14) (oi := ⟨some 55, .fieldAddr 33 (.tmp 54) 0, 0, "law.go:298", #[⟨13, .data⟩, ⟨6, .guard⟩], some (6, true)⟩) (v := _) rfl (by kernel_rfl) (by kernel_rfl) (by kernel_rfl) (fun _ _ _ h => h) (by kernel_rfl) (Or.inl ⟨by rfl, ?hy15⟩) rfl ?rest15
      case hy15 => (intro W hSw; subst hSw; go_simp; try (with_reducible rfl))
      try simp only [Act.put, List.setIfInBounds_toArray, List.set_cons_zero, List.set_cons_succ]
      refine' wpAnyD_take (i := 15) (oi := ⟨some 56, .load 3 (.tmp 55), 3, "law.go:298", #[⟨14, .data⟩, ⟨6, .guard⟩], some (6, true)⟩) (v := _) rfl (by kernel_rfl) (by kernel_rfl) (by kernel_rfl) (fun _ _ _ h => h) (by kernel_rfl) (Or.inl ⟨by rfl, ?hy16⟩) rfl ?rest16
      case hy16 => (intro W hSw; subst hSw; go_simp; try (with_reducible rfl))
      try simp only [Act.put, List.setIfInBounds_toArray, List.set_cons_zero, List.set_cons_succ]
      refine' wpAnyD_take (i := 16) (oi := ⟨some 57, .binOp .lss 3 (.tmp 52) (.tmp 56) 3, 4, "law.go:298", #[⟨11, .data⟩, ⟨15, .data⟩, ⟨6, .guard⟩], some (6, true)⟩) (v := _) rfl (by kernel_rfl) (by kernel_rfl) (by kernel_rfl) (fun _ _ _ h => h) (by kernel_rfl) (Or.inl ⟨by rfl, ?hy17⟩) rfl ?rest17
      case hy17 => (intro W hSw; subst hSw; go_simp; try (with_reducible rfl))
      try simp only [Act.put, List.setIfInBounds_toArray, List.set_cons_zero, List.set_cons_succ]
      refine' wpAnyD_take (i := 17) (oi := ⟨some 58, .pick (.tmp 47) (.tmp 57) (.const (.bool false)), 4, "law.go:298", #[⟨6, .data⟩, ⟨16, .data⟩], none⟩) (v := _) rfl (by kernel_rfl) (by kernel_rfl) (by kernel_rfl) (fun _ _ _ h => h) (by kernel_rfl) (Or.inl ⟨by rfl, ?hy18⟩) rfl ?rest18
      case hy18 => (intro W hSw; subst hSw; go_simp; try (with_reducible rfl))
      try simp only [Act.put, List.setIfInBounds_toArray, List.set_cons_zero, List.set_cons_succ]
      refine wpAnyD_done (by kernel_rfl) ?_ _
      go_wp2_with fail
      go_meet
      exact ⟨by rw [HCC.out], rfl⟩
     ·have HCC : Hid (decide (0 ≤ s.1 ∧ s.1 < (n : Int)) = false) := by
        show _ = _
        simp [hneg]
      refine wp_regionD (S := fun X => X = wr.drew) (D := []) hmx ?_
      refine' wpAnyD_take (i := 0) (oi := ⟨some 41, .move (.tmp 1), 49, "law.go:298", #[], none⟩) (v := _) rfl (by kernel_rfl) (by kernel_rfl) (by kernel_rfl) (fun _ _ _ h => h) (by kernel_rfl) (Or.inl ⟨by rfl, ?hy19⟩) rfl ?rest19
      case hy19 => (intro W hSw; subst hSw; go_simp; try (with_reducible rfl))
      try simp only [Act.put, List.setIfInBounds_toArray, List.set_cons_zero, List.set_cons_succ]
      refine' wpAnyD_take (i := 1) (oi := ⟨some 42, .move (.tmp 10), 3, "law.go:298", #[], none⟩) (v := _) rfl (by kernel_rfl) (by kernel_rfl) (by kernel_rfl) (fun _ _ _ h => h) (by kernel_rfl) (Or.inl ⟨by rfl, ?hy20⟩) rfl ?rest20
      case hy20 => (intro W hSw; subst hSw; go_simp; try (with_reducible rfl))
      try simp only [Act.put, List.setIfInBounds_toArray, List.set_cons_zero, List.set_cons_succ]
      refine' wpAnyD_take (i := 2) (oi := ⟨some 43, .indexAddr 49 (.tmp 41) (.tmp 42), 0, "law.go:298", #[⟨0, .data⟩, ⟨1, .data⟩], none⟩) (v := _) rfl (by kernel_rfl) (by kernel_rfl) (by kernel_rfl) (fun _ _ _ h => h) (by kernel_rfl) (Or.inl ⟨by rfl, ?hy21⟩) rfl ?rest21
      case hy21 => (intro W hSw; subst hSw; go_simp; try (with_reducible rfl))
      try simp only [Act.put, List.setIfInBounds_toArray, List.set_cons_zero, List.set_cons_succ]
      refine' wpAnyD_take (i := 3) (oi := ⟨some 44, .fieldAddr 52 (.tmp 43) 0, 0, "law.go:298", #[⟨2, .data⟩], none⟩) (v := _) rfl (by kernel_rfl) (by kernel_rfl) (by kernel_rfl) (fun _ _ _ h => h) (by kernel_rfl) (Or.inl ⟨by rfl, ?hy22⟩) rfl ?rest22
      case hy22 => (intro W hSw; subst hSw; go_simp; try (with_reducible rfl))
      try simp only [Act.put, List.setIfInBounds_toArray, List.set_cons_zero, List.set_cons_succ]
      refine' wpAnyD_take (i := 4) (oi := ⟨some 45, .load 3 (.tmp 44), 3, "law.go:298", #[⟨3, .data⟩], none⟩) (v := _) rfl (by kernel_rfl) (by kernel_rfl) (by kernel_rfl) (fun _ _ _ h => h) (by kernel_rfl) (Or.inl ⟨by rfl, ?hy23⟩) rfl ?rest23
      case hy23 => (intro W hSw; subst hSw; go_simp; try (with_reducible rfl))
      try simp only [Act.put, List.setIfInBounds_toArray, List.set_cons_zero, List.set_cons_succ]
      refine' wpAnyD_take (i := 5) (oi := ⟨some 46, .binOp .geq 3 (.tmp 45) (.const (.int .i64 0)) 3, 4, "law.go:298", #[⟨4, .data⟩], none⟩) (v := .bool false) rfl (by kernel_rfl) (by kernel_rfl) (by kernel_rfl) (fun _ _ _ h => h) (by kernel_rfl) (Or.inl ⟨by rfl, ?hy24⟩) rfl ?rest24
      case hy24 => (intro W hSw; subst hSw; go_simp; first | done | (with_reducible rfl) | simp [hneg])
      try simp only [Act.put, List.setIfInBounds_toArray, List.set_cons_zero, List.set_cons_succ]
      refine' wpAnyD_take (i := 6) (oi := ⟨some 47, .move (.tmp 46), 4, "law.go:298", #[⟨5, .data⟩], none⟩) (v := _) rfl (by kernel_rfl) (by kernel_rfl) (by kernel_rfl) (fun _ _ _ h => h) (by kernel_rfl) (Or.inl ⟨by rfl, ?hy25⟩) rfl ?rest25
      case hy25 => (intro W hSw; subst hSw; go_simp; try (with_reducible rfl))
      try simp only [Act.put, List.setIfInBounds_toArray, List.set_cons_zero, List.set_cons_succ]
      refine' wpAnyD_take (i := 7) (oi := ⟨some 48, .move (.tmp 1), 49, "law.go:298", #[⟨6, .guard⟩], some (6, true)⟩) (v := undef) rfl (by kernel_rfl) (by kernel_rfl) (by kernel_rfl) (fun _ _ _ h => h) (by kernel_rfl) (Or.inr ⟨by rfl, rfl⟩) rfl ?rest26
      try simp only [Act.put, List.setIfInBounds_toArray, List.set_cons_zero, List.set_cons_succ]
      refine' wpAnyD_take (i := 8) (oi := ⟨some 49, .move (.tmp 10), 3, "law.go:298", #[⟨6, .guard⟩], some (6, true)⟩) (v := undef) rfl (by kernel_rfl) (by kernel_rfl) (by kernel_rfl) (fun _ _ _ h => h) (by kernel_rfl) (Or.inr ⟨by rfl, rfl⟩) rfl ?rest27
      try simp only [Act.put, List.setIfInBounds_toArray, List.set_cons_zero, List.set_cons_succ]
      refine' wpAnyD_take (i := 9) (oi := ⟨some 50, .indexAddr 49 (.tmp 48) (.tmp 49), 0, "law.go:298", #[⟨7, .data⟩, ⟨8, .data⟩, ⟨6, .guard⟩], some (6, true)⟩) (v := undef) rfl (by kernel_rfl) (by kernel_rfl) (by kernel_rfl) (fun _ _ _ h => h) (by kernel_rfl) (Or.inr ⟨by rfl, rfl⟩) rfl ?rest28
      try simp only [Act.put, List.setIfInBounds_toArray, List.set_cons_zero, List.set_cons_succ]
      refine' wpAnyD_take (i := 10) (oi := ⟨some 51, .fieldAddr 52 (.tmp 50) 0, 0, "law.go:298", #[⟨9, .data⟩, ⟨6, .guard⟩], some (6, true)⟩) (v := undef) rfl (by kernel_rfl) (by kernel_rfl) (by kernel_rfl) (fun _ _ _ h => h) (by kernel_rfl) (Or.inr ⟨by rfl, rfl⟩) rfl ?rest29
      try simp only [Act.put, List.setIfInBounds_toArray, List.set_cons_zero, List.set_cons_succ]
      refine' wpAnyD_take (i := 11) (oi := ⟨some 52, .load 3 (.tmp 51), 3, "law.go:298", #[⟨10, .data⟩, ⟨6, .guard⟩], some (6, true)⟩) (v := undef) rfl (by kernel_rfl) (by kernel_rfl) (by kernel_rfl) (fun _ _ _ h => h) (by kernel_rfl) (Or.inr ⟨by rfl, rfl⟩) rfl ?rest30
      try simp only [Act.put, List.setIfInBounds_toArray, List.set_cons_zero, List.set_cons_succ]
      refine' wpAnyD_take (i := 12) (oi := ⟨some 53, .move (.tmp 6), 27, "law.go:298", #[⟨6, .guard⟩], some (6, true)⟩) (v := undef) rfl (by kernel_rfl) (by kernel_rfl) (by kernel_rfl) (fun _ _ _ h => h) (by kernel_rfl) (Or.inr ⟨by rfl, rfl⟩) rfl ?rest31
      try simp only [Act.put, List.setIfInBounds_toArray, List.set_cons_zero, List.set_cons_succ]
      refine' wpAnyD_take (i := 13) (oi := ⟨some 54, .nilCheck (.tmp 53), 0, "law.go:298", #[⟨12, .data⟩, ⟨6, .guard⟩], some (6, true)⟩) (v := undef) rfl (by kernel_rfl) (by kernel_rfl) (by kernel_rfl) (fun _ _ _ h => h) (by kernel_rfl) (Or.inr ⟨by rfl, rfl⟩) rfl ?rest32
      try simp only [Act.put, List.setIfInBounds_toArray, List.set_cons_zero, List.set_cons_succ]
      refine' wpAnyD_take (i := 14) (oi := ⟨some 55, .fieldAddr 33 (.tmp 54) 0, 0, "law.go:298", #[⟨13, .data⟩, ⟨6, .guard⟩], some (6, true)⟩) (v := undef) rfl (by kernel_rfl) (by kernel_rfl) (by kernel_rfl) (fun _ _ _ h => h) (by kernel_rfl) (Or.inr ⟨by rfl, rfl⟩) rfl ?rest33
      try simp only [Act.put, List.setIfInBounds_toArray, List.set_cons_zero, List.set_cons_succ]
      refine' wpAnyD_take (i := 15) (oi := ⟨some 56, .load 3 (.tmp 55), 3, "law.go:298", #[⟨14, .data⟩, ⟨6, .guard⟩], some (6, true)⟩) (v := undef) rfl (by kernel_rfl) (by kernel_rfl) (by kernel_rfl) (fun _ _ _ h => h) (by kernel_rfl) (Or.inr ⟨by rfl, rfl⟩) rfl ?rest34
      try simp only [Act.put, List.setIfInBounds_toArray, List.set_cons_zero, List.set_cons_succ]
      refine' wpAnyD_take (i := 16) (oi := ⟨some 57, .binOp .lss 3 (.tmp 52) (.tmp 56) 3, 4, "law.go:298", #[⟨11, .data⟩, ⟨15, .data⟩, ⟨6, .guard⟩], some (6, true)⟩) (v := undef) rfl (by kernel_rfl) (by kernel_rfl) (by kernel_rfl) (fun _ _ _ h => h) (by kernel_rfl) (Or.inr ⟨by rfl, rfl⟩) rfl ?rest35
      try simp only [Act.put, List.setIfInBounds_toArray, List.set_cons_zero, List.set_cons_succ]
      refine' wpAnyD_take (i := 17) (oi := ⟨some 58, .pick (.tmp 47) (.tmp 57) (.const (.bool false)), 4, "law.go:298", #[⟨6, .data⟩, ⟨16, .data⟩], none⟩) (v := _) rfl (by kernel_rfl) (by kernel_rfl) (by kernel_rfl) (fun _ _ _ h => h) (by kernel_rfl) (Or.inl ⟨by rfl, ?hy36⟩) rfl ?rest36
      case hy36 => (intro W hSw; subst hSw; go_simp; try (with_reducible rfl))
      try simp only [Act.put, List.setIfInBounds_toArray, List.set_cons_zero, List.set_cons_succ]
      refine wpAnyD_done (by kernel_rfl) ?_ _
      go_wp2_with fail
      go_meet
      exact ⟨by rw [HCC.out], rfl⟩
    case rest =>
     obtain ⟨rfl, hwc⟩ := hcut
     have HLD : Hid (wc.ownsRow Wk.heap.size 52 4 (.slice pa m ca) m (fl EF acc) ∧ Below Wk.heap.size Wk wc) := by
      rw [hwc, HM.out]
      exact ⟨owns_below HL.out.2.1 (Gr.refl wr).drew.below, HL.out.2.2.trans ((Gr.refl wr).drew.below.mono HL.out.2.2.size)⟩
     have x0 : wc.cell? ⟨b1, o1 + i * 4, none⟩ = some (.int .i64 s.1) := by rw [hwc]; exact x0
     have x1 : wc.cell? ⟨b1, o1 + i * 4 + 1, none⟩ = some (.int .u64 s.2.1.1) := by rw [hwc]; exact x1
     have x2 : wc.cell? ⟨b1, o1 + i * 4 + 2, none⟩ = some (.int .u64 s.2.1.2.1) := by rw [hwc]; exact x2
     have x3 : wc.cell? ⟨b1, o1 + i * 4 + 3, none⟩ = some (.int .u64 s.2.1.2.2) := by rw [hwc]; exact x3
     have hb1 : b1 < wc.heap.size := by rw [hwc]; exact hb1
     have HAC : Hid (∀ s ∈ acc, 0 ≤ s.1 ∧ s.1 < (n : Int)) := HL.out.1
     clear hwc cr lr HL
     cases hd : decide (0 ≤ s.1 ∧ s.1 < (n : Int)) with
     | true =>
      have hsn := of_decide_eq_true hd
      clear hd
      have hn7 := heap_new' wc (.cells #[.int .i64 s.1, .int .u64 s.2.1.1, .int .u64 s.2.1.2.1, .int .u64 s.2.1.2.2] 52)
      have HW7 : Hid (Below wc.heap.size wc (wc.alloc (.cells #[.int .i64 s.1, .int .u64 s.2.1.1, .int .u64 s.2.1.2.1, .int .u64 s.2.1.2.2] 52))) := ((Gr.refl wc).alloc _).below
      have HO7 := hid (owns_below HLD.out.1 HW7.out)
      have HL7 := hid (sm_row1 (c := 1) hn7)
      have hwz : Wk.heap.size ≤ (wc.alloc (.cells #[.int .i64 s.1, .int .u64 s.2.1.1, .int .u64 s.2.1.2.1, .int .u64 s.2.1.2.2] 52)).heap.size := Nat.le_trans HLD.out.2.size HW7.out.size
      clear hn7
      go_wp2_with (at_builtin; refine wpAppL EF Tryz.underlying49 infoSt rfl (by decide) rfl _ _ rfl Wk.heap.size _ m _ rfl HO7.out (.slice (some ⟨wc.heap.size, 0, none⟩) 1 1) [s] rfl HL7.out (by have := HIM.out; simp only [List.length_singleton]; omega) (by have := HIM.out; unfold maxLen; simp only [List.length_singleton]; omega) hwz ?_)
      intro v9 w9 ho9 hg9
      have F9 : Hid ((∀ u ∈ acc ++ [s], 0 ≤ u.1 ∧ u.1 < (n : Int)) ∧ w9.ownsRow Wk.heap.size 52 4 v9 (acc ++ [s]).length (fl EF (acc ++ [s])) ∧ Below Wk.heap.size Wk w9) := by
       have hK9 := Kp.grownBy (S := fun k => Wk.heap.size ≤ k) hg9 (fun k hk => (HO7.out.lt k hk).1)
       have hB7 := HLD.out.2.trans (HW7.out.mono HLD.out.2.size)
       refine ⟨fun u hu => ?_, owns_re ho9 (by simp [HM.out]) (by rw [fl_append]), hB7.trans (hK9.below hB7.size (fun _ h => h))⟩
       rcases List.mem_append.1 hu with hu | hu
       ·exact HAC.out u hu
       ·rw [List.mem_singleton] at hu
        rw [hu]
        exact hsn
      clear ho9 hg9
      go_wp2
      go_roundw
      case rel => exact ⟨i + 1, acc ++ [s], by have := HIM.out; omega, by have := HIM.out; have := HM.out; simp; omega, by first | rfl | go_num, F9.out⟩
      case measure => simp [RowKit.intOf]; have := HIM.out; omega
     | false =>
      have F9 : Hid ((∀ u ∈ acc, 0 ≤ u.1 ∧ u.1 < (n : Int)) ∧ wc.ownsRow Wk.heap.size 52 4 (.slice pa m ca) acc.length (fl EF acc) ∧ Below Wk.heap.size Wk wc) := by
       rw [← HM.out]
       exact ⟨HAC.out, HLD.out⟩
      clear hd
      go_wp2
      go_roundw
      case rel => exact ⟨i + 1, acc, by have := HIM.out; omega, by have := HM.out; omega, by first | rfl | go_num, F9.out⟩
      case measure => simp [RowKit.intOf]; have := HIM.out; omega
   | false =>
    clear hb
    obtain ⟨Wj, hWj⟩ : ∃ W, W = wr := ⟨_, rfl⟩
    subst hWj
    have HAC : Hid (∀ s ∈ acc, 0 ≤ s.1 ∧ s.1 < (n : Int)) := HL.out.1
    have HKR : Hid (∀ X, Below Wj.heap.size Wj X → Below Wk.heap.size Wk X ∧ Ls EF X (.slice pa m ca) acc) := fun X hb => ⟨HL.out.2.2.trans (hb.mono HL.out.2.2.size), by
     have h := owns_ls (E := EF) (owns_below HL.out.2.1 hb)
     rw [← HM.out] at h
     exact h⟩
    have HCO : Hid (∀ (s u : Hf.Th) W, Below Wk.heap.size Wk W → Calls Tryz.prog 17 #[.pointer (some ⟨tb, 0, none⟩), .agg #[.int .i64 s.1, .int .u64 s.2.1.1, .int .u64 s.2.1.2.1, .int .u64 s.2.1.2.2], .agg #[.int .i64 u.1, .int .u64 u.2.1.1, .int .u64 u.2.1.2.1, .int .u64 u.2.1.2.2]] W fun e w' => e = .returned (.bool (cldB n R s u)) ∧ Below W.heap.size W w') := fun s u W hb => could_any s u W (Or.inr ⟨tb, rfl, (HTK.out W hb).1⟩) (HTK.out W hb).2 (HR.out _ _)
    have HFR : Hid (∀ (q : Int) (s : Hf.Th) W b, Below Wk.heap.size Wk W → W.heap[b]? = some (.cells #[.int .i64 s.1, .int .u64 s.2.1.1, .int .u64 s.2.1.2.1, .int .u64 s.2.1.2.2] 52 (0, 0)) → Calls Tryz.prog 19 #[.pointer (some ⟨tb, 0, none⟩), .int .i64 q, .slice (some ⟨b, 0, none⟩) 1 1] W fun e w' => ∃ v', e = .returned v' ∧ Hid (Ls Pc.ET w' v' (frt (allT n R q [s])) ∧ (frt (allT n R q [s])).length ≤ 64) ∧ Below W.heap.size W w') := fun q s W b hb hn => by
     refine (front_any (l := [s]) q W (Or.inr ⟨tb, rfl, (HTK.out W hb).1⟩) (HTK.out W hb).2 HR.out (M2 := W.heap.size) (sv := .slice (some ⟨b, 0, none⟩) 1 1) (Or.inl ⟨sm_row1 (c := 1) hn, (sm_row1 (c := 1) hn).blk⟩) (by simp)).mono ?_
     rintro e w' ⟨v', rfl, h1, h2⟩
     have hfl := Nat.le_trans (frt_len (allT n R q [s])) (allT_len HR.out [s])
     simp only [List.length_singleton] at hfl
     exact ⟨v', rfl, ⟨owns_ls (E := Pc.ET) h1, by omega⟩, h2⟩
    have HGT : Hid (∀ (i : Nat) (s : Hf.Th), acc[i]? = some s → 0 ≤ s.1 ∧ s.1 < (n : Int)) := fun i s h => HAC.out s (List.mem_of_getElem? h)
    have HBR : Hid (Below w.heap.size w Wj) := HBk.out.trans (HL.out.2.2.mono HBk.out.size)
    have hm12 : (m : Int) ≤ 12 := by omega
    have HMM : Hid (m = acc.length) := HM.out
    clear HL HAC HSD HTK HM hi hacc hlz
    go_wp2_with fail
    go_loopw [11, 12, 13, 14, 15, 16] (fun s11 _ _ _ _ _ wx => ∃ i : Nat, i ≤ m ∧ s11 = .int .i64 i ∧ Hid (Below Wj.heap.size Wj wx)) (fun s11 _ _ _ _ _ _ => m - (RowKit.intOf s11).toNat)
    case atStart => exact ⟨0, Nat.zero_le _, rfl, Below.refl _ _⟩
    case round =>
     obtain ⟨i, hi, rfl, HX⟩ := hrel
     by_cases hil : i < m
     ·have hilz : (i : Int) < (m : Int) := by omega
      have hi0 : (0 : Int) ≤ (i : Int) := by omega
      obtain ⟨s, hs⟩ : ∃ s, acc[i]? = some s := ⟨acc[i]'(by have := HMM.out; omega), by simp⟩
      have HSV := hid (HGT.out i s hs)
      obtain ⟨b1, o1, c1, hv1, hb1, hc1⟩ := (HKR.out _ HX.out).2.get hs
      simp only [Value.slice.injEq] at hv1
      obtain ⟨rfl, -, rfl⟩ := hv1
      have x0 : wr.cell? ⟨b1, o1 + i * 4, none⟩ = some (.int .i64 s.1) := hc1 0 _ (by decide) rfl
      have x1 : wr.cell? ⟨b1, o1 + i * 4 + 1, none⟩ = some (.int .u64 s.2.1.1) := hc1 1 _ (by decide) rfl
      have x2 : wr.cell? ⟨b1, o1 + i * 4 + 2, none⟩ = some (.int .u64 s.2.1.2.1) := hc1 2 _ (by decide) rfl
      have x3 : wr.cell? ⟨b1, o1 + i * 4 + 3, none⟩ = some (.int .u64 s.2.1.2.2) := hc1 3 _ (by decide) rfl
      clear hc1 hs
      obtain ⟨ab, hab⟩ : ∃ b, b = wr.heap.size := ⟨_, rfl⟩
      obtain ⟨WA, hWA⟩ : ∃ W, W = wr.alloc (.cells #[.int .i64 s.1, .int .u64 s.2.1.1, .int .u64 s.2.1.2.1, .int .u64 s.2.1.2.2] 52) := ⟨_, rfl⟩
      have HA : Hid (WA.heap[ab]? = some (.cells #[.int .i64 s.1, .int .u64 s.2.1.1, .int .u64 s.2.1.2.1, .int .u64 s.2.1.2.2] 52 (0, 0)) ∧ Below Wj.heap.size Wj WA) := by
       rw [hWA, hab]
       exact ⟨heap_new' _ _, HX.out.trans (((Gr.refl wr).alloc _).below.mono HX.out.size)⟩
      have HWA : Hid (wr.alloc (.cells #[.int .i64 s.1, .int .u64 s.2.1.1, .int .u64 s.2.1.2.1, .int .u64 s.2.1.2.2] 52) = WA ∧ wr.heap.size = ab) := ⟨hWA.symm, hab.symm⟩
      clear hWA hab
      go_upto_region 16 with fail
      rw [HWA.out.1, HWA.out.2]
      clear HWA x0 x1 x2 x3 hb1
      have ca1 := (tk_store HA.out.1).1
      have la1 := tk_lt HA.out.1
      have hcc := HCO.out s s WA (HKR.out _ HA.out.2).1
      have hself : cldB n R s s = true := cldB_later HRS.out HSV.out rfl ((Pc.bel_iff _ _).2 ⟨Int.le_refl _, Int.le_refl _, Int.le_refl _⟩)
      rw [hself] at hcc
      go_wp2_with fail
      refine hcc.mono ?_
      rintro r WC ⟨rfl, hbC⟩
      have HC : Hid (WC.heap[ab]? = some (.cells #[.int .i64 s.1, .int .u64 s.2.1.1, .int .u64 s.2.1.2.1, .int .u64 s.2.1.2.2] 52 (0, 0)) ∧ Below Wj.heap.size Wj WC) := ⟨(hbC.block _ la1).trans HA.out.1, HA.out.2.trans (hbC.mono HA.out.2.size)⟩
      clear hcc hbC ca1 la1 HA hself HX
      go_wp2_with fail
      go_loopw [13, 14, 15, 16] (fun s13 _ _ _ wy => ∃ j : Nat, j ≤ m ∧ s13 = .int .i64 j ∧ Hid (Below WC.heap.size WC wy)) (fun s13 _ _ _ _ => m - (RowKit.intOf s13).toNat)
      case atStart => exact ⟨0, Nat.zero_le _, rfl, Below.refl _ _⟩
      case round =>
       obtain ⟨j, hj, rfl, HY⟩ := hrel
       by_cases hjl : j < m
       ·have hjlz : (j : Int) < (m : Int) := by omega
        have hj0 : (0 : Int) ≤ (j : Int) := by omega
        obtain ⟨u, hu⟩ : ∃ u, acc[j]? = some u := ⟨acc[j]'(by have := HMM.out; omega), by simp⟩
        have HUV := hid (HGT.out j u hu)
        have HYJ : Hid (Below Wj.heap.size Wj wr) := HC.out.2.trans (HY.out.mono HC.out.2.size)
        obtain ⟨b2, o2, c2, hv2, hb2, hc2⟩ := (HKR.out _ HYJ.out).2.get hu
        simp only [Value.slice.injEq] at hv2
        obtain ⟨hvq, -, rfl⟩ := hv2
        have y0 : wr.cell? ⟨b2, o2 + j * 4, none⟩ = some (.int .i64 u.1) := hc2 0 _ (by decide) rfl
        have y1 : wr.cell? ⟨b2, o2 + j * 4 + 1, none⟩ = some (.int .u64 u.2.1.1) := hc2 1 _ (by decide) rfl
        have y2 : wr.cell? ⟨b2, o2 + j * 4 + 2, none⟩ = some (.int .u64 u.2.1.2.1) := hc2 2 _ (by decide) rfl
        have y3 : wr.cell? ⟨b2, o2 + j * 4 + 3, none⟩ = some (.int .u64 u.2.1.2.2) := hc2 3 _ (by decide) rfl
        cases hvq
        clear hc2 hu
        obtain ⟨bb, hbb⟩ : ∃ b, b = wr.heap.size := ⟨_, rfl⟩
        obtain ⟨WB, hWB⟩ : ∃ W, W = wr.alloc (.cells #[.int .i64 u.1, .int .u64 u.2.1.1, .int .u64 u.2.1.2.1, .int .u64 u.2.1.2.2] 52) := ⟨_, rfl⟩
        have HB2 : Hid (WB.heap[ab]? = some (.cells #[.int .i64 s.1, .int .u64 s.2.1.1, .int .u64 s.2.1.2.1, .int .u64 s.2.1.2.2] 52 (0, 0)) ∧ WB.heap[bb]? = some (.cells #[.int .i64 u.1, .int .u64 u.2.1.1, .int .u64 u.2.1.2.1, .int .u64 u.2.1.2.2] 52 (0, 0)) ∧ Below WC.heap.size WC WB) := by
         have g := ((Gr.refl wr).alloc (.cells #[.int .i64 u.1, .int .u64 u.2.1.1, .int .u64 u.2.1.2.1, .int .u64 u.2.1.2.2] 52)).below
         have hbl := HY.out.trans (g.mono HY.out.size)
         rw [hWB, hbb]
         exact ⟨(hbl.block _ (tk_lt HC.out.1)).trans HC.out.1, heap_new' _ _, hbl⟩
        have HWB : Hid (wr.alloc (.cells #[.int .i64 u.1, .int .u64 u.2.1.1, .int .u64 u.2.1.2.1, .int .u64 u.2.1.2.2] 52) = WB ∧ wr.heap.size = bb) := ⟨hWB.symm, hbb.symm⟩
        clear hWB hbb
        go_upto_region 22 with fail
        rw [HWB.out.1, HWB.out.2]
        clear HWB y0 y1 y2 y3 hb2
        have ca1 := (tk_store HB2.out.1).1
        have la1 := tk_lt HB2.out.1
        have cb1 := (tk_store HB2.out.2.1).1
        have lb1 := tk_lt HB2.out.2.1
        have HBJ : Hid (Below Wj.heap.size Wj WB) := HC.out.2.trans (HB2.out.2.2.mono HC.out.2.size)
        have hcc := HCO.out s u WB (HKR.out _ HBJ.out).1
        obtain ⟨cb, hcb⟩ : ∃ b, b = cldB n R s u := ⟨_, rfl⟩
        rw [← hcb] at hcc
        have HCB := hid hcb
        clear hcb
        go_wp2_with fail
        refine hcc.mono ?_
        rintro r wz ⟨rfl, hbz⟩
        have HZ : Hid (∀ X, Below wz.heap.size wz X → Below WC.heap.size WC X ∧ Below Wj.heap.size Wj X ∧ X.heap[ab]? = some (.cells #[.int .i64 s.1, .int .u64 s.2.1.1, .int .u64 s.2.1.2.1, .int .u64 s.2.1.2.2] 52 (0, 0)) ∧ X.heap[bb]? = some (.cells #[.int .i64 u.1, .int .u64 u.2.1.1, .int .u64 u.2.1.2.1, .int .u64 u.2.1.2.2] 52 (0, 0))) := fun X hb => by
         have h1 := hbz.trans (hb.mono hbz.size)
         exact ⟨HB2.out.2.2.trans (h1.mono HB2.out.2.2.size), HBJ.out.trans (h1.mono HBJ.out.size), (h1.block _ la1).trans HB2.out.1, (h1.block _ lb1).trans HB2.out.2.1⟩
        have HKZ : Hid (∀ X, Below wz.heap.size wz X → Below Wk.heap.size Wk X) := fun X hb => (HKR.out _ (HZ.out X hb).2.1).1
        clear hcc hbz ca1 la1 cb1 lb1 HB2 HBJ HY HYJ
        have hop : ccov Pc.bel (frt (allT n R u.1 [s])) u.2 = cb := by
         rw [HCB.out]
         exact cld_front s u
        have hB0 : Below wz.heap.size wz wz.drew := (Gr.refl wz).drew.below
        have HS0 := hid (HZ.out _ hB0).2.2
        obtain ⟨bq, hbq⟩ : ∃ b, b = decide (s = u) := ⟨_, rfl⟩
        have heq := fun W => run_neqTh hbq.symm W
        have HBQ := hid hbq
        clear hbq
        go_upto_region 23 with fail
        go_cut [137] from 95 to 137 (fun s137 wq => s137 = .bool false ∧ Hid (Below wz.heap.size wz wq))
        case first =>
         have hfr := fun W b hb hn => HFR.out u.1 s W b hb hn
         have hba := fun W hb => HCO.out u s W hb
         have hah := fun W => r5ahead_any s.2 u.2 W
         obtain ⟨ah, hah2⟩ : ∃ b, b = Pc.bel s.2 u.2 := ⟨_, rfl⟩
         rw [← hah2] at hah
         have HAH := hid hah2
         clear hah2
         generalize frt (allT n R u.1 [s]) = fr at hfr hop
         unfold Pc.tv at hah
         cases cb with
         | false =>
          by_cases he : s.1 = u.1
          ·have HAF : Hid (ah = false) := by
             show _ = _
             rw [HAH.out]
             cases e : Pc.bel s.2 u.2 with
             | false => rfl
             | true => exact absurd (cldB_later HRS.out HSV.out he e) (by rw [← HCB.out]; decide)
           have haf := HAF.out
           subst haf
           have HE := hid he
           clear he
           refine wp_regionD (S := fun X => X.heap[ab]? = some (.cells #[.int .i64 s.1, .int .u64 s.2.1.1, .int .u64 s.2.1.2.1, .int .u64 s.2.1.2.2] 52 (0, 0)) ∧ X.heap[bb]? = some (.cells #[.int .i64 u.1, .int .u64 u.2.1.1, .int .u64 u.2.1.2.1, .int .u64 u.2.1.2.2] 52 (0, 0))) (D := []) hmx ?_
           refine' wpAnyD_take (i := 0) (oi := ⟨some 95, .move (.tmp 15), 4, "law.go:310", #[], none⟩) (v := _) rfl (by kernel_rfl) (by kernel_rfl) (by kernel_rfl) (fun _ _ _ h => h) (by kernel_rfl) (Or.inl ⟨by rfl, ?hy80⟩) HS0.out ?rest80
           case hy80 => (intro W hSw; go_simp; try (with_reducible rfl))
           try simp only [Act.put, List.setIfInBounds_toArray, List.set_cons_zero, List.set_cons_succ]
           refine' wpAnyD_take (i := 1) (oi := ⟨some 96, .move (.tmp 95), 4, "law.go:310", #[⟨0, .data⟩], none⟩) (v := _) rfl (by kernel_rfl) (by kernel_rfl) (by kernel_rfl) (fun _ _ _ h => h) (by kernel_rfl) (Or.inl ⟨by rfl, ?hy81⟩) HS0.out ?rest81
           case hy81 => (intro W hSw; go_simp; try (with_reducible rfl))
           try simp only [Act.put, List.setIfInBounds_toArray, List.set_cons_zero, List.set_cons_succ]
           refine' wpAnyD_take (i := 2) (oi := ⟨some 97, .load 52 (.tmp 12), 52, "law.go:310", #[⟨1, .guard⟩], some (1, true)⟩) (v := undef) rfl (by kernel_rfl) (by kernel_rfl) (by kernel_rfl) (fun _ _ _ h => h) (by kernel_rfl) (Or.inr ⟨by rfl, rfl⟩) HS0.out ?rest82
           try simp only [Act.put, List.setIfInBounds_toArray, List.set_cons_zero, List.set_cons_succ]
           refine' wpAnyD_take (i := 3) (oi := ⟨some 98, .load 52 (.tmp 14), 52, "law.go:310", #[⟨1, .guard⟩], some (1, true)⟩) (v := undef) rfl (by kernel_rfl) (by kernel_rfl) (by kernel_rfl) (fun _ _ _ h => h) (by kernel_rfl) (Or.inr ⟨by rfl, rfl⟩) HS0.out ?rest83
           try simp only [Act.put, List.setIfInBounds_toArray, List.set_cons_zero, List.set_cons_succ]
           refine' wpAnyD_take (i := 4) (oi := ⟨some 99, .binOp .neq 52 (.tmp 97) (.tmp 98) 52, 4, "law.go:310", #[⟨2, .data⟩, ⟨3, .data⟩, ⟨1, .guard⟩], some (1, true)⟩) (v := undef) rfl (by kernel_rfl) (by kernel_rfl) (by kernel_rfl) (fun _ _ _ h => h) (by kernel_rfl) (Or.inr ⟨by rfl, rfl⟩) HS0.out ?rest84
           try simp only [Act.put, List.setIfInBounds_toArray, List.set_cons_zero, List.set_cons_succ]
           refine' wpAnyD_take (i := 5) (oi := ⟨some 100, .pick (.tmp 96) (.tmp 99) (.const (.bool false)), 4, "law.go:310", #[⟨1, .data⟩, ⟨4, .data⟩], none⟩) (v := _) rfl (by kernel_rfl) (by kernel_rfl) (by kernel_rfl) (fun _ _ _ h => h) (by kernel_rfl) (Or.inl ⟨by rfl, ?hy85⟩) HS0.out ?rest85
           case hy85 => (intro W hSw; go_simp; try (with_reducible rfl))
           try simp only [Act.put, List.setIfInBounds_toArray, List.set_cons_zero, List.set_cons_succ]
           refine' wpAnyD_take (i := 6) (oi := ⟨some 101, .move (.tmp 100), 4, "law.go:310", #[⟨5, .data⟩, ⟨1, .chain⟩], none⟩) (v := _) rfl (by kernel_rfl) (by kernel_rfl) (by kernel_rfl) (fun _ _ _ h => h) (by kernel_rfl) (Or.inl ⟨by rfl, ?hy86⟩) HS0.out ?rest86
           case hy86 => (intro W hSw; go_simp; try (with_reducible rfl))
           try simp only [Act.put, List.setIfInBounds_toArray, List.set_cons_zero, List.set_cons_succ]
           refine' wpAnyD_take (i := 7) (oi := ⟨some 102, .move (.tmp 5), 26, "law.go:310", #[⟨6, .guard⟩], some (6, true)⟩) (v := undef) rfl (by kernel_rfl) (by kernel_rfl) (by kernel_rfl) (fun _ _ _ h => h) (by kernel_rfl) (Or.inr ⟨by rfl, rfl⟩) HS0.out ?rest87
           try simp only [Act.put, List.setIfInBounds_toArray, List.set_cons_zero, List.set_cons_succ]
           refine' wpAnyD_take (i := 8) (oi := ⟨some 103, .load 52 (.tmp 14), 52, "law.go:310", #[⟨6, .guard⟩], some (6, true)⟩) (v := undef) rfl (by kernel_rfl) (by kernel_rfl) (by kernel_rfl) (fun _ _ _ h => h) (by kernel_rfl) (Or.inr ⟨by rfl, rfl⟩) HS0.out ?rest88
           try simp only [Act.put, List.setIfInBounds_toArray, List.set_cons_zero, List.set_cons_succ]
           refine' wpAnyD_take (i := 9) (oi := ⟨some 104, .load 52 (.tmp 12), 52, "law.go:310", #[⟨6, .guard⟩], some (6, true)⟩) (v := undef) rfl (by kernel_rfl) (by kernel_rfl) (by kernel_rfl) (fun _ _ _ h => h) (by kernel_rfl) (Or.inr ⟨by rfl, rfl⟩) HS0.out ?rest89
           try simp only [Act.put, List.setIfInBounds_toArray, List.set_cons_zero, List.set_cons_succ]
           refine' wpAnyD_take (i := 10) (oi := ⟨some 105, .call ⟨.value (.func 17), #[.tmp 102, .tmp 103, .tmp 104], #[26, 52, 52]⟩, 4, "law.go:310", #[⟨7, .data⟩, ⟨8, .data⟩, ⟨9, .data⟩, ⟨6, .chain⟩, ⟨6, .guard⟩], some (6, true)⟩) (v := undef) rfl (by kernel_rfl) (by kernel_rfl) (by kernel_rfl) (fun _ _ _ h => h) (by kernel_rfl) (Or.inr ⟨by rfl, rfl⟩) HS0.out ?rest90
           try simp only [Act.put, List.setIfInBounds_toArray, List.set_cons_zero, List.set_cons_succ]
           refine' wpAnyD_take (i := 11) (oi := ⟨some 106, .pick (.tmp 101) (.tmp 105) (.const (.bool false)), 4, "law.go:310", #[⟨6, .data⟩, ⟨10, .data⟩], none⟩) (v := _) rfl (by kernel_rfl) (by kernel_rfl) (by kernel_rfl) (fun _ _ _ h => h) (by kernel_rfl) (Or.inl ⟨by rfl, ?hy91⟩) HS0.out ?rest91
           case hy91 => (intro W hSw; go_simp; try (with_reducible rfl))
           try simp only [Act.put, List.setIfInBounds_toArray, List.set_cons_zero, List.set_cons_succ]
           refine' wpAnyD_take (i := 12) (oi := ⟨some 107, .move (.tmp 106), 4, "law.go:310", #[⟨11, .data⟩, ⟨10, .chain⟩], none⟩) (v := _) rfl (by kernel_rfl) (by kernel_rfl) (by kernel_rfl) (fun _ _ _ h => h) (by kernel_rfl) (Or.inl ⟨by rfl, ?hy92⟩) HS0.out ?rest92
           case hy92 => (intro W hSw; go_simp; try (with_reducible rfl))
           try simp only [Act.put, List.setIfInBounds_toArray, List.set_cons_zero, List.set_cons_succ]
           refine' wpAnyD_take (i := 13) (oi := ⟨some 108, .move (.tmp 15), 4, "law.go:310", #[⟨12, .guard⟩], some (12, false)⟩) (v := _) rfl (by kernel_rfl) (by kernel_rfl) (by kernel_rfl) (fun _ _ _ h => h) (by kernel_rfl) (Or.inl ⟨by rfl, ?hy93⟩) HS0.out ?rest93
           case hy93 => (intro W hSw; go_simp; try (with_reducible rfl))
           try simp only [Act.put, List.setIfInBounds_toArray, List.set_cons_zero, List.set_cons_succ]
           refine' wpAnyD_take (i := 14) (oi := ⟨some 109, .move (.tmp 5), 26, "law.go:310", #[⟨12, .guard⟩], some (12, false)⟩) (v := _) rfl (by kernel_rfl) (by kernel_rfl) (by kernel_rfl) (fun _ _ _ h => h) (by kernel_rfl) (Or.inl ⟨by rfl, ?hy94⟩) HS0.out ?rest94
           case hy94 => (intro W hSw; go_simp; try (with_reducible rfl))
           try simp only [Act.put, List.setIfInBounds_toArray, List.set_cons_zero, List.set_cons_succ]
           refine' wpAnyD_take (i := 15) (oi := ⟨some 110, .fieldAddr 52 (.tmp 14) 0, 0, "law.go:310", #[⟨12, .guard⟩], some (12, false)⟩) (v := _) rfl (by kernel_rfl) (by kernel_rfl) (by kernel_rfl) (fun _ _ _ h => h) (by kernel_rfl) (Or.inl ⟨by rfl, ?hy95⟩) HS0.out ?rest95
           case hy95 => (intro W hSw; go_simp; try (with_reducible rfl))
           try simp only [Act.put, List.setIfInBounds_toArray, List.set_cons_zero, List.set_cons_succ]
           refine' wpAnyD_take (i := 16) (oi := ⟨some 111, .load 3 (.tmp 110), 3, "law.go:310", #[⟨15, .data⟩, ⟨12, .guard⟩], some (12, false)⟩) (v := _) rfl (by kernel_rfl) (by kernel_rfl) (by kernel_rfl) (fun _ _ _ h => h) (by kernel_rfl) (Or.inl ⟨by rfl, ?hy96⟩) HS0.out ?rest96
           case hy96 => (intro W hSw; have hc := (tk_store hSw.2).1; have hl := tk_lt hSw.2; go_simp; try (with_reducible rfl))
           try simp only [Act.put, List.setIfInBounds_toArray, List.set_cons_zero, List.set_cons_succ]
           refine' wpAnyD_take (i := 17) (oi := ⟨some 112, .load 52 (.tmp 12), 52, "law.go:310", #[⟨12, .guard⟩], some (12, false)⟩) (v := _) rfl (by kernel_rfl) (by kernel_rfl) (by kernel_rfl) (fun _ _ _ h => h) (by kernel_rfl) (Or.inl ⟨by rfl, ?hy97⟩) HS0.out ?rest97
           case hy97 => (intro W hSw; have hc := (tk_store hSw.1).1; have hl := tk_lt hSw.1; go_simp; try (with_reducible rfl))
           try simp only [Act.put, List.setIfInBounds_toArray, List.set_cons_zero, List.set_cons_succ]
           refine' wpAnyD_take (i := 20) (oi := ⟨some 115, .fieldAddr 52 (.tmp 14) 1, 0, "law.go:310", #[⟨12, .guard⟩], some (12, false)⟩) (v := _) rfl (by kernel_rfl) (by kernel_rfl) (by kernel_rfl) (fun _ _ _ h => h) (by kernel_rfl) (Or.inl ⟨by rfl, ?hy98⟩) HS0.out ?rest98
           case hy98 => (intro W hSw; go_simp; try (with_reducible rfl))
           try simp only [Act.put, List.setIfInBounds_toArray, List.set_cons_zero, List.set_cons_succ]
           refine' wpAnyD_take (i := 21) (oi := ⟨some 116, .load 50 (.tmp 115), 50, "law.go:310", #[⟨20, .data⟩, ⟨12, .guard⟩], some (12, false)⟩) (v := _) rfl (by kernel_rfl) (by kernel_rfl) (by kernel_rfl) (fun _ _ _ h => h) (by kernel_rfl) (Or.inl ⟨by rfl, ?hy99⟩) HS0.out ?rest99
           case hy99 => (intro W hSw; have hc := (tk_store hSw.2).1; have hl := tk_lt hSw.2; go_simp; try (with_reducible rfl))
           try simp only [Act.put, List.setIfInBounds_toArray, List.set_cons_zero, List.set_cons_succ]
           refine wpAnyD_one (i := 18) (o := ⟨some 113, .buildSlice 49 1 #[(0, .tmp 112)], 49, "law.go:310", #[⟨17, .data⟩, ⟨12, .guard⟩], some (12, false)⟩) (by kernel_rfl) rfl (fun K hK => ?_)
           rw [if_pos (by kernel_rfl)]
           go_simp
           have B9 : Below wz.heap.size wz (wz.drew.alloc (.cells #[.int .i64 s.1, .int .u64 s.2.1.1, .int .u64 s.2.1.2.1, .int .u64 s.2.1.2.2] 52)) := hB0.trans (((Gr.refl wz.drew).alloc _).below.mono hB0.size)
           have hn9 := heap_new' wz.drew (.cells #[.int .i64 s.1, .int .u64 s.2.1.1, .int .u64 s.2.1.2.1, .int .u64 s.2.1.2.2] 52)
           refine hK.out _ _ (fun hD => (HZ.out _ B9).2.2) ?_
           clear hK K
           try simp only [Act.put, List.setIfInBounds_toArray, List.set_cons_zero, List.set_cons_succ]
           refine wpAnyD_one (i := 19) (o := ⟨some 114, .call ⟨.value (.func 19), #[.tmp 109, .tmp 111, .tmp 113], #[26, 3, 49]⟩, 55, "law.go:310", #[⟨14, .data⟩, ⟨16, .data⟩, ⟨18, .data⟩, ⟨12, .chain⟩, ⟨12, .guard⟩], some (12, false)⟩) (by kernel_rfl) rfl (fun K hK => ?_)
           rw [if_pos (by kernel_rfl)]
           go_simp
           refine (hfr _ _ (HKZ.out _ B9) hn9).mono ?_
           rintro r w10 ⟨v10, rfl, L10, hb10⟩
           have B10 : Below wz.heap.size wz w10 := B9.trans (hb10.mono B9.size)
           clear hb10 hn9
           go_wp2_with fail
           refine hK.out _ _ (fun hD => (HZ.out _ B10).2.2) ?_
           clear hK K
           try simp only [Act.put, List.setIfInBounds_toArray, List.set_cons_zero, List.set_cons_succ]
           refine wpAnyD_one (i := 22) (o := ⟨some 117, .call ⟨.value (.func 18), #[.tmp 114, .tmp 116], #[55, 50]⟩, 4, "law.go:310", #[⟨19, .data⟩, ⟨21, .data⟩, ⟨19, .chain⟩, ⟨12, .guard⟩], some (12, false)⟩) (by kernel_rfl) rfl (fun K hK => ?_)
           rw [if_pos (by kernel_rfl)]
           go_simp
           refine (r5open_any v10 fr u.2 w10 L10.out.1 (by have := L10.out.2; omega)).mono ?_
           rintro r w12 ⟨rfl, g12⟩
           have B12 : Below wz.heap.size wz w12 := B10.trans (g12.below.mono B10.size)
           clear g12
           rw [hop]
           go_wp2_with fail
           refine hK.out _ _ (fun hD => (HZ.out _ B12).2.2) ?_
           clear hK K
           try simp only [Act.put, List.setIfInBounds_toArray, List.set_cons_zero, List.set_cons_succ]
           refine' wpAnyD_take (i := 23) (oi := ⟨some 118, .binOp .neq 4 (.tmp 108) (.tmp 117) 4, 4, "law.go:310", #[⟨13, .data⟩, ⟨22, .data⟩, ⟨12, .guard⟩], some (12, false)⟩) (v := _) rfl (by kernel_rfl) (by kernel_rfl) (by kernel_rfl) (fun _ _ _ h => h) (by kernel_rfl) (Or.inl ⟨by rfl, ?hy103⟩) (HZ.out _ B12).2.2 ?rest103
           case hy103 => (intro W hSw; go_simp; try (with_reducible rfl))
           try simp only [Act.put, List.setIfInBounds_toArray, List.set_cons_zero, List.set_cons_succ]
           refine' wpAnyD_take (i := 24) (oi := ⟨some 119, .pick (.tmp 107) (.const (.bool true)) (.tmp 118), 4, "law.go:310", #[⟨12, .data⟩, ⟨23, .data⟩], none⟩) (v := _) rfl (by kernel_rfl) (by kernel_rfl) (by kernel_rfl) (fun _ _ _ h => h) (by kernel_rfl) (Or.inl ⟨by rfl, ?hy104⟩) (HZ.out _ B12).2.2 ?rest104
           case hy104 => (intro W hSw; go_simp; try (with_reducible rfl))
           try simp only [Act.put, List.setIfInBounds_toArray, List.set_cons_zero, List.set_cons_succ]
           refine' wpAnyD_take (i := 25) (oi := ⟨some 120, .move (.tmp 119), 4, "law.go:310", #[⟨24, .data⟩, ⟨22, .chain⟩], none⟩) (v := _) rfl (by kernel_rfl) (by kernel_rfl) (by kernel_rfl) (fun _ _ _ h => h) (by kernel_rfl) (Or.inl ⟨by rfl, ?hy105⟩) (HZ.out _ B12).2.2 ?rest105
           case hy105 => (intro W hSw; go_simp; try (with_reducible rfl))
           try simp only [Act.put, List.setIfInBounds_toArray, List.set_cons_zero, List.set_cons_succ]
           refine' wpAnyD_take (i := 26) (oi := ⟨some 121, .fieldAddr 52 (.tmp 12) 0, 0, "law.go:310", #[⟨25, .guard⟩], some (25, false)⟩) (v := _) rfl (by kernel_rfl) (by kernel_rfl) (by kernel_rfl) (fun _ _ _ h => h) (by kernel_rfl) (Or.inl ⟨by rfl, ?hy106⟩) (HZ.out _ B12).2.2 ?rest106
           case hy106 => (intro W hSw; go_simp; try (with_reducible rfl))
           try simp only [Act.put, List.setIfInBounds_toArray, List.set_cons_zero, List.set_cons_succ]
           refine' wpAnyD_take (i := 27) (oi := ⟨some 122, .load 3 (.tmp 121), 3, "law.go:310", #[⟨26, .data⟩, ⟨25, .guard⟩], some (25, false)⟩) (v := _) rfl (by kernel_rfl) (by kernel_rfl) (by kernel_rfl) (fun _ _ _ h => h) (by kernel_rfl) (Or.inl ⟨by rfl, ?hy107⟩) (HZ.out _ B12).2.2 ?rest107
           case hy107 => (intro W hSw; have hc := (tk_store hSw.1).1; have hl := tk_lt hSw.1; go_simp; try (with_reducible rfl))
           try simp only [Act.put, List.setIfInBounds_toArray, List.set_cons_zero, List.set_cons_succ]
           refine' wpAnyD_take (i := 28) (oi := ⟨some 123, .fieldAddr 52 (.tmp 14) 0, 0, "law.go:310", #[⟨25, .guard⟩], some (25, false)⟩) (v := _) rfl (by kernel_rfl) (by kernel_rfl) (by kernel_rfl) (fun _ _ _ h => h) (by kernel_rfl) (Or.inl ⟨by rfl, ?hy108⟩) (HZ.out _ B12).2.2 ?rest108
           case hy108 => (intro W hSw; go_simp; try (with_reducible rfl))
           try simp only [Act.put, List.setIfInBounds_toArray, List.set_cons_zero, List.set_cons_succ]
           refine' wpAnyD_take (i := 29) (oi := ⟨some 124, .load 3 (.tmp 123), 3, "law.go:310", #[⟨28, .data⟩, ⟨25, .guard⟩], some (25, false)⟩) (v := _) rfl (by kernel_rfl) (by kernel_rfl) (by kernel_rfl) (fun _ _ _ h => h) (by kernel_rfl) (Or.inl ⟨by rfl, ?hy109⟩) (HZ.out _ B12).2.2 ?rest109
           case hy109 => (intro W hSw; have hc := (tk_store hSw.2).1; have hl := tk_lt hSw.2; go_simp; try (with_reducible rfl))
           try simp only [Act.put, List.setIfInBounds_toArray, List.set_cons_zero, List.set_cons_succ]
           refine' wpAnyD_take (i := 30) (oi := ⟨some 125, .binOp .eql 3 (.tmp 122) (.tmp 124) 3, 4, "law.go:310", #[⟨27, .data⟩, ⟨29, .data⟩, ⟨25, .guard⟩], some (25, false)⟩) (v := .bool true) rfl (by kernel_rfl) (by kernel_rfl) (by kernel_rfl) (fun _ _ _ h => h) (by kernel_rfl) (Or.inl ⟨by rfl, ?hy110⟩) (HZ.out _ B12).2.2 ?rest110
           case hy110 => (intro W hSw; go_simp; first | done | (with_reducible rfl) | simp [HE.out])
           try simp only [Act.put, List.setIfInBounds_toArray, List.set_cons_zero, List.set_cons_succ]
           refine' wpAnyD_take (i := 31) (oi := ⟨some 126, .move (.tmp 125), 4, "law.go:310", #[⟨30, .data⟩, ⟨25, .chain⟩, ⟨25, .guard⟩], some (25, false)⟩) (v := _) rfl (by kernel_rfl) (by kernel_rfl) (by kernel_rfl) (fun _ _ _ h => h) (by kernel_rfl) (Or.inl ⟨by rfl, ?hy111⟩) (HZ.out _ B12).2.2 ?rest111
           case hy111 => (intro W hSw; go_simp; try (with_reducible rfl))
           try simp only [Act.put, List.setIfInBounds_toArray, List.set_cons_zero, List.set_cons_succ]
           refine' wpAnyD_take (i := 32) (oi := ⟨some 127, .fieldAddr 52 (.tmp 12) 1, 0, "law.go:310", #[⟨31, .guard⟩], some (31, true)⟩) (v := _) rfl (by kernel_rfl) (by kernel_rfl) (by kernel_rfl) (fun _ _ _ h => h) (by kernel_rfl) (Or.inl ⟨by rfl, ?hy112⟩) (HZ.out _ B12).2.2 ?rest112
           case hy112 => (intro W hSw; go_simp; try (with_reducible rfl))
           try simp only [Act.put, List.setIfInBounds_toArray, List.set_cons_zero, List.set_cons_succ]
           refine' wpAnyD_take (i := 33) (oi := ⟨some 128, .load 50 (.tmp 127), 50, "law.go:310", #[⟨32, .data⟩, ⟨31, .guard⟩], some (31, true)⟩) (v := _) rfl (by kernel_rfl) (by kernel_rfl) (by kernel_rfl) (fun _ _ _ h => h) (by kernel_rfl) (Or.inl ⟨by rfl, ?hy113⟩) (HZ.out _ B12).2.2 ?rest113
           case hy113 => (intro W hSw; have hc := (tk_store hSw.1).1; have hl := tk_lt hSw.1; go_simp; try (with_reducible rfl))
           try simp only [Act.put, List.setIfInBounds_toArray, List.set_cons_zero, List.set_cons_succ]
           refine' wpAnyD_take (i := 34) (oi := ⟨some 129, .fieldAddr 52 (.tmp 14) 1, 0, "law.go:310", #[⟨31, .guard⟩], some (31, true)⟩) (v := _) rfl (by kernel_rfl) (by kernel_rfl) (by kernel_rfl) (fun _ _ _ h => h) (by kernel_rfl) (Or.inl ⟨by rfl, ?hy114⟩) (HZ.out _ B12).2.2 ?rest114
           case hy114 => (intro W hSw; go_simp; try (with_reducible rfl))
           try simp only [Act.put, List.setIfInBounds_toArray, List.set_cons_zero, List.set_cons_succ]
           refine' wpAnyD_take (i := 35) (oi := ⟨some 130, .load 50 (.tmp 129), 50, "law.go:310", #[⟨34, .data⟩, ⟨31, .guard⟩], some (31, true)⟩) (v := _) rfl (by kernel_rfl) (by kernel_rfl) (by kernel_rfl) (fun _ _ _ h => h) (by kernel_rfl) (Or.inl ⟨by rfl, ?hy115⟩) (HZ.out _ B12).2.2 ?rest115
           case hy115 => (intro W hSw; have hc := (tk_store hSw.2).1; have hl := tk_lt hSw.2; go_simp; try (with_reducible rfl))
           try simp only [Act.put, List.setIfInBounds_toArray, List.set_cons_zero, List.set_cons_succ]
           refine wpAnyD_one (i := 36) (o := ⟨some 131, .call ⟨.value (.func 20), #[.tmp 128, .tmp 130], #[50, 50]⟩, 4, "law.go:310", #[⟨33, .data⟩, ⟨35, .data⟩, ⟨31, .chain⟩, ⟨31, .guard⟩], some (31, true)⟩) (by kernel_rfl) rfl (fun K hK => ?_)
           rw [if_pos (by kernel_rfl)]
           go_simp
           refine (hah _).mono ?_
           rintro r w13 ⟨rfl, g13⟩
           have B13 : Below wz.heap.size wz w13 := B12.trans (g13.below.mono B12.size)
           clear g13
           go_wp2_with fail
           refine hK.out _ _ (fun hD => (HZ.out _ B13).2.2) ?_
           clear hK K
           try simp only [Act.put, List.setIfInBounds_toArray, List.set_cons_zero, List.set_cons_succ]
           refine' wpAnyD_take (i := 37) (oi := ⟨some 132, .pick (.tmp 126) (.tmp 131) (.const (.bool false)), 4, "law.go:310", #[⟨31, .data⟩, ⟨36, .data⟩, ⟨25, .guard⟩], some (25, false)⟩) (v := _) rfl (by kernel_rfl) (by kernel_rfl) (by kernel_rfl) (fun _ _ _ h => h) (by kernel_rfl) (Or.inl ⟨by rfl, ?hy117⟩) (HZ.out _ B13).2.2 ?rest117
           case hy117 => (intro W hSw; go_simp; try (with_reducible rfl))
           try simp only [Act.put, List.setIfInBounds_toArray, List.set_cons_zero, List.set_cons_succ]
           refine' wpAnyD_take (i := 38) (oi := ⟨some 133, .move (.tmp 132), 4, "law.go:310", #[⟨37, .data⟩, ⟨36, .chain⟩, ⟨25, .guard⟩], some (25, false)⟩) (v := _) rfl (by kernel_rfl) (by kernel_rfl) (by kernel_rfl) (fun _ _ _ h => h) (by kernel_rfl) (Or.inl ⟨by rfl, ?hy118⟩) (HZ.out _ B13).2.2 ?rest118
           case hy118 => (intro W hSw; go_simp; try (with_reducible rfl))
           try simp only [Act.put, List.setIfInBounds_toArray, List.set_cons_zero, List.set_cons_succ]
           refine' wpAnyD_take (i := 39) (oi := ⟨some 134, .move (.tmp 15), 4, "law.go:310", #[⟨38, .guard⟩], some (38, true)⟩) (v := undef) rfl (by kernel_rfl) (by kernel_rfl) (by kernel_rfl) (fun _ _ _ h => h) (by kernel_rfl) (Or.inr ⟨by rfl, rfl⟩) (HZ.out _ B13).2.2 ?rest119
           try simp only [Act.put, List.setIfInBounds_toArray, List.set_cons_zero, List.set_cons_succ]
           refine' wpAnyD_take (i := 40) (oi := ⟨some 135, .unOp .not 4 (.tmp 134), 4, "law.go:310", #[⟨39, .data⟩, ⟨38, .guard⟩], some (38, true)⟩) (v := undef) rfl (by kernel_rfl) (by kernel_rfl) (by kernel_rfl) (fun _ _ _ h => h) (by kernel_rfl) (Or.inr ⟨by rfl, rfl⟩) (HZ.out _ B13).2.2 ?rest120
           try simp only [Act.put, List.setIfInBounds_toArray, List.set_cons_zero, List.set_cons_succ]
           refine' wpAnyD_take (i := 41) (oi := ⟨some 136, .pick (.tmp 133) (.tmp 135) (.const (.bool false)), 4, "law.go:310", #[⟨38, .data⟩, ⟨40, .data⟩, ⟨25, .guard⟩], some (25, false)⟩) (v := _) rfl (by kernel_rfl) (by kernel_rfl) (by kernel_rfl) (fun _ _ _ h => h) (by kernel_rfl) (Or.inl ⟨by rfl, ?hy121⟩) (HZ.out _ B13).2.2 ?rest121
           case hy121 => (intro W hSw; go_simp; try (with_reducible rfl))
           try simp only [Act.put, List.setIfInBounds_toArray, List.set_cons_zero, List.set_cons_succ]
           refine' wpAnyD_take (i := 42) (oi := ⟨some 137, .pick (.tmp 120) (.const (.bool true)) (.tmp 136), 4, "law.go:310", #[⟨25, .data⟩, ⟨41, .data⟩], none⟩) (v := _) rfl (by kernel_rfl) (by kernel_rfl) (by kernel_rfl) (fun _ _ _ h => h) (by kernel_rfl) (Or.inl ⟨by rfl, ?hy122⟩) (HZ.out _ B13).2.2 ?rest122
           case hy122 => (intro W hSw; go_simp; try (with_reducible rfl))
           try simp only [Act.put, List.setIfInBounds_toArray, List.set_cons_zero, List.set_cons_succ]
           refine wpAnyD_done (by kernel_rfl) ?_ _
           go_wp2_with fail
           go_meet
           exact ⟨rfl, B13⟩
          ·skip
           have HE := hid he
           clear he
           refine wp_regionD (S := fun X => X.heap[ab]? = some (.cells #[.int .i64 s.1, .int .u64 s.2.1.1, .int .u64 s.2.1.2.1, .int .u64 s.2.1.2.2] 52 (0, 0)) ∧ X.heap[bb]? = some (.cells #[.int .i64 u.1, .int .u64 u.2.1.1, .int .u64 u.2.1.2.1, .int .u64 u.2.1.2.2] 52 (0, 0))) (D := []) hmx ?_
           refine' wpAnyD_take (i := 0) (oi := ⟨some 95, .move (.tmp 15), 4, "law.go:310", #[], none⟩) (v := _) rfl (by kernel_rfl) (by kernel_rfl) (by kernel_rfl) (fun _ _ _ h => h) (by kernel_rfl) (Or.inl ⟨by rfl, ?hy37⟩) HS0.out ?rest37
           case hy37 => (intro W hSw; go_simp; try (with_reducible rfl))
           try simp only [Act.put, List.setIfInBounds_toArray, List.set_cons_zero, List.set_cons_succ]
           refine' wpAnyD_take (i := 1) (oi := ⟨some 96, .move (.tmp 95), 4, "law.go:310", #[⟨0, .data⟩], none⟩) (v := _) rfl (by kernel_rfl) (by kernel_rfl) (by kernel_rfl) (fun _ _ _ h => h) (by kernel_rfl) (Or.inl ⟨by rfl, ?hy38⟩) HS0.out ?rest38
           case hy38 => (intro W hSw; go_simp; try (with_reducible rfl))
           try simp only [Act.put, List.setIfInBounds_toArray, List.set_cons_zero, List.set_cons_succ]
           refine' wpAnyD_take (i := 2) (oi := ⟨some 97, .load 52 (.tmp 12), 52, "law.go:310", #[⟨1, .guard⟩], some (1, true)⟩) (v := undef) rfl (by kernel_rfl) (by kernel_rfl) (by kernel_rfl) (fun _ _ _ h => h) (by kernel_rfl) (Or.inr ⟨by rfl, rfl⟩) HS0.out ?rest39
           try simp only [Act.put, List.setIfInBounds_toArray, List.set_cons_zero, List.set_cons_succ]
           refine' wpAnyD_take (i := 3) (oi := ⟨some 98, .load 52 (.tmp 14), 52, "law.go:310", #[⟨1, .guard⟩], some (1, true)⟩) (v := undef) rfl (by kernel_rfl) (by kernel_rfl) (by kernel_rfl) (fun _ _ _ h => h) (by kernel_rfl) (Or.inr ⟨by rfl, rfl⟩) HS0.out ?rest40
           try simp only [Act.put, List.setIfInBounds_toArray, List.set_cons_zero, List.set_cons_succ]
           refine' wpAnyD_take (i := 4) (oi := ⟨some 99, .binOp .neq 52 (.tmp 97) (.tmp 98) 52, 4, "law.go:310", #[⟨2, .data⟩, ⟨3, .data⟩, ⟨1, .guard⟩], some (1, true)⟩) (v := undef) rfl (by kernel_rfl) (by kernel_rfl) (by kernel_rfl) (fun _ _ _ h => h) (by kernel_rfl) (Or.inr ⟨by rfl, rfl⟩) HS0.out ?rest41
           try simp only [Act.put, List.setIfInBounds_toArray, List.set_cons_zero, List.set_cons_succ]
           refine' wpAnyD_take (i := 5) (oi := ⟨some 100, .pick (.tmp 96) (.tmp 99) (.const (.bool false)), 4, "law.go:310", #[⟨1, .data⟩, ⟨4, .data⟩], none⟩) (v := _) rfl (by kernel_rfl) (by kernel_rfl) (by kernel_rfl) (fun _ _ _ h => h) (by kernel_rfl) (Or.inl ⟨by rfl, ?hy42⟩) HS0.out ?rest42
           case hy42 => (intro W hSw; go_simp; try (with_reducible rfl))
           try simp only [Act.put, List.setIfInBounds_toArray, List.set_cons_zero, List.set_cons_succ]
           refine' wpAnyD_take (i := 6) (oi := ⟨some 101, .move (.tmp 100), 4, "law.go:310", #[⟨5, .data⟩, ⟨1, .chain⟩], none⟩) (v := _) rfl (by kernel_rfl) (by kernel_rfl) (by kernel_rfl) (fun _ _ _ h => h) (by kernel_rfl) (Or.inl ⟨by rfl, ?hy43⟩) HS0.out ?rest43
           case hy43 => (intro W hSw; go_simp; try (with_reducible rfl))
           try simp only [Act.put, List.setIfInBounds_toArray, List.set_cons_zero, List.set_cons_succ]
           refine' wpAnyD_take (i := 7) (oi := ⟨some 102, .move (.tmp 5), 26, "law.go:310", #[⟨6, .guard⟩], some (6, true)⟩) (v := undef) rfl (by kernel_rfl) (by kernel_rfl) (by kernel_rfl) (fun _ _ _ h => h) (by kernel_rfl) (Or.inr ⟨by rfl, rfl⟩) HS0.out ?rest44
           try simp only [Act.put, List.setIfInBounds_toArray, List.set_cons_zero, List.set_cons_succ]
           refine' wpAnyD_take (i := 8) (oi := ⟨some 103, .load 52 (.tmp 14), 52, "law.go:310", #[⟨6, .guard⟩], some (6, true)⟩) (v := undef) rfl (by kernel_rfl) (by kernel_rfl) (by kernel_rfl) (fun _ _ _ h => h) (by kernel_rfl) (Or.inr ⟨by rfl, rfl⟩) HS0.out ?rest45
           try simp only [Act.put, List.setIfInBounds_toArray, List.set_cons_zero, List.set_cons_succ]
           refine' wpAnyD_take (i := 9) (oi := ⟨some 104, .load 52 (.tmp 12), 52, "law.go:310", #[⟨6, .guard⟩], some (6, true)⟩) (v := undef) rfl (by kernel_rfl) (by kernel_rfl) (by kernel_rfl) (fun _ _ _ h => h) (by kernel_rfl) (Or.inr ⟨by rfl, rfl⟩) HS0.out ?rest46
           try simp only [Act.put, List.setIfInBounds_toArray, List.set_cons_zero, List.set_cons_succ]
           refine' wpAnyD_take (i := 10) (oi := ⟨some 105, .call ⟨.value (.func 17), #[.tmp 102, .tmp 103, .tmp 104], #[26, 52, 52]⟩, 4, "law.go:310", #[⟨7, .data⟩, ⟨8, .data⟩, ⟨9, .data⟩, ⟨6, .chain⟩, ⟨6, .guard⟩], some (6, true)⟩) (v := undef) rfl (by kernel_rfl) (by kernel_rfl) (by kernel_rfl) (fun _ _ _ h => h) (by kernel_rfl) (Or.inr ⟨by rfl, rfl⟩) HS0.out ?rest47
           try simp only [Act.put, List.setIfInBounds_toArray, List.set_cons_zero, List.set_cons_succ]
           refine' wpAnyD_take (i := 11) (oi := ⟨some 106, .pick (.tmp 101) (.tmp 105) (.const (.bool false)), 4, "law.go:310", #[⟨6, .data⟩, ⟨10, .data⟩], none⟩) (v := _) rfl (by kernel_rfl) (by kernel_rfl) (by kernel_rfl) (fun _ _ _ h => h) (by kernel_rfl) (Or.inl ⟨by rfl, ?hy48⟩) HS0.out ?rest48
           case hy48 => (intro W hSw; go_simp; try (with_reducible rfl))
           try simp only [Act.put, List.setIfInBounds_toArray, List.set_cons_zero, List.set_cons_succ]
           refine' wpAnyD_take (i := 12) (oi := ⟨some 107, .move (.tmp 106), 4, "law.go:310", #[⟨11, .data⟩, ⟨10, .chain⟩], none⟩) (v := _) rfl (by kernel_rfl) (by kernel_rfl) (by kernel_rfl) (fun _ _ _ h => h) (by kernel_rfl) (Or.inl ⟨by rfl, ?hy49⟩) HS0.out ?rest49
           case hy49 => (intro W hSw; go_simp; try (with_reducible rfl))
           try simp only [Act.put, List.setIfInBounds_toArray, List.set_cons_zero, List.set_cons_succ]
           refine' wpAnyD_take (i := 13) (oi := ⟨some 108, .move (.tmp 15), 4, "law.go:310", #[⟨12, .guard⟩], some (12, false)⟩) (v := _) rfl (by kernel_rfl) (by kernel_rfl) (by kernel_rfl) (fun _ _ _ h => h) (by kernel_rfl) (Or.inl ⟨by rfl, ?hy50⟩) HS0.out ?rest50
           case hy50 => (intro W hSw; go_simp; try (with_reducible rfl))
           try simp only [Act.put, List.setIfInBounds_toArray, List.set_cons_zero, List.set_cons_succ]
           refine' wpAnyD_take (i := 14) (oi := ⟨some 109, .move (.tmp 5), 26, "law.go:310", #[⟨12, .guard⟩], some (12, false)⟩) (v := _) rfl (by kernel_rfl) (by kernel_rfl) (by kernel_rfl) (fun _ _ _ h => h) (by kernel_rfl) (Or.inl ⟨by rfl, ?hy51⟩) HS0.out ?rest51
           case hy51 => (intro W hSw; go_simp; try (with_reducible rfl))
           try simp only [Act.put, List.setIfInBounds_toArray, List.set_cons_zero, List.set_cons_succ]
           refine' wpAnyD_take (i := 15) (oi := ⟨some 110, .fieldAddr 52 (.tmp 14) 0, 0, "law.go:310", #[⟨12, .guard⟩], some (12, false)⟩) (v := _) rfl (by kernel_rfl) (by kernel_rfl) (by kernel_rfl) (fun _ _ _ h => h) (by kernel_rfl) (Or.inl ⟨by rfl, ?hy52⟩) HS0.out ?rest52
           case hy52 => (intro W hSw; go_simp; try (with_reducible rfl))
           try simp only [Act.put, List.setIfInBounds_toArray, List.set_cons_zero, List.set_cons_succ]
           refine' wpAnyD_take (i := 16) (oi := ⟨some 111, .load 3 (.tmp 110), 3, "law.go:310", #[⟨15, .data⟩, ⟨12, .guard⟩], some (12, false)⟩) (v := _) rfl (by kernel_rfl) (by kernel_rfl) (by kernel_rfl) (fun _ _ _ h => h) (by kernel_rfl) (Or.inl ⟨by rfl, ?hy53⟩) HS0.out ?rest53
           case hy53 => (intro W hSw; have hc := (tk_store hSw.2).1; have hl := tk_lt hSw.2; go_simp; try (with_reducible rfl))
           try simp only [Act.put, List.setIfInBounds_toArray, List.set_cons_zero, List.set_cons_succ]
           refine' wpAnyD_take (i := 17) (oi := ⟨some 112, .load 52 (.tmp 12), 52, "law.go:310", #[⟨12, .guard⟩], some (12, false)⟩) (v := _) rfl (by kernel_rfl) (by kernel_rfl) (by kernel_rfl) (fun _ _ _ h => h) (by kernel_rfl) (Or.inl ⟨by rfl, ?hy54⟩) HS0.out ?rest54
           case hy54 => (intro W hSw; have hc := (tk_store hSw.1).1; have hl := tk_lt hSw.1; go_simp; try (with_reducible rfl))
           try simp only [Act.put, List.setIfInBounds_toArray, List.set_cons_zero, List.set_cons_succ]
           refine' wpAnyD_take (i := 20) (oi := ⟨some 115, .fieldAddr 52 (.tmp 14) 1, 0, "law.go:310", #[⟨12, .guard⟩], some (12, false)⟩) (v := _) rfl (by kernel_rfl) (by kernel_rfl) (by kernel_rfl) (fun _ _ _ h => h) (by kernel_rfl) (Or.inl ⟨by rfl, ?hy55⟩) HS0.out ?rest55
           case hy55 => (intro W hSw; go_simp; try (with_reducible rfl))
           try simp only [Act.put, List.setIfInBounds_toArray, List.set_cons_zero, List.set_cons_succ]
           refine' wpAnyD_take (i := 21) (oi := ⟨some 116, .load 50 (.tmp 115), 50, "law.go:310", #[⟨20, .data⟩, ⟨12, .guard⟩], some (12, false)⟩) (v := _) rfl (by kernel_rfl) (by kernel_rfl) (by kernel_rfl) (fun _ _ _ h => h) (by kernel_rfl) (Or.inl ⟨by rfl, ?hy56⟩) HS0.out ?rest56
           case hy56 => (intro W hSw; have hc := (tk_store hSw.2).1; have hl := tk_lt hSw.2; go_simp; try (with_reducible rfl))
           try simp only [Act.put, List.setIfInBounds_toArray, List.set_cons_zero, List.set_cons_succ]
           refine wpAnyD_one (i := 18) (o := ⟨some 113, .buildSlice 49 1 #[(0, .tmp 112)], 49, "law.go:310", #[⟨17, .data⟩, ⟨12, .guard⟩], some (12, false)⟩) (by kernel_rfl) rfl (fun K hK => ?_)
           rw [if_pos (by kernel_rfl)]
           go_simp
           have B9 : Below wz.heap.size wz (wz.drew.alloc (.cells #[.int .i64 s.1, .int .u64 s.2.1.1, .int .u64 s.2.1.2.1, .int .u64 s.2.1.2.2] 52)) := hB0.trans (((Gr.refl wz.drew).alloc _).below.mono hB0.size)
           have hn9 := heap_new' wz.drew (.cells #[.int .i64 s.1, .int .u64 s.2.1.1, .int .u64 s.2.1.2.1, .int .u64 s.2.1.2.2] 52)
           refine hK.out _ _ (fun hD => (HZ.out _ B9).2.2) ?_
           clear hK K
           try simp only [Act.put, List.setIfInBounds_toArray, List.set_cons_zero, List.set_cons_succ]
           refine wpAnyD_one (i := 19) (o := ⟨some 114, .call ⟨.value (.func 19), #[.tmp 109, .tmp 111, .tmp 113], #[26, 3, 49]⟩, 55, "law.go:310", #[⟨14, .data⟩, ⟨16, .data⟩, ⟨18, .data⟩, ⟨12, .chain⟩, ⟨12, .guard⟩], some (12, false)⟩) (by kernel_rfl) rfl (fun K hK => ?_)
           rw [if_pos (by kernel_rfl)]
           go_simp
           refine (hfr _ _ (HKZ.out _ B9) hn9).mono ?_
           rintro r w10 ⟨v10, rfl, L10, hb10⟩
           have B10 : Below wz.heap.size wz w10 := B9.trans (hb10.mono B9.size)
           clear hb10 hn9
           go_wp2_with fail
           refine hK.out _ _ (fun hD => (HZ.out _ B10).2.2) ?_
           clear hK K
           try simp only [Act.put, List.setIfInBounds_toArray, List.set_cons_zero, List.set_cons_succ]
           refine wpAnyD_one (i := 22) (o := ⟨some 117, .call ⟨.value (.func 18), #[.tmp 114, .tmp 116], #[55, 50]⟩, 4, "law.go:310", #[⟨19, .data⟩, ⟨21, .data⟩, ⟨19, .chain⟩, ⟨12, .guard⟩], some (12, false)⟩) (by kernel_rfl) rfl (fun K hK => ?_)
           rw [if_pos (by kernel_rfl)]
           go_simp
           refine (r5open_any v10 fr u.2 w10 L10.out.1 (by have := L10.out.2; omega)).mono ?_
           rintro r w12 ⟨rfl, g12⟩
           have B12 : Below wz.heap.size wz w12 := B10.trans (g12.below.mono B10.size)
           clear g12
           rw [hop]
           go_wp2_with fail
           refine hK.out _ _ (fun hD => (HZ.out _ B12).2.2) ?_
           clear hK K
           try simp only [Act.put, List.setIfInBounds_toArray, List.set_cons_zero, List.set_cons_succ]
           refine' wpAnyD_take (i := 23) (oi := ⟨some 118, .binOp .neq 4 (.tmp 108) (.tmp 117) 4, 4, "law.go:310", #[⟨13, .data⟩, ⟨22, .data⟩, ⟨12, .guard⟩], some (12, false)⟩) (v := _) rfl (by kernel_rfl) (by kernel_rfl) (by kernel_rfl) (fun _ _ _ h => h) (by kernel_rfl) (Or.inl ⟨by rfl, ?hy60⟩) (HZ.out _ B12).2.2 ?rest60
           case hy60 => (intro W hSw; go_simp; try (with_reducible rfl))
           try simp only [Act.put, List.setIfInBounds_toArray, List.set_cons_zero, List.set_cons_succ]
           refine' wpAnyD_take (i := 24) (oi := ⟨some 119, .pick (.tmp 107) (.const (.bool true)) (.tmp 118), 4, "law.go:310", #[⟨12, .data⟩, ⟨23, .data⟩], none⟩) (v := _) rfl (by kernel_rfl) (by kernel_rfl) (by kernel_rfl) (fun _ _ _ h => h) (by kernel_rfl) (Or.inl ⟨by rfl, ?hy61⟩) (HZ.out _ B12).2.2 ?rest61
           case hy61 => (intro W hSw; go_simp; try (with_reducible rfl))
           try simp only [Act.put, List.setIfInBounds_toArray, List.set_cons_zero, List.set_cons_succ]
           refine' wpAnyD_take (i := 25) (oi := ⟨some 120, .move (.tmp 119), 4, "law.go:310", #[⟨24, .data⟩, ⟨22, .chain⟩], none⟩) (v := _) rfl (by kernel_rfl) (by kernel_rfl) (by kernel_rfl) (fun _ _ _ h => h) (by kernel_rfl) (Or.inl ⟨by rfl, ?hy62⟩) (HZ.out _ B12).2.2 ?rest62
           case hy62 => (intro W hSw; go_simp; try (with_reducible rfl))
           try simp only [Act.put, List.setIfInBounds_toArray, List.set_cons_zero, List.set_cons_succ]
           refine' wpAnyD_take (i := 26) (oi := ⟨some 121, .fieldAddr 52 (.tmp 12) 0, 0, "law.go:310", #[⟨25, .guard⟩], some (25, false)⟩) (v := _) rfl (by kernel_rfl) (by kernel_rfl) (by kernel_rfl) (fun _ _ _ h => h) (by kernel_rfl) (Or.inl ⟨by rfl, ?hy63⟩) (HZ.out _ B12).2.2 ?rest63
           case hy63 => (intro W hSw; go_simp; try (with_reducible rfl))
           try simp only [Act.put, List.setIfInBounds_toArray, List.set_cons_zero, List.set_cons_succ]
           refine' wpAnyD_take (i := 27) (oi := ⟨some 122, .load 3 (.tmp 121), 3, "law.go:310", #[⟨26, .data⟩, ⟨25, .guard⟩], some (25, false)⟩) (v := _) rfl (by kernel_rfl) (by kernel_rfl) (by kernel_rfl) (fun _ _ _ h => h) (by kernel_rfl) (Or.inl ⟨by rfl, ?hy64⟩) (HZ.out _ B12).2.2 ?rest64
           case hy64 => (intro W hSw; have hc := (tk_store hSw.1).1; have hl := tk_lt hSw.1; go_simp; try (with_reducible rfl))
           try simp only [Act.put, List.setIfInBounds_toArray, List.set_cons_zero, List.set_cons_succ]
           refine' wpAnyD_take (i := 28) (oi := ⟨some 123, .fieldAddr 52 (.tmp 14) 0, 0, "law.go:310", #[⟨25, .guard⟩], some (25, false)⟩) (v := _) rfl (by kernel_rfl) (by kernel_rfl) (by kernel_rfl) (fun _ _ _ h => h) (by kernel_rfl) (Or.inl ⟨by rfl, ?hy65⟩) (HZ.out _ B12).2.2 ?rest65
           case hy65 => (intro W hSw; go_simp; try (with_reducible rfl))
           try simp only [Act.put, List.setIfInBounds_toArray, List.set_cons_zero, List.set_cons_succ]
           refine' wpAnyD_take (i := 29) (oi := ⟨some 124, .load 3 (.tmp 123), 3, "law.go:310", #[⟨28, .data⟩, ⟨25, .guard⟩], some (25, false)⟩) (v := _) rfl (by kernel_rfl) (by kernel_rfl) (by kernel_rfl) (fun _ _ _ h => h) (by kernel_rfl) (Or.inl ⟨by rfl, ?hy66⟩) (HZ.out _ B12).2.2 ?rest66
           case hy66 => (intro W hSw; have hc := (tk_store hSw.2).1; have hl := tk_lt hSw.2; go_simp; try (with_reducible rfl))
           try simp only [Act.put, List.setIfInBounds_toArray, List.set_cons_zero, List.set_cons_succ]
           refine' wpAnyD_take (i := 30) (oi := ⟨some 125, .binOp .eql 3 (.tmp 122) (.tmp 124) 3, 4, "law.go:310", #[⟨27, .data⟩, ⟨29, .data⟩, ⟨25, .guard⟩], some (25, false)⟩) (v := .bool false) rfl (by kernel_rfl) (by kernel_rfl) (by kernel_rfl) (fun _ _ _ h => h) (by kernel_rfl) (Or.inl ⟨by rfl, ?hy67⟩) (HZ.out _ B12).2.2 ?rest67
           case hy67 => (intro W hSw; go_simp; first | done | (with_reducible rfl) | simp [HE.out])
           try simp only [Act.put, List.setIfInBounds_toArray, List.set_cons_zero, List.set_cons_succ]
           refine' wpAnyD_take (i := 31) (oi := ⟨some 126, .move (.tmp 125), 4, "law.go:310", #[⟨30, .data⟩, ⟨25, .chain⟩, ⟨25, .guard⟩], some (25, false)⟩) (v := _) rfl (by kernel_rfl) (by kernel_rfl) (by kernel_rfl) (fun _ _ _ h => h) (by kernel_rfl) (Or.inl ⟨by rfl, ?hy68⟩) (HZ.out _ B12).2.2 ?rest68
           case hy68 => (intro W hSw; go_simp; try (with_reducible rfl))
           try simp only [Act.put, List.setIfInBounds_toArray, List.set_cons_zero, List.set_cons_succ]
           refine' wpAnyD_take (i := 32) (oi := ⟨some 127, .fieldAddr 52 (.tmp 12) 1, 0, "law.go:310", #[⟨31, .guard⟩], some (31, true)⟩) (v := undef) rfl (by kernel_rfl) (by kernel_rfl) (by kernel_rfl) (fun _ _ _ h => h) (by kernel_rfl) (Or.inr ⟨by rfl, rfl⟩) (HZ.out _ B12).2.2 ?rest69
           try simp only [Act.put, List.setIfInBounds_toArray, List.set_cons_zero, List.set_cons_succ]
           refine' wpAnyD_take (i := 33) (oi := ⟨some 128, .load 50 (.tmp 127), 50, "law.go:310", #[⟨32, .data⟩, ⟨31, .guard⟩], some (31, true)⟩) (v := undef) rfl (by kernel_rfl) (by kernel_rfl) (by kernel_rfl) (fun _ _ _ h => h) (by kernel_rfl) (Or.inr ⟨by rfl, rfl⟩) (HZ.out _ B12).2.2 ?rest70
           try simp only [Act.put, List.setIfInBounds_toArray, List.set_cons_zero, List.set_cons_succ]
           refine' wpAnyD_take (i := 34) (oi := ⟨some 129, .fieldAddr 52 (.tmp 14) 1, 0, "law.go:310", #[⟨31, .guard⟩], some (31, true)⟩) (v := undef) rfl (by kernel_rfl) (by kernel_rfl) (by kernel_rfl) (fun _ _ _ h => h) (by kernel_rfl) (Or.inr ⟨by rfl, rfl⟩) (HZ.out _ B12).2.2 ?rest71
           try simp only [Act.put, List.setIfInBounds_toArray, List.set_cons_zero, List.set_cons_succ]
           refine' wpAnyD_take (i := 35) (oi := ⟨some 130, .load 50 (.tmp 129), 50, "law.go:310", #[⟨34, .data⟩, ⟨31, .guard⟩], some (31, true)⟩) (v := undef) rfl (by kernel_rfl) (by kernel_rfl) (by kernel_rfl) (fun _ _ _ h => h) (by kernel_rfl) (Or.inr ⟨by rfl, rfl⟩) (HZ.out _ B12).2.2 ?rest72
           try simp only [Act.put, List.setIfInBounds_toArray, List.set_cons_zero, List.set_cons_succ]
           refine' wpAnyD_take (i := 36) (oi := ⟨some 131, .call ⟨.value (.func 20), #[.tmp 128, .tmp 130], #[50, 50]⟩, 4, "law.go:310", #[⟨33, .data⟩, ⟨35, .data⟩, ⟨31, .chain⟩, ⟨31, .guard⟩], some (31, true)⟩) (v := undef) rfl (by kernel_rfl) (by kernel_rfl) (by kernel_rfl) (fun _ _ _ h => h) (by kernel_rfl) (Or.inr ⟨by rfl, rfl⟩) (HZ.out _ B12).2.2 ?rest73
           try simp only [Act.put, List.setIfInBounds_toArray, List.set_cons_zero, List.set_cons_succ]
           refine' wpAnyD_take (i := 37) (oi := ⟨some 132, .pick (.tmp 126) (.tmp 131) (.const (.bool false)), 4, "law.go:310", #[⟨31, .data⟩, ⟨36, .data⟩, ⟨25, .guard⟩], some (25, false)⟩) (v := _) rfl (by kernel_rfl) (by kernel_rfl) (by kernel_rfl) (fun _ _ _ h => h) (by kernel_rfl) (Or.inl ⟨by rfl, ?hy74⟩) (HZ.out _ B12).2.2 ?rest74
           case hy74 => (intro W hSw; go_simp; try (with_reducible rfl))
           try simp only [Act.put, List.setIfInBounds_toArray, List.set_cons_zero, List.set_cons_succ]
           refine' wpAnyD_take (i := 38) (oi := ⟨some 133, .move (.tmp 132), 4, "law.go:310", #[⟨37, .data⟩, ⟨36, .chain⟩, ⟨25, .guard⟩], some (25, false)⟩) (v := _) rfl (by kernel_rfl) (by kernel_rfl) (by kernel_rfl) (fun _ _ _ h => h) (by kernel_rfl) (Or.inl ⟨by rfl, ?hy75⟩) (HZ.out _ B12).2.2 ?rest75
           case hy75 => (intro W hSw; go_simp; try (with_reducible rfl))
           try simp only [Act.put, List.setIfInBounds_toArray, List.set_cons_zero, List.set_cons_succ]
           refine' wpAnyD_take (i := 39) (oi := ⟨some 134, .move (.tmp 15), 4, "law.go:310", #[⟨38, .guard⟩], some (38, true)⟩) (v := undef) rfl (by kernel_rfl) (by kernel_rfl) (by kernel_rfl) (fun _ _ _ h => h) (by kernel_rfl) (Or.inr ⟨by rfl, rfl⟩) (HZ.out _ B12).2.2 ?rest76
           try simp only [Act.put, List.setIfInBounds_toArray, List.set_cons_zero, List.set_cons_succ]
           refine' wpAnyD_take (i := 40) (oi := ⟨some 135, .unOp .not 4 (.tmp 134), 4, "law.go:310", #[⟨39, .data⟩, ⟨38, .guard⟩], some (38, true)⟩) (v := undef) rfl (by kernel_rfl) (by kernel_rfl) (by kernel_rfl) (fun _ _ _ h => h) (by kernel_rfl) (Or.inr ⟨by rfl, rfl⟩) (HZ.out _ B12).2.2 ?rest77
           try simp only [Act.put, List.setIfInBounds_toArray, List.set_cons_zero, List.set_cons_succ]
           refine' wpAnyD_take (i := 41) (oi := ⟨some 136, .pick (.tmp 133) (.tmp 135) (.const (.bool false)), 4, "law.go:310", #[⟨38, .data⟩, ⟨40, .data⟩, ⟨25, .guard⟩], some (25, false)⟩) (v := _) rfl (by kernel_rfl) (by kernel_rfl) (by kernel_rfl) (fun _ _ _ h => h) (by kernel_rfl) (Or.inl ⟨by rfl, ?hy78⟩) (HZ.out _ B12).2.2 ?rest78
           case hy78 => (intro W hSw; go_simp; try (with_reducible rfl))
           try simp only [Act.put, List.setIfInBounds_toArray, List.set_cons_zero, List.set_cons_succ]
           refine' wpAnyD_take (i := 42) (oi := ⟨some 137, .pick (.tmp 120) (.const (.bool true)) (.tmp 136), 4, "law.go:310", #[⟨25, .data⟩, ⟨41, .data⟩], none⟩) (v := _) rfl (by kernel_rfl) (by kernel_rfl) (by kernel_rfl) (fun _ _ _ h => h) (by kernel_rfl) (Or.inl ⟨by rfl, ?hy79⟩) (HZ.out _ B12).2.2 ?rest79
           case hy79 => (intro W hSw; go_simp; try (with_reducible rfl))
           try simp only [Act.put, List.setIfInBounds_toArray, List.set_cons_zero, List.set_cons_succ]
           refine wpAnyD_done (by kernel_rfl) ?_ _
           go_wp2_with fail
           go_meet
           exact ⟨rfl, B12⟩
         | true =>
          have hneb : s ≠ u → cldB n R u s = false := fun hne => HAN.out s u HSV.out HUV.out hne HCB.out.symm
          cases bq with
          | true =>
           have hsu := of_decide_eq_true HBQ.out.symm
           have he : s.1 = u.1 := by rw [hsu]
           have HAF : Hid (ah = true) := by
            show _ = _
            rw [HAH.out, hsu]
            exact (Pc.bel_iff _ _).2 ⟨Int.le_refl _, Int.le_refl _, Int.le_refl _⟩
           have haf := HAF.out
           subst haf
           clear hneb hsu
           have HE := hid he
           clear he
           refine wp_regionD (S := fun X => X.heap[ab]? = some (.cells #[.int .i64 s.1, .int .u64 s.2.1.1, .int .u64 s.2.1.2.1, .int .u64 s.2.1.2.2] 52 (0, 0)) ∧ X.heap[bb]? = some (.cells #[.int .i64 u.1, .int .u64 u.2.1.1, .int .u64 u.2.1.2.1, .int .u64 u.2.1.2.2] 52 (0, 0))) (D := []) hmx ?_
           refine' wpAnyD_take (i := 0) (oi := ⟨some 95, .move (.tmp 15), 4, "law.go:310", #[], none⟩) (v := _) rfl (by kernel_rfl) (by kernel_rfl) (by kernel_rfl) (fun _ _ _ h => h) (by kernel_rfl) (Or.inl ⟨by rfl, ?hy123⟩) HS0.out ?rest123
           case hy123 => (intro W hSw; go_simp; try (with_reducible rfl))
           try simp only [Act.put, List.setIfInBounds_toArray, List.set_cons_zero, List.set_cons_succ]
           refine' wpAnyD_take (i := 1) (oi := ⟨some 96, .move (.tmp 95), 4, "law.go:310", #[⟨0, .data⟩], none⟩) (v := _) rfl (by kernel_rfl) (by kernel_rfl) (by kernel_rfl) (fun _ _ _ h => h) (by kernel_rfl) (Or.inl ⟨by rfl, ?hy124⟩) HS0.out ?rest124
           case hy124 => (intro W hSw; go_simp; try (with_reducible rfl))
           try simp only [Act.put, List.setIfInBounds_toArray, List.set_cons_zero, List.set_cons_succ]
           refine' wpAnyD_take (i := 2) (oi := ⟨some 97, .load 52 (.tmp 12), 52, "law.go:310", #[⟨1, .guard⟩], some (1, true)⟩) (v := _) rfl (by kernel_rfl) (by kernel_rfl) (by kernel_rfl) (fun _ _ _ h => h) (by kernel_rfl) (Or.inl ⟨by rfl, ?hy125⟩) HS0.out ?rest125
           case hy125 => (intro W hSw; have hc := (tk_store hSw.1).1; have hl := tk_lt hSw.1; go_simp; try (with_reducible rfl))
           try simp only [Act.put, List.setIfInBounds_toArray, List.set_cons_zero, List.set_cons_succ]
           refine' wpAnyD_take (i := 3) (oi := ⟨some 98, .load 52 (.tmp 14), 52, "law.go:310", #[⟨1, .guard⟩], some (1, true)⟩) (v := _) rfl (by kernel_rfl) (by kernel_rfl) (by kernel_rfl) (fun _ _ _ h => h) (by kernel_rfl) (Or.inl ⟨by rfl, ?hy126⟩) HS0.out ?rest126
           case hy126 => (intro W hSw; have hc := (tk_store hSw.2).1; have hl := tk_lt hSw.2; go_simp; try (with_reducible rfl))
           try simp only [Act.put, List.setIfInBounds_toArray, List.set_cons_zero, List.set_cons_succ]
           refine' wpAnyD_take (i := 4) (oi := ⟨some 99, .binOp .neq 52 (.tmp 97) (.tmp 98) 52, 4, "law.go:310", #[⟨2, .data⟩, ⟨3, .data⟩, ⟨1, .guard⟩], some (1, true)⟩) (v := .bool false) rfl (by kernel_rfl) (by kernel_rfl) (by kernel_rfl) (fun _ _ _ h => h) (by kernel_rfl) (Or.inl ⟨by rfl, ?hy127⟩) HS0.out ?rest127
           case hy127 => (intro W hSw; go_simp; first | done | (with_reducible rfl) | simp [heq])
           try simp only [Act.put, List.setIfInBounds_toArray, List.set_cons_zero, List.set_cons_succ]
           refine' wpAnyD_take (i := 5) (oi := ⟨some 100, .pick (.tmp 96) (.tmp 99) (.const (.bool false)), 4, "law.go:310", #[⟨1, .data⟩, ⟨4, .data⟩], none⟩) (v := _) rfl (by kernel_rfl) (by kernel_rfl) (by kernel_rfl) (fun _ _ _ h => h) (by kernel_rfl) (Or.inl ⟨by rfl, ?hy128⟩) HS0.out ?rest128
           case hy128 => (intro W hSw; go_simp; try (with_reducible rfl))
           try simp only [Act.put, List.setIfInBounds_toArray, List.set_cons_zero, List.set_cons_succ]
           refine' wpAnyD_take (i := 6) (oi := ⟨some 101, .move (.tmp 100), 4, "law.go:310", #[⟨5, .data⟩, ⟨1, .chain⟩], none⟩) (v := _) rfl (by kernel_rfl) (by kernel_rfl) (by kernel_rfl) (fun _ _ _ h => h) (by kernel_rfl) (Or.inl ⟨by rfl, ?hy129⟩) HS0.out ?rest129
           case hy129 => (intro W hSw; go_simp; try (with_reducible rfl))
           try simp only [Act.put, List.setIfInBounds_toArray, List.set_cons_zero, List.set_cons_succ]
           refine' wpAnyD_take (i := 7) (oi := ⟨some 102, .move (.tmp 5), 26, "law.go:310", #[⟨6, .guard⟩], some (6, true)⟩) (v := undef) rfl (by kernel_rfl) (by kernel_rfl) (by kernel_rfl) (fun _ _ _ h => h) (by kernel_rfl) (Or.inr ⟨by rfl, rfl⟩) HS0.out ?rest130
           try simp only [Act.put, List.setIfInBounds_toArray, List.set_cons_zero, List.set_cons_succ]
           refine' wpAnyD_take (i := 8) (oi := ⟨some 103, .load 52 (.tmp 14), 52, "law.go:310", #[⟨6, .guard⟩], some (6, true)⟩) (v := undef) rfl (by kernel_rfl) (by kernel_rfl) (by kernel_rfl) (fun _ _ _ h => h) (by kernel_rfl) (Or.inr ⟨by rfl, rfl⟩) HS0.out ?rest131
           try simp only [Act.put, List.setIfInBounds_toArray, List.set_cons_zero, List.set_cons_succ]
           refine' wpAnyD_take (i := 9) (oi := ⟨some 104, .load 52 (.tmp 12), 52, "law.go:310", #[⟨6, .guard⟩], some (6, true)⟩) (v := undef) rfl (by kernel_rfl) (by kernel_rfl) (by kernel_rfl) (fun _ _ _ h => h) (by kernel_rfl) (Or.inr ⟨by rfl, rfl⟩) HS0.out ?rest132
           try simp only [Act.put, List.setIfInBounds_toArray, List.set_cons_zero, List.set_cons_succ]
           refine' wpAnyD_take (i := 10) (oi := ⟨some 105, .call ⟨.value (.func 17), #[.tmp 102, .tmp 103, .tmp 104], #[26, 52, 52]⟩, 4, "law.go:310", #[⟨7, .data⟩, ⟨8, .data⟩, ⟨9, .data⟩, ⟨6, .chain⟩, ⟨6, .guard⟩], some (6, true)⟩) (v := undef) rfl (by kernel_rfl) (by kernel_rfl) (by kernel_rfl) (fun _ _ _ h => h) (by kernel_rfl) (Or.inr ⟨by rfl, rfl⟩) HS0.out ?rest133
           try simp only [Act.put, List.setIfInBounds_toArray, List.set_cons_zero, List.set_cons_succ]
           refine' wpAnyD_take (i := 11) (oi := ⟨some 106, .pick (.tmp 101) (.tmp 105) (.const (.bool false)), 4, "law.go:310", #[⟨6, .data⟩, ⟨10, .data⟩], none⟩) (v := _) rfl (by kernel_rfl) (by kernel_rfl) (by kernel_rfl) (fun _ _ _ h => h) (by kernel_rfl) (Or.inl ⟨by rfl, ?hy134⟩) HS0.out ?rest134
           case hy134 => (intro W hSw; go_simp; try (with_reducible rfl))
           try simp only [Act.put, List.setIfInBounds_toArray, List.set_cons_zero, List.set_cons_succ]
           refine' wpAnyD_take (i := 12) (oi := ⟨some 107, .move (.tmp 106), 4, "law.go:310", #[⟨11, .data⟩, ⟨10, .chain⟩], none⟩) (v := _) rfl (by kernel_rfl) (by kernel_rfl) (by kernel_rfl) (fun _ _ _ h => h) (by kernel_rfl) (Or.inl ⟨by rfl, ?hy135⟩) HS0.out ?rest135
           case hy135 => (intro W hSw; go_simp; try (with_reducible rfl))
           try simp only [Act.put, List.setIfInBounds_toArray, List.set_cons_zero, List.set_cons_succ]
           refine' wpAnyD_take (i := 13) (oi := ⟨some 108, .move (.tmp 15), 4, "law.go:310", #[⟨12, .guard⟩], some (12, false)⟩) (v := _) rfl (by kernel_rfl) (by kernel_rfl) (by kernel_rfl) (fun _ _ _ h => h) (by kernel_rfl) (Or.inl ⟨by rfl, ?hy136⟩) HS0.out ?rest136
           case hy136 => (intro W hSw; go_simp; try (with_reducible rfl))
           try simp only [Act.put, List.setIfInBounds_toArray, List.set_cons_zero, List.set_cons_succ]
           refine' wpAnyD_take (i := 14) (oi := ⟨some 109, .move (.tmp 5), 26, "law.go:310", #[⟨12, .guard⟩], some (12, false)⟩) (v := _) rfl (by kernel_rfl) (by kernel_rfl) (by kernel_rfl) (fun _ _ _ h => h) (by kernel_rfl) (Or.inl ⟨by rfl, ?hy137⟩) HS0.out ?rest137
           case hy137 => (intro W hSw; go_simp; try (with_reducible rfl))
           try simp only [Act.put, List.setIfInBounds_toArray, List.set_cons_zero, List.set_cons_succ]
           refine' wpAnyD_take (i := 15) (oi := ⟨some 110, .fieldAddr 52 (.tmp 14) 0, 0, "law.go:310", #[⟨12, .guard⟩], some (12, false)⟩) (v := _) rfl (by kernel_rfl) (by kernel_rfl) (by kernel_rfl) (fun _ _ _ h => h) (by kernel_rfl) (Or.inl ⟨by rfl, ?hy138⟩) HS0.out ?rest138
           case hy138 => (intro W hSw; go_simp; try (with_reducible rfl))
           try simp only [Act.put, List.setIfInBounds_toArray, List.set_cons_zero, List.set_cons_succ]
           refine' wpAnyD_take (i := 16) (oi := ⟨some 111, .load 3 (.tmp 110), 3, "law.go:310", #[⟨15, .data⟩, ⟨12, .guard⟩], some (12, false)⟩) (v := _) rfl (by kernel_rfl) (by kernel_rfl) (by kernel_rfl) (fun _ _ _ h => h) (by kernel_rfl) (Or.inl ⟨by rfl, ?hy139⟩) HS0.out ?rest139
           case hy139 => (intro W hSw; have hc := (tk_store hSw.2).1; have hl := tk_lt hSw.2; go_simp; try (with_reducible rfl))
           try simp only [Act.put, List.setIfInBounds_toArray, List.set_cons_zero, List.set_cons_succ]
           refine' wpAnyD_take (i := 17) (oi := ⟨some 112, .load 52 (.tmp 12), 52, "law.go:310", #[⟨12, .guard⟩], some (12, false)⟩) (v := _) rfl (by kernel_rfl) (by kernel_rfl) (by kernel_rfl) (fun _ _ _ h => h) (by kernel_rfl) (Or.inl ⟨by rfl, ?hy140⟩) HS0.out ?rest140
           case hy140 => (intro W hSw; have hc := (tk_store hSw.1).1; have hl := tk_lt hSw.1; go_simp; try (with_reducible rfl))
           try simp only [Act.put, List.setIfInBounds_toArray, List.set_cons_zero, List.set_cons_succ]
           refine' wpAnyD_take (i := 20) (oi := ⟨some 115, .fieldAddr 52 (.tmp 14) 1, 0, "law.go:310", #[⟨12, .guard⟩], some (12, false)⟩) (v := _) rfl (by kernel_rfl) (by kernel_rfl) (by kernel_rfl) (fun _ _ _ h => h) (by kernel_rfl) (Or.inl ⟨by rfl, ?hy141⟩) HS0.out ?rest141
           case hy141 => (intro W hSw; go_simp; try (with_reducible rfl))
           try simp only [Act.put, List.setIfInBounds_toArray, List.set_cons_zero, List.set_cons_succ]
           refine' wpAnyD_take (i := 21) (oi := ⟨some 116, .load 50 (.tmp 115), 50, "law.go:310", #[⟨20, .data⟩, ⟨12, .guard⟩], some (12, false)⟩) (v := _) rfl (by kernel_rfl) (by kernel_rfl) (by kernel_rfl) (fun _ _ _ h => h) (by kernel_rfl) (Or.inl ⟨by rfl, ?hy142⟩) HS0.out ?rest142
           case hy142 => (intro W hSw; have hc := (tk_store hSw.2).1; have hl := tk_lt hSw.2; go_simp; try (with_reducible rfl))
           try simp only [Act.put, List.setIfInBounds_toArray, List.set_cons_zero, List.set_cons_succ]
           refine wpAnyD_one (i := 18) (o := ⟨some 113, .buildSlice 49 1 #[(0, .tmp 112)], 49, "law.go:310", #[⟨17, .data⟩, ⟨12, .guard⟩], some (12, false)⟩) (by kernel_rfl) rfl (fun K hK => ?_)
           rw [if_pos (by kernel_rfl)]
           go_simp
           have B9 : Below wz.heap.size wz (wz.drew.alloc (.cells #[.int .i64 s.1, .int .u64 s.2.1.1, .int .u64 s.2.1.2.1, .int .u64 s.2.1.2.2] 52)) := hB0.trans (((Gr.refl wz.drew).alloc _).below.mono hB0.size)
           have hn9 := heap_new' wz.drew (.cells #[.int .i64 s.1, .int .u64 s.2.1.1, .int .u64 s.2.1.2.1, .int .u64 s.2.1.2.2] 52)
           refine hK.out _ _ (fun hD => (HZ.out _ B9).2.2) ?_
           clear hK K
           try simp only [Act.put, List.setIfInBounds_toArray, List.set_cons_zero, List.set_cons_succ]
           refine wpAnyD_one (i := 19) (o := ⟨some 114, .call ⟨.value (.func 19), #[.tmp 109, .tmp 111, .tmp 113], #[26, 3, 49]⟩, 55, "law.go:310", #[⟨14, .data⟩, ⟨16, .data⟩, ⟨18, .data⟩, ⟨12, .chain⟩, ⟨12, .guard⟩], some (12, false)⟩) (by kernel_rfl) rfl (fun K hK => ?_)
           rw [if_pos (by kernel_rfl)]
           go_simp
           refine (hfr _ _ (HKZ.out _ B9) hn9).mono ?_
           rintro r w10 ⟨v10, rfl, L10, hb10⟩
           have B10 : Below wz.heap.size wz w10 := B9.trans (hb10.mono B9.size)
           clear hb10 hn9
           go_wp2_with fail
           refine hK.out _ _ (fun hD => (HZ.out _ B10).2.2) ?_
           clear hK K
           try simp only [Act.put, List.setIfInBounds_toArray, List.set_cons_zero, List.set_cons_succ]
           refine wpAnyD_one (i := 22) (o := ⟨some 117, .call ⟨.value (.func 18), #[.tmp 114, .tmp 116], #[55, 50]⟩, 4, "law.go:310", #[⟨19, .data⟩, ⟨21, .data⟩, ⟨19, .chain⟩, ⟨12, .guard⟩], some (12, false)⟩) (by kernel_rfl) rfl (fun K hK => ?_)
           rw [if_pos (by kernel_rfl)]
           go_simp
           refine (r5open_any v10 fr u.2 w10 L10.out.1 (by have := L10.out.2; omega)).mono ?_
           rintro r w12 ⟨rfl, g12⟩
           have B12 : Below wz.heap.size wz w12 := B10.trans (g12.below.mono B10.size)
           clear g12
           rw [hop]
           go_wp2_with fail
           refine hK.out _ _ (fun hD => (HZ.out _ B12).2.2) ?_
           clear hK K
           try simp only [Act.put, List.setIfInBounds_toArray, List.set_cons_zero, List.set_cons_succ]
           refine' wpAnyD_take (i := 23) (oi := ⟨some 118, .binOp .neq 4 (.tmp 108) (.tmp 117) 4, 4, "law.go:310", #[⟨13, .data⟩, ⟨22, .data⟩, ⟨12, .guard⟩], some (12, false)⟩) (v := _) rfl (by kernel_rfl) (by kernel_rfl) (by kernel_rfl) (fun _ _ _ h => h) (by kernel_rfl) (Or.inl ⟨by rfl, ?hy146⟩) (HZ.out _ B12).2.2 ?rest146
           case hy146 => (intro W hSw; go_simp; try (with_reducible rfl))
           try simp only [Act.put, List.setIfInBounds_toArray, List.set_cons_zero, List.set_cons_succ]
           refine' wpAnyD_take (i := 24) (oi := ⟨some 119, .pick (.tmp 107) (.const (.bool true)) (.tmp 118), 4, "law.go:310", #[⟨12, .data⟩, ⟨23, .data⟩], none⟩) (v := _) rfl (by kernel_rfl) (by kernel_rfl) (by kernel_rfl) (fun _ _ _ h => h) (by kernel_rfl) (Or.inl ⟨by rfl, ?hy147⟩) (HZ.out _ B12).2.2 ?rest147
           case hy147 => (intro W hSw; go_simp; try (with_reducible rfl))
           try simp only [Act.put, List.setIfInBounds_toArray, List.set_cons_zero, List.set_cons_succ]
           refine' wpAnyD_take (i := 25) (oi := ⟨some 120, .move (.tmp 119), 4, "law.go:310", #[⟨24, .data⟩, ⟨22, .chain⟩], none⟩) (v := _) rfl (by kernel_rfl) (by kernel_rfl) (by kernel_rfl) (fun _ _ _ h => h) (by kernel_rfl) (Or.inl ⟨by rfl, ?hy148⟩) (HZ.out _ B12).2.2 ?rest148
           case hy148 => (intro W hSw; go_simp; try (with_reducible rfl))
           try simp only [Act.put, List.setIfInBounds_toArray, List.set_cons_zero, List.set_cons_succ]
           refine' wpAnyD_take (i := 26) (oi := ⟨some 121, .fieldAddr 52 (.tmp 12) 0, 0, "law.go:310", #[⟨25, .guard⟩], some (25, false)⟩) (v := _) rfl (by kernel_rfl) (by kernel_rfl) (by kernel_rfl) (fun _ _ _ h => h) (by kernel_rfl) (Or.inl ⟨by rfl, ?hy149⟩) (HZ.out _ B12).2.2 ?rest149
           case hy149 => (intro W hSw; go_simp; try (with_reducible rfl))
           try simp only [Act.put, List.setIfInBounds_toArray, List.set_cons_zero, List.set_cons_succ]
           refine' wpAnyD_take (i := 27) (oi := ⟨some 122, .load 3 (.tmp 121), 3, "law.go:310", #[⟨26, .data⟩, ⟨25, .guard⟩], some (25, false)⟩) (v := _) rfl (by kernel_rfl) (by kernel_rfl) (by kernel_rfl) (fun _ _ _ h => h) (by kernel_rfl) (Or.inl ⟨by rfl, ?hy150⟩) (HZ.out _ B12).2.2 ?rest150
           case hy150 => (intro W hSw; have hc := (tk_store hSw.1).1; have hl := tk_lt hSw.1; go_simp; try (with_reducible rfl))
           try simp only [Act.put, List.setIfInBounds_toArray, List.set_cons_zero, List.set_cons_succ]
           refine' wpAnyD_take (i := 28) (oi := ⟨some 123, .fieldAddr 52 (.tmp 14) 0, 0, "law.go:310", #[⟨25, .guard⟩], some (25, false)⟩) (v := _) rfl (by kernel_rfl) (by kernel_rfl) (by kernel_rfl) (fun _ _ _ h => h) (by kernel_rfl) (Or.inl ⟨by rfl, ?hy151⟩) (HZ.out _ B12).2.2 ?rest151
           case hy151 => (intro W hSw; go_simp; try (with_reducible rfl))
           try simp only [Act.put, List.setIfInBounds_toArray, List.set_cons_zero, List.set_cons_succ]
           refine' wpAnyD_take (i := 29) (oi := ⟨some 124, .load 3 (.tmp 123), 3, "law.go:310", #[⟨28, .data⟩, ⟨25, .guard⟩], some (25, false)⟩) (v := _) rfl (by kernel_rfl) (by kernel_rfl) (by kernel_rfl) (fun _ _ _ h => h) (by kernel_rfl) (Or.inl ⟨by rfl, ?hy152⟩) (HZ.out _ B12).2.2 ?rest152
           case hy152 => (intro W hSw; have hc := (tk_store hSw.2).1; have hl := tk_lt hSw.2; go_simp; try (with_reducible rfl))
           try simp only [Act.put, List.setIfInBounds_toArray, List.set_cons_zero, List.set_cons_succ]
           refine' wpAnyD_take (i := 30) (oi := ⟨some 125, .binOp .eql 3 (.tmp 122) (.tmp 124) 3, 4, "law.go:310", #[⟨27, .data⟩, ⟨29, .data⟩, ⟨25, .guard⟩], some (25, false)⟩) (v := .bool true) rfl (by kernel_rfl) (by kernel_rfl) (by kernel_rfl) (fun _ _ _ h => h) (by kernel_rfl) (Or.inl ⟨by rfl, ?hy153⟩) (HZ.out _ B12).2.2 ?rest153
           case hy153 => (intro W hSw; go_simp; first | done | (with_reducible rfl) | simp [HE.out])
           try simp only [Act.put, List.setIfInBounds_toArray, List.set_cons_zero, List.set_cons_succ]
           refine' wpAnyD_take (i := 31) (oi := ⟨some 126, .move (.tmp 125), 4, "law.go:310", #[⟨30, .data⟩, ⟨25, .chain⟩, ⟨25, .guard⟩], some (25, false)⟩) (v := _) rfl (by kernel_rfl) (by kernel_rfl) (by kernel_rfl) (fun _ _ _ h => h) (by kernel_rfl) (Or.inl ⟨by rfl, ?hy154⟩) (HZ.out _ B12).2.2 ?rest154
           case hy154 => (intro W hSw; go_simp; try (with_reducible rfl))
           try simp only [Act.put, List.setIfInBounds_toArray, List.set_cons_zero, List.set_cons_succ]
           refine' wpAnyD_take (i := 32) (oi := ⟨some 127, .fieldAddr 52 (.tmp 12) 1, 0, "law.go:310", #[⟨31, .guard⟩], some (31, true)⟩) (v := _) rfl (by kernel_rfl) (by kernel_rfl) (by kernel_rfl) (fun _ _ _ h => h) (by kernel_rfl) (Or.inl ⟨by rfl, ?hy155⟩) (HZ.out _ B12).2.2 ?rest155
           case hy155 => (intro W hSw; go_simp; try (with_reducible rfl))
           try simp only [Act.put, List.setIfInBounds_toArray, List.set_cons_zero, List.set_cons_succ]
           refine' wpAnyD_take (i := 33) (oi := ⟨some 128, .load 50 (.tmp 127), 50, "law.go:310", #[⟨32, .data⟩, ⟨31, .guard⟩], some (31, true)⟩) (v := _) rfl (by kernel_rfl) (by kernel_rfl) (by kernel_rfl) (fun _ _ _ h => h) (by kernel_rfl) (Or.inl ⟨by rfl, ?hy156⟩) (HZ.out _ B12).2.2 ?rest156
           case hy156 => (intro W hSw; have hc := (tk_store hSw.1).1; have hl := tk_lt hSw.1; go_simp; try (with_reducible rfl))
           try simp only [Act.put, List.setIfInBounds_toArray, List.set_cons_zero, List.set_cons_succ]
           refine' wpAnyD_take (i := 34) (oi := ⟨some 129, .fieldAddr 52 (.tmp 14) 1, 0, "law.go:310", #[⟨31, .guard⟩], some (31, true)⟩) (v := _) rfl (by kernel_rfl) (by kernel_rfl) (by kernel_rfl) (fun _ _ _ h => h) (by kernel_rfl) (Or.inl ⟨by rfl, ?hy157⟩) (HZ.out _ B12).2.2 ?rest157
           case hy157 => (intro W hSw; go_simp; try (with_reducible rfl))
           try simp only [Act.put, List.setIfInBounds_toArray, List.set_cons_zero, List.set_cons_succ]
           refine' wpAnyD_take (i := 35) (oi := ⟨some 130, .load 50 (.tmp 129), 50, "law.go:310", #[⟨34, .data⟩, ⟨31, .guard⟩], some (31, true)⟩) (v := _) rfl (by kernel_rfl) (by kernel_rfl) (by kernel_rfl) (fun _ _ _ h => h) (by kernel_rfl) (Or.inl ⟨by rfl, ?hy158⟩) (HZ.out _ B12).2.2 ?rest158
           case hy158 => (intro W hSw; have hc := (tk_store hSw.2).1; have hl := tk_lt hSw.2; go_simp; try (with_reducible rfl))
           try simp only [Act.put, List.setIfInBounds_toArray, List.set_cons_zero, List.set_cons_succ]
           refine wpAnyD_one (i := 36) (o := ⟨some 131, .call ⟨.value (.func 20), #[.tmp 128, .tmp 130], #[50, 50]⟩, 4, "law.go:310", #[⟨33, .data⟩, ⟨35, .data⟩, ⟨31, .chain⟩, ⟨31, .guard⟩], some (31, true)⟩) (by kernel_rfl) rfl (fun K hK => ?_)
           rw [if_pos (by kernel_rfl)]
           go_simp
           refine (hah _).mono ?_
           rintro r w13 ⟨rfl, g13⟩
           have B13 : Below wz.heap.size wz w13 := B12.trans (g13.below.mono B12.size)
           clear g13
           go_wp2_with fail
           refine hK.out _ _ (fun hD => (HZ.out _ B13).2.2) ?_
           clear hK K
           try simp only [Act.put, List.setIfInBounds_toArray, List.set_cons_zero, List.set_cons_succ]
           refine' wpAnyD_take (i := 37) (oi := ⟨some 132, .pick (.tmp 126) (.tmp 131) (.const (.bool false)), 4, "law.go:310", #[⟨31, .data⟩, ⟨36, .data⟩, ⟨25, .guard⟩], some (25, false)⟩) (v := _) rfl (by kernel_rfl) (by kernel_rfl) (by kernel_rfl) (fun _ _ _ h => h) (by kernel_rfl) (Or.inl ⟨by rfl, ?hy160⟩) (HZ.out _ B13).2.2 ?rest160
           case hy160 => (intro W hSw; go_simp; try (with_reducible rfl))
           try simp only [Act.put, List.setIfInBounds_toArray, List.set_cons_zero, List.set_cons_succ]
           refine' wpAnyD_take (i := 38) (oi := ⟨some 133, .move (.tmp 132), 4, "law.go:310", #[⟨37, .data⟩, ⟨36, .chain⟩, ⟨25, .guard⟩], some (25, false)⟩) (v := _) rfl (by kernel_rfl) (by kernel_rfl) (by kernel_rfl) (fun _ _ _ h => h) (by kernel_rfl) (Or.inl ⟨by rfl, ?hy161⟩) (HZ.out _ B13).2.2 ?rest161
           case hy161 => (intro W hSw; go_simp; try (with_reducible rfl))
           try simp only [Act.put, List.setIfInBounds_toArray, List.set_cons_zero, List.set_cons_succ]
           refine' wpAnyD_take (i := 39) (oi := ⟨some 134, .move (.tmp 15), 4, "law.go:310", #[⟨38, .guard⟩], some (38, true)⟩) (v := _) rfl (by kernel_rfl) (by kernel_rfl) (by kernel_rfl) (fun _ _ _ h => h) (by kernel_rfl) (Or.inl ⟨by rfl, ?hy162⟩) (HZ.out _ B13).2.2 ?rest162
           case hy162 => (intro W hSw; go_simp; try (with_reducible rfl))
           try simp only [Act.put, List.setIfInBounds_toArray, List.set_cons_zero, List.set_cons_succ]
           refine' wpAnyD_take (i := 40) (oi := ⟨some 135, .unOp .not 4 (.tmp 134), 4, "law.go:310", #[⟨39, .data⟩, ⟨38, .guard⟩], some (38, true)⟩) (v := _) rfl (by kernel_rfl) (by kernel_rfl) (by kernel_rfl) (fun _ _ _ h => h) (by kernel_rfl) (Or.inl ⟨by rfl, ?hy163⟩) (HZ.out _ B13).2.2 ?rest163
           case hy163 => (intro W hSw; go_simp; try (with_reducible rfl))
           try simp only [Act.put, List.setIfInBounds_toArray, List.set_cons_zero, List.set_cons_succ]
           refine' wpAnyD_take (i := 41) (oi := ⟨some 136, .pick (.tmp 133) (.tmp 135) (.const (.bool false)), 4, "law.go:310", #[⟨38, .data⟩, ⟨40, .data⟩, ⟨25, .guard⟩], some (25, false)⟩) (v := _) rfl (by kernel_rfl) (by kernel_rfl) (by kernel_rfl) (fun _ _ _ h => h) (by kernel_rfl) (Or.inl ⟨by rfl, ?hy164⟩) (HZ.out _ B13).2.2 ?rest164
           case hy164 => (intro W hSw; go_simp; try (with_reducible rfl))
           try simp only [Act.put, List.setIfInBounds_toArray, List.set_cons_zero, List.set_cons_succ]
           refine' wpAnyD_take (i := 42) (oi := ⟨some 137, .pick (.tmp 120) (.const (.bool true)) (.tmp 136), 4, "law.go:310", #[⟨25, .data⟩, ⟨41, .data⟩], none⟩) (v := _) rfl (by kernel_rfl) (by kernel_rfl) (by kernel_rfl) (fun _ _ _ h => h) (by kernel_rfl) (Or.inl ⟨by rfl, ?hy165⟩) (HZ.out _ B13).2.2 ?rest165
           case hy165 => (intro W hSw; go_simp; try (with_reducible rfl))
           try simp only [Act.put, List.setIfInBounds_toArray, List.set_cons_zero, List.set_cons_succ]
           refine wpAnyD_done (by kernel_rfl) ?_ _
           go_wp2_with fail
           go_meet
           exact ⟨rfl, B13⟩
          | false =>
           have hfl := hneb (of_decide_eq_false HBQ.out.symm)
           rw [hfl] at hba
           clear hneb hfl
           by_cases he : s.1 = u.1
           ·cases ah with
            | true =>
             skip
             have HE := hid he
             clear he
             refine wp_regionD (S := fun X => X.heap[ab]? = some (.cells #[.int .i64 s.1, .int .u64 s.2.1.1, .int .u64 s.2.1.2.1, .int .u64 s.2.1.2.2] 52 (0, 0)) ∧ X.heap[bb]? = some (.cells #[.int .i64 u.1, .int .u64 u.2.1.1, .int .u64 u.2.1.2.1, .int .u64 u.2.1.2.2] 52 (0, 0))) (D := []) hmx ?_
             refine' wpAnyD_take (i := 0) (oi := ⟨some 95, .move (.tmp 15), 4, "law.go:310", #[], none⟩) (v := _) rfl (by kernel_rfl) (by kernel_rfl) (by kernel_rfl) (fun _ _ _ h => h) (by kernel_rfl) (Or.inl ⟨by rfl, ?hy209⟩) HS0.out ?rest209
             case hy209 => (intro W hSw; go_simp; try (with_reducible rfl))
             try simp only [Act.put, List.setIfInBounds_toArray, List.set_cons_zero, List.set_cons_succ]
             refine' wpAnyD_take (i := 1) (oi := ⟨some 96, .move (.tmp 95), 4, "law.go:310", #[⟨0, .data⟩], none⟩) (v := _) rfl (by kernel_rfl) (by kernel_rfl) (by kernel_rfl) (fun _ _ _ h => h) (by kernel_rfl) (Or.inl ⟨by rfl, ?hy210⟩) HS0.out ?rest210
             case hy210 => (intro W hSw; go_simp; try (with_reducible rfl))
             try simp only [Act.put, List.setIfInBounds_toArray, List.set_cons_zero, List.set_cons_succ]
             refine' wpAnyD_take (i := 2) (oi := ⟨some 97, .load 52 (.tmp 12), 52, "law.go:310", #[⟨1, .guard⟩], some (1, true)⟩) (v := _) rfl (by kernel_rfl) (by kernel_rfl) (by kernel_rfl) (fun _ _ _ h => h) (by kernel_rfl) (Or.inl ⟨by rfl, ?hy211⟩) HS0.out ?rest211
             case hy211 => (intro W hSw; have hc := (tk_store hSw.1).1; have hl := tk_lt hSw.1; go_simp; try (with_reducible rfl))
             try simp only [Act.put, List.setIfInBounds_toArray, List.set_cons_zero, List.set_cons_succ]
             refine' wpAnyD_take (i := 3) (oi := ⟨some 98, .load 52 (.tmp 14), 52, "law.go:310", #[⟨1, .guard⟩], some (1, true)⟩) (v := _) rfl (by kernel_rfl) (by kernel_rfl) (by kernel_rfl) (fun _ _ _ h => h) (by kernel_rfl) (Or.inl ⟨by rfl, ?hy212⟩) HS0.out ?rest212
             case hy212 => (intro W hSw; have hc := (tk_store hSw.2).1; have hl := tk_lt hSw.2; go_simp; try (with_reducible rfl))
             try simp only [Act.put, List.setIfInBounds_toArray, List.set_cons_zero, List.set_cons_succ]
             refine' wpAnyD_take (i := 4) (oi := ⟨some 99, .binOp .neq 52 (.tmp 97) (.tmp 98) 52, 4, "law.go:310", #[⟨2, .data⟩, ⟨3, .data⟩, ⟨1, .guard⟩], some (1, true)⟩) (v := .bool true) rfl (by kernel_rfl) (by kernel_rfl) (by kernel_rfl) (fun _ _ _ h => h) (by kernel_rfl) (Or.inl ⟨by rfl, ?hy213⟩) HS0.out ?rest213
             case hy213 => (intro W hSw; go_simp; first | done | (with_reducible rfl) | simp [heq])
             try simp only [Act.put, List.setIfInBounds_toArray, List.set_cons_zero, List.set_cons_succ]
             refine' wpAnyD_take (i := 5) (oi := ⟨some 100, .pick (.tmp 96) (.tmp 99) (.const (.bool false)), 4, "law.go:310", #[⟨1, .data⟩, ⟨4, .data⟩], none⟩) (v := _) rfl (by kernel_rfl) (by kernel_rfl) (by kernel_rfl) (fun _ _ _ h => h) (by kernel_rfl) (Or.inl ⟨by rfl, ?hy214⟩) HS0.out ?rest214
             case hy214 => (intro W hSw; go_simp; try (with_reducible rfl))
             try simp only [Act.put, List.setIfInBounds_toArray, List.set_cons_zero, List.set_cons_succ]
             refine' wpAnyD_take (i := 6) (oi := ⟨some 101, .move (.tmp 100), 4, "law.go:310", #[⟨5, .data⟩, ⟨1, .chain⟩], none⟩) (v := _) rfl (by kernel_rfl) (by kernel_rfl) (by kernel_rfl) (fun _ _ _ h => h) (by kernel_rfl) (Or.inl ⟨by rfl, ?hy215⟩) HS0.out ?rest215
             case hy215 => (intro W hSw; go_simp; try (with_reducible rfl))
             try simp only [Act.put, List.setIfInBounds_toArray, List.set_cons_zero, List.set_cons_succ]
             refine' wpAnyD_take (i := 7) (oi := ⟨some 102, .move (.tmp 5), 26, "law.go:310", #[⟨6, .guard⟩], some (6, true)⟩) (v := _) rfl (by kernel_rfl) (by kernel_rfl) (by kernel_rfl) (fun _ _ _ h => h) (by kernel_rfl) (Or.inl ⟨by rfl, ?hy216⟩) HS0.out ?rest216
             case hy216 => (intro W hSw; go_simp; try (with_reducible rfl))
             try simp only [Act.put, List.setIfInBounds_toArray, List.set_cons_zero, List.set_cons_succ]
             refine' wpAnyD_take (i := 8) (oi := ⟨some 103, .load 52 (.tmp 14), 52, "law.go:310", #[⟨6, .guard⟩], some (6, true)⟩) (v := _) rfl (by kernel_rfl) (by kernel_rfl) (by kernel_rfl) (fun _ _ _ h => h) (by kernel_rfl) (Or.inl ⟨by rfl, ?hy217⟩) HS0.out ?rest217
             case hy217 => (intro W hSw; have hc := (tk_store hSw.2).1; have hl := tk_lt hSw.2; go_simp; try (with_reducible rfl))
             try simp only [Act.put, List.setIfInBounds_toArray, List.set_cons_zero, List.set_cons_succ]
             refine' wpAnyD_take (i := 9) (oi := ⟨some 104, .load 52 (.tmp 12), 52, "law.go:310", #[⟨6, .guard⟩], some (6, true)⟩) (v := _) rfl (by kernel_rfl) (by kernel_rfl) (by kernel_rfl) (fun _ _ _ h => h) (by kernel_rfl) (Or.inl ⟨by rfl, ?hy218⟩) HS0.out ?rest218
             case hy218 => (intro W hSw; have hc := (tk_store hSw.1).1; have hl := tk_lt hSw.1; go_simp; try (with_reducible rfl))
             try simp only [Act.put, List.setIfInBounds_toArray, List.set_cons_zero, List.set_cons_succ]
             refine wpAnyD_one (i := 10) (o := ⟨some 105, .call ⟨.value (.func 17), #[.tmp 102, .tmp 103, .tmp 104], #[26, 52, 52]⟩, 4, "law.go:310", #[⟨7, .data⟩, ⟨8, .data⟩, ⟨9, .data⟩, ⟨6, .chain⟩, ⟨6, .guard⟩], some (6, true)⟩) (by kernel_rfl) rfl (fun K hK => ?_)
             rw [if_pos (by kernel_rfl)]
             go_simp
             refine (hba _ (HKZ.out _ hB0)).mono ?_
             rintro r w3 ⟨rfl, hb3⟩
             have B3 : Below wz.heap.size wz w3 := hB0.trans (hb3.mono hB0.size)
             clear hb3
             go_wp2_with fail
             refine hK.out _ _ (fun hD => (HZ.out _ B3).2.2) ?_
             clear hK K
             try simp only [Act.put, List.setIfInBounds_toArray, List.set_cons_zero, List.set_cons_succ]
             refine' wpAnyD_take (i := 11) (oi := ⟨some 106, .pick (.tmp 101) (.tmp 105) (.const (.bool false)), 4, "law.go:310", #[⟨6, .data⟩, ⟨10, .data⟩], none⟩) (v := _) rfl (by kernel_rfl) (by kernel_rfl) (by kernel_rfl) (fun _ _ _ h => h) (by kernel_rfl) (Or.inl ⟨by rfl, ?hy220⟩) (HZ.out _ B3).2.2 ?rest220
             case hy220 => (intro W hSw; go_simp; try (with_reducible rfl))
             try simp only [Act.put, List.setIfInBounds_toArray, List.set_cons_zero, List.set_cons_succ]
             refine' wpAnyD_take (i := 12) (oi := ⟨some 107, .move (.tmp 106), 4, "law.go:310", #[⟨11, .data⟩, ⟨10, .chain⟩], none⟩) (v := _) rfl (by kernel_rfl) (by kernel_rfl) (by kernel_rfl) (fun _ _ _ h => h) (by kernel_rfl) (Or.inl ⟨by rfl, ?hy221⟩) (HZ.out _ B3).2.2 ?rest221
             case hy221 => (intro W hSw; go_simp; try (with_reducible rfl))
             try simp only [Act.put, List.setIfInBounds_toArray, List.set_cons_zero, List.set_cons_succ]
             refine' wpAnyD_take (i := 13) (oi := ⟨some 108, .move (.tmp 15), 4, "law.go:310", #[⟨12, .guard⟩], some (12, false)⟩) (v := _) rfl (by kernel_rfl) (by kernel_rfl) (by kernel_rfl) (fun _ _ _ h => h) (by kernel_rfl) (Or.inl ⟨by rfl, ?hy222⟩) (HZ.out _ B3).2.2 ?rest222
             case hy222 => (intro W hSw; go_simp; try (with_reducible rfl))
             try simp only [Act.put, List.setIfInBounds_toArray, List.set_cons_zero, List.set_cons_succ]
             refine' wpAnyD_take (i := 14) (oi := ⟨some 109, .move (.tmp 5), 26, "law.go:310", #[⟨12, .guard⟩], some (12, false)⟩) (v := _) rfl (by kernel_rfl) (by kernel_rfl) (by kernel_rfl) (fun _ _ _ h => h) (by kernel_rfl) (Or.inl ⟨by rfl, ?hy223⟩) (HZ.out _ B3).2.2 ?rest223
             case hy223 => (intro W hSw; go_simp; try (with_reducible rfl))
             try simp only [Act.put, List.setIfInBounds_toArray, List.set_cons_zero, List.set_cons_succ]
             refine' wpAnyD_take (i := 15) (oi := ⟨some 110, .fieldAddr 52 (.tmp 14) 0, 0, "law.go:310", #[⟨12, .guard⟩], some (12, false)⟩) (v := _) rfl (by kernel_rfl) (by kernel_rfl) (by kernel_rfl) (fun _ _ _ h => h) (by kernel_rfl) (Or.inl ⟨by rfl, ?hy224⟩) (HZ.out _ B3).2.2 ?rest224
             case hy224 => (intro W hSw; go_simp; try (with_reducible rfl))
             try simp only [Act.put, List.setIfInBounds_toArray, List.set_cons_zero, List.set_cons_succ]
             refine' wpAnyD_take (i := 16) (oi := ⟨some 111, .load 3 (.tmp 110), 3, "law.go:310", #[⟨15, .data⟩, ⟨12, .guard⟩], some (12, false)⟩) (v := _) rfl (by kernel_rfl) (by kernel_rfl) (by kernel_rfl) (fun _ _ _ h => h) (by kernel_rfl) (Or.inl ⟨by rfl, ?hy225⟩) (HZ.out _ B3).2.2 ?rest225
             case hy225 => (intro W hSw; have hc := (tk_store hSw.2).1; have hl := tk_lt hSw.2; go_simp; try (with_reducible rfl))
             try simp only [Act.put, List.setIfInBounds_toArray, List.set_cons_zero, List.set_cons_succ]
             refine' wpAnyD_take (i := 17) (oi := ⟨some 112, .load 52 (.tmp 12), 52, "law.go:310", #[⟨12, .guard⟩], some (12, false)⟩) (v := _) rfl (by kernel_rfl) (by kernel_rfl) (by kernel_rfl) (fun _ _ _ h => h) (by kernel_rfl) (Or.inl ⟨by rfl, ?hy226⟩) (HZ.out _ B3).2.2 ?rest226
             case hy226 => (intro W hSw; have hc := (tk_store hSw.1).1; have hl := tk_lt hSw.1; go_simp; try (with_reducible rfl))
             try simp only [Act.put, List.setIfInBounds_toArray, List.set_cons_zero, List.set_cons_succ]
             refine' wpAnyD_take (i := 20) (oi := ⟨some 115, .fieldAddr 52 (.tmp 14) 1, 0, "law.go:310", #[⟨12, .guard⟩], some (12, false)⟩) (v := _) rfl (by kernel_rfl) (by kernel_rfl) (by kernel_rfl) (fun _ _ _ h => h) (by kernel_rfl) (Or.inl ⟨by rfl, ?hy227⟩) (HZ.out _ B3).2.2 ?rest227
             case hy227 => (intro W hSw; go_simp; try (with_reducible rfl))
             try simp only [Act.put, List.setIfInBounds_toArray, List.set_cons_zero, List.set_cons_succ]
             refine' wpAnyD_take (i := 21) (oi := ⟨some 116, .load 50 (.tmp 115), 50, "law.go:310", #[⟨20, .data⟩, ⟨12, .guard⟩], some (12, false)⟩) (v := _) rfl (by kernel_rfl) (by kernel_rfl) (by kernel_rfl) (fun _ _ _ h => h) (by kernel_rfl) (Or.inl ⟨by rfl, ?hy228⟩) (HZ.out _ B3).2.2 ?rest228
             case hy228 => (intro W hSw; have hc := (tk_store hSw.2).1; have hl := tk_lt hSw.2; go_simp; try (with_reducible rfl))
             try simp only [Act.put, List.setIfInBounds_toArray, List.set_cons_zero, List.set_cons_succ]
             refine wpAnyD_one (i := 18) (o := ⟨some 113, .buildSlice 49 1 #[(0, .tmp 112)], 49, "law.go:310", #[⟨17, .data⟩, ⟨12, .guard⟩], some (12, false)⟩) (by kernel_rfl) rfl (fun K hK => ?_)
             rw [if_pos (by kernel_rfl)]
             go_simp
             have B9 : Below wz.heap.size wz (w3.alloc (.cells #[.int .i64 s.1, .int .u64 s.2.1.1, .int .u64 s.2.1.2.1, .int .u64 s.2.1.2.2] 52)) := B3.trans (((Gr.refl w3).alloc _).below.mono B3.size)
             have hn9 := heap_new' w3 (.cells #[.int .i64 s.1, .int .u64 s.2.1.1, .int .u64 s.2.1.2.1, .int .u64 s.2.1.2.2] 52)
             refine hK.out _ _ (fun hD => (HZ.out _ B9).2.2) ?_
             clear hK K
             try simp only [Act.put, List.setIfInBounds_toArray, List.set_cons_zero, List.set_cons_succ]
             refine wpAnyD_one (i := 19) (o := ⟨some 114, .call ⟨.value (.func 19), #[.tmp 109, .tmp 111, .tmp 113], #[26, 3, 49]⟩, 55, "law.go:310", #[⟨14, .data⟩, ⟨16, .data⟩, ⟨18, .data⟩, ⟨12, .chain⟩, ⟨12, .guard⟩], some (12, false)⟩) (by kernel_rfl) rfl (fun K hK => ?_)
             rw [if_pos (by kernel_rfl)]
             go_simp
             refine (hfr _ _ (HKZ.out _ B9) hn9).mono ?_
             rintro r w10 ⟨v10, rfl, L10, hb10⟩
             have B10 : Below wz.heap.size wz w10 := B9.trans (hb10.mono B9.size)
             clear hb10 hn9
             go_wp2_with fail
             refine hK.out _ _ (fun hD => (HZ.out _ B10).2.2) ?_
             clear hK K
             try simp only [Act.put, List.setIfInBounds_toArray, List.set_cons_zero, List.set_cons_succ]
             refine wpAnyD_one (i := 22) (o := ⟨some 117, .call ⟨.value (.func 18), #[.tmp 114, .tmp 116], #[55, 50]⟩, 4, "law.go:310", #[⟨19, .data⟩, ⟨21, .data⟩, ⟨19, .chain⟩, ⟨12, .guard⟩], some (12, false)⟩) (by kernel_rfl) rfl (fun K hK => ?_)
             rw [if_pos (by kernel_rfl)]
             go_simp
             refine (r5open_any v10 fr u.2 w10 L10.out.1 (by have := L10.out.2; omega)).mono ?_
             rintro r w12 ⟨rfl, g12⟩
             have B12 : Below wz.heap.size wz w12 := B10.trans (g12.below.mono B10.size)
             clear g12
             rw [hop]
             go_wp2_with fail
             refine hK.out _ _ (fun hD => (HZ.out _ B12).2.2) ?_
             clear hK K
             try simp only [Act.put, List.setIfInBounds_toArray, List.set_cons_zero, List.set_cons_succ]
             refine' wpAnyD_take (i := 23) (oi := ⟨some 118, .binOp .neq 4 (.tmp 108) (.tmp 117) 4, 4, "law.go:310", #[⟨13, .data⟩, ⟨22, .data⟩, ⟨12, .guard⟩], some (12, false)⟩) (v := _) rfl (by kernel_rfl) (by kernel_rfl) (by kernel_rfl) (fun _ _ _ h => h) (by kernel_rfl) (Or.inl ⟨by rfl, ?hy232⟩) (HZ.out _ B12).2.2 ?rest232
             case hy232 => (intro W hSw; go_simp; try (with_reducible rfl))
             try simp only [Act.put, List.setIfInBounds_toArray, List.set_cons_zero, List.set_cons_succ]
             refine' wpAnyD_take (i := 24) (oi := ⟨some 119, .pick (.tmp 107) (.const (.bool true)) (.tmp 118), 4, "law.go:310", #[⟨12, .data⟩, ⟨23, .data⟩], none⟩) (v := _) rfl (by kernel_rfl) (by kernel_rfl) (by kernel_rfl) (fun _ _ _ h => h) (by kernel_rfl) (Or.inl ⟨by rfl, ?hy233⟩) (HZ.out _ B12).2.2 ?rest233
             case hy233 => (intro W hSw; go_simp; try (with_reducible rfl))
             try simp only [Act.put, List.setIfInBounds_toArray, List.set_cons_zero, List.set_cons_succ]
             refine' wpAnyD_take (i := 25) (oi := ⟨some 120, .move (.tmp 119), 4, "law.go:310", #[⟨24, .data⟩, ⟨22, .chain⟩], none⟩) (v := _) rfl (by kernel_rfl) (by kernel_rfl) (by kernel_rfl) (fun _ _ _ h => h) (by kernel_rfl) (Or.inl ⟨by rfl, ?hy234⟩) (HZ.out _ B12).2.2 ?rest234
             case hy234 => (intro W hSw; go_simp; try (with_reducible rfl))
             try simp only [Act.put, List.setIfInBounds_toArray, List.set_cons_zero, List.set_cons_succ]
             refine' wpAnyD_take (i := 26) (oi := ⟨some 121, .fieldAddr 52 (.tmp 12) 0, 0, "law.go:310", #[⟨25, .guard⟩], some (25, false)⟩) (v := _) rfl (by kernel_rfl) (by kernel_rfl) (by kernel_rfl) (fun _ _ _ h => h) (by kernel_rfl) (Or.inl ⟨by rfl, ?hy235⟩) (HZ.out _ B12).2.2 ?rest235
             case hy235 => (intro W hSw; go_simp; try (with_reducible rfl))
             try simp only [Act.put, List.setIfInBounds_toArray, List.set_cons_zero, List.set_cons_succ]
             refine' wpAnyD_take (i := 27) (oi := ⟨some 122, .load 3 (.tmp 121), 3, "law.go:310", #[⟨26, .data⟩, ⟨25, .guard⟩], some (25, false)⟩) (v := _) rfl (by kernel_rfl) (by kernel_rfl) (by kernel_rfl) (fun _ _ _ h => h) (by kernel_rfl) (Or.inl ⟨by rfl, ?hy236⟩) (HZ.out _ B12).2.2 ?rest236
             case hy236 => (intro W hSw; have hc := (tk_store hSw.1).1; have hl := tk_lt hSw.1; go_simp; try (with_reducible rfl))
             try simp only [Act.put, List.setIfInBounds_toArray, List.set_cons_zero, List.set_cons_succ]
             refine' wpAnyD_take (i := 28) (oi := ⟨some 123, .fieldAddr 52 (.tmp 14) 0, 0, "law.go:310", #[⟨25, .guard⟩], some (25, false)⟩) (v := _) rfl (by kernel_rfl) (by kernel_rfl) (by kernel_rfl) (fun _ _ _ h => h) (by kernel_rfl) (Or.inl ⟨by rfl, ?hy237⟩) (HZ.out _ B12).2.2 ?rest237
             case hy237 => (intro W hSw; go_simp; try (with_reducible rfl))
             try simp only [Act.put, List.setIfInBounds_toArray, List.set_cons_zero, List.set_cons_succ]
             refine' wpAnyD_take (i := 29) (oi := ⟨some 124, .load 3 (.tmp 123), 3, "law.go:310", #[⟨28, .data⟩, ⟨25, .guard⟩], some (25, false)⟩) (v := _) rfl (by kernel_rfl) (by kernel_rfl) (by kernel_rfl) (fun _ _ _ h => h) (by kernel_rfl) (Or.inl ⟨by rfl, ?hy238⟩) (HZ.out _ B12).2.2 ?rest238
             case hy238 => (intro W hSw; have hc := (tk_store hSw.2).1; have hl := tk_lt hSw.2; go_simp; try (with_reducible rfl))
             try simp only [Act.put, List.setIfInBounds_toArray, List.set_cons_zero, List.set_cons_succ]
             refine' wpAnyD_take (i := 30) (oi := ⟨some 125, .binOp .eql 3 (.tmp 122) (.tmp 124) 3, 4, "law.go:310", #[⟨27, .data⟩, ⟨29, .data⟩, ⟨25, .guard⟩], some (25, false)⟩) (v := .bool true) rfl (by kernel_rfl) (by kernel_rfl) (by kernel_rfl) (fun _ _ _ h => h) (by kernel_rfl) (Or.inl ⟨by rfl, ?hy239⟩) (HZ.out _ B12).2.2 ?rest239
             case hy239 => (intro W hSw; go_simp; first | done | (with_reducible rfl) | simp [HE.out])
             try simp only [Act.put, List.setIfInBounds_toArray, List.set_cons_zero, List.set_cons_succ]
             refine' wpAnyD_take (i := 31) (oi := ⟨some 126, .move (.tmp 125), 4, "law.go:310", #[⟨30, .data⟩, ⟨25, .chain⟩, ⟨25, .guard⟩], some (25, false)⟩) (v := _) rfl (by kernel_rfl) (by kernel_rfl) (by kernel_rfl) (fun _ _ _ h => h) (by kernel_rfl) (Or.inl ⟨by rfl, ?hy240⟩) (HZ.out _ B12).2.2 ?rest240
             case hy240 => (intro W hSw; go_simp; try (with_reducible rfl))
             try simp only [Act.put, List.setIfInBounds_toArray, List.set_cons_zero, List.set_cons_succ]
             refine' wpAnyD_take (i := 32) (oi := ⟨some 127, .fieldAddr 52 (.tmp 12) 1, 0, "law.go:310", #[⟨31, .guard⟩], some (31, true)⟩) (v := _) rfl (by kernel_rfl) (by kernel_rfl) (by kernel_rfl) (fun _ _ _ h => h) (by kernel_rfl) (Or.inl ⟨by rfl, ?hy241⟩) (HZ.out _ B12).2.2 ?rest241
             case hy241 => (intro W hSw; go_simp; try (with_reducible rfl))
             try simp only [Act.put, List.setIfInBounds_toArray, List.set_cons_zero, List.set_cons_succ]
             refine' wpAnyD_take (i := 33) (oi := ⟨some 128, .load 50 (.tmp 127), 50, "law.go:310", #[⟨32, .data⟩, ⟨31, .guard⟩], some (31, true)⟩) (v := _) rfl (by kernel_rfl) (by kernel_rfl) (by kernel_rfl) (fun _ _ _ h => h) (by kernel_rfl) (Or.inl ⟨by rfl, ?hy242⟩) (HZ.out _ B12).2.2 ?rest242
             case hy242 => (intro W hSw; have hc := (tk_store hSw.1).1; have hl := tk_lt hSw.1; go_simp; try (with_reducible rfl))
             try simp only [Act.put, List.setIfInBounds_toArray, List.set_cons_zero, List.set_cons_succ]
             refine' wpAnyD_take (i := 34) (oi := ⟨some 129, .fieldAddr 52 (.tmp 14) 1, 0, "law.go:310", #[⟨31, .guard⟩], some (31, true)⟩) (v := _) rfl (by kernel_rfl) (by kernel_rfl) (by kernel_rfl) (fun _ _ _ h => h) (by kernel_rfl) (Or.inl ⟨by rfl, ?hy243⟩) (HZ.out _ B12).2.2 ?rest243
             case hy243 => (intro W hSw; go_simp; try (with_reducible rfl))
             try simp only [Act.put, List.setIfInBounds_toArray, List.set_cons_zero, List.set_cons_succ]
             refine' wpAnyD_take (i := 35) (oi := ⟨some 130, .load 50 (.tmp 129), 50, "law.go:310", #[⟨34, .data⟩, ⟨31, .guard⟩], some (31, true)⟩) (v := _) rfl (by kernel_rfl) (by kernel_rfl) (by kernel_rfl) (fun _ _ _ h => h) (by kernel_rfl) (Or.inl ⟨by rfl, ?hy244⟩) (HZ.out _ B12).2.2 ?rest244
             case hy244 => (intro W hSw; have hc := (tk_store hSw.2).1; have hl := tk_lt hSw.2; go_simp; try (with_reducible rfl))
             try simp only [Act.put, List.setIfInBounds_toArray, List.set_cons_zero, List.set_cons_succ]
             refine wpAnyD_one (i := 36) (o := ⟨some 131, .call ⟨.value (.func 20), #[.tmp 128, .tmp 130], #[50, 50]⟩, 4, "law.go:310", #[⟨33, .data⟩, ⟨35, .data⟩, ⟨31, .chain⟩, ⟨31, .guard⟩], some (31, true)⟩) (by kernel_rfl) rfl (fun K hK => ?_)
             rw [if_pos (by kernel_rfl)]
             go_simp
             refine (hah _).mono ?_
             rintro r w13 ⟨rfl, g13⟩
             have B13 : Below wz.heap.size wz w13 := B12.trans (g13.below.mono B12.size)
             clear g13
             go_wp2_with fail
             refine hK.out _ _ (fun hD => (HZ.out _ B13).2.2) ?_
             clear hK K
             try simp only [Act.put, List.setIfInBounds_toArray, List.set_cons_zero, List.set_cons_succ]
             refine' wpAnyD_take (i := 37) (oi := ⟨some 132, .pick (.tmp 126) (.tmp 131) (.const (.bool false)), 4, "law.go:310", #[⟨31, .data⟩, ⟨36, .data⟩, ⟨25, .guard⟩], some (25, false)⟩) (v := _) rfl (by kernel_rfl) (by kernel_rfl) (by kernel_rfl) (fun _ _ _ h => h) (by kernel_rfl) (Or.inl ⟨by rfl, ?hy246⟩) (HZ.out _ B13).2.2 ?rest246
             case hy246 => (intro W hSw; go_simp; try (with_reducible rfl))
             try simp only [Act.put, List.setIfInBounds_toArray, List.set_cons_zero, List.set_cons_succ]
             refine' wpAnyD_take (i := 38) (oi := ⟨some 133, .move (.tmp 132), 4, "law.go:310", #[⟨37, .data⟩, ⟨36, .chain⟩, ⟨25, .guard⟩], some (25, false)⟩) (v := _) rfl (by kernel_rfl) (by kernel_rfl) (by kernel_rfl) (fun _ _ _ h => h) (by kernel_rfl) (Or.inl ⟨by rfl, ?hy247⟩) (HZ.out _ B13).2.2 ?rest247
             case hy247 => (intro W hSw; go_simp; try (with_reducible rfl))
             try simp only [Act.put, List.setIfInBounds_toArray, List.set_cons_zero, List.set_cons_succ]
             refine' wpAnyD_take (i := 39) (oi := ⟨some 134, .move (.tmp 15), 4, "law.go:310", #[⟨38, .guard⟩], some (38, true)⟩) (v := _) rfl (by kernel_rfl) (by kernel_rfl) (by kernel_rfl) (fun _ _ _ h => h) (by kernel_rfl) (Or.inl ⟨by rfl, ?hy248⟩) (HZ.out _ B13).2.2 ?rest248
             case hy248 => (intro W hSw; go_simp; try (with_reducible rfl))
             try simp only [Act.put, List.setIfInBounds_toArray, List.set_cons_zero, List.set_cons_succ]
             refine' wpAnyD_take (i := 40) (oi := ⟨some 135, .unOp .not 4 (.tmp 134), 4, "law.go:310", #[⟨39, .data⟩, ⟨38, .guard⟩], some (38, true)⟩) (v := _) rfl (by kernel_rfl) (by kernel_rfl) (by kernel_rfl) (fun _ _ _ h => h) (by kernel_rfl) (Or.inl ⟨by rfl, ?hy249⟩) (HZ.out _ B13).2.2 ?rest249
             case hy249 => (intro W hSw; go_simp; try (with_reducible rfl))
             try simp only [Act.put, List.setIfInBounds_toArray, List.set_cons_zero, List.set_cons_succ]
             refine' wpAnyD_take (i := 41) (oi := ⟨some 136, .pick (.tmp 133) (.tmp 135) (.const (.bool false)), 4, "law.go:310", #[⟨38, .data⟩, ⟨40, .data⟩, ⟨25, .guard⟩], some (25, false)⟩) (v := _) rfl (by kernel_rfl) (by kernel_rfl) (by kernel_rfl) (fun _ _ _ h => h) (by kernel_rfl) (Or.inl ⟨by rfl, ?hy250⟩) (HZ.out _ B13).2.2 ?rest250
             case hy250 => (intro W hSw; go_simp; try (with_reducible rfl))
             try simp only [Act.put, List.setIfInBounds_toArray, List.set_cons_zero, List.set_cons_succ]
             refine' wpAnyD_take (i := 42) (oi := ⟨some 137, .pick (.tmp 120) (.const (.bool true)) (.tmp 136), 4, "law.go:310", #[⟨25, .data⟩, ⟨41, .data⟩], none⟩) (v := _) rfl (by kernel_rfl) (by kernel_rfl) (by kernel_rfl) (fun _ _ _ h => h) (by kernel_rfl) (Or.inl ⟨by rfl, ?hy251⟩) (HZ.out _ B13).2.2 ?rest251
             case hy251 => (intro W hSw; go_simp; try (with_reducible rfl))
             try simp only [Act.put, List.setIfInBounds_toArray, List.set_cons_zero, List.set_cons_succ]
             refine wpAnyD_done (by kernel_rfl) ?_ _
             go_wp2_with fail
             go_meet
             exact ⟨rfl, B13⟩
            | false =>
             skip
             have HE := hid he
             clear he
             refine wp_regionD (S := fun X => X.heap[ab]? = some (.cells #[.int .i64 s.1, .int .u64 s.2.1.1, .int .u64 s.2.1.2.1, .int .u64 s.2.1.2.2] 52 (0, 0)) ∧ X.heap[bb]? = some (.cells #[.int .i64 u.1, .int .u64 u.2.1.1, .int .u64 u.2.1.2.1, .int .u64 u.2.1.2.2] 52 (0, 0))) (D := []) hmx ?_
             refine' wpAnyD_take (i := 0) (oi := ⟨some 95, .move (.tmp 15), 4, "law.go:310", #[], none⟩) (v := _) rfl (by kernel_rfl) (by kernel_rfl) (by kernel_rfl) (fun _ _ _ h => h) (by kernel_rfl) (Or.inl ⟨by rfl, ?hy252⟩) HS0.out ?rest252
             case hy252 => (intro W hSw; go_simp; try (with_reducible rfl))
             try simp only [Act.put, List.setIfInBounds_toArray, List.set_cons_zero, List.set_cons_succ]
             refine' wpAnyD_take (i := 1) (oi := ⟨some 96, .move (.tmp 95), 4, "law.go:310", #[⟨0, .data⟩], none⟩) (v := _) rfl (by kernel_rfl) (by kernel_rfl) (by kernel_rfl) (fun _ _ _ h => h) (by kernel_rfl) (Or.inl ⟨by rfl, ?hy253⟩) HS0.out ?rest253
             case hy253 => (intro W hSw; go_simp; try (with_reducible rfl))
             try simp only [Act.put, List.setIfInBounds_toArray, List.set_cons_zero, List.set_cons_succ]
             refine' wpAnyD_take (i := 2) (oi := ⟨some 97, .load 52 (.tmp 12), 52, "law.go:310", #[⟨1, .guard⟩], some (1, true)⟩) (v := _) rfl (by kernel_rfl) (by kernel_rfl) (by kernel_rfl) (fun _ _ _ h => h) (by kernel_rfl) (Or.inl ⟨by rfl, ?hy254⟩) HS0.out ?rest254
             case hy254 => (intro W hSw; have hc := (tk_store hSw.1).1; have hl := tk_lt hSw.1; go_simp; try (with_reducible rfl))
             try simp only [Act.put, List.setIfInBounds_toArray, List.set_cons_zero, List.set_cons_succ]
             refine' wpAnyD_take (i := 3) (oi := ⟨some 98, .load 52 (.tmp 14), 52, "law.go:310", #[⟨1, .guard⟩], some (1, true)⟩) (v := _) rfl (by kernel_rfl) (by kernel_rfl) (by kernel_rfl) (fun _ _ _ h => h) (by kernel_rfl) (Or.inl ⟨by rfl, ?hy255⟩) HS0.out ?rest255
             case hy255 => (intro W hSw; have hc := (tk_store hSw.2).1; have hl := tk_lt hSw.2; go_simp; try (with_reducible rfl))
             try simp only [Act.put, List.setIfInBounds_toArray, List.set_cons_zero, List.set_cons_succ]
             refine' wpAnyD_take (i := 4) (oi := ⟨some 99, .binOp .neq 52 (.tmp 97) (.tmp 98) 52, 4, "law.go:310", #[⟨2, .data⟩, ⟨3, .data⟩, ⟨1, .guard⟩], some (1, true)⟩) (v := .bool true) rfl (by kernel_rfl) (by kernel_rfl) (by kernel_rfl) (fun _ _ _ h => h) (by kernel_rfl) (Or.inl ⟨by rfl, ?hy256⟩) HS0.out ?rest256
             case hy256 => (intro W hSw; go_simp; first | done | (with_reducible rfl) | simp [heq])
             try simp only [Act.put, List.setIfInBounds_toArray, List.set_cons_zero, List.set_cons_succ]
             refine' wpAnyD_take (i := 5) (oi := ⟨some 100, .pick (.tmp 96) (.tmp 99) (.const (.bool false)), 4, "law.go:310", #[⟨1, .data⟩, ⟨4, .data⟩], none⟩) (v := _) rfl (by kernel_rfl) (by kernel_rfl) (by kernel_rfl) (fun _ _ _ h => h) (by kernel_rfl) (Or.inl ⟨by rfl, ?hy257⟩) HS0.out ?rest257
             case hy257 => (intro W hSw; go_simp; try (with_reducible rfl))
             try simp only [Act.put, List.setIfInBounds_toArray, List.set_cons_zero, List.set_cons_succ]
             refine' wpAnyD_take (i := 6) (oi := ⟨some 101, .move (.tmp 100), 4, "law.go:310", #[⟨5, .data⟩, ⟨1, .chain⟩], none⟩) (v := _) rfl (by kernel_rfl) (by kernel_rfl) (by kernel_rfl) (fun _ _ _ h => h) (by kernel_rfl) (Or.inl ⟨by rfl, ?hy258⟩) HS0.out ?rest258
             case hy258 => (intro W hSw; go_simp; try (with_reducible rfl))
             try simp only [Act.put, List.setIfInBounds_toArray, List.set_cons_zero, List.set_cons_succ]
             refine' wpAnyD_take (i := 7) (oi := ⟨some 102, .move (.tmp 5), 26, "law.go:310", #[⟨6, .guard⟩], some (6, true)⟩) (v := _) rfl (by kernel_rfl) (by kernel_rfl) (by kernel_rfl) (fun _ _ _ h => h) (by kernel_rfl) (Or.inl ⟨by rfl, ?hy259⟩) HS0.out ?rest259
             case hy259 => (intro W hSw; go_simp; try (with_reducible rfl))
             try simp only [Act.put, List.setIfInBounds_toArray, List.set_cons_zero, List.set_cons_succ]
             refine' wpAnyD_take (i := 8) (oi := ⟨some 103, .load 52 (.tmp 14), 52, "law.go:310", #[⟨6, .guard⟩], some (6, true)⟩) (v := _) rfl (by kernel_rfl) (by kernel_rfl) (by kernel_rfl) (fun _ _ _ h => h) (by kernel_rfl) (Or.inl ⟨by rfl, ?hy260⟩) HS0.out ?rest260
             case hy260 => (intro W hSw; have hc := (tk_store hSw.2).1; have hl := tk_lt hSw.2; go_simp; try (with_reducible rfl))
             try simp only [Act.put, List.setIfInBounds_toArray, List.set_cons_zero, List.set_cons_succ]
             refine' wpAnyD_take (i := 9) (oi := ⟨some 104, .load 52 (.tmp 12), 52, "law.go:310", #[⟨6, .guard⟩], some (6, true)⟩) (v := _) rfl (by kernel_rfl) (by kernel_rfl) (by kernel_rfl) (fun _ _ _ h => h) (by kernel_rfl) (Or.inl ⟨by rfl, ?hy261⟩) HS0.out ?rest261
             case hy261 => (intro W hSw; have hc := (tk_store hSw.1).1; have hl := tk_lt hSw.1; go_simp; try (with_reducible rfl))
             try simp only [Act.put, List.setIfInBounds_toArray, List.set_cons_zero, List.set_cons_succ]
             refine wpAnyD_one (i := 10) (o := ⟨some 105, .call ⟨.value (.func 17), #[.tmp 102, .tmp 103, .tmp 104], #[26, 52, 52]⟩, 4, "law.go:310", #[⟨7, .data⟩, ⟨8, .data⟩, ⟨9, .data⟩, ⟨6, .chain⟩, ⟨6, .guard⟩], some (6, true)⟩) (by kernel_rfl) rfl (fun K hK => ?_)
             rw [if_pos (by kernel_rfl)]
             go_simp
             refine (hba _ (HKZ.out _ hB0)).mono ?_
             rintro r w3 ⟨rfl, hb3⟩
             have B3 : Below wz.heap.size wz w3 := hB0.trans (hb3.mono hB0.size)
             clear hb3
             go_wp2_with fail
             refine hK.out _ _ (fun hD => (HZ.out _ B3).2.2) ?_
             clear hK K
             try simp only [Act.put, List.setIfInBounds_toArray, List.set_cons_zero, List.set_cons_succ]
             refine' wpAnyD_take (i := 11) (oi := ⟨some 106, .pick (.tmp 101) (.tmp 105) (.const (.bool false)), 4, "law.go:310", #[⟨6, .data⟩, ⟨10, .data⟩], none⟩) (v := _) rfl (by kernel_rfl) (by kernel_rfl) (by kernel_rfl) (fun _ _ _ h => h) (by kernel_rfl) (Or.inl ⟨by rfl, ?hy263⟩) (HZ.out _ B3).2.2 ?rest263
             case hy263 => (intro W hSw; go_simp; try (with_reducible rfl))
             try simp only [Act.put, List.setIfInBounds_toArray, List.set_cons_zero, List.set_cons_succ]
             refine' wpAnyD_take (i := 12) (oi := ⟨some 107, .move (.tmp 106), 4, "law.go:310", #[⟨11, .data⟩, ⟨10, .chain⟩], none⟩) (v := _) rfl (by kernel_rfl) (by kernel_rfl) (by kernel_rfl) (fun _ _ _ h => h) (by kernel_rfl) (Or.inl ⟨by rfl, ?hy264⟩) (HZ.out _ B3).2.2 ?rest264
             case hy264 => (intro W hSw; go_simp; try (with_reducible rfl))
             try simp only [Act.put, List.setIfInBounds_toArray, List.set_cons_zero, List.set_cons_succ]
             refine' wpAnyD_take (i := 13) (oi := ⟨some 108, .move (.tmp 15), 4, "law.go:310", #[⟨12, .guard⟩], some (12, false)⟩) (v := _) rfl (by kernel_rfl) (by kernel_rfl) (by kernel_rfl) (fun _ _ _ h => h) (by kernel_rfl) (Or.inl ⟨by rfl, ?hy265⟩) (HZ.out _ B3).2.2 ?rest265
             case hy265 => (intro W hSw; go_simp; try (with_reducible rfl))
             try simp only [Act.put, List.setIfInBounds_toArray, List.set_cons_zero, List.set_cons_succ]
             refine' wpAnyD_take (i := 14) (oi := ⟨some 109, .move (.tmp 5), 26, "law.go:310", #[⟨12, .guard⟩], some (12, false)⟩) (v := _) rfl (by kernel_rfl) (by kernel_rfl) (by kernel_rfl) (fun _ _ _ h => h) (by kernel_rfl) (Or.inl ⟨by rfl, ?hy266⟩) (HZ.out _ B3).2.2 ?rest266
             case hy266 => (intro W hSw; go_simp; try (with_reducible rfl))
             try simp only [Act.put, List.setIfInBounds_toArray, List.set_cons_zero, List.set_cons_succ]
             refine' wpAnyD_take (i := 15) (oi := ⟨some 110, .fieldAddr 52 (.tmp 14) 0, 0, "law.go:310", #[⟨12, .guard⟩], some (12, false)⟩) (v := _) rfl (by kernel_rfl) (by kernel_rfl) (by kernel_rfl) (fun _ _ _ h => h) (by kernel_rfl) (Or.inl ⟨by rfl, ?hy267⟩) (HZ.out _ B3).2.2 ?rest267
             case hy267 => (intro W hSw; go_simp; try (with_reducible rfl))
             try simp only [Act.put, List.setIfInBounds_toArray, List.set_cons_zero, List.set_cons_succ]
             refine' wpAnyD_take (i := 16) (oi := ⟨some 111, .load 3 (.tmp 110), 3, "law.go:310", #[⟨15, .data⟩, ⟨12, .guard⟩], some (12, false)⟩) (v := _) rfl (by kernel_rfl) (by kernel_rfl) (by kernel_rfl) (fun _ _ _ h => h) (by kernel_rfl) (Or.inl ⟨by rfl, ?hy268⟩) (HZ.out _ B3).2.2 ?rest268
             case hy268 => (intro W hSw; have hc := (tk_store hSw.2).1; have hl := tk_lt hSw.2; go_simp; try (with_reducible rfl))
             try simp only [Act.put, List.setIfInBounds_toArray, List.set_cons_zero, List.set_cons_succ]
             refine' wpAnyD_take (i := 17) (oi := ⟨some 112, .load 52 (.tmp 12), 52, "law.go:310", #[⟨12, .guard⟩], some (12, false)⟩) (v := _) rfl (by kernel_rfl) (by kernel_rfl) (by kernel_rfl) (fun _ _ _ h => h) (by kernel_rfl) (Or.inl ⟨by rfl, ?hy269⟩) (HZ.out _ B3).2.2 ?rest269
             case hy269 => (intro W hSw; have hc := (tk_store hSw.1).1; have hl := tk_lt hSw.1; go_simp; try (with_reducible rfl))
             try simp only [Act.put, List.setIfInBounds_toArray, List.set_cons_zero, List.set_cons_succ]
             refine' wpAnyD_take (i := 20) (oi := ⟨some 115, .fieldAddr 52 (.tmp 14) 1, 0, "law.go:310", #[⟨12, .guard⟩], some (12, false)⟩) (v := _) rfl (by kernel_rfl) (by kernel_rfl) (by kernel_rfl) (fun _ _ _ h => h) (by kernel_rfl) (Or.inl ⟨by rfl, ?hy270⟩) (HZ.out _ B3).2.2 ?rest270
             case hy270 => (intro W hSw; go_simp; try (with_reducible rfl))
             try simp only [Act.put, List.setIfInBounds_toArray, List.set_cons_zero, List.set_cons_succ]
             refine' wpAnyD_take (i := 21) (oi := ⟨some 116, .load 50 (.tmp 115), 50, "law.go:310", #[⟨20, .data⟩, ⟨12, .guard⟩], some (12, false)⟩) (v := _) rfl (by kernel_rfl) (by kernel_rfl) (by kernel_rfl) (fun _ _ _ h => h) (by kernel_rfl) (Or.inl ⟨by rfl, ?hy271⟩) (HZ.out _ B3).2.2 ?rest271
             case hy271 => (intro W hSw; have hc := (tk_store hSw.2).1; have hl := tk_lt hSw.2; go_simp; try (with_reducible rfl))
             try simp only [Act.put, List.setIfInBounds_toArray, List.set_cons_zero, List.set_cons_succ]
             refine wpAnyD_one (i := 18) (o := ⟨some 113, .buildSlice 49 1 #[(0, .tmp 112)], 49, "law.go:310", #[⟨17, .data⟩, ⟨12, .guard⟩], some (12, false)⟩) (by kernel_rfl) rfl (fun K hK => ?_)
             rw [if_pos (by kernel_rfl)]
             go_simp
             have B9 : Below wz.heap.size wz (w3.alloc (.cells #[.int .i64 s.1, .int .u64 s.2.1.1, .int .u64 s.2.1.2.1, .int .u64 s.2.1.2.2] 52)) := B3.trans (((Gr.refl w3).alloc _).below.mono B3.size)
             have hn9 := heap_new' w3 (.cells #[.int .i64 s.1, .int .u64 s.2.1.1, .int .u64 s.2.1.2.1, .int .u64 s.2.1.2.2] 52)
             refine hK.out _ _ (fun hD => (HZ.out _ B9).2.2) ?_
             clear hK K
             try simp only [Act.put, List.setIfInBounds_toArray, List.set_cons_zero, List.set_cons_succ]
             refine wpAnyD_one (i := 19) (o := ⟨some 114, .call ⟨.value (.func 19), #[.tmp 109, .tmp 111, .tmp 113], #[26, 3, 49]⟩, 55, "law.go:310", #[⟨14, .data⟩, ⟨16, .data⟩, ⟨18, .data⟩, ⟨12, .chain⟩, ⟨12, .guard⟩], some (12, false)⟩) (by kernel_rfl) rfl (fun K hK => ?_)
             rw [if_pos (by kernel_rfl)]
             go_simp
             refine (hfr _ _ (HKZ.out _ B9) hn9).mono ?_
             rintro r w10 ⟨v10, rfl, L10, hb10⟩
             have B10 : Below wz.heap.size wz w10 := B9.trans (hb10.mono B9.size)
             clear hb10 hn9
             go_wp2_with fail
             refine hK.out _ _ (fun hD => (HZ.out _ B10).2.2) ?_
             clear hK K
             try simp only [Act.put, List.setIfInBounds_toArray, List.set_cons_zero, List.set_cons_succ]
             refine wpAnyD_one (i := 22) (o := ⟨some 117, .call ⟨.value (.func 18), #[.tmp 114, .tmp 116], #[55, 50]⟩, 4, "law.go:310", #[⟨19, .data⟩, ⟨21, .data⟩, ⟨19, .chain⟩, ⟨12, .guard⟩], some (12, false)⟩) (by kernel_rfl) rfl (fun K hK => ?_)
             rw [if_pos (by kernel_rfl)]
             go_simp
             refine (r5open_any v10 fr u.2 w10 L10.out.1 (by have := L10.out.2; omega)).mono ?_
             rintro r w12 ⟨rfl, g12⟩
             have B12 : Below wz.heap.size wz w12 := B10.trans (g12.below.mono B10.size)
             clear g12
             rw [hop]
             go_wp2_with fail
             refine hK.out _ _ (fun hD => (HZ.out _ B12).2.2) ?_
             clear hK K
             try simp only [Act.put, List.setIfInBounds_toArray, List.set_cons_zero, List.set_cons_succ]
             refine' wpAnyD_take (i := 23) (oi := ⟨some 118, .binOp .neq 4 (.tmp 108) (.tmp 117) 4, 4, "law.go:310", #[⟨13, .data⟩, ⟨22, .data⟩, ⟨12, .guard⟩], some (12, false)⟩) (v := _) rfl (by kernel_rfl) (by kernel_rfl) (by kernel_rfl) (fun _ _ _ h => h) (by kernel_rfl) (Or.inl ⟨by rfl, ?hy275⟩) (HZ.out _ B12).2.2 ?rest275
             case hy275 => (intro W hSw; go_simp; try (with_reducible rfl))
             try simp only [Act.put, List.setIfInBounds_toArray, List.set_cons_zero, List.set_cons_succ]
             refine' wpAnyD_take (i := 24) (oi := ⟨some 119, .pick (.tmp 107) (.const (.bool true)) (.tmp 118), 4, "law.go:310", #[⟨12, .data⟩, ⟨23, .data⟩], none⟩) (v := _) rfl (by kernel_rfl) (by kernel_rfl) (by kernel_rfl) (fun _ _ _ h => h) (by kernel_rfl) (Or.inl ⟨by rfl, ?hy276⟩) (HZ.out _ B12).2.2 ?rest276
             case hy276 => (intro W hSw; go_simp; try (with_reducible rfl))
             try simp only [Act.put, List.setIfInBounds_toArray, List.set_cons_zero, List.set_cons_succ]
             refine' wpAnyD_take (i := 25) (oi := ⟨some 120, .move (.tmp 119), 4, "law.go:310", #[⟨24, .data⟩, ⟨22, .chain⟩], none⟩) (v := _) rfl (by kernel_rfl) (by kernel_rfl) (by kernel_rfl) (fun _ _ _ h => h) (by kernel_rfl) (Or.inl ⟨by rfl, ?hy277⟩) (HZ.out _ B12).2.2 ?rest277
             case hy277 => (intro W hSw; go_simp; try (with_reducible rfl))
             try simp only [Act.put, List.setIfInBounds_toArray, List.set_cons_zero, List.set_cons_succ]
             refine' wpAnyD_take (i := 26) (oi := ⟨some 121, .fieldAddr 52 (.tmp 12) 0, 0, "law.go:310", #[⟨25, .guard⟩], some (25, false)⟩) (v := _) rfl (by kernel_rfl) (by kernel_rfl) (by kernel_rfl) (fun _ _ _ h => h) (by kernel_rfl) (Or.inl ⟨by rfl, ?hy278⟩) (HZ.out _ B12).2.2 ?rest278
             case hy278 => (intro W hSw; go_simp; try (with_reducible rfl))
             try simp only [Act.put, List.setIfInBounds_toArray, List.set_cons_zero, List.set_cons_succ]
             refine' wpAnyD_take (i := 27) (oi := ⟨some 122, .load 3 (.tmp 121), 3, "law.go:310", #[⟨26, .data⟩, ⟨25, .guard⟩], some (25, false)⟩) (v := _) rfl (by kernel_rfl) (by kernel_rfl) (by kernel_rfl) (fun _ _ _ h => h) (by kernel_rfl) (Or.inl ⟨by rfl, ?hy279⟩) (HZ.out _ B12).2.2 ?rest279
             case hy279 => (intro W hSw; have hc := (tk_store hSw.1).1; have hl := tk_lt hSw.1; go_simp; try (with_reducible rfl))
             try simp only [Act.put, List.setIfInBounds_toArray, List.set_cons_zero, List.set_cons_succ]
             refine' wpAnyD_take (i := 28) (oi := ⟨some 123, .fieldAddr 52 (.tmp 14) 0, 0, "law.go:310", #[⟨25, .guard⟩], some (25, false)⟩) (v := _) rfl (by kernel_rfl) (by kernel_rfl) (by kernel_rfl) (fun _ _ _ h => h) (by kernel_rfl) (Or.inl ⟨by rfl, ?hy280⟩) (HZ.out _ B12).2.2 ?rest280
             case hy280 => (intro W hSw; go_simp; try (with_reducible rfl))
             try simp only [Act.put, List.setIfInBounds_toArray, List.set_cons_zero, List.set_cons_succ]
             refine' wpAnyD_take (i := 29) (oi := ⟨some 124, .load 3 (.tmp 123), 3, "law.go:310", #[⟨28, .data⟩, ⟨25, .guard⟩], some (25, false)⟩) (v := _) rfl (by kernel_rfl) (by kernel_rfl) (by kernel_rfl) (fun _ _ _ h => h) (by kernel_rfl) (Or.inl ⟨by rfl, ?hy281⟩) (HZ.out _ B12).2.2 ?rest281
             case hy281 => (intro W hSw; have hc := (tk_store hSw.2).1; have hl := tk_lt hSw.2; go_simp; try (with_reducible rfl))
             try simp only [Act.put, List.setIfInBounds_toArray, List.set_cons_zero, List.set_cons_succ]
             refine' wpAnyD_take (i := 30) (oi := ⟨some 125, .binOp .eql 3 (.tmp 122) (.tmp 124) 3, 4, "law.go:310", #[⟨27, .data⟩, ⟨29, .data⟩, ⟨25, .guard⟩], some (25, false)⟩) (v := .bool true) rfl (by kernel_rfl) (by kernel_rfl) (by kernel_rfl) (fun _ _ _ h => h) (by kernel_rfl) (Or.inl ⟨by rfl, ?hy282⟩) (HZ.out _ B12).2.2 ?rest282
             case hy282 => (intro W hSw; go_simp; first | done | (with_reducible rfl) | simp [HE.out])
             try simp only [Act.put, List.setIfInBounds_toArray, List.set_cons_zero, List.set_cons_succ]
             refine' wpAnyD_take (i := 31) (oi := ⟨some 126, .move (.tmp 125), 4, "law.go:310", #[⟨30, .data⟩, ⟨25, .chain⟩, ⟨25, .guard⟩], some (25, false)⟩) (v := _) rfl (by kernel_rfl) (by kernel_rfl) (by kernel_rfl) (fun _ _ _ h => h) (by kernel_rfl) (Or.inl ⟨by rfl, ?hy283⟩) (HZ.out _ B12).2.2 ?rest283
             case hy283 => (intro W hSw; go_simp; try (with_reducible rfl))
             try simp only [Act.put, List.setIfInBounds_toArray, List.set_cons_zero, List.set_cons_succ]
             refine' wpAnyD_take (i := 32) (oi := ⟨some 127, .fieldAddr 52 (.tmp 12) 1, 0, "law.go:310", #[⟨31, .guard⟩], some (31, true)⟩) (v := _) rfl (by kernel_rfl) (by kernel_rfl) (by kernel_rfl) (fun _ _ _ h => h) (by kernel_rfl) (Or.inl ⟨by rfl, ?hy284⟩) (HZ.out _ B12).2.2 ?rest284
             case hy284 => (intro W hSw; go_simp; try (with_reducible rfl))
             try simp only [Act.put, List.setIfInBounds_toArray, List.set_cons_zero, List.set_cons_succ]
             refine' wpAnyD_take (i := 33) (oi := ⟨some 128, .load 50 (.tmp 127), 50, "law.go:310", #[⟨32, .data⟩, ⟨31, .guard⟩], some (31, true)⟩) (v := _) rfl (by kernel_rfl) (by kernel_rfl) (by kernel_rfl) (fun _ _ _ h => h) (by kernel_rfl) (Or.inl ⟨by rfl, ?hy285⟩) (HZ.out _ B12).2.2 ?rest285
             case hy285 => (intro W hSw; have hc := (tk_store hSw.1).1; have hl := tk_lt hSw.1; go_simp; try (with_reducible rfl))
             try simp only [Act.put, List.setIfInBounds_toArray, List.set_cons_zero, List.set_cons_succ]
             refine' wpAnyD_take (i := 34) (oi := ⟨some 129, .fieldAddr 52 (.tmp 14) 1, 0, "law.go:310", #[⟨31, .guard⟩], some (31, true)⟩) (v := _) rfl (by kernel_rfl) (by kernel_rfl) (by kernel_rfl) (fun _ _ _ h => h) (by kernel_rfl) (Or.inl ⟨by rfl, ?hy286⟩) (HZ.out _ B12).2.2 ?rest286
             case hy286 => (intro W hSw; go_simp; try (with_reducible rfl))
             try simp only [Act.put, List.setIfInBounds_toArray, List.set_cons_zero, List.set_cons_succ]
             refine' wpAnyD_take (i := 35) (oi := ⟨some 130, .load 50 (.tmp 129), 50, "law.go:310", #[⟨34, .data⟩, ⟨31, .guard⟩], some (31, true)⟩) (v := _) rfl (by kernel_rfl) (by kernel_rfl) (by kernel_rfl) (fun _ _ _ h => h) (by kernel_rfl) (Or.inl ⟨by rfl, ?hy287⟩) (HZ.out _ B12).2.2 ?rest287
             case hy287 => (intro W hSw; have hc := (tk_store hSw.2).1; have hl := tk_lt hSw.2; go_simp; try (with_reducible rfl))
             try simp only [Act.put, List.setIfInBounds_toArray, List.set_cons_zero, List.set_cons_succ]
             refine wpAnyD_one (i := 36) (o := ⟨some 131, .call ⟨.value (.func 20), #[.tmp 128, .tmp 130], #[50, 50]⟩, 4, "law.go:310", #[⟨33, .data⟩, ⟨35, .data⟩, ⟨31, .chain⟩, ⟨31, .guard⟩], some (31, true)⟩) (by kernel_rfl) rfl (fun K hK => ?_)
             rw [if_pos (by kernel_rfl)]
             go_simp
             refine (hah _).mono ?_
             rintro r w13 ⟨rfl, g13⟩
             have B13 : Below wz.heap.size wz w13 := B12.trans (g13.below.mono B12.size)
             clear g13
             go_wp2_with fail
             refine hK.out _ _ (fun hD => (HZ.out _ B13).2.2) ?_
             clear hK K
             try simp only [Act.put, List.setIfInBounds_toArray, List.set_cons_zero, List.set_cons_succ]
             refine' wpAnyD_take (i := 37) (oi := ⟨some 132, .pick (.tmp 126) (.tmp 131) (.const (.bool false)), 4, "law.go:310", #[⟨31, .data⟩, ⟨36, .data⟩, ⟨25, .guard⟩], some (25, false)⟩) (v := _) rfl (by kernel_rfl) (by kernel_rfl) (by kernel_rfl) (fun _ _ _ h => h) (by kernel_rfl) (Or.inl ⟨by rfl, ?hy289⟩) (HZ.out _ B13).2.2 ?rest289
             case hy289 => (intro W hSw; go_simp; try (with_reducible rfl))
             try simp only [Act.put, List.setIfInBounds_toArray, List.set_cons_zero, List.set_cons_succ]
             refine' wpAnyD_take (i := 38) (oi := ⟨some 133, .move (.tmp 132), 4, "law.go:310", #[⟨37, .data⟩, ⟨36, .chain⟩, ⟨25, .guard⟩], some (25, false)⟩) (v := _) rfl (by kernel_rfl) (by kernel_rfl) (by kernel_rfl) (fun _ _ _ h => h) (by kernel_rfl) (Or.inl ⟨by rfl, ?hy290⟩) (HZ.out _ B13).2.2 ?rest290
             case hy290 => (intro W hSw; go_simp; try (with_reducible rfl))
             try simp only [Act.put, List.setIfInBounds_toArray, List.set_cons_zero, List.set_cons_succ]
             refine' wpAnyD_take (i := 39) (oi := ⟨some 134, .move (.tmp 15), 4, "law.go:310", #[⟨38, .guard⟩], some (38, true)⟩) (v := undef) rfl (by kernel_rfl) (by kernel_rfl) (by kernel_rfl) (fun _ _ _ h => h) (by kernel_rfl) (Or.inr ⟨by rfl, rfl⟩) (HZ.out _ B13).2.2 ?rest291
             try simp only [Act.put, List.setIfInBounds_toArray, List.set_cons_zero, List.set_cons_succ]
             refine' wpAnyD_take (i := 40) (oi := ⟨some 135, .unOp .not 4 (.tmp 134), 4, "law.go:310", #[⟨39, .data⟩, ⟨38, .guard⟩], some (38, true)⟩) (v := undef) rfl (by kernel_rfl) (by kernel_rfl) (by kernel_rfl) (fun _ _ _ h => h) (by kernel_rfl) (Or.inr ⟨by rfl, rfl⟩) (HZ.out _ B13).2.2 ?rest292
             try simp only [Act.put, List.setIfInBounds_toArray, List.set_cons_zero, List.set_cons_succ]
             refine' wpAnyD_take (i := 41) (oi := ⟨some 136, .pick (.tmp 133) (.tmp 135) (.const (.bool false)), 4, "law.go:310", #[⟨38, .data⟩, ⟨40, .data⟩, ⟨25, .guard⟩], some (25, false)⟩) (v := _) rfl (by kernel_rfl) (by kernel_rfl) (by kernel_rfl) (fun _ _ _ h => h) (by kernel_rfl) (Or.inl ⟨by rfl, ?hy293⟩) (HZ.out _ B13).2.2 ?rest293
             case hy293 => (intro W hSw; go_simp; try (with_reducible rfl))
             try simp only [Act.put, List.setIfInBounds_toArray, List.set_cons_zero, List.set_cons_succ]
             refine' wpAnyD_take (i := 42) (oi := ⟨some 137, .pick (.tmp 120) (.const (.bool true)) (.tmp 136), 4, "law.go:310", #[⟨25, .data⟩, ⟨41, .data⟩], none⟩) (v := _) rfl (by kernel_rfl) (by kernel_rfl) (by kernel_rfl) (fun _ _ _ h => h) (by kernel_rfl) (Or.inl ⟨by rfl, ?hy294⟩) (HZ.out _ B13).2.2 ?rest294
             case hy294 => (intro W hSw; go_simp; try (with_reducible rfl))
             try simp only [Act.put, List.setIfInBounds_toArray, List.set_cons_zero, List.set_cons_succ]
             refine wpAnyD_done (by kernel_rfl) ?_ _
             go_wp2_with fail
             go_meet
             exact ⟨rfl, B13⟩
           ·skip
            have HE := hid he
            clear he
            refine wp_regionD (S := fun X => X.heap[ab]? = some (.cells #[.int .i64 s.1, .int .u64 s.2.1.1, .int .u64 s.2.1.2.1, .int .u64 s.2.1.2.2] 52 (0, 0)) ∧ X.heap[bb]? = some (.cells #[.int .i64 u.1, .int .u64 u.2.1.1, .int .u64 u.2.1.2.1, .int .u64 u.2.1.2.2] 52 (0, 0))) (D := []) hmx ?_
            refine' wpAnyD_take (i := 0) (oi := ⟨some 95, .move (.tmp 15), 4, "law.go:310", #[], none⟩) (v := _) rfl (by kernel_rfl) (by kernel_rfl) (by kernel_rfl) (fun _ _ _ h => h) (by kernel_rfl) (Or.inl ⟨by rfl, ?hy166⟩) HS0.out ?rest166
            case hy166 => (intro W hSw; go_simp; try (with_reducible rfl))
            try simp only [Act.put, List.setIfInBounds_toArray, List.set_cons_zero, List.set_cons_succ]
            refine' wpAnyD_take (i := 1) (oi := ⟨some 96, .move (.tmp 95), 4, "law.go:310", #[⟨0, .data⟩], none⟩) (v := _) rfl (by kernel_rfl) (by kernel_rfl) (by kernel_rfl) (fun _ _ _ h => h) (by kernel_rfl) (Or.inl ⟨by rfl, ?hy167⟩) HS0.out ?rest167
            case hy167 => (intro W hSw; go_simp; try (with_reducible rfl))
            try simp only [Act.put, List.setIfInBounds_toArray, List.set_cons_zero, List.set_cons_succ]
            refine' wpAnyD_take (i := 2) (oi := ⟨some 97, .load 52 (.tmp 12), 52, "law.go:310", #[⟨1, .guard⟩], some (1, true)⟩) (v := _) rfl (by kernel_rfl) (by kernel_rfl) (by kernel_rfl) (fun _ _ _ h => h) (by kernel_rfl) (Or.inl ⟨by rfl, ?hy168⟩) HS0.out ?rest168
            case hy168 => (intro W hSw; have hc := (tk_store hSw.1).1; have hl := tk_lt hSw.1; go_simp; try (with_reducible rfl))
            try simp only [Act.put, List.setIfInBounds_toArray, List.set_cons_zero, List.set_cons_succ]
            refine' wpAnyD_take (i := 3) (oi := ⟨some 98, .load 52 (.tmp 14), 52, "law.go:310", #[⟨1, .guard⟩], some (1, true)⟩) (v := _) rfl (by kernel_rfl) (by kernel_rfl) (by kernel_rfl) (fun _ _ _ h => h) (by kernel_rfl) (Or.inl ⟨by rfl, ?hy169⟩) HS0.out ?rest169
            case hy169 => (intro W hSw; have hc := (tk_store hSw.2).1; have hl := tk_lt hSw.2; go_simp; try (with_reducible rfl))
            try simp only [Act.put, List.setIfInBounds_toArray, List.set_cons_zero, List.set_cons_succ]
            refine' wpAnyD_take (i := 4) (oi := ⟨some 99, .binOp .neq 52 (.tmp 97) (.tmp 98) 52, 4, "law.go:310", #[⟨2, .data⟩, ⟨3, .data⟩, ⟨1, .guard⟩], some (1, true)⟩) (v := .bool true) rfl (by kernel_rfl) (by kernel_rfl) (by kernel_rfl) (fun _ _ _ h => h) (by kernel_rfl) (Or.inl ⟨by rfl, ?hy170⟩) HS0.out ?rest170
            case hy170 => (intro W hSw; go_simp; first | done | (with_reducible rfl) | simp [heq])
            try simp only [Act.put, List.setIfInBounds_toArray, List.set_cons_zero, List.set_cons_succ]
            refine' wpAnyD_take (i := 5) (oi := ⟨some 100, .pick (.tmp 96) (.tmp 99) (.const (.bool false)), 4, "law.go:310", #[⟨1, .data⟩, ⟨4, .data⟩], none⟩) (v := _) rfl (by kernel_rfl) (by kernel_rfl) (by kernel_rfl) (fun _ _ _ h => h) (by kernel_rfl) (Or.inl ⟨by rfl, ?hy171⟩) HS0.out ?rest171
            case hy171 => (intro W hSw; go_simp; try (with_reducible rfl))
            try simp only [Act.put, List.setIfInBounds_toArray, List.set_cons_zero, List.set_cons_succ]
            refine' wpAnyD_take (i := 6) (oi := ⟨some 101, .move (.tmp 100), 4, "law.go:310", #[⟨5, .data⟩, ⟨1, .chain⟩], none⟩) (v := _) rfl (by kernel_rfl) (by kernel_rfl) (by kernel_rfl) (fun _ _ _ h => h) (by kernel_rfl) (Or.inl ⟨by rfl, ?hy172⟩) HS0.out ?rest172
            case hy172 => (intro W hSw; go_simp; try (with_reducible rfl))
            try simp only [Act.put, List.setIfInBounds_toArray, List.set_cons_zero, List.set_cons_succ]
            refine' wpAnyD_take (i := 7) (oi := ⟨some 102, .move (.tmp 5), 26, "law.go:310", #[⟨6, .guard⟩], some (6, true)⟩) (v := _) rfl (by kernel_rfl) (by kernel_rfl) (by kernel_rfl) (fun _ _ _ h => h) (by kernel_rfl) (Or.inl ⟨by rfl, ?hy173⟩) HS0.out ?rest173
            case hy173 => (intro W hSw; go_simp; try (with_reducible rfl))
            try simp only [Act.put, List.setIfInBounds_toArray, List.set_cons_zero, List.set_cons_succ]
            refine' wpAnyD_take (i := 8) (oi := ⟨some 103, .load 52 (.tmp 14), 52, "law.go:310", #[⟨6, .guard⟩], some (6, true)⟩) (v := _) rfl (by kernel_rfl) (by kernel_rfl) (by kernel_rfl) (fun _ _ _ h => h) (by kernel_rfl) (Or.inl ⟨by rfl, ?hy174⟩) HS0.out ?rest174
            case hy174 => (intro W hSw; have hc := (tk_store hSw.2).1; have hl := tk_lt hSw.2; go_simp; try (with_reducible rfl))
            try simp only [Act.put, List.setIfInBounds_toArray, List.set_cons_zero, List.set_cons_succ]
            refine' wpAnyD_take (i := 9) (oi := ⟨some 104, .load 52 (.tmp 12), 52, "law.go:310", #[⟨6, .guard⟩], some (6, true)⟩) (v := _) rfl (by kernel_rfl) (by kernel_rfl) (by kernel_rfl) (fun _ _ _ h => h) (by kernel_rfl) (Or.inl ⟨by rfl, ?hy175⟩) HS0.out ?rest175
            case hy175 => (intro W hSw; have hc := (tk_store hSw.1).1; have hl := tk_lt hSw.1; go_simp; try (with_reducible rfl))
            try simp only [Act.put, List.setIfInBounds_toArray, List.set_cons_zero, List.set_cons_succ]
            refine wpAnyD_one (i := 10) (o := ⟨some 105, .call ⟨.value (.func 17), #[.tmp 102, .tmp 103, .tmp 104], #[26, 52, 52]⟩, 4, "law.go:310", #[⟨7, .data⟩, ⟨8, .data⟩, ⟨9, .data⟩, ⟨6, .chain⟩, ⟨6, .guard⟩], some (6, true)⟩) (by kernel_rfl) rfl (fun K hK => ?_)
            rw [if_pos (by kernel_rfl)]
            go_simp
            refine (hba _ (HKZ.out _ hB0)).mono ?_
            rintro r w3 ⟨rfl, hb3⟩
            have B3 : Below wz.heap.size wz w3 := hB0.trans (hb3.mono hB0.size)
            clear hb3
            go_wp2_with fail
            refine hK.out _ _ (fun hD => (HZ.out _ B3).2.2) ?_
            clear hK K
            try simp only [Act.put, List.setIfInBounds_toArray, List.set_cons_zero, List.set_cons_succ]
            refine' wpAnyD_take (i := 11) (oi := ⟨some 106, .pick (.tmp 101) (.tmp 105) (.const (.bool false)), 4, "law.go:310", #[⟨6, .data⟩, ⟨10, .data⟩], none⟩) (v := _) rfl (by kernel_rfl) (by kernel_rfl) (by kernel_rfl) (fun _ _ _ h => h) (by kernel_rfl) (Or.inl ⟨by rfl, ?hy177⟩) (HZ.out _ B3).2.2 ?rest177
            case hy177 => (intro W hSw; go_simp; try (with_reducible rfl))
            try simp only [Act.put, List.setIfInBounds_toArray, List.set_cons_zero, List.set_cons_succ]
            refine' wpAnyD_take (i := 12) (oi := ⟨some 107, .move (.tmp 106), 4, "law.go:310", #[⟨11, .data⟩, ⟨10, .chain⟩], none⟩) (v := _) rfl (by kernel_rfl) (by kernel_rfl) (by kernel_rfl) (fun _ _ _ h => h) (by kernel_rfl) (Or.inl ⟨by rfl, ?hy178⟩) (HZ.out _ B3).2.2 ?rest178
            case hy178 => (intro W hSw; go_simp; try (with_reducible rfl))
            try simp only [Act.put, List.setIfInBounds_toArray, List.set_cons_zero, List.set_cons_succ]
            refine' wpAnyD_take (i := 13) (oi := ⟨some 108, .move (.tmp 15), 4, "law.go:310", #[⟨12, .guard⟩], some (12, false)⟩) (v := _) rfl (by kernel_rfl) (by kernel_rfl) (by kernel_rfl) (fun _ _ _ h => h) (by kernel_rfl) (Or.inl ⟨by rfl, ?hy179⟩) (HZ.out _ B3).2.2 ?rest179
            case hy179 => (intro W hSw; go_simp; try (with_reducible rfl))
            try simp only [Act.put, List.setIfInBounds_toArray, List.set_cons_zero, List.set_cons_succ]
            refine' wpAnyD_take (i := 14) (oi := ⟨some 109, .move (.tmp 5), 26, "law.go:310", #[⟨12, .guard⟩], some (12, false)⟩) (v := _) rfl (by kernel_rfl) (by kernel_rfl) (by kernel_rfl) (fun _ _ _ h => h) (by kernel_rfl) (Or.inl ⟨by rfl, ?hy180⟩) (HZ.out _ B3).2.2 ?rest180
            case hy180 => (intro W hSw; go_simp; try (with_reducible rfl))
            try simp only [Act.put, List.setIfInBounds_toArray, List.set_cons_zero, List.set_cons_succ]
            refine' wpAnyD_take (i := 15) (oi := ⟨some 110, .fieldAddr 52 (.tmp 14) 0, 0, "law.go:310", #[⟨12, .guard⟩], some (12, false)⟩) (v := _) rfl (by kernel_rfl) (by kernel_rfl) (by kernel_rfl) (fun _ _ _ h => h) (by kernel_rfl) (Or.inl ⟨by rfl, ?hy181⟩) (HZ.out _ B3).2.2 ?rest181
            case hy181 => (intro W hSw; go_simp; try (with_reducible rfl))
            try simp only [Act.put, List.setIfInBounds_toArray, List.set_cons_zero, List.set_cons_succ]
            refine' wpAnyD_take (i := 16) (oi := ⟨some 111, .load 3 (.tmp 110), 3, "law.go:310", #[⟨15, .data⟩, ⟨12, .guard⟩], some (12, false)⟩) (v := _) rfl (by kernel_rfl) (by kernel_rfl) (by kernel_rfl) (fun _ _ _ h => h) (by kernel_rfl) (Or.inl ⟨by rfl, ?hy182⟩) (HZ.out _ B3).2.2 ?rest182
            case hy182 => (intro W hSw; have hc := (tk_store hSw.2).1; have hl := tk_lt hSw.2; go_simp; try (with_reducible rfl))
            try simp only [Act.put, List.setIfInBounds_toArray, List.set_cons_zero, List.set_cons_succ]
            refine' wpAnyD_take (i := 17) (oi := ⟨some 112, .load 52 (.tmp 12), 52, "law.go:310", #[⟨12, .guard⟩], some (12, false)⟩) (v := _) rfl (by kernel_rfl) (by kernel_rfl) (by kernel_rfl) (fun _ _ _ h => h) (by kernel_rfl) (Or.inl ⟨by rfl, ?hy183⟩) (HZ.out _ B3).2.2 ?rest183
            case hy183 => (intro W hSw; have hc := (tk_store hSw.1).1; have hl := tk_lt hSw.1; go_simp; try (with_reducible rfl))
            try simp only [Act.put, List.setIfInBounds_toArray, List.set_cons_zero, List.set_cons_succ]
            refine' wpAnyD_take (i := 20) (oi := ⟨some 115, .fieldAddr 52 (.tmp 14) 1, 0, "law.go:310", #[⟨12, .guard⟩], some (12, false)⟩) (v := _) rfl (by kernel_rfl) (by kernel_rfl) (by kernel_rfl) (fun _ _ _ h => h) (by kernel_rfl) (Or.inl ⟨by rfl, ?hy184⟩) (HZ.out _ B3).2.2 ?rest184
            case hy184 => (intro W hSw; go_simp; try (with_reducible rfl))
            try simp only [Act.put, List.setIfInBounds_toArray, List.set_cons_zero, List.set_cons_succ]
            refine' wpAnyD_take (i := 21) (oi := ⟨some 116, .load 50 (.tmp 115), 50, "law.go:310", #[⟨20, .data⟩, ⟨12, .guard⟩], some (12, false)⟩) (v := _) rfl (by kernel_rfl) (by kernel_rfl) (by kernel_rfl) (fun _ _ _ h => h) (by kernel_rfl) (Or.inl ⟨by rfl, ?hy185⟩) (HZ.out _ B3).2.2 ?rest185
            case hy185 => (intro W hSw; have hc := (tk_store hSw.2).1; have hl := tk_lt hSw.2; go_simp; try (with_reducible rfl))
            try simp only [Act.put, List.setIfInBounds_toArray, List.set_cons_zero, List.set_cons_succ]
            refine wpAnyD_one (i := 18) (o := ⟨some 113, .buildSlice 49 1 #[(0, .tmp 112)], 49, "law.go:310", #[⟨17, .data⟩, ⟨12, .guard⟩], some (12, false)⟩) (by kernel_rfl) rfl (fun K hK => ?_)
            rw [if_pos (by kernel_rfl)]
            go_simp
            have B9 : Below wz.heap.size wz (w3.alloc (.cells #[.int .i64 s.1, .int .u64 s.2.1.1, .int .u64 s.2.1.2.1, .int .u64 s.2.1.2.2] 52)) := B3.trans (((Gr.refl w3).alloc _).below.mono B3.size)
            have hn9 := heap_new' w3 (.cells #[.int .i64 s.1, .int .u64 s.2.1.1, .int .u64 s.2.1.2.1, .int .u64 s.2.1.2.2] 52)
            refine hK.out _ _ (fun hD => (HZ.out _ B9).2.2) ?_
            clear hK K
            try simp only [Act.put, List.setIfInBounds_toArray, List.set_cons_zero, List.set_cons_succ]
            refine wpAnyD_one (i := 19) (o := ⟨some 114, .call ⟨.value (.func 19), #[.tmp 109, .tmp 111, .tmp 113], #[26, 3, 49]⟩, 55, "law.go:310", #[⟨14, .data⟩, ⟨16, .data⟩, ⟨18, .data⟩, ⟨12, .chain⟩, ⟨12, .guard⟩], some (12, false)⟩) (by kernel_rfl) rfl (fun K hK => ?_)
            rw [if_pos (by kernel_rfl)]
            go_simp
            refine (hfr _ _ (HKZ.out _ B9) hn9).mono ?_
            rintro r w10 ⟨v10, rfl, L10, hb10⟩
            have B10 : Below wz.heap.size wz w10 := B9.trans (hb10.mono B9.size)
            clear hb10 hn9
            go_wp2_with fail
            refine hK.out _ _ (fun hD => (HZ.out _ B10).2.2) ?_
            clear hK K
            try simp only [Act.put, List.setIfInBounds_toArray, List.set_cons_zero, List.set_cons_succ]
            refine wpAnyD_one (i := 22) (o := ⟨some 117, .call ⟨.value (.func 18), #[.tmp 114, .tmp 116], #[55, 50]⟩, 4, "law.go:310", #[⟨19, .data⟩, ⟨21, .data⟩, ⟨19, .chain⟩, ⟨12, .guard⟩], some (12, false)⟩) (by kernel_rfl) rfl (fun K hK => ?_)
            rw [if_pos (by kernel_rfl)]
            go_simp
            refine (r5open_any v10 fr u.2 w10 L10.out.1 (by have := L10.out.2; omega)).mono ?_
            rintro r w12 ⟨rfl, g12⟩
            have B12 : Below wz.heap.size wz w12 := B10.trans (g12.below.mono B10.size)
            clear g12
            rw [hop]
            go_wp2_with fail
            refine hK.out _ _ (fun hD => (HZ.out _ B12).2.2) ?_
            clear hK K
            try simp only [Act.put, List.setIfInBounds_toArray, List.set_cons_zero, List.set_cons_succ]
            refine' wpAnyD_take (i := 23) (oi := ⟨some 118, .binOp .neq 4 (.tmp 108) (.tmp 117) 4, 4, "law.go:310", #[⟨13, .data⟩, ⟨22, .data⟩, ⟨12, .guard⟩], some (12, false)⟩) (v := _) rfl (by kernel_rfl) (by kernel_rfl) (by kernel_rfl) (fun _ _ _ h => h) (by kernel_rfl) (Or.inl ⟨by rfl, ?hy189⟩) (HZ.out _ B12).2.2 ?rest189
            case hy189 => (intro W hSw; go_simp; try (with_reducible rfl))
            try simp only [Act.put, List.setIfInBounds_toArray, List.set_cons_zero, List.set_cons_succ]
            refine' wpAnyD_take (i := 24) (oi := ⟨some 119, .pick (.tmp 107) (.const (.bool true)) (.tmp 118), 4, "law.go:310", #[⟨12, .data⟩, ⟨23, .data⟩], none⟩) (v := _) rfl (by kernel_rfl) (by kernel_rfl) (by kernel_rfl) (fun _ _ _ h => h) (by kernel_rfl) (Or.inl ⟨by rfl, ?hy190⟩) (HZ.out _ B12).2.2 ?rest190
            case hy190 => (intro W hSw; go_simp; try (with_reducible rfl))
            try simp only [Act.put, List.setIfInBounds_toArray, List.set_cons_zero, List.set_cons_succ]
            refine' wpAnyD_take (i := 25) (oi := ⟨some 120, .move (.tmp 119), 4, "law.go:310", #[⟨24, .data⟩, ⟨22, .chain⟩], none⟩) (v := _) rfl (by kernel_rfl) (by kernel_rfl) (by kernel_rfl) (fun _ _ _ h => h) (by kernel_rfl) (Or.inl ⟨by rfl, ?hy191⟩) (HZ.out _ B12).2.2 ?rest191
            case hy191 => (intro W hSw; go_simp; try (with_reducible rfl))
            try simp only [Act.put, List.setIfInBounds_toArray, List.set_cons_zero, List.set_cons_succ]
            refine' wpAnyD_take (i := 26) (oi := ⟨some 121, .fieldAddr 52 (.tmp 12) 0, 0, "law.go:310", #[⟨25, .guard⟩], some (25, false)⟩) (v := _) rfl (by kernel_rfl) (by kernel_rfl) (by kernel_rfl) (fun _ _ _ h => h) (by kernel_rfl) (Or.inl ⟨by rfl, ?hy192⟩) (HZ.out _ B12).2.2 ?rest192
            case hy192 => (intro W hSw; go_simp; try (with_reducible rfl))
            try simp only [Act.put, List.setIfInBounds_toArray, List.set_cons_zero, List.set_cons_succ]
            refine' wpAnyD_take (i := 27) (oi := ⟨some 122, .load 3 (.tmp 121), 3, "law.go:310", #[⟨26, .data⟩, ⟨25, .guard⟩], some (25, false)⟩) (v := _) rfl (by kernel_rfl) (by kernel_rfl) (by kernel_rfl) (fun _ _ _ h => h) (by kernel_rfl) (Or.inl ⟨by rfl, ?hy193⟩) (HZ.out _ B12).2.2 ?rest193
            case hy193 => (intro W hSw; have hc := (tk_store hSw.1).1; have hl := tk_lt hSw.1; go_simp; try (with_reducible rfl))
            try simp only [Act.put, List.setIfInBounds_toArray, List.set_cons_zero, List.set_cons_succ]
            refine' wpAnyD_take (i := 28) (oi := ⟨some 123, .fieldAddr 52 (.tmp 14) 0, 0, "law.go:310", #[⟨25, .guard⟩], some (25, false)⟩) (v := _) rfl (by kernel_rfl) (by kernel_rfl) (by kernel_rfl) (fun _ _ _ h => h) (by kernel_rfl) (Or.inl ⟨by rfl, ?hy194⟩) (HZ.out _ B12).2.2 ?rest194
            case hy194 => (intro W hSw; go_simp; try (with_reducible rfl))
            try simp only [Act.put, List.setIfInBounds_toArray, List.set_cons_zero, List.set_cons_succ]
            refine' wpAnyD_take (i := 29) (oi := ⟨some 124, .load 3 (.tmp 123), 3, "law.go:310", #[⟨28, .data⟩, ⟨25, .guard⟩], some (25, false)⟩) (v := _) rfl (by kernel_rfl) (by kernel_rfl) (by kernel_rfl) (fun _ _ _ h => h) (by kernel_rfl) (Or.inl ⟨by rfl, ?hy195⟩) (HZ.out _ B12).2.2 ?rest195
            case hy195 => (intro W hSw; have hc := (tk_store hSw.2).1; have hl := tk_lt hSw.2; go_simp; try (with_reducible rfl))
            try simp only [Act.put, List.setIfInBounds_toArray, List.set_cons_zero, List.set_cons_succ]
            refine' wpAnyD_take (i := 30) (oi := ⟨some 125, .binOp .eql 3 (.tmp 122) (.tmp 124) 3, 4, "law.go:310", #[⟨27, .data⟩, ⟨29, .data⟩, ⟨25, .guard⟩], some (25, false)⟩) (v := .bool false) rfl (by kernel_rfl) (by kernel_rfl) (by kernel_rfl) (fun _ _ _ h => h) (by kernel_rfl) (Or.inl ⟨by rfl, ?hy196⟩) (HZ.out _ B12).2.2 ?rest196
            case hy196 => (intro W hSw; go_simp; first | done | (with_reducible rfl) | simp [HE.out])
            try simp only [Act.put, List.setIfInBounds_toArray, List.set_cons_zero, List.set_cons_succ]
            refine' wpAnyD_take (i := 31) (oi := ⟨some 126, .move (.tmp 125), 4, "law.go:310", #[⟨30, .data⟩, ⟨25, .chain⟩, ⟨25, .guard⟩], some (25, false)⟩) (v := _) rfl (by kernel_rfl) (by kernel_rfl) (by kernel_rfl) (fun _ _ _ h => h) (by kernel_rfl) (Or.inl ⟨by rfl, ?hy197⟩) (HZ.out _ B12).2.2 ?rest197
            case hy197 => (intro W hSw; go_simp; try (with_reducible rfl))
            try simp only [Act.put, List.setIfInBounds_toArray, List.set_cons_zero, List.set_cons_succ]
            refine' wpAnyD_take (i := 32) (oi := ⟨some 127, .fieldAddr 52 (.tmp 12) 1, 0, "law.go:310", #[⟨31, .guard⟩], some (31, true)⟩) (v := undef) rfl (by kernel_rfl) (by kernel_rfl) (by kernel_rfl) (fun _ _ _ h => h) (by kernel_rfl) (Or.inr ⟨by rfl, rfl⟩) (HZ.out _ B12).2.2 ?rest198
            try simp only [Act.put, List.setIfInBounds_toArray, List.set_cons_zero, List.set_cons_succ]
            refine' wpAnyD_take (i := 33) (oi := ⟨some 128, .load 50 (.tmp 127), 50, "law.go:310", #[⟨32, .data⟩, ⟨31, .guard⟩], some (31, true)⟩) (v := undef) rfl (by kernel_rfl) (by kernel_rfl) (by kernel_rfl) (fun _ _ _ h => h) (by kernel_rfl) (Or.inr ⟨by rfl, rfl⟩) (HZ.out _ B12).2.2 ?rest199
            try simp only [Act.put, List.setIfInBounds_toArray, List.set_cons_zero, List.set_cons_succ]
            refine' wpAnyD_take (i := 34) (oi := ⟨some 129, .fieldAddr 52 (.tmp 14) 1, 0, "law.go:310", #[⟨31, .guard⟩], some (31, true)⟩) (v := undef) rfl (by kernel_rfl) (by kernel_rfl) (by kernel_rfl) (fun _ _ _ h => h) (by kernel_rfl) (Or.inr ⟨by rfl, rfl⟩) (HZ.out _ B12).2.2 ?rest200
            try simp only [Act.put, List.setIfInBounds_toArray, List.set_cons_zero, List.set_cons_succ]
            refine' wpAnyD_take (i := 35) (oi := ⟨some 130, .load 50 (.tmp 129), 50, "law.go:310", #[⟨34, .data⟩, ⟨31, .guard⟩], some (31, true)⟩) (v := undef) rfl (by kernel_rfl) (by kernel_rfl) (by kernel_rfl) (fun _ _ _ h => h) (by kernel_rfl) (Or.inr ⟨by rfl, rfl⟩) (HZ.out _ B12).2.2 ?rest201
            try simp only [Act.put, List.setIfInBounds_toArray, List.set_cons_zero, List.set_cons_succ]
            refine' wpAnyD_take (i := 36) (oi := ⟨some 131, .call ⟨.value (.func 20), #[.tmp 128, .tmp 130], #[50, 50]⟩, 4, "law.go:310", #[⟨33, .data⟩, ⟨35, .data⟩, ⟨31, .chain⟩, ⟨31, .guard⟩], some (31, true)⟩) (v := undef) rfl (by kernel_rfl) (by kernel_rfl) (by kernel_rfl) (fun _ _ _ h => h) (by kernel_rfl) (Or.inr ⟨by rfl, rfl⟩) (HZ.out _ B12).2.2 ?rest202
            try simp only [Act.put, List.setIfInBounds_toArray, List.set_cons_zero, List.set_cons_succ]
            refine' wpAnyD_take (i := 37) (oi := ⟨some 132, .pick (.tmp 126) (.tmp 131) (.const (.bool false)), 4, "law.go:310", #[⟨31, .data⟩, ⟨36, .data⟩, ⟨25, .guard⟩], some (25, false)⟩) (v := _) rfl (by kernel_rfl) (by kernel_rfl) (by kernel_rfl) (fun _ _ _ h => h) (by kernel_rfl) (Or.inl ⟨by rfl, ?hy203⟩) (HZ.out _ B12).2.2 ?rest203
            case hy203 => (intro W hSw; go_simp; try (with_reducible rfl))
            try simp only [Act.put, List.setIfInBounds_toArray, List.set_cons_zero, List.set_cons_succ]
            refine' wpAnyD_take (i := 38) (oi := ⟨some 133, .move (.tmp 132), 4, "law.go:310", #[⟨37, .data⟩, ⟨36, .chain⟩, ⟨25, .guard⟩], some (25, false)⟩) (v := _) rfl (by kernel_rfl) (by kernel_rfl) (by kernel_rfl) (fun _ _ _ h => h) (by kernel_rfl) (Or.inl ⟨by rfl, ?hy204⟩) (HZ.out _ B12).2.2 ?rest204
            case hy204 => (intro W hSw; go_simp; try (with_reducible rfl))
            try simp only [Act.put, List.setIfInBounds_toArray, List.set_cons_zero, List.set_cons_succ]
            refine' wpAnyD_take (i := 39) (oi := ⟨some 134, .move (.tmp 15), 4, "law.go:310", #[⟨38, .guard⟩], some (38, true)⟩) (v := undef) rfl (by kernel_rfl) (by kernel_rfl) (by kernel_rfl) (fun _ _ _ h => h) (by kernel_rfl) (Or.inr ⟨by rfl, rfl⟩) (HZ.out _ B12).2.2 ?rest205
            try simp only [Act.put, List.setIfInBounds_toArray, List.set_cons_zero, List.set_cons_succ]
            refine' wpAnyD_take (i := 40) (oi := ⟨some 135, .unOp .not 4 (.tmp 134), 4, "law.go:310", #[⟨39, .data⟩, ⟨38, .guard⟩], some (38, true)⟩) (v := undef) rfl (by kernel_rfl) (by kernel_rfl) (by kernel_rfl) (fun _ _ _ h => h) (by kernel_rfl) (Or.inr ⟨by rfl, rfl⟩) (HZ.out _ B12).2.2 ?rest206
            try simp only [Act.put, List.setIfInBounds_toArray, List.set_cons_zero, List.set_cons_succ]
            refine' wpAnyD_take (i := 41) (oi := ⟨some 136, .pick (.tmp 133) (.tmp 135) (.const (.bool false)), 4, "law.go:310", #[⟨38, .data⟩, ⟨40, .data⟩, ⟨25, .guard⟩], some (25, false)⟩) (v := _) rfl (by kernel_rfl) (by kernel_rfl) (by kernel_rfl) (fun _ _ _ h => h) (by kernel_rfl) (Or.inl ⟨by rfl, ?hy207⟩) (HZ.out _ B12).2.2 ?rest207
            case hy207 => (intro W hSw; go_simp; try (with_reducible rfl))
            try simp only [Act.put, List.setIfInBounds_toArray, List.set_cons_zero, List.set_cons_succ]
            refine' wpAnyD_take (i := 42) (oi := ⟨some 137, .pick (.tmp 120) (.const (.bool true)) (.tmp 136), 4, "law.go:310", #[⟨25, .data⟩, ⟨41, .data⟩], none⟩) (v := _) rfl (by kernel_rfl) (by kernel_rfl) (by kernel_rfl) (fun _ _ _ h => h) (by kernel_rfl) (Or.inl ⟨by rfl, ?hy208⟩) (HZ.out _ B12).2.2 ?rest208
            case hy208 => (intro W hSw; go_simp; try (with_reducible rfl))
            try simp only [Act.put, List.setIfInBounds_toArray, List.set_cons_zero, List.set_cons_succ]
            refine wpAnyD_done (by kernel_rfl) ?_ _
            go_wp2_with fail
            go_meet
            exact ⟨rfl, B12⟩
        case rest =>
         obtain ⟨rfl, HQ⟩ := hcut
         clear hB0 HS0 heq hop
         have HQZ : Hid (∀ X, Below wc.heap.size wc X → Below WC.heap.size WC X ∧ Below Wj.heap.size Wj X ∧ X.heap[ab]? = some (.cells #[.int .i64 s.1, .int .u64 s.2.1.1, .int .u64 s.2.1.2.1, .int .u64 s.2.1.2.2] 52 (0, 0)) ∧ X.heap[bb]? = some (.cells #[.int .i64 u.1, .int .u64 u.2.1.1, .int .u64 u.2.1.2.1, .int .u64 u.2.1.2.2] 52 (0, 0))) := fun X hb => HZ.out X (HQ.out.trans (hb.mono HQ.out.size))
         clear HZ HKZ HQ HBQ
         obtain ⟨wq0, hwq0⟩ : ∃ W, W = wc := ⟨_, rfl⟩
         subst hwq0
         go_wp2_with fail
         go_loopw [16] (fun s16 wt => ∃ k : Nat, k ≤ m ∧ s16 = .int .i64 k ∧ Hid (Below wq0.heap.size wq0 wt)) (fun s16 _ => m - (RowKit.intOf s16).toNat)
         case atStart => exact ⟨0, Nat.zero_le _, rfl, Below.refl _ _⟩
         case round =>
          obtain ⟨k, hk, rfl, HT⟩ := hrel
          by_cases hkl : k < m
          ·have hklz : (k : Int) < (m : Int) := by omega
           have hk0 : (0 : Int) ≤ (k : Int) := by omega
           obtain ⟨v, hv⟩ : ∃ v, acc[k]? = some v := ⟨acc[k]'(by have := HMM.out; omega), by simp⟩
           have HVV := hid (HGT.out k v hv)
           have HGC : Hid (∀ X, Below wr.heap.size wr X → Below wq0.heap.size wq0 X ∧ Below Wk.heap.size Wk X ∧ (X.heap[ab]? = some (.cells #[.int .i64 s.1, .int .u64 s.2.1.1, .int .u64 s.2.1.2.1, .int .u64 s.2.1.2.2] 52 (0, 0)) ∧ X.heap[bb]? = some (.cells #[.int .i64 u.1, .int .u64 u.2.1.1, .int .u64 u.2.1.2.1, .int .u64 u.2.1.2.2] 52 (0, 0)) ∧ (b1 < X.heap.size ∧ X.cell? ⟨b1, o1 + k * 4, none⟩ = some (.int .i64 v.1) ∧ X.cell? ⟨b1, o1 + k * 4 + 1, none⟩ = some (.int .u64 v.2.1.1) ∧ X.cell? ⟨b1, o1 + k * 4 + 2, none⟩ = some (.int .u64 v.2.1.2.1) ∧ X.cell? ⟨b1, o1 + k * 4 + 3, none⟩ = some (.int .u64 v.2.1.2.2)))) := fun X hb => by
            have h1 := HT.out.trans (hb.mono HT.out.size)
            obtain ⟨q1, q2, q3, q4⟩ := HQZ.out X h1
            obtain ⟨b3, o3, c3, hv3, hb3, hc3⟩ := (HKR.out X q2).2.get hv
            simp only [Value.slice.injEq, Option.some.injEq, Addr.mk.injEq] at hv3
            obtain ⟨⟨rfl, rfl, -⟩, -, rfl⟩ := hv3
            exact ⟨h1, (HKR.out X q2).1, q3, q4, hb3, hc3 0 _ (by decide) rfl, hc3 1 _ (by decide) rfl, hc3 2 _ (by decide) rfl, hc3 3 _ (by decide) rfl⟩
           clear hv
           have hB0 : Below wr.heap.size wr wr.drew := (Gr.refl wr).drew.below
           have HS0 := hid (HGC.out _ hB0).2.2
           go_upto_region 28 with fail
           go_cut [163] from 144 to 163 (fun s163 wq => s163 = .bool false ∧ Hid (Below wr.heap.size wr wq))
           case first =>
            have hbc := fun W hb => HCO.out u v W hb
            have hac := fun W hb => HCO.out s v W hb
            obtain ⟨bc, hbc2⟩ : ∃ b, b = cldB n R u v := ⟨_, rfl⟩
            rw [← hbc2] at hbc
            have HBC := hid hbc2
            clear hbc2
            cases cb with
            | false =>
             skip
             refine wp_regionD (S := fun X => X.heap[ab]? = some (.cells #[.int .i64 s.1, .int .u64 s.2.1.1, .int .u64 s.2.1.2.1, .int .u64 s.2.1.2.2] 52 (0, 0)) ∧ X.heap[bb]? = some (.cells #[.int .i64 u.1, .int .u64 u.2.1.1, .int .u64 u.2.1.2.1, .int .u64 u.2.1.2.2] 52 (0, 0)) ∧ (b1 < X.heap.size ∧ X.cell? ⟨b1, o1 + k * 4, none⟩ = some (.int .i64 v.1) ∧ X.cell? ⟨b1, o1 + k * 4 + 1, none⟩ = some (.int .u64 v.2.1.1) ∧ X.cell? ⟨b1, o1 + k * 4 + 2, none⟩ = some (.int .u64 v.2.1.2.1) ∧ X.cell? ⟨b1, o1 + k * 4 + 3, none⟩ = some (.int .u64 v.2.1.2.2))) (D := []) hmx ?_
             refine' wpAnyD_take (i := 0) (oi := ⟨some 144, .move (.tmp 15), 4, "law.go:314", #[], none⟩) (v := _) rfl (by kernel_rfl) (by kernel_rfl) (by kernel_rfl) (fun _ _ _ h => h) (by kernel_rfl) (Or.inl ⟨by rfl, ?hy295⟩) HS0.out ?rest295
             case hy295 => (intro W hSw; go_simp; try (with_reducible rfl))
             try simp only [Act.put, List.setIfInBounds_toArray, List.set_cons_zero, List.set_cons_succ]
             refine' wpAnyD_take (i := 1) (oi := ⟨some 145, .move (.tmp 144), 4, "law.go:314", #[⟨0, .data⟩], none⟩) (v := _) rfl (by kernel_rfl) (by kernel_rfl) (by kernel_rfl) (fun _ _ _ h => h) (by kernel_rfl) (Or.inl ⟨by rfl, ?hy296⟩) HS0.out ?rest296
             case hy296 => (intro W hSw; go_simp; try (with_reducible rfl))
             try simp only [Act.put, List.setIfInBounds_toArray, List.set_cons_zero, List.set_cons_succ]
             refine' wpAnyD_take (i := 2) (oi := ⟨some 146, .move (.tmp 5), 26, "law.go:314", #[⟨1, .guard⟩], some (1, true)⟩) (v := undef) rfl (by kernel_rfl) (by kernel_rfl) (by kernel_rfl) (fun _ _ _ h => h) (by kernel_rfl) (Or.inr ⟨by rfl, rfl⟩) HS0.out ?rest297
             try simp only [Act.put, List.setIfInBounds_toArray, List.set_cons_zero, List.set_cons_succ]
             refine' wpAnyD_take (i := 3) (oi := ⟨some 147, .load 52 (.tmp 14), 52, "law.go:314", #[⟨1, .guard⟩], some (1, true)⟩) (v := undef) rfl (by kernel_rfl) (by kernel_rfl) (by kernel_rfl) (fun _ _ _ h => h) (by kernel_rfl) (Or.inr ⟨by rfl, rfl⟩) HS0.out ?rest298
             try simp only [Act.put, List.setIfInBounds_toArray, List.set_cons_zero, List.set_cons_succ]
             refine' wpAnyD_take (i := 4) (oi := ⟨some 148, .move (.tmp 9), 49, "law.go:314", #[⟨1, .guard⟩], some (1, true)⟩) (v := undef) rfl (by kernel_rfl) (by kernel_rfl) (by kernel_rfl) (fun _ _ _ h => h) (by kernel_rfl) (Or.inr ⟨by rfl, rfl⟩) HS0.out ?rest299
             try simp only [Act.put, List.setIfInBounds_toArray, List.set_cons_zero, List.set_cons_succ]
             refine' wpAnyD_take (i := 5) (oi := ⟨some 149, .move (.tmp 16), 3, "law.go:314", #[⟨1, .guard⟩], some (1, true)⟩) (v := undef) rfl (by kernel_rfl) (by kernel_rfl) (by kernel_rfl) (fun _ _ _ h => h) (by kernel_rfl) (Or.inr ⟨by rfl, rfl⟩) HS0.out ?rest300
             try simp only [Act.put, List.setIfInBounds_toArray, List.set_cons_zero, List.set_cons_succ]
             refine' wpAnyD_take (i := 6) (oi := ⟨some 150, .indexAddr 49 (.tmp 148) (.tmp 149), 0, "law.go:314", #[⟨4, .data⟩, ⟨5, .data⟩, ⟨1, .guard⟩], some (1, true)⟩) (v := undef) rfl (by kernel_rfl) (by kernel_rfl) (by kernel_rfl) (fun _ _ _ h => h) (by kernel_rfl) (Or.inr ⟨by rfl, rfl⟩) HS0.out ?rest301
             try simp only [Act.put, List.setIfInBounds_toArray, List.set_cons_zero, List.set_cons_succ]
             refine' wpAnyD_take (i := 7) (oi := ⟨some 151, .load 52 (.tmp 150), 52, "law.go:314", #[⟨6, .data⟩, ⟨1, .guard⟩], some (1, true)⟩) (v := undef) rfl (by kernel_rfl) (by kernel_rfl) (by kernel_rfl) (fun _ _ _ h => h) (by kernel_rfl) (Or.inr ⟨by rfl, rfl⟩) HS0.out ?rest302
             try simp only [Act.put, List.setIfInBounds_toArray, List.set_cons_zero, List.set_cons_succ]
             refine' wpAnyD_take (i := 8) (oi := ⟨some 152, .call ⟨.value (.func 17), #[.tmp 146, .tmp 147, .tmp 151], #[26, 52, 52]⟩, 4, "law.go:314", #[⟨2, .data⟩, ⟨3, .data⟩, ⟨7, .data⟩, ⟨1, .chain⟩, ⟨1, .guard⟩], some (1, true)⟩) (v := undef) rfl (by kernel_rfl) (by kernel_rfl) (by kernel_rfl) (fun _ _ _ h => h) (by kernel_rfl) (Or.inr ⟨by rfl, rfl⟩) HS0.out ?rest303
             try simp only [Act.put, List.setIfInBounds_toArray, List.set_cons_zero, List.set_cons_succ]
             refine' wpAnyD_take (i := 9) (oi := ⟨some 153, .pick (.tmp 145) (.tmp 152) (.const (.bool false)), 4, "law.go:314", #[⟨1, .data⟩, ⟨8, .data⟩], none⟩) (v := _) rfl (by kernel_rfl) (by kernel_rfl) (by kernel_rfl) (fun _ _ _ h => h) (by kernel_rfl) (Or.inl ⟨by rfl, ?hy304⟩) HS0.out ?rest304
             case hy304 => (intro W hSw; go_simp; try (with_reducible rfl))
             try simp only [Act.put, List.setIfInBounds_toArray, List.set_cons_zero, List.set_cons_succ]
             refine' wpAnyD_take (i := 10) (oi := ⟨some 154, .move (.tmp 153), 4, "law.go:314", #[⟨9, .data⟩, ⟨8, .chain⟩], none⟩) (v := _) rfl (by kernel_rfl) (by kernel_rfl) (by kernel_rfl) (fun _ _ _ h => h) (by kernel_rfl) (Or.inl ⟨by rfl, ?hy305⟩) HS0.out ?rest305
             case hy305 => (intro W hSw; go_simp; try (with_reducible rfl))
             try simp only [Act.put, List.setIfInBounds_toArray, List.set_cons_zero, List.set_cons_succ]
             refine' wpAnyD_take (i := 11) (oi := ⟨some 155, .move (.tmp 5), 26, "law.go:314", #[⟨10, .guard⟩], some (10, true)⟩) (v := undef) rfl (by kernel_rfl) (by kernel_rfl) (by kernel_rfl) (fun _ _ _ h => h) (by kernel_rfl) (Or.inr ⟨by rfl, rfl⟩) HS0.out ?rest306
             try simp only [Act.put, List.setIfInBounds_toArray, List.set_cons_zero, List.set_cons_succ]
             refine' wpAnyD_take (i := 12) (oi := ⟨some 156, .load 52 (.tmp 12), 52, "law.go:314", #[⟨10, .guard⟩], some (10, true)⟩) (v := undef) rfl (by kernel_rfl) (by kernel_rfl) (by kernel_rfl) (fun _ _ _ h => h) (by kernel_rfl) (Or.inr ⟨by rfl, rfl⟩) HS0.out ?rest307
             try simp only [Act.put, List.setIfInBounds_toArray, List.set_cons_zero, List.set_cons_succ]
             refine' wpAnyD_take (i := 13) (oi := ⟨some 157, .move (.tmp 9), 49, "law.go:314", #[⟨10, .guard⟩], some (10, true)⟩) (v := undef) rfl (by kernel_rfl) (by kernel_rfl) (by kernel_rfl) (fun _ _ _ h => h) (by kernel_rfl) (Or.inr ⟨by rfl, rfl⟩) HS0.out ?rest308
             try simp only [Act.put, List.setIfInBounds_toArray, List.set_cons_zero, List.set_cons_succ]
             refine' wpAnyD_take (i := 14) (oi := ⟨some 158, .move (.tmp 16), 3, "law.go:314", #[⟨10, .guard⟩], some (10, true)⟩) (v := undef) rfl (by kernel_rfl) (by kernel_rfl) (by kernel_rfl) (fun _ _ _ h => h) (by kernel_rfl) (Or.inr ⟨by rfl, rfl⟩) HS0.out ?rest309
             try simp only [Act.put, List.setIfInBounds_toArray, List.set_cons_zero, List.set_cons_succ]
             refine' wpAnyD_take (i := 15) (oi := ⟨some 159, .indexAddr 49 (.tmp 157) (.tmp 158), 0, "law.go:314", #[⟨13, .data⟩, ⟨14, .data⟩, ⟨10, .guard⟩], some (10, true)⟩) (v := undef) rfl (by kernel_rfl) (by kernel_rfl) (by kernel_rfl) (fun _ _ _ h => h) (by kernel_rfl) (Or.inr ⟨by rfl, rfl⟩) HS0.out ?rest310
             try simp only [Act.put, List.setIfInBounds_toArray, List.set_cons_zero, List.set_cons_succ]
             refine' wpAnyD_take (i := 16) (oi := ⟨some 160, .load 52 (.tmp 159), 52, "law.go:314", #[⟨15, .data⟩, ⟨10, .guard⟩], some (10, true)⟩) (v := undef) rfl (by kernel_rfl) (by kernel_rfl) (by kernel_rfl) (fun _ _ _ h => h) (by kernel_rfl) (Or.inr ⟨by rfl, rfl⟩) HS0.out ?rest311
             try simp only [Act.put, List.setIfInBounds_toArray, List.set_cons_zero, List.set_cons_succ]
             refine' wpAnyD_take (i := 17) (oi := ⟨some 161, .call ⟨.value (.func 17), #[.tmp 155, .tmp 156, .tmp 160], #[26, 52, 52]⟩, 4, "law.go:314", #[⟨11, .data⟩, ⟨12, .data⟩, ⟨16, .data⟩, ⟨10, .chain⟩, ⟨10, .guard⟩], some (10, true)⟩) (v := undef) rfl (by kernel_rfl) (by kernel_rfl) (by kernel_rfl) (fun _ _ _ h => h) (by kernel_rfl) (Or.inr ⟨by rfl, rfl⟩) HS0.out ?rest312
             try simp only [Act.put, List.setIfInBounds_toArray, List.set_cons_zero, List.set_cons_succ]
             refine' wpAnyD_take (i := 18) (oi := ⟨some 162, .unOp .not 4 (.tmp 161), 4, "law.go:314", #[⟨17, .data⟩, ⟨10, .guard⟩], some (10, true)⟩) (v := undef) rfl (by kernel_rfl) (by kernel_rfl) (by kernel_rfl) (fun _ _ _ h => h) (by kernel_rfl) (Or.inr ⟨by rfl, rfl⟩) HS0.out ?rest313
             try simp only [Act.put, List.setIfInBounds_toArray, List.set_cons_zero, List.set_cons_succ]
             refine' wpAnyD_take (i := 19) (oi := ⟨some 163, .pick (.tmp 154) (.tmp 162) (.const (.bool false)), 4, "law.go:314", #[⟨10, .data⟩, ⟨18, .data⟩], none⟩) (v := _) rfl (by kernel_rfl) (by kernel_rfl) (by kernel_rfl) (fun _ _ _ h => h) (by kernel_rfl) (Or.inl ⟨by rfl, ?hy314⟩) HS0.out ?rest314
             case hy314 => (intro W hSw; go_simp; try (with_reducible rfl))
             try simp only [Act.put, List.setIfInBounds_toArray, List.set_cons_zero, List.set_cons_succ]
             refine wpAnyD_done (by kernel_rfl) ?_ _
             go_wp2_with fail
             go_meet
             exact ⟨rfl, hB0⟩
            | true =>
             cases bc with
             | false =>
              skip
              refine wp_regionD (S := fun X => X.heap[ab]? = some (.cells #[.int .i64 s.1, .int .u64 s.2.1.1, .int .u64 s.2.1.2.1, .int .u64 s.2.1.2.2] 52 (0, 0)) ∧ X.heap[bb]? = some (.cells #[.int .i64 u.1, .int .u64 u.2.1.1, .int .u64 u.2.1.2.1, .int .u64 u.2.1.2.2] 52 (0, 0)) ∧ (b1 < X.heap.size ∧ X.cell? ⟨b1, o1 + k * 4, none⟩ = some (.int .i64 v.1) ∧ X.cell? ⟨b1, o1 + k * 4 + 1, none⟩ = some (.int .u64 v.2.1.1) ∧ X.cell? ⟨b1, o1 + k * 4 + 2, none⟩ = some (.int .u64 v.2.1.2.1) ∧ X.cell? ⟨b1, o1 + k * 4 + 3, none⟩ = some (.int .u64 v.2.1.2.2))) (D := []) hmx ?_
              refine' wpAnyD_take (i := 0) (oi := ⟨some 144, .move (.tmp 15), 4, "law.go:314", #[], none⟩) (v := _) rfl (by kernel_rfl) (by kernel_rfl) (by kernel_rfl) (fun _ _ _ h => h) (by kernel_rfl) (Or.inl ⟨by rfl, ?hy315⟩) HS0.out ?rest315
              case hy315 => (intro W hSw; go_simp; try (with_reducible rfl))
              try simp only [Act.put, List.setIfInBounds_toArray, List.set_cons_zero, List.set_cons_succ]
              refine' wpAnyD_take (i := 1) (oi := ⟨some 145, .move (.tmp 144), 4, "law.go:314", #[⟨0, .data⟩], none⟩) (v := _) rfl (by kernel_rfl) (by kernel_rfl) (by kernel_rfl) (fun _ _ _ h => h) (by kernel_rfl) (Or.inl ⟨by rfl, ?hy316⟩) HS0.out ?rest316
              case hy316 => (intro W hSw; go_simp; try (with_reducible rfl))
              try simp only [Act.put, List.setIfInBounds_toArray, List.set_cons_zero, List.set_cons_succ]
              refine' wpAnyD_take (i := 2) (oi := ⟨some 146, .move (.tmp 5), 26, "law.go:314", #[⟨1, .guard⟩], some (1, true)⟩) (v := _) rfl (by kernel_rfl) (by kernel_rfl) (by kernel_rfl) (fun _ _ _ h => h) (by kernel_rfl) (Or.inl ⟨by rfl, ?hy317⟩) HS0.out ?rest317
              case hy317 => (intro W hSw; go_simp; try (with_reducible rfl))
              try simp only [Act.put, List.setIfInBounds_toArray, List.set_cons_zero, List.set_cons_succ]
              refine' wpAnyD_take (i := 3) (oi := ⟨some 147, .load 52 (.tmp 14), 52, "law.go:314", #[⟨1, .guard⟩], some (1, true)⟩) (v := _) rfl (by kernel_rfl) (by kernel_rfl) (by kernel_rfl) (fun _ _ _ h => h) (by kernel_rfl) (Or.inl ⟨by rfl, ?hy318⟩) HS0.out ?rest318
              case hy318 => (intro W hSw; have hc := (tk_store hSw.2.1).1; have hl := tk_lt hSw.2.1; go_simp; try (with_reducible rfl))
              try simp only [Act.put, List.setIfInBounds_toArray, List.set_cons_zero, List.set_cons_succ]
              refine' wpAnyD_take (i := 4) (oi := ⟨some 148, .move (.tmp 9), 49, "law.go:314", #[⟨1, .guard⟩], some (1, true)⟩) (v := _) rfl (by kernel_rfl) (by kernel_rfl) (by kernel_rfl) (fun _ _ _ h => h) (by kernel_rfl) (Or.inl ⟨by rfl, ?hy319⟩) HS0.out ?rest319
              case hy319 => (intro W hSw; go_simp; try (with_reducible rfl))
              try simp only [Act.put, List.setIfInBounds_toArray, List.set_cons_zero, List.set_cons_succ]
              refine' wpAnyD_take (i := 5) (oi := ⟨some 149, .move (.tmp 16), 3, "law.go:314", #[⟨1, .guard⟩], some (1, true)⟩) (v := _) rfl (by kernel_rfl) (by kernel_rfl) (by kernel_rfl) (fun _ _ _ h => h) (by kernel_rfl) (Or.inl ⟨by rfl, ?hy320⟩) HS0.out ?rest320
              case hy320 => (intro W hSw; go_simp; try (with_reducible rfl))
              try simp only [Act.put, List.setIfInBounds_toArray, List.set_cons_zero, List.set_cons_succ]
              refine' wpAnyD_take (i := 6) (oi := ⟨some 150, .indexAddr 49 (.tmp 148) (.tmp 149), 0, "law.go:314", #[⟨4, .data⟩, ⟨5, .data⟩, ⟨1, .guard⟩], some (1, true)⟩) (v := _) rfl (by kernel_rfl) (by kernel_rfl) (by kernel_rfl) (fun _ _ _ h => h) (by kernel_rfl) (Or.inl ⟨by rfl, ?hy321⟩) HS0.out ?rest321
              case hy321 => (intro W hSw; go_simp; try (with_reducible rfl))
              try simp only [Act.put, List.setIfInBounds_toArray, List.set_cons_zero, List.set_cons_succ]
              refine' wpAnyD_take (i := 7) (oi := ⟨some 151, .load 52 (.tmp 150), 52, "law.go:314", #[⟨6, .data⟩, ⟨1, .guard⟩], some (1, true)⟩) (v := _) rfl (by kernel_rfl) (by kernel_rfl) (by kernel_rfl) (fun _ _ _ h => h) (by kernel_rfl) (Or.inl ⟨by rfl, ?hy322⟩) HS0.out ?rest322
              case hy322 => (intro W hSw; obtain ⟨-, -, hl, h0, h1, h2, h3⟩ := hSw; go_simp; try (with_reducible rfl))
              try simp only [Act.put, List.setIfInBounds_toArray, List.set_cons_zero, List.set_cons_succ]
              refine wpAnyD_one (i := 8) (o := ⟨some 152, .call ⟨.value (.func 17), #[.tmp 146, .tmp 147, .tmp 151], #[26, 52, 52]⟩, 4, "law.go:314", #[⟨2, .data⟩, ⟨3, .data⟩, ⟨7, .data⟩, ⟨1, .chain⟩, ⟨1, .guard⟩], some (1, true)⟩) (by kernel_rfl) rfl (fun K hK => ?_)
              rw [if_pos (by kernel_rfl)]
              go_simp
              refine (hbc _ (HGC.out _ hB0).2.1).mono ?_
              rintro r w3 ⟨rfl, hb3⟩
              have B3 : Below wr.heap.size wr w3 := hB0.trans (hb3.mono hB0.size)
              clear hb3
              go_wp2_with fail
              refine hK.out _ _ (fun hD => (HGC.out _ B3).2.2) ?_
              clear hK K
              try simp only [Act.put, List.setIfInBounds_toArray, List.set_cons_zero, List.set_cons_succ]
              refine' wpAnyD_take (i := 9) (oi := ⟨some 153, .pick (.tmp 145) (.tmp 152) (.const (.bool false)), 4, "law.go:314", #[⟨1, .data⟩, ⟨8, .data⟩], none⟩) (v := _) rfl (by kernel_rfl) (by kernel_rfl) (by kernel_rfl) (fun _ _ _ h => h) (by kernel_rfl) (Or.inl ⟨by rfl, ?hy324⟩) (HGC.out _ B3).2.2 ?rest324
              case hy324 => (intro W hSw; go_simp; try (with_reducible rfl))
              try simp only [Act.put, List.setIfInBounds_toArray, List.set_cons_zero, List.set_cons_succ]
              refine' wpAnyD_take (i := 10) (oi := ⟨some 154, .move (.tmp 153), 4, "law.go:314", #[⟨9, .data⟩, ⟨8, .chain⟩], none⟩) (v := _) rfl (by kernel_rfl) (by kernel_rfl) (by kernel_rfl) (fun _ _ _ h => h) (by kernel_rfl) (Or.inl ⟨by rfl, ?hy325⟩) (HGC.out _ B3).2.2 ?rest325
              case hy325 => (intro W hSw; go_simp; try (with_reducible rfl))
              try simp only [Act.put, List.setIfInBounds_toArray, List.set_cons_zero, List.set_cons_succ]
              refine' wpAnyD_take (i := 11) (oi := ⟨some 155, .move (.tmp 5), 26, "law.go:314", #[⟨10, .guard⟩], some (10, true)⟩) (v := undef) rfl (by kernel_rfl) (by kernel_rfl) (by kernel_rfl) (fun _ _ _ h => h) (by kernel_rfl) (Or.inr ⟨by rfl, rfl⟩) (HGC.out _ B3).2.2 ?rest326
              try simp only [Act.put, List.setIfInBounds_toArray, List.set_cons_zero, List.set_cons_succ]
              refine' wpAnyD_take (i := 12) (oi := ⟨some 156, .load 52 (.tmp 12), 52, "law.go:314", #[⟨10, .guard⟩], some (10, true)⟩) (v := undef) rfl (by kernel_rfl) (by kernel_rfl) (by kernel_rfl) (fun _ _ _ h => h) (by kernel_rfl) (Or.inr ⟨by rfl, rfl⟩) (HGC.out _ B3).2.2 ?rest327
              try simp only [Act.put, List.setIfInBounds_toArray, List.set_cons_zero, List.set_cons_succ]
              refine' wpAnyD_take (i := 13) (oi := ⟨some 157, .move (.tmp 9), 49, "law.go:314", #[⟨10, .guard⟩], some (10, true)⟩) (v := undef) rfl (by kernel_rfl) (by kernel_rfl) (by kernel_rfl) (fun _ _ _ h => h) (by kernel_rfl) (Or.inr ⟨by rfl, rfl⟩) (HGC.out _ B3).2.2 ?rest328
              try simp only [Act.put, List.setIfInBounds_toArray, List.set_cons_zero, List.set_cons_succ]
              refine' wpAnyD_take (i := 14) (oi := ⟨some 158, .move (.tmp 16), 3, "law.go:314", #[⟨10, .guard⟩], some (10, true)⟩) (v := undef) rfl (by kernel_rfl) (by kernel_rfl) (by kernel_rfl) (fun _ _ _ h => h) (by kernel_rfl) (Or.inr ⟨by rfl, rfl⟩) (HGC.out _ B3).2.2 ?rest329
              try simp only [Act.put, List.setIfInBounds_toArray, List.set_cons_zero, List.set_cons_succ]
              refine' wpAnyD_take (i := 15) (oi := ⟨some 159, .indexAddr 49 (.tmp 157) (.tmp 158), 0, "law.go:314", #[⟨13, .data⟩, ⟨14, .data⟩, ⟨10, .guard⟩], some (10, true)⟩) (v := undef) rfl (by kernel_rfl) (by kernel_rfl) (by kernel_rfl) (fun _ _ _ h => h) (by kernel_rfl) (Or.inr ⟨by rfl, rfl⟩) (HGC.out _ B3).2.2 ?rest330
              try simp only [Act.put, List.setIfInBounds_toArray, List.set_cons_zero, List.set_cons_succ]
              refine' wpAnyD_take (i := 16) (oi := ⟨some 160, .load 52 (.tmp 159), 52, "law.go:314", #[⟨15, .data⟩, ⟨10, .guard⟩], some (10, true)⟩) (v := undef) rfl (by kernel_rfl) (by kernel_rfl) (by kernel_rfl) (fun _ _ _ h => h) (by kernel_rfl) (Or.inr ⟨by rfl, rfl⟩) (HGC.out _ B3).2.2 ?rest331
              try simp only [Act.put, List.setIfInBounds_toArray, List.set_cons_zero, List.set_cons_succ]
              refine' wpAnyD_take (i := 17) (oi := ⟨some 161, .call ⟨.value (.func 17), #[.tmp 155, .tmp 156, .tmp 160], #[26, 52, 52]⟩, 4, "law.go:314", #[⟨11, .data⟩, ⟨12, .data⟩, ⟨16, .data⟩, ⟨10, .chain⟩, ⟨10, .guard⟩], some (10, true)⟩) (v := undef) rfl (by kernel_rfl) (by kernel_rfl) (by kernel_rfl) (fun _ _ _ h => h) (by kernel_rfl) (Or.inr ⟨by rfl, rfl⟩) (HGC.out _ B3).2.2 ?rest332
              try simp only [Act.put, List.setIfInBounds_toArray, List.set_cons_zero, List.set_cons_succ]
              refine' wpAnyD_take (i := 18) (oi := ⟨some 162, .unOp .not 4 (.tmp 161), 4, "law.go:314", #[⟨17, .data⟩, ⟨10, .guard⟩], some (10, true)⟩) (v := undef) rfl (by kernel_rfl) (by kernel_rfl) (by kernel_rfl) (fun _ _ _ h => h) (by kernel_rfl) (Or.inr ⟨by rfl, rfl⟩) (HGC.out _ B3).2.2 ?rest333
              try simp only [Act.put, List.setIfInBounds_toArray, List.set_cons_zero, List.set_cons_succ]
              refine' wpAnyD_take (i := 19) (oi := ⟨some 163, .pick (.tmp 154) (.tmp 162) (.const (.bool false)), 4, "law.go:314", #[⟨10, .data⟩, ⟨18, .data⟩], none⟩) (v := _) rfl (by kernel_rfl) (by kernel_rfl) (by kernel_rfl) (fun _ _ _ h => h) (by kernel_rfl) (Or.inl ⟨by rfl, ?hy334⟩) (HGC.out _ B3).2.2 ?rest334
              case hy334 => (intro W hSw; go_simp; try (with_reducible rfl))
              try simp only [Act.put, List.setIfInBounds_toArray, List.set_cons_zero, List.set_cons_succ]
              refine wpAnyD_done (by kernel_rfl) ?_ _
              go_wp2_with fail
              go_meet
              exact ⟨rfl, B3⟩
             | true =>
              have htr := cldB_trans HRS.out HSV.out HUV.out HVV.out HCB.out.symm HBC.out.symm
              rw [htr] at hac
              clear htr
              refine wp_regionD (S := fun X => X.heap[ab]? = some (.cells #[.int .i64 s.1, .int .u64 s.2.1.1, .int .u64 s.2.1.2.1, .int .u64 s.2.1.2.2] 52 (0, 0)) ∧ X.heap[bb]? = some (.cells #[.int .i64 u.1, .int .u64 u.2.1.1, .int .u64 u.2.1.2.1, .int .u64 u.2.1.2.2] 52 (0, 0)) ∧ (b1 < X.heap.size ∧ X.cell? ⟨b1, o1 + k * 4, none⟩ = some (.int .i64 v.1) ∧ X.cell? ⟨b1, o1 + k * 4 + 1, none⟩ = some (.int .u64 v.2.1.1) ∧ X.cell? ⟨b1, o1 + k * 4 + 2, none⟩ = some (.int .u64 v.2.1.2.1) ∧ X.cell? ⟨b1, o1 + k * 4 + 3, none⟩ = some (.int .u64 v.2.1.2.2))) (D := []) hmx ?_
              refine' wpAnyD_take (i := 0) (oi := ⟨some 144, .move (.tmp 15), 4, "law.go:314", #[], none⟩) (v := _) rfl (by kernel_rfl) (by kernel_rfl) (by kernel_rfl) (fun _ _ _ h => h) (by kernel_rfl) (Or.inl ⟨by rfl, ?hy335⟩) HS0.out ?rest335
              case hy335 => (intro W hSw; go_simp; try (with_reducible rfl))
              try simp only [Act.put, List.setIfInBounds_toArray, List.set_cons_zero, List.set_cons_succ]
              refine' wpAnyD_take (i := 1) (oi := ⟨some 145, .move (.tmp 144), 4, "law.go:314", #[⟨0, .data⟩], none⟩) (v := _) rfl (by kernel_rfl) (by kernel_rfl) (by kernel_rfl) (fun _ _ _ h => h) (by kernel_rfl) (Or.inl ⟨by rfl, ?hy336⟩) HS0.out ?rest336
              case hy336 => (intro W hSw; go_simp; try (with_reducible rfl))
              try simp only [Act.put, List.setIfInBounds_toArray, List.set_cons_zero, List.set_cons_succ]
              refine' wpAnyD_take (i := 2) (oi := ⟨some 146, .move (.tmp 5), 26, "law.go:314", #[⟨1, .guard⟩], some (1, true)⟩) (v := _) rfl (by kernel_rfl) (by kernel_rfl) (by kernel_rfl) (fun _ _ _ h => h) (by kernel_rfl) (Or.inl ⟨by rfl, ?hy337⟩) HS0.out ?rest337
              case hy337 => (intro W hSw; go_simp; try (with_reducible rfl))
              try simp only [Act.put, List.setIfInBounds_toArray, List.set_cons_zero, List.set_cons_succ]
              refine' wpAnyD_take (i := 3) (oi := ⟨some 147, .load 52 (.tmp 14), 52, "law.go:314", #[⟨1, .guard⟩], some (1, true)⟩) (v := _) rfl (by kernel_rfl) (by kernel_rfl) (by kernel_rfl) (fun _ _ _ h => h) (by kernel_rfl) (Or.inl ⟨by rfl, ?hy338⟩) HS0.out ?rest338
              case hy338 => (intro W hSw; have hc := (tk_store hSw.2.1).1; have hl := tk_lt hSw.2.1; go_simp; try (with_reducible rfl))
              try simp only [Act.put, List.setIfInBounds_toArray, List.set_cons_zero, List.set_cons_succ]
              refine' wpAnyD_take (i := 4) (oi := ⟨some 148, .move (.tmp 9), 49, "law.go:314", #[⟨1, .guard⟩], some (1, true)⟩) (v := _) rfl (by kernel_rfl) (by kernel_rfl) (by kernel_rfl) (fun _ _ _ h => h) (by kernel_rfl) (Or.inl ⟨by rfl, ?hy339⟩) HS0.out ?rest339
              case hy339 => (intro W hSw; go_simp; try (with_reducible rfl))
              try simp only [Act.put, List.setIfInBounds_toArray, List.set_cons_zero, List.set_cons_succ]
              refine' wpAnyD_take (i := 5) (oi := ⟨some 149, .move (.tmp 16), 3, "law.go:314", #[⟨1, .guard⟩], some (1, true)⟩) (v := _) rfl (by kernel_rfl) (by kernel_rfl) (by kernel_rfl) (fun _ _ _ h => h) (by kernel_rfl) (Or.inl ⟨by rfl, ?hy340⟩) HS0.out ?rest340
              case hy340 => (intro W hSw; go_simp; try (with_reducible rfl))
              try simp only [Act.put, List.setIfInBounds_toArray, List.set_cons_zero, List.set_cons_succ]
              refine' wpAnyD_take (i := 6) (oi := ⟨some 150, .indexAddr 49 (.tmp 148) (.tmp 149), 0, "law.go:314", #[⟨4, .data⟩, ⟨5, .data⟩, ⟨1, .guard⟩], some (1, true)⟩) (v := _) rfl (by kernel_rfl) (by kernel_rfl) (by kernel_rfl) (fun _ _ _ h => h) (by kernel_rfl) (Or.inl ⟨by rfl, ?hy341⟩) HS0.out ?rest341
              case hy341 => (intro W hSw; go_simp; try (with_reducible rfl))
              try simp only [Act.put, List.setIfInBounds_toArray, List.set_cons_zero, List.set_cons_succ]
              refine' wpAnyD_take (i := 7) (oi := ⟨some 151, .load 52 (.tmp 150), 52, "law.go:314", #[⟨6, .data⟩, ⟨1, .guard⟩], some (1, true)⟩) (v := _) rfl (by kernel_rfl) (by kernel_rfl) (by kernel_rfl) (fun _ _ _ h => h) (by kernel_rfl) (Or.inl ⟨by rfl, ?hy342⟩) HS0.out ?rest342
              case hy342 => (intro W hSw; obtain ⟨-, -, hl, h0, h1, h2, h3⟩ := hSw; go_simp; try (with_reducible rfl))
              try simp only [Act.put, List.setIfInBounds_toArray, List.set_cons_zero, List.set_cons_succ]
              refine wpAnyD_one (i := 8) (o := ⟨some 152, .call ⟨.value (.func 17), #[.tmp 146, .tmp 147, .tmp 151], #[26, 52, 52]⟩, 4, "law.go:314", #[⟨2, .data⟩, ⟨3, .data⟩, ⟨7, .data⟩, ⟨1, .chain⟩, ⟨1, .guard⟩], some (1, true)⟩) (by kernel_rfl) rfl (fun K hK => ?_)
              rw [if_pos (by kernel_rfl)]
              go_simp
              refine (hbc _ (HGC.out _ hB0).2.1).mono ?_
              rintro r w3 ⟨rfl, hb3⟩
              have B3 : Below wr.heap.size wr w3 := hB0.trans (hb3.mono hB0.size)
              clear hb3
              go_wp2_with fail
              refine hK.out _ _ (fun hD => (HGC.out _ B3).2.2) ?_
              clear hK K
              try simp only [Act.put, List.setIfInBounds_toArray, List.set_cons_zero, List.set_cons_succ]
              refine' wpAnyD_take (i := 9) (oi := ⟨some 153, .pick (.tmp 145) (.tmp 152) (.const (.bool false)), 4, "law.go:314", #[⟨1, .data⟩, ⟨8, .data⟩], none⟩) (v := _) rfl (by kernel_rfl) (by kernel_rfl) (by kernel_rfl) (fun _ _ _ h => h) (by kernel_rfl) (Or.inl ⟨by rfl, ?hy344⟩) (HGC.out _ B3).2.2 ?rest344
              case hy344 => (intro W hSw; go_simp; try (with_reducible rfl))
              try simp only [Act.put, List.setIfInBounds_toArray, List.set_cons_zero, List.set_cons_succ]
              refine' wpAnyD_take (i := 10) (oi := ⟨some 154, .move (.tmp 153), 4, "law.go:314", #[⟨9, .data⟩, ⟨8, .chain⟩], none⟩) (v := _) rfl (by kernel_rfl) (by kernel_rfl) (by kernel_rfl) (fun _ _ _ h => h) (by kernel_rfl) (Or.inl ⟨by rfl, ?hy345⟩) (HGC.out _ B3).2.2 ?rest345
              case hy345 => (intro W hSw; go_simp; try (with_reducible rfl))
              try simp only [Act.put, List.setIfInBounds_toArray, List.set_cons_zero, List.set_cons_succ]
              refine' wpAnyD_take (i := 11) (oi := ⟨some 155, .move (.tmp 5), 26, "law.go:314", #[⟨10, .guard⟩], some (10, true)⟩) (v := _) rfl (by kernel_rfl) (by kernel_rfl) (by kernel_rfl) (fun _ _ _ h => h) (by kernel_rfl) (Or.inl ⟨by rfl, ?hy346⟩) (HGC.out _ B3).2.2 ?rest346
              case hy346 => (intro W hSw; go_simp; try (with_reducible rfl))
              try simp only [Act.put, List.setIfInBounds_toArray, List.set_cons_zero, List.set_cons_succ]
              refine' wpAnyD_take (i := 12) (oi := ⟨some 156, .load 52 (.tmp 12), 52, "law.go:314", #[⟨10, .guard⟩], some (10, true)⟩) (v := _) rfl (by kernel_rfl) (by kernel_rfl) (by kernel_rfl) (fun _ _ _ h => h) (by kernel_rfl) (Or.inl ⟨by rfl, ?hy347⟩) (HGC.out _ B3).2.2 ?rest347
              case hy347 => (intro W hSw; have hc := (tk_store hSw.1).1; have hl := tk_lt hSw.1; go_simp; try (with_reducible rfl))
              try simp only [Act.put, List.setIfInBounds_toArray, List.set_cons_zero, List.set_cons_succ]
              refine' wpAnyD_take (i := 13) (oi := ⟨some 157, .move (.tmp 9), 49, "law.go:314", #[⟨10, .guard⟩], some (10, true)⟩) (v := _) rfl (by kernel_rfl) (by kernel_rfl) (by kernel_rfl) (fun _ _ _ h => h) (by kernel_rfl) (Or.inl ⟨by rfl, ?hy348⟩) (HGC.out _ B3).2.2 ?rest348
              case hy348 => (intro W hSw; go_simp; try (with_reducible rfl))
              try simp only [Act.put, List.setIfInBounds_toArray, List.set_cons_zero, List.set_cons_succ]
              refine' wpAnyD_take (i := 14) (oi := ⟨some 158, .move (.tmp 16), 3, "law.go:314", #[⟨10, .guard⟩], some (10, true)⟩) (v := _) rfl (by kernel_rfl) (by kernel_rfl) (by kernel_rfl) (fun _ _ _ h => h) (by kernel_rfl) (Or.inl ⟨by rfl, ?hy349⟩) (HGC.out _ B3).2.2 ?rest349
              case hy349 => (intro W hSw; go_simp; try (with_reducible rfl))
              try simp only [Act.put, List.setIfInBounds_toArray, List.set_cons_zero, List.set_cons_succ]
              refine' wpAnyD_take (i := 15) (oi := ⟨some 159, .indexAddr 49 (.tmp 157) (.tmp 158), 0, "law.go:314", #[⟨13, .data⟩, ⟨14, .data⟩, ⟨10, .guard⟩], some (10, true)⟩) (v := _) rfl (by kernel_rfl) (by kernel_rfl) (by kernel_rfl) (fun _ _ _ h => h) (by kernel_rfl) (Or.inl ⟨by rfl, ?hy350⟩) (HGC.out _ B3).2.2 ?rest350
              case hy350 => (intro W hSw; go_simp; try (with_reducible rfl))
              try simp only [Act.put, List.setIfInBounds_toArray, List.set_cons_zero, List.set_cons_succ]
              refine' wpAnyD_take (i := 16) (oi := ⟨some 160, .load 52 (.tmp 159), 52, "law.go:314", #[⟨15, .data⟩, ⟨10, .guard⟩], some (10, true)⟩) (v := _) rfl (by kernel_rfl) (by kernel_rfl) (by kernel_rfl) (fun _ _ _ h => h) (by kernel_rfl) (Or.inl ⟨by rfl, ?hy351⟩) (HGC.out _ B3).2.2 ?rest351
              case hy351 => (intro W hSw; obtain ⟨-, -, hl, h0, h1, h2, h3⟩ := hSw; go_simp; try (with_reducible rfl))
              try simp only [Act.put, List.setIfInBounds_toArray, List.set_cons_zero, List.set_cons_succ]
              refine wpAnyD_one (i := 17) (o := ⟨some 161, .call ⟨.value (.func 17), #[.tmp 155, .tmp 156, .tmp 160], #[26, 52, 52]⟩, 4, "law.go:314", #[⟨11, .data⟩, ⟨12, .data⟩, ⟨16, .data⟩, ⟨10, .chain⟩, ⟨10, .guard⟩], some (10, true)⟩) (by kernel_rfl) rfl (fun K hK => ?_)
              rw [if_pos (by kernel_rfl)]
              go_simp
              refine (hac _ (HGC.out _ B3).2.1).mono ?_
              rintro r w4 ⟨rfl, hb4⟩
              have B4 : Below wr.heap.size wr w4 := B3.trans (hb4.mono B3.size)
              clear hb4
              go_wp2_with fail
              refine hK.out _ _ (fun hD => (HGC.out _ B4).2.2) ?_
              clear hK K
              try simp only [Act.put, List.setIfInBounds_toArray, List.set_cons_zero, List.set_cons_succ]
              refine' wpAnyD_take (i := 18) (oi := ⟨some 162, .unOp .not 4 (.tmp 161), 4, "law.go:314", #[⟨17, .data⟩, ⟨10, .guard⟩], some (10, true)⟩) (v := _) rfl (by kernel_rfl) (by kernel_rfl) (by kernel_rfl) (fun _ _ _ h => h) (by kernel_rfl) (Or.inl ⟨by rfl, ?hy353⟩) (HGC.out _ B4).2.2 ?rest353
              case hy353 => (intro W hSw; go_simp; try (with_reducible rfl))
              try simp only [Act.put, List.setIfInBounds_toArray, List.set_cons_zero, List.set_cons_succ]
              refine' wpAnyD_take (i := 19) (oi := ⟨some 163, .pick (.tmp 154) (.tmp 162) (.const (.bool false)), 4, "law.go:314", #[⟨10, .data⟩, ⟨18, .data⟩], none⟩) (v := _) rfl (by kernel_rfl) (by kernel_rfl) (by kernel_rfl) (fun _ _ _ h => h) (by kernel_rfl) (Or.inl ⟨by rfl, ?hy354⟩) (HGC.out _ B4).2.2 ?rest354
              case hy354 => (intro W hSw; go_simp; try (with_reducible rfl))
              try simp only [Act.put, List.setIfInBounds_toArray, List.set_cons_zero, List.set_cons_succ]
              refine wpAnyD_done (by kernel_rfl) ?_ _
              go_wp2_with fail
              go_meet
              exact ⟨rfl, B4⟩
           case rest =>
            obtain ⟨rfl, HQ2⟩ := hcut
            have F9 : Hid (Below wq0.heap.size wq0 wc) := (HGC.out _ HQ2.out).1
            go_wp2
            go_roundw
            case rel => exact ⟨k + 1, by omega, by first | rfl | go_num, F9.out⟩
            case measure => simp [RowKit.intOf]; omega
          ·have hklz : ¬ (k : Int) < (m : Int) := by omega
           have F9 : Hid (Below WC.heap.size WC wr) := (HQZ.out _ HT.out).1
           go_wp2
           go_roundw
           case rel => exact ⟨j + 1, by omega, by first | rfl | go_num, F9.out⟩
           case measure => simp [RowKit.intOf]; omega
       ·have hjlz : ¬ (j : Int) < (m : Int) := by omega
        have F9 : Hid (Below Wj.heap.size Wj wr) := HC.out.2.trans (HY.out.mono HC.out.2.size)
        go_wp2
        go_roundw
        case rel => exact ⟨i + 1, by omega, by first | rfl | go_num, F9.out⟩
        case measure => simp [RowKit.intOf]; omega
     ·have hilz : ¬ (i : Int) < (m : Int) := by omega
      go_wp2
      go_ret
      exact ⟨rfl, HBR.out.trans (HX.out.mono HBR.out.size)⟩
end Go.Proofs.YtbbfddadnbjlhaaGreat.Lf
