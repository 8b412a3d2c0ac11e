import Derived.Test.YtcmgmgnmhhkdgaaLgRch0
import Derived.Deep.CutBlock
namespace Go.Proofs.Ytcmgmgnmhhkdgaa
open Go.RowKit Go.Sort Go.Maps Go.Shelf
attribute [local go_sem ↓] Go.wp_at_zero Go.wp_at_succ
theorem fst1_succ {L : List Cg} {k : Nat} {d : Cg} (h : L[k]? = some d) (s : Sm) : fst1 L (k + 1) s = (fst1 L k s && decide (d.1 ≠ s)) := by
  unfold fst1
  rw [List.take_add_one, h, List.all_append]
  simp
/-- A box of a change. -/
theorem cb_cells {w : World} {B : Nat} {x : Cg} {T : TypeId} (h : w.heap[B]? = some (.cells #[.int .i64 x.1.1.1, .int .u64 x.1.1.2.1, .int .u64 x.1.1.2.2.1, .int .u64 x.1.1.2.2.2, .int .i64 x.2] T (0, 0))) : w.cell? ⟨B, 0, none⟩ = some (.int .i64 x.1.1.1) ∧ w.cell? ⟨B, 1, none⟩ = some (.int .u64 x.1.1.2.1) ∧ w.cell? ⟨B, 2, none⟩ = some (.int .u64 x.1.1.2.2.1) ∧ w.cell? ⟨B, 3, none⟩ = some (.int .u64 x.1.1.2.2.2) := by
  refine ⟨?_, ?_, ?_, ?_⟩ <;> (simp only [World.cell?, h]; rfl)
/-- Pieces of a row of one's own. -/
theorem owns_take {w : World} {base : Nat} {e : TypeId} {g j c : Nat} {l : List Cg} (h : w.ownsRow base e 5 (.slice (some ⟨g, 0, none⟩) l.length c) l.length (fl EC l)) (hj : j ≤ l.length) (c2 : Nat) : Ls EC w (.slice (some ⟨g, 0, none⟩) j c2) (l.take j) := (owns_ls (E := EC) h).cut hj c2
theorem ar_ok {out : List Cg} {jj : Nat} {s : Sm} {nn : Int} (h : jj ≤ out.length) (hl : out.length ≤ 1000) : (1 + (out.drop jj).length) * 40 ≤ 140737488355328 ∧ 1 + (out.drop jj).length ≤ maxLen ∧ (0 + (out.take jj).length) * 40 ≤ 140737488355328 ∧ 0 + (out.take jj).length ≤ maxLen ∧ ((out.take jj).length + (((s, nn) : Cg) :: out.drop jj).length) * 40 ≤ 140737488355328 ∧ (out.take jj).length + (((s, nn) : Cg) :: out.drop jj).length ≤ maxLen := by
  rw [List.length_drop, List.length_take, List.length_cons, List.length_drop]
  unfold maxLen
  omega
set_option maxHeartbeats 8000000 in
set_option maxRecDepth 100000 in
theorem rchanges_any {rb : Nat} {v : Value} {L : List Cg} (w : World) (h : RL w rb v L) (ho : Ones L) (hl : L.length ≤ 1000) :
    Calls Try.prog 31 #[rp rb] w fun e w' => ∃ v', e = .returned v' ∧ w'.ownsRow w.heap.size 47 5 v' (rch L L.length).length (fl EC (rch L L.length)) ∧ Below w.heap.size w w' := by
  have hmx : Try.prog.follows .mixedOrders = true := by kernel_rfl
  obtain ⟨p, c, rfl⟩ := owns_form h.row
  have hcap := (owns_cap h.row).1
  have c0 := h.c0
  have hlt := h.lt
  have H0 := hid h
  have HO := hid ho
  have hbE := fun (a b : Sm) W => behind_any a b W
  clear h ho
  go_enter Try.func31, Try.ntmps31
  go_wp2_with fail
  go_loopw [3, 17] (fun s3 s17 wr => ∃ (i : Nat) (po : Option Addr) (co : Nat), i ≤ L.length ∧ s17 = .int .i64 (i : Nat) ∧ s3 = .slice po (rch L i).length co ∧ Hid (wr.ownsRow w.heap.size 47 5 (.slice po (rch L i).length co) (rch L i).length (fl EC (rch L i))) ∧ Hid (Below w.heap.size w wr)) (fun _ s17 _ => L.length - (RowKit.intOf s17).toNat)
  case atStart => exact ⟨0, none, 0, Nat.zero_le _, rfl, rfl, World.ownsRow_nil _ _ _ _, Below.refl _ _⟩
  case round =>
    obtain ⟨i, po, co, hi, rfl, rfl, HR, HB⟩ := hrel
    by_cases hlti : i < L.length
    · have hltz : (i : Int) < (L.length : Int) := by omega
      have hi0 : (0 : Int) ≤ (i : Int) := by omega
      have hic : (i : Int) ≤ (c : Int) := by omega
      obtain ⟨⟨s, m⟩, hx⟩ : ∃ x, L[i]? = some x := ⟨L[i], by simp⟩
      have R1 := hid (H0.out.below HB.out)
      obtain ⟨b1, o1, c1, e1, z1, x0, x1, x2, x3, x4⟩ := R1.out.ls.atC hx
      simp only [Value.slice.injEq] at e1
      obtain ⟨rfl, -, rfl⟩ := e1
      simp only at x0 x1 x2 x3 x4
      obtain ⟨W5, hW5⟩ : ∃ W, W = wr.alloc (.cells #[.int .i64 s.1.1, .int .u64 s.1.2.1, .int .u64 s.1.2.2.1, .int .u64 s.1.2.2.2, .int .i64 m] 47) := ⟨_, rfl⟩
      have G5 : Gr wr W5 := by rw [hW5]; exact (Gr.refl _).alloc _
      have bO : W5.heap[wr.heap.size]? = some (.cells #[.int .i64 s.1.1, .int .u64 s.1.2.1, .int .u64 s.1.2.2.1, .int .u64 s.1.2.2.2, .int .i64 m] 47 (0, 0)) := by rw [hW5]; exact heap_new' _ _
      have z5 := (Array.getElem?_eq_some_iff.1 bO).1
      obtain ⟨a0, a1, a2, a3⟩ := cb_cells (x := (s, m)) bO
      simp only at a0 a1 a2 a3
      have R5 := hid (R1.out.gr G5)
      have c5 := R5.out.c0
      have z5r := R5.out.lt
      have HR5 := hid (owns_below HR.out G5.below)
      have HB5 := hid (HB.out.trans (G5.below.mono HB.out.size))
      have LB5 := hid (R5.out.ls.cut (k := i) hi c)
      have NX := hid (rch_succ hx)
      have hil : i ≤ 1000 := by omega
      have hcapr := (owns_cap HR.out).1
      have hrl := rch_len L i
      go_upto_region 6 with fail
      rw [show wr.alloc (.cells #[.int .i64 s.1.1, .int .u64 s.1.2.1, .int .u64 s.1.2.2.1, .int .u64 s.1.2.2.2, .int .i64 m] 47) = W5 from hW5.symm]
      obtain ⟨B5, hB5⟩ : ∃ B, B = wr.heap.size := ⟨_, rfl⟩
      rw [← hB5] at bO z5 a0 a1 a2 a3 ⊢
      clear hW5 hB5 x0 x1 x2 x3 x4 z1 G5 HR HB R1 hx bO
      go_wp2_with fail
      go_loopw [6, 29] (fun s6 s29 wr => ∃ k : Nat, k ≤ i ∧ s29 = .int .i64 (k : Nat) ∧ s6 = .bool (fst1 L k s) ∧ Gr W5 wr) (fun _ s29 _ => i - (RowKit.intOf s29).toNat)
      case atStart => exact ⟨0, Nat.zero_le _, rfl, rfl, Gr.refl _⟩
      case round =>
        obtain ⟨k, hk, rfl, rfl, hgr⟩ := hrel
        have d0 := (hgr.cell z5).trans a0
        have d1 := (hgr.cell z5).trans a1
        have d2 := (hgr.cell z5).trans a2
        have d3 := (hgr.cell z5).trans a3
        have z6 := Nat.lt_of_lt_of_le z5 hgr.size
        by_cases hltk : k < i
        · have hltz : (k : Int) < (i : Int) := by omega
          have hk0 : (0 : Int) ≤ (k : Int) := by omega
          obtain ⟨⟨t, n⟩, hy⟩ : ∃ x, L[k]? = some x := ⟨L[k], by simp⟩
          obtain ⟨b2, o2, c2, e2, z2, x0, x1, x2, x3, x4⟩ := (LB5.out.below hgr.below).atC (j := k) (p := (t, n)) (by rw [List.getElem?_take_of_lt hltk]; exact hy)
          simp only [Value.slice.injEq, Option.some.injEq, Addr.mk.injEq, and_true] at e2
          obtain ⟨⟨rfl, rfl⟩, -, rfl⟩ := e2
          simp only at x0 x1 x2 x3 x4
          have HN := hid (fst1_succ hy s)
          have heq := fun W => run_eqS t s W
          have HGR := hid hgr
          clear hy hgr
          cases hq : fst1 L k s with
          | true =>
            rw [hq] at HN
            by_cases he : t = s
            · rw [decide_eq_true he] at heq
              have HN' := hid (show fst1 L (k + 1) s = false by rw [HN.out]; simp [he])
              clear he hq HN
              go_wp2_with fail
              go_roundw
              case rel => exact ⟨k + 1, by omega, by go_num, by rw [HN'.out], HGR.out.alloc _⟩
              case measure => simp [RowKit.intOf]; omega
            · rw [decide_eq_false he] at heq
              have HN' := hid (show fst1 L (k + 1) s = true by rw [HN.out]; simp [he])
              clear he hq HN
              go_wp2_with fail
              go_roundw
              case rel => exact ⟨k + 1, by omega, by go_num, by rw [HN'.out], HGR.out.alloc _⟩
              case measure => simp [RowKit.intOf]; omega
          | false =>
            have HN' := hid (show fst1 L (k + 1) s = false by rw [HN.out, hq]; simp)
            clear hq HN heq
            go_wp2_with fail
            go_roundw
            case rel => exact ⟨k + 1, by omega, by go_num, by rw [HN'.out], HGR.out.alloc _⟩
            case measure => simp [RowKit.intOf]; omega
        · have hltz : ¬ (k : Int) < (i : Int) := by omega
          have hki : k = i := by omega
          subst hki
          have hgt := rget_any s wr (R5.out.gr hgr) HO.out (Nat.le_trans hl (by decide))
          have HGR := hid hgr
          clear hgr
          go_wp2_with fail
          refine hgt.mono ?_
          rintro e w7 ⟨rfl, g7⟩
          have G7 := hid (HGR.out.trans g7)
          clear hgt g7 d0 d1 d2 d3 HGR
          have d0 := (G7.out.cell z5).trans a0
          have d1 := (G7.out.cell z5).trans a1
          have d2 := (G7.out.cell z5).trans a2
          have d3 := (G7.out.cell z5).trans a3
          have z7 := Nat.lt_of_lt_of_le z5 G7.out.size
          have R7 := hid (owns_below HR5.out G7.out.below)
          have B7 := hid (HB5.out.trans (G7.out.below.mono HB5.out.size))
          clear HR5 HB5 LB5 R5 c5 z5r
          by_cases hq : fst1 L k s = true ∧ smf L s ≠ 0
          · obtain ⟨hq1, hq2⟩ := hq
            have hq3 : (smf L s == 0) = false := by simpa using hq2
            have NX' : Hid (rch L (k + 1) = insC (s, smf L s) (rch L k)) := by have h := NX.out; rw [if_pos ⟨hq1, hq2⟩] at h; exact h
            rw [hq1]
            clear hq1 hq2 NX
            generalize rch L k = out at *
            generalize smf L s = nn at *
            obtain ⟨jj, hjj⟩ : ∃ j, j = ahd s out := ⟨_, rfl⟩
            have hjl : jj ≤ out.length := by rw [hjj]; exact ahd_le s out
            have hja : Hid (∀ j, j < jj → ∃ y, out[j]? = some y ∧ slt y.1 s = true) := fun j h => ahd_lt (by rw [← hjj]; exact h)
            have hjn : Hid (∀ y, out[jj]? = some y → slt y.1 s = false) := fun y h => ahd_at (by rw [← hjj]; exact h)
            have NX2 : Hid (rch L (k + 1) = out.take jj ++ ((s, nn) : Cg) :: out.drop jj) := by rw [NX'.out, hjj]; rfl
            have LS7 := hid (owns_ls (E := EC) R7.out)
            clear NX' hjj
            go_upto_block 4 with fail
            go_cut [10] (fun s10 w' => s10 = .int .i64 (jj : Nat) ∧ Hid (Gr w7 w'))
            case rest =>
              obtain ⟨rfl, GE⟩ := hcut
              obtain ⟨WE, hWE⟩ : ∃ W, W = wc := ⟨_, rfl⟩
              rw [← hWE] at GE ⊢
              clear hWE hja hjn hbE
              have f0 := (GE.out.cell z7).trans d0
              have f1 := (GE.out.cell z7).trans d1
              have f2 := (GE.out.cell z7).trans d2
              have f3 := (GE.out.cell z7).trans d3
              have zE := Nat.lt_of_lt_of_le z7 GE.out.size
              have RE := hid (owns_below R7.out GE.out.below)
              have BE := hid (B7.out.trans (GE.out.below.mono B7.out.size))
              have hjz : (jj : Int) ≤ (out.length : Int) := by omega
              have hj0 : (0 : Int) ≤ (jj : Int) := by omega
              have hcc := (owns_cap RE.out).1
              have hcz : (out.length : Int) ≤ (co : Int) := by omega
              have hjcz : (jj : Int) ≤ (co : Int) := by omega
              have hol : out.length ≤ 1000 := by omega
              have ARI := hid (ar_ok (nn := nn) (s := s) hjl hol)
              have AR0 := hid (ar_ok (nn := nn) (s := s) hjl hol)
              obtain ⟨n10, hn10⟩ : ∃ n, n = (out.take jj).length := ⟨_, rfl⟩
              obtain ⟨n9, hn9⟩ : ∃ n, n = 1 + (out.drop jj).length := ⟨_, rfl⟩
              have eN : n9 = (((s, nn) : Cg) :: out.drop jj).length := by rw [hn9, List.length_cons, Nat.add_comm]
              have eM : n10 + (((s, nn) : Cg) :: out.drop jj).length = (rch L (k + 1)).length := by rw [NX2.out, List.length_append, hn10]
              rw [← hn10] at ARI
              have HN := hid (And.intro hn10 (And.intro hn9 (And.intro eN eM)))
              clear hn10 hn9 eN eM
              have HIL := hid (show k + 1 ≤ L.length by omega)
              have HJL := hid hjl
              clear d0 d1 d2 d3 z7 R7 B7 LS7 GE a0 a1 a2 a3 z5 G7 hjl hol hrl hil hcc
              rcases RE.out.2 with ⟨hnil, h00⟩ | ⟨g, cap, cur, hv, hgb, hh, hc1, hc2, hsz, htk⟩
              · simp only [Value.slice.injEq] at hnil
                obtain ⟨rfl, -, rfl⟩ := hnil
                have hout : out = [] := List.eq_nil_of_length_eq_zero h00
                subst hout
                obtain rfl : jj = 0 := Nat.le_zero.1 HJL.out
                have LD := hid (show Ls EC WE.drew (.slice none 0 0) (([] : List Cg).drop 0) from Ls.nil _)
                have LT := hid (show Ls EC WE (.slice none 0 0) (([] : List Cg).take 0) from Ls.nil _)
                have hS0 : (fun W : World => W.cell? ⟨B5, 0, none⟩ = some (.int .i64 s.1.1) ∧ W.cell? ⟨B5, 1, none⟩ = some (.int .u64 s.1.2.1) ∧ W.cell? ⟨B5, 2, none⟩ = some (.int .u64 s.1.2.2.1) ∧ W.cell? ⟨B5, 3, none⟩ = some (.int .u64 s.1.2.2.2)) WE.drew := ⟨f0, f1, f2, f3⟩
                have zD : B5 < WE.drew.heap.size := zE
                go_upto_region 16 with fail
                refine wp_regionD (S := fun W => W.cell? ⟨B5, 0, none⟩ = some (.int .i64 s.1.1) ∧ W.cell? ⟨B5, 1, none⟩ = some (.int .u64 s.1.2.1) ∧ W.cell? ⟨B5, 2, none⟩ = some (.int .u64 s.1.2.2.1) ∧ W.cell? ⟨B5, 3, none⟩ = some (.int .u64 s.1.2.2.2)) (D := []) hmx ?_
                refine' wpAnyD_take (i := 0) (oi := { dst := some 68, op := Go.Op.fieldAddr 47 (Go.Operand.tmp 5) 0, type := 0, pos := "ref.go:70", after := #[], guard := none }) (v := _) rfl (by kernel_rfl) (by kernel_rfl) (by kernel_rfl) (fun _ _ _ h => h) (by kernel_rfl) (Or.inl ⟨by rfl, ?hy43⟩) hS0 ?rest43
                case hy43 => (intro W hSw; go_simp; try (with_reducible rfl))
                try simp only [Act.put, List.setIfInBounds_toArray, List.set_cons_zero, List.set_cons_succ]
                refine' wpAnyD_take (i := 1) (oi := { dst := some 69, op := Go.Op.load 35 (Go.Operand.tmp 68), type := 35, pos := "ref.go:70", after := #[{ on := 0, ground := Go.Ground.data }], guard := none }) (v := _) rfl (by kernel_rfl) (by kernel_rfl) (by kernel_rfl) (fun _ _ _ h => h) (by kernel_rfl) (Or.inl ⟨by rfl, ?hy44⟩) hS0 ?rest44
                case hy44 => (intro W hSw; obtain ⟨s0, s1, s2, s3⟩ := hSw; go_simp; try (with_reducible rfl))
                try simp only [Act.put, List.setIfInBounds_toArray, List.set_cons_zero, List.set_cons_succ]
                refine' wpAnyD_take (i := 2) (oi := { dst := some 70, op := Go.Op.move (Go.Operand.tmp 9), type := 2, pos := "ref.go:70", after := #[], guard := none }) (v := _) rfl (by kernel_rfl) (by kernel_rfl) (by kernel_rfl) (fun _ _ _ h => h) (by kernel_rfl) (Or.inl ⟨by rfl, ?hy45⟩) hS0 ?rest45
                case hy45 => (intro W hSw; go_simp; try (with_reducible rfl))
                try simp only [Act.put, List.setIfInBounds_toArray, List.set_cons_zero, List.set_cons_succ]
                refine' wpAnyD_take (i := 5) (oi := { dst := some 73, op := Go.Op.move (Go.Operand.tmp 3), type := 27, pos := "ref.go:70", after := #[], guard := none }) (v := _) rfl (by kernel_rfl) (by kernel_rfl) (by kernel_rfl) (fun _ _ _ h => h) (by kernel_rfl) (Or.inl ⟨by rfl, ?hy46⟩) hS0 ?rest46
                case hy46 => (intro W hSw; go_simp; try (with_reducible rfl))
                try simp only [Act.put, List.setIfInBounds_toArray, List.set_cons_zero, List.set_cons_succ]
                refine' wpAnyD_take (i := 6) (oi := { dst := some 74, op := Go.Op.move (Go.Operand.tmp 10), type := 3, pos := "ref.go:70", after := #[], guard := none }) (v := _) rfl (by kernel_rfl) (by kernel_rfl) (by kernel_rfl) (fun _ _ _ h => h) (by kernel_rfl) (Or.inl ⟨by rfl, ?hy47⟩) hS0 ?rest47
                case hy47 => (intro W hSw; go_simp; try (with_reducible rfl))
                try simp only [Act.put, List.setIfInBounds_toArray, List.set_cons_zero, List.set_cons_succ]
                refine' wpAnyD_take (i := 7) (oi := { dst := some 75, op := Go.Op.slice 27 (Go.Operand.tmp 73) (some (Go.Operand.tmp 74)) none none, type := 27, pos := "ref.go:70", after := #[{ on := 5, ground := Go.Ground.data }, { on := 6, ground := Go.Ground.data }], guard := none }) (v := _) rfl (by kernel_rfl) (by kernel_rfl) (by kernel_rfl) (fun _ _ _ h => h) (by kernel_rfl) (Or.inl ⟨by rfl, ?hy48⟩) hS0 ?rest48
                case hy48 => (intro W hSw; go_simp; try (with_reducible rfl))
                try simp only [Act.put, List.setIfInBounds_toArray, List.set_cons_zero, List.set_cons_succ]
                refine' wpAnyD_take (i := 3) (oi := { dst := some 71, op := Go.Op.build 47 #[(0, Go.Operand.tmp 69), (1, Go.Operand.tmp 70)], type := 47, pos := "ref.go:70", after := #[{ on := 1, ground := Go.Ground.data }, { on := 2, ground := Go.Ground.data }], guard := none }) (v := _) rfl (by kernel_rfl) (by kernel_rfl) (by kernel_rfl) (fun _ _ _ h => h) (by kernel_rfl) (Or.inl ⟨by rfl, ?hy49⟩) hS0 ?rest49
                case hy49 => (intro W hSw; go_simp; try (with_reducible rfl))
                try simp only [Act.put, List.setIfInBounds_toArray, List.set_cons_zero, List.set_cons_succ]
                refine wpAnyD_one (i := 4) (o := { dst := some 72, op := Go.Op.buildSlice 27 1 #[(0, Go.Operand.tmp 71)], type := 27, pos := "ref.go:70", after := #[{ on := 3, ground := Go.Ground.data }], guard := none }) (by kernel_rfl) rfl (fun K hK => ?_)
                go_simp
                have gb := (Gr.refl WE.drew).alloc (.cells #[.int .i64 s.1.1, .int .u64 s.1.2.1, .int .u64 s.1.2.2.1, .int .u64 s.1.2.2.2, .int .i64 nn] 47)
                have hS4 : (fun W => W.cell? ⟨B5, 0, none⟩ = some (.int .i64 s.1.1) ∧ W.cell? ⟨B5, 1, none⟩ = some (.int .u64 s.1.2.1) ∧ W.cell? ⟨B5, 2, none⟩ = some (.int .u64 s.1.2.2.1) ∧ W.cell? ⟨B5, 3, none⟩ = some (.int .u64 s.1.2.2.2)) (WE.drew.alloc (.cells #[.int .i64 s.1.1, .int .u64 s.1.2.1, .int .u64 s.1.2.2.1, .int .u64 s.1.2.2.2, .int .i64 nn] 47)) := ⟨(gb.cell zD).trans f0, (gb.cell zD).trans f1, (gb.cell zD).trans f2, (gb.cell zD).trans f3⟩
                have RW4 : Hid ((WE.drew.alloc (.cells #[.int .i64 s.1.1, .int .u64 s.1.2.1, .int .u64 s.1.2.2.1, .int .u64 s.1.2.2.2, .int .i64 nn] 47)).ownsRow w.heap.size 47 5 (.slice (some ⟨WE.drew.heap.size, 0, none⟩) 1 1) 1 (EC.enc (s, nn))) := World.ownsRow_lit (base := w.heap.size) (e := 47) (size := 5) WE.drew #[.int .i64 s.1.1, .int .u64 s.1.2.1, .int .u64 s.1.2.2.1, .int .u64 s.1.2.2.2, .int .i64 nn] 1 BE.out.size (by unfold maxLen; omega) rfl
                have GB4 := hid gb
                clear gb
                refine hK.out _ _ (fun hD => hS4) ?_
                clear hK K
                try simp only [Act.put, List.setIfInBounds_toArray, List.set_cons_zero, List.set_cons_succ]
                refine wpAnyD_one (i := 8) (o := { dst := some 76, op := Go.Op.call { callee := Go.Callee.builtin Go.Builtin.append, args := #[Go.Operand.tmp 72, Go.Operand.tmp 75], argTypes := #[27, 27] }, type := 27, pos := "ref.go:70", after := #[{ on := 4, ground := Go.Ground.data }, { on := 7, ground := Go.Ground.data }], guard := none }) (by kernel_rfl) rfl (fun K hK => ?_)
                refine step_appL EC Try.underlying27 infoC rfl (by decide) rfl _ _ rfl w.heap.size (.slice (some ⟨WE.drew.heap.size, 0, none⟩) 1 1) 1 _ rfl RW4.out (Nat.le_trans BE.out.size GB4.out.size) _ (([] : List Cg).drop 0) rfl (LD.out.below GB4.out.below) ARI.out.1 ARI.out.2.1 ?_
                intro v9 w9 HO9 HG9
                rw [← HN.out.2.1] at HO9
                obtain ⟨p9, c9, rfl⟩ := owns_form HO9.out
                have K9 := hid (Kp.grownBy (S := fun k => k = WE.drew.heap.size) HG9.out (fun k hk => by simpa [Value.ownBlock] using hk.symm))
                have B9 : Hid (Below WE.heap.size WE w9) := ((Gr.refl WE).drew.below.trans GB4.out.below).trans (K9.out.below GB4.out.size (fun k hk => by rw [hk]; exact Nat.le_refl _))
                have hS9 : (fun W => W.cell? ⟨B5, 0, none⟩ = some (.int .i64 s.1.1) ∧ W.cell? ⟨B5, 1, none⟩ = some (.int .u64 s.1.2.1) ∧ W.cell? ⟨B5, 2, none⟩ = some (.int .u64 s.1.2.2.1) ∧ W.cell? ⟨B5, 3, none⟩ = some (.int .u64 s.1.2.2.2)) w9 := ⟨(B9.out.cell (p := ⟨B5, 0, none⟩) zE).trans f0, (B9.out.cell (p := ⟨B5, 1, none⟩) zE).trans f1, (B9.out.cell (p := ⟨B5, 2, none⟩) zE).trans f2, (B9.out.cell (p := ⟨B5, 3, none⟩) zE).trans f3⟩
                refine hK.out _ _ (fun hD => hS9) ?_
                clear hK K
                try simp only [Act.put, List.setIfInBounds_toArray, List.set_cons_zero, List.set_cons_succ]
                refine' wpAnyD_take (i := 9) (oi := { dst := some 11, op := Go.Op.assign (Go.Operand.tmp 76), type := 27, pos := "ref.go:70", after := #[{ on := 8, ground := Go.Ground.data }, { on := 8, ground := Go.Ground.chain }, { on := 0, ground := Go.Ground.phase }, { on := 1, ground := Go.Ground.phase }, { on := 2, ground := Go.Ground.phase }, { on := 3, ground := Go.Ground.phase }, { on := 4, ground := Go.Ground.phase }, { on := 5, ground := Go.Ground.phase }, { on := 6, ground := Go.Ground.phase }, { on := 7, ground := Go.Ground.phase }, { on := 8, ground := Go.Ground.phase }], guard := none }) (v := _) rfl (by kernel_rfl) (by kernel_rfl) (by kernel_rfl) (fun _ _ _ h => h) (by kernel_rfl) (Or.inl ⟨by rfl, ?hy52⟩) hS9 ?rest52
                case hy52 => (intro W hSw; go_simp; try (with_reducible rfl))
                try simp only [Act.put, List.setIfInBounds_toArray, List.set_cons_zero, List.set_cons_succ]
                refine wpAnyD_done (by kernel_rfl) ?_ _
                have L9 : Hid (Ls EC w9 (.slice p9 n9 c9) (((s, nn) : Cg) :: ([] : List Cg).drop 0)) := owns_ls (E := EC) (by rw [fl_cons, ← HN.out.2.2.1]; exact HO9.out)
                have T9 := hid (LT.out.below B9.out)
                have BW9 := hid (BE.out.trans (B9.out.mono BE.out.size))
                clear HO9 HG9 K9 B9 hS0 hS4 hS9 RW4 GB4 LD LT f0 f1 f2 f3
                go_wp2_with (first
                  | (at_builtin; refine wpAppL (E := EC) Try.underlying27 infoC rfl (by decide) rfl _ _ rfl w.heap.size (.slice (some ⟨w9.heap.size, 0, none⟩) 0 0) 0 [] rfl (World.ownsRow_made w9 #[] 0 BW9.out.size (by unfold maxLen; omega) rfl) _ (([] : List Cg).take 0) rfl (T9.out.below ((Gr.refl w9).alloc _).below) AR0.out.2.2.1 AR0.out.2.2.2.1 (Nat.le_trans BW9.out.size ((Gr.refl w9).alloc _).size) ?_; intro v10 w10 ho10 hg10; rw [Nat.zero_add, List.nil_append, ← HN.out.1] at ho10; obtain ⟨p10, c10, rfl⟩ := owns_form ho10
                     have b10 : Below w9.heap.size w9 w10 := ((Gr.refl w9).alloc _).below.trans ((Kp.grownBy (S := fun k => k = w9.heap.size) hg10 (fun k hk => by simpa [Value.ownBlock] using hk.symm)).below ((Gr.refl w9).alloc _).size (fun k hk => by rw [hk]; exact Nat.le_refl _))
                     have L10 := L9.out.below b10)
                  | (at_builtin; refine wpAppL (E := EC) Try.underlying27 infoC rfl (by decide) rfl _ _ rfl w.heap.size (.slice p10 n10 c10) n10 _ rfl ho10 _ (((s, nn) : Cg) :: ([] : List Cg).drop 0) rfl L10 ARI.out.2.2.2.2.1 ARI.out.2.2.2.2.2 (Nat.le_trans BW9.out.size b10.size) ?_; intro v11 w11 ho11 hg11; rw [HN.out.2.2.2] at ho11; obtain ⟨p11, c11, rfl⟩ := owns_form ho11)
                  | go_in)
                have BW10 := hid (BW9.out.trans (b10.mono BW9.out.size))
                have B11 : Hid (Below w.heap.size w w11) := BW10.out.trans ((Kp.grownBy (S := fun k => (Value.slice p10 n10 c10).ownBlock = some k) hg11 (fun _ h => h)).below BW10.out.size (fun k hk => (ho10.lt k hk).1))
                have R11 : Hid (w11.ownsRow w.heap.size 47 5 (.slice p11 (rch L (k + 1)).length c11) (rch L (k + 1)).length (fl EC (rch L (k + 1)))) := by
                  have h := ho11
                  rw [← fl_append, ← NX2.out] at h
                  exact h
                clear ho10 hg10 ho11 hg11 b10 L10 L9 T9 BW9 BW10 NX2 ARI
                go_wp2_with fail
                go_roundw
                case rel => exact ⟨k + 1, _, _, HIL.out, by go_num, rfl, R11.out, B11.out⟩
                case measure => simp [RowKit.intOf]; omega
              · simp only [Value.slice.injEq] at hv
                obtain ⟨rfl, -, rfl⟩ := hv
                clear hh hsz hgb hc1 hc2 htk
                by_cases hcq : co = jj
                · have ho1 : jj = out.length := Nat.le_antisymm HJL.out (hcq ▸ (owns_cap RE.out).1)
                  subst ho1
                  subst hcq
                  have LD := hid (show Ls EC WE.drew (.slice (some ⟨g, 0, none⟩) 0 0) (out.drop out.length) from by have h := ((owns_ls (E := EC) RE.out).below (Gr.refl WE).drew.below).void (k := out.length) (Nat.le_refl _) 0; rw [Nat.sub_self] at h; exact h)
                  have LT := hid (show Ls EC WE (.slice (some ⟨g, 0, none⟩) out.length out.length) (out.take out.length) from owns_take RE.out HJL.out out.length)
                  have hS0 : (fun W : World => W.cell? ⟨B5, 0, none⟩ = some (.int .i64 s.1.1) ∧ W.cell? ⟨B5, 1, none⟩ = some (.int .u64 s.1.2.1) ∧ W.cell? ⟨B5, 2, none⟩ = some (.int .u64 s.1.2.2.1) ∧ W.cell? ⟨B5, 3, none⟩ = some (.int .u64 s.1.2.2.2)) WE.drew := ⟨f0, f1, f2, f3⟩
                  have zD : B5 < WE.drew.heap.size := zE
                  go_upto_region 16 with fail
                  refine wp_regionD (S := fun W => W.cell? ⟨B5, 0, none⟩ = some (.int .i64 s.1.1) ∧ W.cell? ⟨B5, 1, none⟩ = some (.int .u64 s.1.2.1) ∧ W.cell? ⟨B5, 2, none⟩ = some (.int .u64 s.1.2.2.1) ∧ W.cell? ⟨B5, 3, none⟩ = some (.int .u64 s.1.2.2.2)) (D := []) hmx ?_
                  refine' wpAnyD_take (i := 0) (oi := { dst := some 68, op := Go.Op.fieldAddr 47 (Go.Operand.tmp 5) 0, type := 0, pos := "ref.go:70", after := #[], guard := none }) (v := _) rfl (by kernel_rfl) (by kernel_rfl) (by kernel_rfl) (fun _ _ _ h => h) (by kernel_rfl) (Or.inl ⟨by rfl, ?hy53⟩) hS0 ?rest53
                  case hy53 => (intro W hSw; go_simp; try (with_reducible rfl))
                  try simp only [Act.put, List.setIfInBounds_toArray, List.set_cons_zero, List.set_cons_succ]
                  refine' wpAnyD_take (i := 1) (oi := { dst := some 69, op := Go.Op.load 35 (Go.Operand.tmp 68), type := 35, pos := "ref.go:70", after := #[{ on := 0, ground := Go.Ground.data }], guard := none }) (v := _) rfl (by kernel_rfl) (by kernel_rfl) (by kernel_rfl) (fun _ _ _ h => h) (by kernel_rfl) (Or.inl ⟨by rfl, ?hy54⟩) hS0 ?rest54
                  case hy54 => (intro W hSw; obtain ⟨s0, s1, s2, s3⟩ := hSw; go_simp; try (with_reducible rfl))
                  try simp only [Act.put, List.setIfInBounds_toArray, List.set_cons_zero, List.set_cons_succ]
                  refine' wpAnyD_take (i := 2) (oi := { dst := some 70, op := Go.Op.move (Go.Operand.tmp 9), type := 2, pos := "ref.go:70", after := #[], guard := none }) (v := _) rfl (by kernel_rfl) (by kernel_rfl) (by kernel_rfl) (fun _ _ _ h => h) (by kernel_rfl) (Or.inl ⟨by rfl, ?hy55⟩) hS0 ?rest55
                  case hy55 => (intro W hSw; go_simp; try (with_reducible rfl))
                  try simp only [Act.put, List.setIfInBounds_toArray, List.set_cons_zero, List.set_cons_succ]
                  refine' wpAnyD_take (i := 5) (oi := { dst := some 73, op := Go.Op.move (Go.Operand.tmp 3), type := 27, pos := "ref.go:70", after := #[], guard := none }) (v := _) rfl (by kernel_rfl) (by kernel_rfl) (by kernel_rfl) (fun _ _ _ h => h) (by kernel_rfl) (Or.inl ⟨by rfl, ?hy56⟩) hS0 ?rest56
                  case hy56 => (intro W hSw; go_simp; try (with_reducible rfl))
                  try simp only [Act.put, List.setIfInBounds_toArray, List.set_cons_zero, List.set_cons_succ]
                  refine' wpAnyD_take (i := 6) (oi := { dst := some 74, op := Go.Op.move (Go.Operand.tmp 10), type := 3, pos := "ref.go:70", after := #[], guard := none }) (v := _) rfl (by kernel_rfl) (by kernel_rfl) (by kernel_rfl) (fun _ _ _ h => h) (by kernel_rfl) (Or.inl ⟨by rfl, ?hy57⟩) hS0 ?rest57
                  case hy57 => (intro W hSw; go_simp; try (with_reducible rfl))
                  try simp only [Act.put, List.setIfInBounds_toArray, List.set_cons_zero, List.set_cons_succ]
                  refine' wpAnyD_take (i := 7) (oi := { dst := some 75, op := Go.Op.slice 27 (Go.Operand.tmp 73) (some (Go.Operand.tmp 74)) none none, type := 27, pos := "ref.go:70", after := #[{ on := 5, ground := Go.Ground.data }, { on := 6, ground := Go.Ground.data }], guard := none }) (v := _) rfl (by kernel_rfl) (by kernel_rfl) (by kernel_rfl) (fun _ _ _ h => h) (by kernel_rfl) (Or.inl ⟨by rfl, ?hy58⟩) hS0 ?rest58
                  case hy58 => (intro W hSw; go_simp; try (with_reducible rfl))
                  try simp only [Act.put, List.setIfInBounds_toArray, List.set_cons_zero, List.set_cons_succ]
                  refine' wpAnyD_take (i := 3) (oi := { dst := some 71, op := Go.Op.build 47 #[(0, Go.Operand.tmp 69), (1, Go.Operand.tmp 70)], type := 47, pos := "ref.go:70", after := #[{ on := 1, ground := Go.Ground.data }, { on := 2, ground := Go.Ground.data }], guard := none }) (v := _) rfl (by kernel_rfl) (by kernel_rfl) (by kernel_rfl) (fun _ _ _ h => h) (by kernel_rfl) (Or.inl ⟨by rfl, ?hy59⟩) hS0 ?rest59
                  case hy59 => (intro W hSw; go_simp; try (with_reducible rfl))
                  try simp only [Act.put, List.setIfInBounds_toArray, List.set_cons_zero, List.set_cons_succ]
                  refine wpAnyD_one (i := 4) (o := { dst := some 72, op := Go.Op.buildSlice 27 1 #[(0, Go.Operand.tmp 71)], type := 27, pos := "ref.go:70", after := #[{ on := 3, ground := Go.Ground.data }], guard := none }) (by kernel_rfl) rfl (fun K hK => ?_)
                  go_simp
                  have gb := (Gr.refl WE.drew).alloc (.cells #[.int .i64 s.1.1, .int .u64 s.1.2.1, .int .u64 s.1.2.2.1, .int .u64 s.1.2.2.2, .int .i64 nn] 47)
                  have hS4 : (fun W => W.cell? ⟨B5, 0, none⟩ = some (.int .i64 s.1.1) ∧ W.cell? ⟨B5, 1, none⟩ = some (.int .u64 s.1.2.1) ∧ W.cell? ⟨B5, 2, none⟩ = some (.int .u64 s.1.2.2.1) ∧ W.cell? ⟨B5, 3, none⟩ = some (.int .u64 s.1.2.2.2)) (WE.drew.alloc (.cells #[.int .i64 s.1.1, .int .u64 s.1.2.1, .int .u64 s.1.2.2.1, .int .u64 s.1.2.2.2, .int .i64 nn] 47)) := ⟨(gb.cell zD).trans f0, (gb.cell zD).trans f1, (gb.cell zD).trans f2, (gb.cell zD).trans f3⟩
                  have RW4 : Hid ((WE.drew.alloc (.cells #[.int .i64 s.1.1, .int .u64 s.1.2.1, .int .u64 s.1.2.2.1, .int .u64 s.1.2.2.2, .int .i64 nn] 47)).ownsRow w.heap.size 47 5 (.slice (some ⟨WE.drew.heap.size, 0, none⟩) 1 1) 1 (EC.enc (s, nn))) := World.ownsRow_lit (base := w.heap.size) (e := 47) (size := 5) WE.drew #[.int .i64 s.1.1, .int .u64 s.1.2.1, .int .u64 s.1.2.2.1, .int .u64 s.1.2.2.2, .int .i64 nn] 1 BE.out.size (by unfold maxLen; omega) rfl
                  have GB4 := hid gb
                  clear gb
                  refine hK.out _ _ (fun hD => hS4) ?_
                  clear hK K
                  try simp only [Act.put, List.setIfInBounds_toArray, List.set_cons_zero, List.set_cons_succ]
                  refine wpAnyD_one (i := 8) (o := { dst := some 76, op := Go.Op.call { callee := Go.Callee.builtin Go.Builtin.append, args := #[Go.Operand.tmp 72, Go.Operand.tmp 75], argTypes := #[27, 27] }, type := 27, pos := "ref.go:70", after := #[{ on := 4, ground := Go.Ground.data }, { on := 7, ground := Go.Ground.data }], guard := none }) (by kernel_rfl) rfl (fun K hK => ?_)
                  refine step_appL EC Try.underlying27 infoC rfl (by decide) rfl _ _ rfl w.heap.size (.slice (some ⟨WE.drew.heap.size, 0, none⟩) 1 1) 1 _ rfl RW4.out (Nat.le_trans BE.out.size GB4.out.size) _ (out.drop out.length) rfl (LD.out.below GB4.out.below) ARI.out.1 ARI.out.2.1 ?_
                  intro v9 w9 HO9 HG9
                  rw [← HN.out.2.1] at HO9
                  obtain ⟨p9, c9, rfl⟩ := owns_form HO9.out
                  have K9 := hid (Kp.grownBy (S := fun k => k = WE.drew.heap.size) HG9.out (fun k hk => by simpa [Value.ownBlock] using hk.symm))
                  have B9 : Hid (Below WE.heap.size WE w9) := ((Gr.refl WE).drew.below.trans GB4.out.below).trans (K9.out.below GB4.out.size (fun k hk => by rw [hk]; exact Nat.le_refl _))
                  have hS9 : (fun W => W.cell? ⟨B5, 0, none⟩ = some (.int .i64 s.1.1) ∧ W.cell? ⟨B5, 1, none⟩ = some (.int .u64 s.1.2.1) ∧ W.cell? ⟨B5, 2, none⟩ = some (.int .u64 s.1.2.2.1) ∧ W.cell? ⟨B5, 3, none⟩ = some (.int .u64 s.1.2.2.2)) w9 := ⟨(B9.out.cell (p := ⟨B5, 0, none⟩) zE).trans f0, (B9.out.cell (p := ⟨B5, 1, none⟩) zE).trans f1, (B9.out.cell (p := ⟨B5, 2, none⟩) zE).trans f2, (B9.out.cell (p := ⟨B5, 3, none⟩) zE).trans f3⟩
                  refine hK.out _ _ (fun hD => hS9) ?_
                  clear hK K
                  try simp only [Act.put, List.setIfInBounds_toArray, List.set_cons_zero, List.set_cons_succ]
                  refine' wpAnyD_take (i := 9) (oi := { dst := some 11, op := Go.Op.assign (Go.Operand.tmp 76), type := 27, pos := "ref.go:70", after := #[{ on := 8, ground := Go.Ground.data }, { on := 8, ground := Go.Ground.chain }, { on := 0, ground := Go.Ground.phase }, { on := 1, ground := Go.Ground.phase }, { on := 2, ground := Go.Ground.phase }, { on := 3, ground := Go.Ground.phase }, { on := 4, ground := Go.Ground.phase }, { on := 5, ground := Go.Ground.phase }, { on := 6, ground := Go.Ground.phase }, { on := 7, ground := Go.Ground.phase }, { on := 8, ground := Go.Ground.phase }], guard := none }) (v := _) rfl (by kernel_rfl) (by kernel_rfl) (by kernel_rfl) (fun _ _ _ h => h) (by kernel_rfl) (Or.inl ⟨by rfl, ?hy62⟩) hS9 ?rest62
                  case hy62 => (intro W hSw; go_simp; try (with_reducible rfl))
                  try simp only [Act.put, List.setIfInBounds_toArray, List.set_cons_zero, List.set_cons_succ]
                  refine wpAnyD_done (by kernel_rfl) ?_ _
                  have L9 : Hid (Ls EC w9 (.slice p9 n9 c9) (((s, nn) : Cg) :: out.drop out.length)) := owns_ls (E := EC) (by rw [fl_cons, ← HN.out.2.2.1]; exact HO9.out)
                  have T9 := hid (LT.out.below B9.out)
                  have BW9 := hid (BE.out.trans (B9.out.mono BE.out.size))
                  clear HO9 HG9 K9 B9 hS0 hS4 hS9 RW4 GB4 LD LT f0 f1 f2 f3
                  go_wp2_with (first
                    | (at_builtin; refine wpAppL (E := EC) Try.underlying27 infoC rfl (by decide) rfl _ _ rfl w.heap.size (.slice (some ⟨w9.heap.size, 0, none⟩) 0 0) 0 [] rfl (World.ownsRow_made w9 #[] 0 BW9.out.size (by unfold maxLen; omega) rfl) _ (out.take out.length) rfl (T9.out.below ((Gr.refl w9).alloc _).below) AR0.out.2.2.1 AR0.out.2.2.2.1 (Nat.le_trans BW9.out.size ((Gr.refl w9).alloc _).size) ?_; intro v10 w10 ho10 hg10; rw [Nat.zero_add, List.nil_append, ← HN.out.1] at ho10; obtain ⟨p10, c10, rfl⟩ := owns_form ho10
                       have b10 : Below w9.heap.size w9 w10 := ((Gr.refl w9).alloc _).below.trans ((Kp.grownBy (S := fun k => k = w9.heap.size) hg10 (fun k hk => by simpa [Value.ownBlock] using hk.symm)).below ((Gr.refl w9).alloc _).size (fun k hk => by rw [hk]; exact Nat.le_refl _))
                       have L10 := L9.out.below b10)
                    | (at_builtin; refine wpAppL (E := EC) Try.underlying27 infoC rfl (by decide) rfl _ _ rfl w.heap.size (.slice p10 n10 c10) n10 _ rfl ho10 _ (((s, nn) : Cg) :: out.drop out.length) rfl L10 ARI.out.2.2.2.2.1 ARI.out.2.2.2.2.2 (Nat.le_trans BW9.out.size b10.size) ?_; intro v11 w11 ho11 hg11; rw [HN.out.2.2.2] at ho11; obtain ⟨p11, c11, rfl⟩ := owns_form ho11)
                    | go_in)
                  have BW10 := hid (BW9.out.trans (b10.mono BW9.out.size))
                  have B11 : Hid (Below w.heap.size w w11) := BW10.out.trans ((Kp.grownBy (S := fun k => (Value.slice p10 n10 c10).ownBlock = some k) hg11 (fun _ h => h)).below BW10.out.size (fun k hk => (ho10.lt k hk).1))
                  have R11 : Hid (w11.ownsRow w.heap.size 47 5 (.slice p11 (rch L (k + 1)).length c11) (rch L (k + 1)).length (fl EC (rch L (k + 1)))) := by
                    have h := ho11
                    rw [← fl_append, ← NX2.out] at h
                    exact h
                  clear ho10 hg10 ho11 hg11 b10 L10 L9 T9 BW9 BW10 NX2 ARI
                  go_wp2_with fail
                  go_roundw
                  case rel => exact ⟨k + 1, _, _, HIL.out, by go_num, rfl, R11.out, B11.out⟩
                  case measure => simp [RowKit.intOf]; omega
                · skip
                  have LD := hid (show Ls EC WE.drew (.slice (some ⟨g, jj * 5, none⟩) (out.length - jj) (co - jj)) (out.drop jj) from by have h := ((owns_ls (E := EC) RE.out).below (Gr.refl WE).drew.below).tail (k := jj) (co - jj); rw [Nat.zero_add] at h; exact h)
                  have LT := hid (show Ls EC WE (.slice (some ⟨g, 0, none⟩) jj co) (out.take jj) from owns_take RE.out HJL.out co)
                  have hS0 : (fun W : World => W.cell? ⟨B5, 0, none⟩ = some (.int .i64 s.1.1) ∧ W.cell? ⟨B5, 1, none⟩ = some (.int .u64 s.1.2.1) ∧ W.cell? ⟨B5, 2, none⟩ = some (.int .u64 s.1.2.2.1) ∧ W.cell? ⟨B5, 3, none⟩ = some (.int .u64 s.1.2.2.2)) WE.drew := ⟨f0, f1, f2, f3⟩
                  have zD : B5 < WE.drew.heap.size := zE
                  go_upto_region 16 with fail
                  refine wp_regionD (S := fun W => W.cell? ⟨B5, 0, none⟩ = some (.int .i64 s.1.1) ∧ W.cell? ⟨B5, 1, none⟩ = some (.int .u64 s.1.2.1) ∧ W.cell? ⟨B5, 2, none⟩ = some (.int .u64 s.1.2.2.1) ∧ W.cell? ⟨B5, 3, none⟩ = some (.int .u64 s.1.2.2.2)) (D := []) hmx ?_
                  refine' wpAnyD_take (i := 0) (oi := { dst := some 68, op := Go.Op.fieldAddr 47 (Go.Operand.tmp 5) 0, type := 0, pos := "ref.go:70", after := #[], guard := none }) (v := _) rfl (by kernel_rfl) (by kernel_rfl) (by kernel_rfl) (fun _ _ _ h => h) (by kernel_rfl) (Or.inl ⟨by rfl, ?hy63⟩) hS0 ?rest63
                  case hy63 => (intro W hSw; go_simp; try (with_reducible rfl))
                  try simp only [Act.put, List.setIfInBounds_toArray, List.set_cons_zero, List.set_cons_succ]
                  refine' wpAnyD_take (i := 1) (oi := { dst := some 69, op := Go.Op.load 35 (Go.Operand.tmp 68), type := 35, pos := "ref.go:70", after := #[{ on := 0, ground := Go.Ground.data }], guard := none }) (v := _) rfl (by kernel_rfl) (by kernel_rfl) (by kernel_rfl) (fun _ _ _ h => h) (by kernel_rfl) (Or.inl ⟨by rfl, ?hy64⟩) hS0 ?rest64
                  case hy64 => (intro W hSw; obtain ⟨s0, s1, s2, s3⟩ := hSw; go_simp; try (with_reducible rfl))
                  try simp only [Act.put, List.setIfInBounds_toArray, List.set_cons_zero, List.set_cons_succ]
                  refine' wpAnyD_take (i := 2) (oi := { dst := some 70, op := Go.Op.move (Go.Operand.tmp 9), type := 2, pos := "ref.go:70", after := #[], guard := none }) (v := _) rfl (by kernel_rfl) (by kernel_rfl) (by kernel_rfl) (fun _ _ _ h => h) (by kernel_rfl) (Or.inl ⟨by rfl, ?hy65⟩) hS0 ?rest65
                  case hy65 => (intro W hSw; go_simp; try (with_reducible rfl))
                  try simp only [Act.put, List.setIfInBounds_toArray, List.set_cons_zero, List.set_cons_succ]
                  refine' wpAnyD_take (i := 5) (oi := { dst := some 73, op := Go.Op.move (Go.Operand.tmp 3), type := 27, pos := "ref.go:70", after := #[], guard := none }) (v := _) rfl (by kernel_rfl) (by kernel_rfl) (by kernel_rfl) (fun _ _ _ h => h) (by kernel_rfl) (Or.inl ⟨by rfl, ?hy66⟩) hS0 ?rest66
                  case hy66 => (intro W hSw; go_simp; try (with_reducible rfl))
                  try simp only [Act.put, List.setIfInBounds_toArray, List.set_cons_zero, List.set_cons_succ]
                  refine' wpAnyD_take (i := 6) (oi := { dst := some 74, op := Go.Op.move (Go.Operand.tmp 10), type := 3, pos := "ref.go:70", after := #[], guard := none }) (v := _) rfl (by kernel_rfl) (by kernel_rfl) (by kernel_rfl) (fun _ _ _ h => h) (by kernel_rfl) (Or.inl ⟨by rfl, ?hy67⟩) hS0 ?rest67
                  case hy67 => (intro W hSw; go_simp; try (with_reducible rfl))
                  try simp only [Act.put, List.setIfInBounds_toArray, List.set_cons_zero, List.set_cons_succ]
                  refine' wpAnyD_take (i := 7) (oi := { dst := some 75, op := Go.Op.slice 27 (Go.Operand.tmp 73) (some (Go.Operand.tmp 74)) none none, type := 27, pos := "ref.go:70", after := #[{ on := 5, ground := Go.Ground.data }, { on := 6, ground := Go.Ground.data }], guard := none }) (v := _) rfl (by kernel_rfl) (by kernel_rfl) (by kernel_rfl) (fun _ _ _ h => h) (by kernel_rfl) (Or.inl ⟨by rfl, ?hy68⟩) hS0 ?rest68
                  case hy68 => (intro W hSw; go_simp; try (with_reducible rfl))
                  try simp only [Act.put, List.setIfInBounds_toArray, List.set_cons_zero, List.set_cons_succ]
                  refine' wpAnyD_take (i := 3) (oi := { dst := some 71, op := Go.Op.build 47 #[(0, Go.Operand.tmp 69), (1, Go.Operand.tmp 70)], type := 47, pos := "ref.go:70", after := #[{ on := 1, ground := Go.Ground.data }, { on := 2, ground := Go.Ground.data }], guard := none }) (v := _) rfl (by kernel_rfl) (by kernel_rfl) (by kernel_rfl) (fun _ _ _ h => h) (by kernel_rfl) (Or.inl ⟨by rfl, ?hy69⟩) hS0 ?rest69
                  case hy69 => (intro W hSw; go_simp; try (with_reducible rfl))
                  try simp only [Act.put, List.setIfInBounds_toArray, List.set_cons_zero, List.set_cons_succ]
                  refine wpAnyD_one (i := 4) (o := { dst := some 72, op := Go.Op.buildSlice 27 1 #[(0, Go.Operand.tmp 71)], type := 27, pos := "ref.go:70", after := #[{ on := 3, ground := Go.Ground.data }], guard := none }) (by kernel_rfl) rfl (fun K hK => ?_)
                  go_simp
                  have gb := (Gr.refl WE.drew).alloc (.cells #[.int .i64 s.1.1, .int .u64 s.1.2.1, .int .u64 s.1.2.2.1, .int .u64 s.1.2.2.2, .int .i64 nn] 47)
                  have hS4 : (fun W => W.cell? ⟨B5, 0, none⟩ = some (.int .i64 s.1.1) ∧ W.cell? ⟨B5, 1, none⟩ = some (.int .u64 s.1.2.1) ∧ W.cell? ⟨B5, 2, none⟩ = some (.int .u64 s.1.2.2.1) ∧ W.cell? ⟨B5, 3, none⟩ = some (.int .u64 s.1.2.2.2)) (WE.drew.alloc (.cells #[.int .i64 s.1.1, .int .u64 s.1.2.1, .int .u64 s.1.2.2.1, .int .u64 s.1.2.2.2, .int .i64 nn] 47)) := ⟨(gb.cell zD).trans f0, (gb.cell zD).trans f1, (gb.cell zD).trans f2, (gb.cell zD).trans f3⟩
                  have RW4 : Hid ((WE.drew.alloc (.cells #[.int .i64 s.1.1, .int .u64 s.1.2.1, .int .u64 s.1.2.2.1, .int .u64 s.1.2.2.2, .int .i64 nn] 47)).ownsRow w.heap.size 47 5 (.slice (some ⟨WE.drew.heap.size, 0, none⟩) 1 1) 1 (EC.enc (s, nn))) := World.ownsRow_lit (base := w.heap.size) (e := 47) (size := 5) WE.drew #[.int .i64 s.1.1, .int .u64 s.1.2.1, .int .u64 s.1.2.2.1, .int .u64 s.1.2.2.2, .int .i64 nn] 1 BE.out.size (by unfold maxLen; omega) rfl
                  have GB4 := hid gb
                  clear gb
                  refine hK.out _ _ (fun hD => hS4) ?_
                  clear hK K
                  try simp only [Act.put, List.setIfInBounds_toArray, List.set_cons_zero, List.set_cons_succ]
                  refine wpAnyD_one (i := 8) (o := { dst := some 76, op := Go.Op.call { callee := Go.Callee.builtin Go.Builtin.append, args := #[Go.Operand.tmp 72, Go.Operand.tmp 75], argTypes := #[27, 27] }, type := 27, pos := "ref.go:70", after := #[{ on := 4, ground := Go.Ground.data }, { on := 7, ground := Go.Ground.data }], guard := none }) (by kernel_rfl) rfl (fun K hK => ?_)
                  refine step_appL EC Try.underlying27 infoC rfl (by decide) rfl _ _ rfl w.heap.size (.slice (some ⟨WE.drew.heap.size, 0, none⟩) 1 1) 1 _ rfl RW4.out (Nat.le_trans BE.out.size GB4.out.size) _ (out.drop jj) rfl (LD.out.below GB4.out.below) ARI.out.1 ARI.out.2.1 ?_
                  intro v9 w9 HO9 HG9
                  rw [← HN.out.2.1] at HO9
                  obtain ⟨p9, c9, rfl⟩ := owns_form HO9.out
                  have K9 := hid (Kp.grownBy (S := fun k => k = WE.drew.heap.size) HG9.out (fun k hk => by simpa [Value.ownBlock] using hk.symm))
                  have B9 : Hid (Below WE.heap.size WE w9) := ((Gr.refl WE).drew.below.trans GB4.out.below).trans (K9.out.below GB4.out.size (fun k hk => by rw [hk]; exact Nat.le_refl _))
                  have hS9 : (fun W => W.cell? ⟨B5, 0, none⟩ = some (.int .i64 s.1.1) ∧ W.cell? ⟨B5, 1, none⟩ = some (.int .u64 s.1.2.1) ∧ W.cell? ⟨B5, 2, none⟩ = some (.int .u64 s.1.2.2.1) ∧ W.cell? ⟨B5, 3, none⟩ = some (.int .u64 s.1.2.2.2)) w9 := ⟨(B9.out.cell (p := ⟨B5, 0, none⟩) zE).trans f0, (B9.out.cell (p := ⟨B5, 1, none⟩) zE).trans f1, (B9.out.cell (p := ⟨B5, 2, none⟩) zE).trans f2, (B9.out.cell (p := ⟨B5, 3, none⟩) zE).trans f3⟩
                  refine hK.out _ _ (fun hD => hS9) ?_
                  clear hK K
                  try simp only [Act.put, List.setIfInBounds_toArray, List.set_cons_zero, List.set_cons_succ]
                  refine' wpAnyD_take (i := 9) (oi := { dst := some 11, op := Go.Op.assign (Go.Operand.tmp 76), type := 27, pos := "ref.go:70", after := #[{ on := 8, ground := Go.Ground.data }, { on := 8, ground := Go.Ground.chain }, { on := 0, ground := Go.Ground.phase }, { on := 1, ground := Go.Ground.phase }, { on := 2, ground := Go.Ground.phase }, { on := 3, ground := Go.Ground.phase }, { on := 4, ground := Go.Ground.phase }, { on := 5, ground := Go.Ground.phase }, { on := 6, ground := Go.Ground.phase }, { on := 7, ground := Go.Ground.phase }, { on := 8, ground := Go.Ground.phase }], guard := none }) (v := _) rfl (by kernel_rfl) (by kernel_rfl) (by kernel_rfl) (fun _ _ _ h => h) (by kernel_rfl) (Or.inl ⟨by rfl, ?hy72⟩) hS9 ?rest72
                  case hy72 => (intro W hSw; go_simp; try (with_reducible rfl))
                  try simp only [Act.put, List.setIfInBounds_toArray, List.set_cons_zero, List.set_cons_succ]
                  refine wpAnyD_done (by kernel_rfl) ?_ _
                  have L9 : Hid (Ls EC w9 (.slice p9 n9 c9) (((s, nn) : Cg) :: out.drop jj)) := owns_ls (E := EC) (by rw [fl_cons, ← HN.out.2.2.1]; exact HO9.out)
                  have T9 := hid (LT.out.below B9.out)
                  have BW9 := hid (BE.out.trans (B9.out.mono BE.out.size))
                  clear HO9 HG9 K9 B9 hS0 hS4 hS9 RW4 GB4 LD LT f0 f1 f2 f3
                  go_wp2_with (first
                    | (at_builtin; refine wpAppL (E := EC) Try.underlying27 infoC rfl (by decide) rfl _ _ rfl w.heap.size (.slice (some ⟨w9.heap.size, 0, none⟩) 0 0) 0 [] rfl (World.ownsRow_made w9 #[] 0 BW9.out.size (by unfold maxLen; omega) rfl) _ (out.take jj) rfl (T9.out.below ((Gr.refl w9).alloc _).below) AR0.out.2.2.1 AR0.out.2.2.2.1 (Nat.le_trans BW9.out.size ((Gr.refl w9).alloc _).size) ?_; intro v10 w10 ho10 hg10; rw [Nat.zero_add, List.nil_append, ← HN.out.1] at ho10; obtain ⟨p10, c10, rfl⟩ := owns_form ho10
                       have b10 : Below w9.heap.size w9 w10 := ((Gr.refl w9).alloc _).below.trans ((Kp.grownBy (S := fun k => k = w9.heap.size) hg10 (fun k hk => by simpa [Value.ownBlock] using hk.symm)).below ((Gr.refl w9).alloc _).size (fun k hk => by rw [hk]; exact Nat.le_refl _))
                       have L10 := L9.out.below b10)
                    | (at_builtin; refine wpAppL (E := EC) Try.underlying27 infoC rfl (by decide) rfl _ _ rfl w.heap.size (.slice p10 n10 c10) n10 _ rfl ho10 _ (((s, nn) : Cg) :: out.drop jj) rfl L10 ARI.out.2.2.2.2.1 ARI.out.2.2.2.2.2 (Nat.le_trans BW9.out.size b10.size) ?_; intro v11 w11 ho11 hg11; rw [HN.out.2.2.2] at ho11; obtain ⟨p11, c11, rfl⟩ := owns_form ho11)
                    | go_in)
                  have BW10 := hid (BW9.out.trans (b10.mono BW9.out.size))
                  have B11 : Hid (Below w.heap.size w w11) := BW10.out.trans ((Kp.grownBy (S := fun k => (Value.slice p10 n10 c10).ownBlock = some k) hg11 (fun _ h => h)).below BW10.out.size (fun k hk => (ho10.lt k hk).1))
                  have R11 : Hid (w11.ownsRow w.heap.size 47 5 (.slice p11 (rch L (k + 1)).length c11) (rch L (k + 1)).length (fl EC (rch L (k + 1)))) := by
                    have h := ho11
                    rw [← fl_append, ← NX2.out] at h
                    exact h
                  clear ho10 hg10 ho11 hg11 b10 L10 L9 T9 BW9 BW10 NX2 ARI
                  go_wp2_with fail
                  go_roundw
                  case rel => exact ⟨k + 1, _, _, HIL.out, by go_num, rfl, R11.out, B11.out⟩
                  case measure => simp [RowKit.intOf]; omega
            case first =>
            go_wp2_with fail
            go_loopw [10] (fun s10 wr => ∃ j : Nat, j ≤ jj ∧ s10 = .int .i64 (j : Nat) ∧ Gr w7 wr) (fun s10 _ => jj - (RowKit.intOf s10).toNat)
            case atStart => exact ⟨0, Nat.zero_le _, rfl, Gr.refl _⟩
            case round =>
              obtain ⟨j, hj, rfl, hgr⟩ := hrel
              have f0 := (hgr.cell z7).trans d0
              have f1 := (hgr.cell z7).trans d1
              have f2 := (hgr.cell z7).trans d2
              have f3 := (hgr.cell z7).trans d3
              have z8 := Nat.lt_of_lt_of_le z7 hgr.size
              have hj0 : (0 : Int) ≤ (j : Int) := by omega
              by_cases hltj : j < out.length
              · have hltz : (j : Int) < (out.length : Int) := by omega
                obtain ⟨⟨t, n⟩, hy⟩ : ∃ x, out[j]? = some x := ⟨out[j], by simp⟩
                obtain ⟨b2, o2, c2, e2, z2, x0, x1, x2, x3, x4⟩ := (LS7.out.below hgr.below).atC hy
                simp only [Value.slice.injEq] at e2
                obtain ⟨rfl, -, rfl⟩ := e2
                simp only at x0 x1 x2 x3 x4
                have hbj := fun W => hbE s t W
                have HGR := hid hgr
                have hS0 : Gr wr wr.drew := (Gr.refl wr).drew
                have HY := hid hy
                clear hy hgr
                go_upto_region 14 with fail
                cases hsl : slt t s with
                | true =>
                  simp only [hsl] at hbj
                  refine wp_regionD (S := fun W => Gr wr W) (D := []) hmx ?_
                  refine' wpAnyD_take (i := 0) (oi := { dst := some 52, op := Go.Op.move (Go.Operand.tmp 10), type := 3, pos := "ref.go:67", after := #[], guard := none }) (v := _) rfl (by kernel_rfl) (by kernel_rfl) (by kernel_rfl) (fun _ _ _ h => h) (by kernel_rfl) (Or.inl ⟨by rfl, ?hy1⟩) hS0 ?rest1
                  case hy1 => (intro W hSw; go_simp; try (with_reducible rfl))
                  try simp only [Act.put, List.setIfInBounds_toArray, List.set_cons_zero, List.set_cons_succ]
                  refine' wpAnyD_take (i := 1) (oi := { dst := some 53, op := Go.Op.move (Go.Operand.tmp 3), type := 27, pos := "ref.go:67", after := #[], guard := none }) (v := _) rfl (by kernel_rfl) (by kernel_rfl) (by kernel_rfl) (fun _ _ _ h => h) (by kernel_rfl) (Or.inl ⟨by rfl, ?hy2⟩) hS0 ?rest2
                  case hy2 => (intro W hSw; go_simp; try (with_reducible rfl))
                  try simp only [Act.put, List.setIfInBounds_toArray, List.set_cons_zero, List.set_cons_succ]
                  refine' wpAnyD_take (i := 2) (oi := { dst := some 54, op := Go.Op.call { callee := Go.Callee.builtin Go.Builtin.len, args := #[Go.Operand.tmp 53], argTypes := #[27] }, type := 3, pos := "ref.go:67", after := #[{ on := 1, ground := Go.Ground.data }], guard := none }) (v := _) rfl (by kernel_rfl) (by kernel_rfl) (by kernel_rfl) (fun _ _ _ h => h) (by kernel_rfl) (Or.inl ⟨by rfl, ?hy3⟩) hS0 ?rest3
                  case hy3 => (intro W hSw; go_simp; try (with_reducible rfl))
                  try simp only [Act.put, List.setIfInBounds_toArray, List.set_cons_zero, List.set_cons_succ]
                  refine' wpAnyD_take (i := 3) (oi := { dst := some 55, op := Go.Op.binOp Go.BinOp.lss 3 (Go.Operand.tmp 52) (Go.Operand.tmp 54) 3, type := 4, pos := "ref.go:67", after := #[{ on := 0, ground := Go.Ground.data }, { on := 2, ground := Go.Ground.data }], guard := none }) (v := _) rfl (by kernel_rfl) (by kernel_rfl) (by kernel_rfl) (fun _ _ _ h => h) (by kernel_rfl) (Or.inl ⟨by rfl, ?hy4⟩) hS0 ?rest4
                  case hy4 => (intro W hSw; go_simp; try (with_reducible rfl))
                  try simp only [Act.put, List.setIfInBounds_toArray, List.set_cons_zero, List.set_cons_succ]
                  refine' wpAnyD_take (i := 4) (oi := { dst := some 56, op := Go.Op.move (Go.Operand.tmp 55), type := 4, pos := "ref.go:67", after := #[{ on := 3, ground := Go.Ground.data }], guard := none }) (v := _) rfl (by kernel_rfl) (by kernel_rfl) (by kernel_rfl) (fun _ _ _ h => h) (by kernel_rfl) (Or.inl ⟨by rfl, ?hy5⟩) hS0 ?rest5
                  case hy5 => (intro W hSw; go_simp; try (with_reducible rfl))
                  try simp only [Act.put, List.setIfInBounds_toArray, List.set_cons_zero, List.set_cons_succ]
                  refine' wpAnyD_take (i := 5) (oi := { dst := some 57, op := Go.Op.fieldAddr 47 (Go.Operand.tmp 5) 0, type := 0, pos := "ref.go:67", after := #[{ on := 4, ground := Go.Ground.guard }], guard := some (4, true) }) (v := _) rfl (by kernel_rfl) (by kernel_rfl) (by kernel_rfl) (fun _ _ _ h => h) (by kernel_rfl) (Or.inl ⟨by rfl, ?hy6⟩) hS0 ?rest6
                  case hy6 => (intro W hSw; go_simp; try (with_reducible rfl))
                  try simp only [Act.put, List.setIfInBounds_toArray, List.set_cons_zero, List.set_cons_succ]
                  refine' wpAnyD_take (i := 6) (oi := { dst := some 58, op := Go.Op.load 35 (Go.Operand.tmp 57), type := 35, pos := "ref.go:67", after := #[{ on := 5, ground := Go.Ground.data }, { on := 4, ground := Go.Ground.guard }], guard := some (4, true) }) (v := _) rfl (by kernel_rfl) (by kernel_rfl) (by kernel_rfl) (fun _ _ _ h => h) (by kernel_rfl) (Or.inl ⟨by rfl, ?hy7⟩) hS0 ?rest7
                  case hy7 => (intro W hSw; have h0 := (hSw.cell z8).trans f0; have h1 := (hSw.cell z8).trans f1; have h2 := (hSw.cell z8).trans f2; have h3 := (hSw.cell z8).trans f3; go_simp; try (with_reducible rfl))
                  try simp only [Act.put, List.setIfInBounds_toArray, List.set_cons_zero, List.set_cons_succ]
                  refine' wpAnyD_take (i := 7) (oi := { dst := some 59, op := Go.Op.move (Go.Operand.tmp 3), type := 27, pos := "ref.go:67", after := #[{ on := 4, ground := Go.Ground.guard }], guard := some (4, true) }) (v := _) rfl (by kernel_rfl) (by kernel_rfl) (by kernel_rfl) (fun _ _ _ h => h) (by kernel_rfl) (Or.inl ⟨by rfl, ?hy8⟩) hS0 ?rest8
                  case hy8 => (intro W hSw; go_simp; try (with_reducible rfl))
                  try simp only [Act.put, List.setIfInBounds_toArray, List.set_cons_zero, List.set_cons_succ]
                  refine' wpAnyD_take (i := 8) (oi := { dst := some 60, op := Go.Op.move (Go.Operand.tmp 10), type := 3, pos := "ref.go:67", after := #[{ on := 4, ground := Go.Ground.guard }], guard := some (4, true) }) (v := _) rfl (by kernel_rfl) (by kernel_rfl) (by kernel_rfl) (fun _ _ _ h => h) (by kernel_rfl) (Or.inl ⟨by rfl, ?hy9⟩) hS0 ?rest9
                  case hy9 => (intro W hSw; go_simp; try (with_reducible rfl))
                  try simp only [Act.put, List.setIfInBounds_toArray, List.set_cons_zero, List.set_cons_succ]
                  refine' wpAnyD_take (i := 9) (oi := { dst := some 61, op := Go.Op.indexAddr 27 (Go.Operand.tmp 59) (Go.Operand.tmp 60), type := 0, pos := "ref.go:67", after := #[{ on := 7, ground := Go.Ground.data }, { on := 8, ground := Go.Ground.data }, { on := 4, ground := Go.Ground.guard }], guard := some (4, true) }) (v := _) rfl (by kernel_rfl) (by kernel_rfl) (by kernel_rfl) (fun _ _ _ h => h) (by kernel_rfl) (Or.inl ⟨by rfl, ?hy10⟩) hS0 ?rest10
                  case hy10 => (intro W hSw; go_simp; try (with_reducible rfl))
                  try simp only [Act.put, List.setIfInBounds_toArray, List.set_cons_zero, List.set_cons_succ]
                  refine' wpAnyD_take (i := 10) (oi := { dst := some 62, op := Go.Op.fieldAddr 47 (Go.Operand.tmp 61) 0, type := 0, pos := "ref.go:67", after := #[{ on := 9, ground := Go.Ground.data }, { on := 4, ground := Go.Ground.guard }], guard := some (4, true) }) (v := _) rfl (by kernel_rfl) (by kernel_rfl) (by kernel_rfl) (fun _ _ _ h => h) (by kernel_rfl) (Or.inl ⟨by rfl, ?hy11⟩) hS0 ?rest11
                  case hy11 => (intro W hSw; go_simp; try (with_reducible rfl))
                  try simp only [Act.put, List.setIfInBounds_toArray, List.set_cons_zero, List.set_cons_succ]
                  refine' wpAnyD_take (i := 11) (oi := { dst := some 63, op := Go.Op.load 35 (Go.Operand.tmp 62), type := 35, pos := "ref.go:67", after := #[{ on := 10, ground := Go.Ground.data }, { on := 4, ground := Go.Ground.guard }], guard := some (4, true) }) (v := _) rfl (by kernel_rfl) (by kernel_rfl) (by kernel_rfl) (fun _ _ _ h => h) (by kernel_rfl) (Or.inl ⟨by rfl, ?hy12⟩) hS0 ?rest12
                  case hy12 => (intro W hSw; have h0 := (hSw.cell z2).trans x0; have h1 := (hSw.cell z2).trans x1; have h2 := (hSw.cell z2).trans x2; have h3 := (hSw.cell z2).trans x3; go_simp; try (with_reducible rfl))
                  try simp only [Act.put, List.setIfInBounds_toArray, List.set_cons_zero, List.set_cons_succ]
                  refine wpAnyD_one (i := 12) (o := { dst := some 64, op := Go.Op.call { callee := Go.Callee.value (Go.Operand.func 40), args := #[Go.Operand.tmp 58, Go.Operand.tmp 63], argTypes := #[35, 35] }, type := 4, pos := "ref.go:67", after := #[{ on := 6, ground := Go.Ground.data }, { on := 11, ground := Go.Ground.data }, { on := 4, ground := Go.Ground.chain }, { on := 4, ground := Go.Ground.guard }], guard := some (4, true) }) (by kernel_rfl) rfl (fun K hK => ?_)
                  go_simp
                  refine (hbj _).mono ?_
                  rintro e w8 ⟨rfl, g8⟩
                  have hS8 := hS0.trans g8
                  clear g8
                  go_wp2_with fail
                  refine hK.out _ _ (fun hD => hS8) ?_
                  clear hK K
                  try simp only [Act.put, List.setIfInBounds_toArray, List.set_cons_zero, List.set_cons_succ]
                  refine' wpAnyD_take (i := 13) (oi := { dst := some 65, op := Go.Op.pick (Go.Operand.tmp 56) (Go.Operand.tmp 64) (Go.Operand.const (Go.Value.bool false)), type := 4, pos := "ref.go:67", after := #[{ on := 4, ground := Go.Ground.data }, { on := 12, ground := Go.Ground.data }], guard := none }) (v := _) rfl (by kernel_rfl) (by kernel_rfl) (by kernel_rfl) (fun _ _ _ h => h) (by kernel_rfl) (Or.inl ⟨by rfl, ?hy14⟩) hS8 ?rest14
                  case hy14 => (intro W hSw; go_simp; try (with_reducible rfl))
                  try simp only [Act.put, List.setIfInBounds_toArray, List.set_cons_zero, List.set_cons_succ]
                  refine wpAnyD_done (by kernel_rfl) ?_ _
                  have hjj : j < jj := by
                    rcases Nat.lt_or_ge j jj with h | h
                    · exact h
                    · have e : j = jj := Nat.le_antisymm hj h
                      have := hjn.out _ (by rw [← e]; exact HY.out)
                      rw [hsl] at this
                      cases this
                  go_wp2_with fail
                  go_roundw
                  case rel => exact ⟨j + 1, by omega, by go_num, HGR.out.trans hS8⟩
                  case measure => simp [RowKit.intOf]; omega
                | false =>
                  simp only [hsl] at hbj
                  refine wp_regionD (S := fun W => Gr wr W) (D := []) hmx ?_
                  refine' wpAnyD_take (i := 0) (oi := { dst := some 52, op := Go.Op.move (Go.Operand.tmp 10), type := 3, pos := "ref.go:67", after := #[], guard := none }) (v := _) rfl (by kernel_rfl) (by kernel_rfl) (by kernel_rfl) (fun _ _ _ h => h) (by kernel_rfl) (Or.inl ⟨by rfl, ?hy15⟩) hS0 ?rest15
                  case hy15 => (intro W hSw; go_simp; try (with_reducible rfl))
                  try simp only [Act.put, List.setIfInBounds_toArray, List.set_cons_zero, List.set_cons_succ]
                  refine' wpAnyD_take (i := 1) (oi := { dst := some 53, op := Go.Op.move (Go.Operand.tmp 3), type := 27, pos := "ref.go:67", after := #[], guard := none }) (v := _) rfl (by kernel_rfl) (by kernel_rfl) (by kernel_rfl) (fun _ _ _ h => h) (by kernel_rfl) (Or.inl ⟨by rfl, ?hy16⟩) hS0 ?rest16
                  case hy16 => (intro W hSw; go_simp; try (with_reducible rfl))
                  try simp only [Act.put, List.setIfInBounds_toArray, List.set_cons_zero, List.set_cons_succ]
                  refine' wpAnyD_take (i := 2) (oi := { dst := some 54, op := Go.Op.call { callee := Go.Callee.builtin Go.Builtin.len, args := #[Go.Operand.tmp 53], argTypes := #[27] }, type := 3, pos := "ref.go:67", after := #[{ on := 1, ground := Go.Ground.data }], guard := none }) (v := _) rfl (by kernel_rfl) (by kernel_rfl) (by kernel_rfl) (fun _ _ _ h => h) (by kernel_rfl) (Or.inl ⟨by rfl, ?hy17⟩) hS0 ?rest17
                  case hy17 => (intro W hSw; go_simp; try (with_reducible rfl))
                  try simp only [Act.put, List.setIfInBounds_toArray, List.set_cons_zero, List.set_cons_succ]
                  refine' wpAnyD_take (i := 3) (oi := { dst := some 55, op := Go.Op.binOp Go.BinOp.lss 3 (Go.Operand.tmp 52) (Go.Operand.tmp 54) 3, type := 4, pos := "ref.go:67", after := #[{ on := 0, ground := Go.Ground.data }, { on := 2, ground := Go.Ground.data }], guard := none }) (v := _) rfl (by kernel_rfl) (by kernel_rfl) (by kernel_rfl) (fun _ _ _ h => h) (by kernel_rfl) (Or.inl ⟨by rfl, ?hy18⟩) hS0 ?rest18
                  case hy18 => (intro W hSw; go_simp; try (with_reducible rfl))
                  try simp only [Act.put, List.setIfInBounds_toArray, List.set_cons_zero, List.set_cons_succ]
                  refine' wpAnyD_take (i := 4) (oi := { dst := some 56, op := Go.Op.move (Go.Operand.tmp 55), type := 4, pos := "ref.go:67", after := #[{ on := 3, ground := Go.Ground.data }], guard := none }) (v := _) rfl (by kernel_rfl) (by kernel_rfl) (by kernel_rfl) (fun _ _ _ h => h) (by kernel_rfl) (Or.inl ⟨by rfl, ?hy19⟩) hS0 ?rest19
                  case hy19 => (intro W hSw; go_simp; try (with_reducible rfl))
                  try simp only [Act.put, List.setIfInBounds_toArray, List.set_cons_zero, List.set_cons_succ]
                  refine' wpAnyD_take (i := 5) (oi := { dst := some 57, op := Go.Op.fieldAddr 47 (Go.Operand.tmp 5) 0, type := 0, pos := "ref.go:67", after := #[{ on := 4, ground := Go.Ground.guard }], guard := some (4, true) }) (v := _) rfl (by kernel_rfl) (by kernel_rfl) (by kernel_rfl) (fun _ _ _ h => h) (by kernel_rfl) (Or.inl ⟨by rfl, ?hy20⟩) hS0 ?rest20
                  case hy20 => (intro W hSw; go_simp; try (with_reducible rfl))
                  try simp only [Act.put, List.setIfInBounds_toArray, List.set_cons_zero, List.set_cons_succ]
                  refine' wpAnyD_take (i := 6) (oi := { dst := some 58, op := Go.Op.load 35 (Go.Operand.tmp 57), type := 35, pos := "ref.go:67", after := #[{ on := 5, ground := Go.Ground.data }, { on := 4, ground := Go.Ground.guard }], guard := some (4, true) }) (v := _) rfl (by kernel_rfl) (by kernel_rfl) (by kernel_rfl) (fun _ _ _ h => h) (by kernel_rfl) (Or.inl ⟨by rfl, ?hy21⟩) hS0 ?rest21
                  case hy21 => (intro W hSw; have h0 := (hSw.cell z8).trans f0; have h1 := (hSw.cell z8).trans f1; have h2 := (hSw.cell z8).trans f2; have h3 := (hSw.cell z8).trans f3; go_simp; try (with_reducible rfl))
                  try simp only [Act.put, List.setIfInBounds_toArray, List.set_cons_zero, List.set_cons_succ]
                  refine' wpAnyD_take (i := 7) (oi := { dst := some 59, op := Go.Op.move (Go.Operand.tmp 3), type := 27, pos := "ref.go:67", after := #[{ on := 4, ground := Go.Ground.guard }], guard := some (4, true) }) (v := _) rfl (by kernel_rfl) (by kernel_rfl) (by kernel_rfl) (fun _ _ _ h => h) (by kernel_rfl) (Or.inl ⟨by rfl, ?hy22⟩) hS0 ?rest22
                  case hy22 => (intro W hSw; go_simp; try (with_reducible rfl))
                  try simp only [Act.put, List.setIfInBounds_toArray, List.set_cons_zero, List.set_cons_succ]
                  refine' wpAnyD_take (i := 8) (oi := { dst := some 60, op := Go.Op.move (Go.Operand.tmp 10), type := 3, pos := "ref.go:67", after := #[{ on := 4, ground := Go.Ground.guard }], guard := some (4, true) }) (v := _) rfl (by kernel_rfl) (by kernel_rfl) (by kernel_rfl) (fun _ _ _ h => h) (by kernel_rfl) (Or.inl ⟨by rfl, ?hy23⟩) hS0 ?rest23
                  case hy23 => (intro W hSw; go_simp; try (with_reducible rfl))
                  try simp only [Act.put, List.setIfInBounds_toArray, List.set_cons_zero, List.set_cons_succ]
                  refine' wpAnyD_take (i := 9) (oi := { dst := some 61, op := Go.Op.indexAddr 27 (Go.Operand.tmp 59) (Go.Operand.tmp 60), type := 0, pos := "ref.go:67", after := #[{ on := 7, ground := Go.Ground.data }, { on := 8, ground := Go.Ground.data }, { on := 4, ground := Go.Ground.guard }], guard := some (4, true) }) (v := _) rfl (by kernel_rfl) (by kernel_rfl) (by kernel_rfl) (fun _ _ _ h => h) (by kernel_rfl) (Or.inl ⟨by rfl, ?hy24⟩) hS0 ?rest24
                  case hy24 => (intro W hSw; go_simp; try (with_reducible rfl))
                  try simp only [Act.put, List.setIfInBounds_toArray, List.set_cons_zero, List.set_cons_succ]
                  refine' wpAnyD_take (i := 10) (oi := { dst := some 62, op := Go.Op.fieldAddr 47 (Go.Operand.tmp 61) 0, type := 0, pos := "ref.go:67", after := #[{ on := 9, ground := Go.Ground.data }, { on := 4, ground := Go.Ground.guard }], guard := some (4, true) }) (v := _) rfl (by kernel_rfl) (by kernel_rfl) (by kernel_rfl) (fun _ _ _ h => h) (by kernel_rfl) (Or.inl ⟨by rfl, ?hy25⟩) hS0 ?rest25
                  case hy25 => (intro W hSw; go_simp; try (with_reducible rfl))
                  try simp only [Act.put, List.setIfInBounds_toArray, List.set_cons_zero, List.set_cons_succ]
                  refine' wpAnyD_take (i := 11) (oi := { dst := some 63, op := Go.Op.load 35 (Go.Operand.tmp 62), type := 35, pos := "ref.go:67", after := #[{ on := 10, ground := Go.Ground.data }, { on := 4, ground := Go.Ground.guard }], guard := some (4, true) }) (v := _) rfl (by kernel_rfl) (by kernel_rfl) (by kernel_rfl) (fun _ _ _ h => h) (by kernel_rfl) (Or.inl ⟨by rfl, ?hy26⟩) hS0 ?rest26
                  case hy26 => (intro W hSw; have h0 := (hSw.cell z2).trans x0; have h1 := (hSw.cell z2).trans x1; have h2 := (hSw.cell z2).trans x2; have h3 := (hSw.cell z2).trans x3; go_simp; try (with_reducible rfl))
                  try simp only [Act.put, List.setIfInBounds_toArray, List.set_cons_zero, List.set_cons_succ]
                  refine wpAnyD_one (i := 12) (o := { dst := some 64, op := Go.Op.call { callee := Go.Callee.value (Go.Operand.func 40), args := #[Go.Operand.tmp 58, Go.Operand.tmp 63], argTypes := #[35, 35] }, type := 4, pos := "ref.go:67", after := #[{ on := 6, ground := Go.Ground.data }, { on := 11, ground := Go.Ground.data }, { on := 4, ground := Go.Ground.chain }, { on := 4, ground := Go.Ground.guard }], guard := some (4, true) }) (by kernel_rfl) rfl (fun K hK => ?_)
                  go_simp
                  refine (hbj _).mono ?_
                  rintro e w8 ⟨rfl, g8⟩
                  have hS8 := hS0.trans g8
                  clear g8
                  go_wp2_with fail
                  refine hK.out _ _ (fun hD => hS8) ?_
                  clear hK K
                  try simp only [Act.put, List.setIfInBounds_toArray, List.set_cons_zero, List.set_cons_succ]
                  refine' wpAnyD_take (i := 13) (oi := { dst := some 65, op := Go.Op.pick (Go.Operand.tmp 56) (Go.Operand.tmp 64) (Go.Operand.const (Go.Value.bool false)), type := 4, pos := "ref.go:67", after := #[{ on := 4, ground := Go.Ground.data }, { on := 12, ground := Go.Ground.data }], guard := none }) (v := _) rfl (by kernel_rfl) (by kernel_rfl) (by kernel_rfl) (fun _ _ _ h => h) (by kernel_rfl) (Or.inl ⟨by rfl, ?hy28⟩) hS8 ?rest28
                  case hy28 => (intro W hSw; go_simp; try (with_reducible rfl))
                  try simp only [Act.put, List.setIfInBounds_toArray, List.set_cons_zero, List.set_cons_succ]
                  refine wpAnyD_done (by kernel_rfl) ?_ _
                  have hje : j = jj := by
                    rcases Nat.lt_or_ge j jj with h | h
                    · obtain ⟨y, hy, hs⟩ := hja.out j h
                      have : y = (t, n) := Option.some.inj (hy.symm.trans HY.out)
                      rw [this, hsl] at hs
                      cases hs
                    · exact Nat.le_antisymm hj h
                  subst hje
                  have GE := hid (HGR.out.trans hS8)
                  clear HGR hS8 hS0 x0 x1 x2 x3 x4
                  go_wp2_with fail
                  go_meet
                  exact ⟨rfl, GE.out⟩
              · have hltz : ¬ (j : Int) < (out.length : Int) := by omega
                have hje : j = jj := by omega
                subst hje
                have hS0 : Gr wr wr.drew := (Gr.refl wr).drew
                have HGR := hid hgr
                clear hgr
                go_upto_region 14 with fail
                refine wp_regionD (S := fun W => Gr wr W) (D := []) hmx ?_
                refine' wpAnyD_take (i := 0) (oi := { dst := some 52, op := Go.Op.move (Go.Operand.tmp 10), type := 3, pos := "ref.go:67", after := #[], guard := none }) (v := _) rfl (by kernel_rfl) (by kernel_rfl) (by kernel_rfl) (fun _ _ _ h => h) (by kernel_rfl) (Or.inl ⟨by rfl, ?hy29⟩) hS0 ?rest29
                case hy29 => (intro W hSw; go_simp; try (with_reducible rfl))
                try simp only [Act.put, List.setIfInBounds_toArray, List.set_cons_zero, List.set_cons_succ]
                refine' wpAnyD_take (i := 1) (oi := { dst := some 53, op := Go.Op.move (Go.Operand.tmp 3), type := 27, pos := "ref.go:67", after := #[], guard := none }) (v := _) rfl (by kernel_rfl) (by kernel_rfl) (by kernel_rfl) (fun _ _ _ h => h) (by kernel_rfl) (Or.inl ⟨by rfl, ?hy30⟩) hS0 ?rest30
                case hy30 => (intro W hSw; go_simp; try (with_reducible rfl))
                try simp only [Act.put, List.setIfInBounds_toArray, List.set_cons_zero, List.set_cons_succ]
                refine' wpAnyD_take (i := 2) (oi := { dst := some 54, op := Go.Op.call { callee := Go.Callee.builtin Go.Builtin.len, args := #[Go.Operand.tmp 53], argTypes := #[27] }, type := 3, pos := "ref.go:67", after := #[{ on := 1, ground := Go.Ground.data }], guard := none }) (v := _) rfl (by kernel_rfl) (by kernel_rfl) (by kernel_rfl) (fun _ _ _ h => h) (by kernel_rfl) (Or.inl ⟨by rfl, ?hy31⟩) hS0 ?rest31
                case hy31 => (intro W hSw; go_simp; try (with_reducible rfl))
                try simp only [Act.put, List.setIfInBounds_toArray, List.set_cons_zero, List.set_cons_succ]
                refine' wpAnyD_take (i := 3) (oi := { dst := some 55, op := Go.Op.binOp Go.BinOp.lss 3 (Go.Operand.tmp 52) (Go.Operand.tmp 54) 3, type := 4, pos := "ref.go:67", after := #[{ on := 0, ground := Go.Ground.data }, { on := 2, ground := Go.Ground.data }], guard := none }) (v := _) rfl (by kernel_rfl) (by kernel_rfl) (by kernel_rfl) (fun _ _ _ h => h) (by kernel_rfl) (Or.inl ⟨by rfl, ?hy32⟩) hS0 ?rest32
                case hy32 => (intro W hSw; go_simp; try (with_reducible rfl))
                try simp only [Act.put, List.setIfInBounds_toArray, List.set_cons_zero, List.set_cons_succ]
                refine' wpAnyD_take (i := 4) (oi := { dst := some 56, op := Go.Op.move (Go.Operand.tmp 55), type := 4, pos := "ref.go:67", after := #[{ on := 3, ground := Go.Ground.data }], guard := none }) (v := _) rfl (by kernel_rfl) (by kernel_rfl) (by kernel_rfl) (fun _ _ _ h => h) (by kernel_rfl) (Or.inl ⟨by rfl, ?hy33⟩) hS0 ?rest33
                case hy33 => (intro W hSw; go_simp; try (with_reducible rfl))
                try simp only [Act.put, List.setIfInBounds_toArray, List.set_cons_zero, List.set_cons_succ]
                refine' wpAnyD_take (i := 5) (oi := { dst := some 57, op := Go.Op.fieldAddr 47 (Go.Operand.tmp 5) 0, type := 0, pos := "ref.go:67", after := #[{ on := 4, ground := Go.Ground.guard }], guard := some (4, true) }) (v := undef) rfl (by kernel_rfl) (by kernel_rfl) (by kernel_rfl) (fun _ _ _ h => h) (by kernel_rfl) (Or.inr ⟨by rfl, rfl⟩) hS0 ?rest34
                try simp only [Act.put, List.setIfInBounds_toArray, List.set_cons_zero, List.set_cons_succ]
                refine' wpAnyD_take (i := 6) (oi := { dst := some 58, op := Go.Op.load 35 (Go.Operand.tmp 57), type := 35, pos := "ref.go:67", after := #[{ on := 5, ground := Go.Ground.data }, { on := 4, ground := Go.Ground.guard }], guard := some (4, true) }) (v := undef) rfl (by kernel_rfl) (by kernel_rfl) (by kernel_rfl) (fun _ _ _ h => h) (by kernel_rfl) (Or.inr ⟨by rfl, rfl⟩) hS0 ?rest35
                try simp only [Act.put, List.setIfInBounds_toArray, List.set_cons_zero, List.set_cons_succ]
                refine' wpAnyD_take (i := 7) (oi := { dst := some 59, op := Go.Op.move (Go.Operand.tmp 3), type := 27, pos := "ref.go:67", after := #[{ on := 4, ground := Go.Ground.guard }], guard := some (4, true) }) (v := undef) rfl (by kernel_rfl) (by kernel_rfl) (by kernel_rfl) (fun _ _ _ h => h) (by kernel_rfl) (Or.inr ⟨by rfl, rfl⟩) hS0 ?rest36
                try simp only [Act.put, List.setIfInBounds_toArray, List.set_cons_zero, List.set_cons_succ]
                refine' wpAnyD_take (i := 8) (oi := { dst := some 60, op := Go.Op.move (Go.Operand.tmp 10), type := 3, pos := "ref.go:67", after := #[{ on := 4, ground := Go.Ground.guard }], guard := some (4, true) }) (v := undef) rfl (by kernel_rfl) (by kernel_rfl) (by kernel_rfl) (fun _ _ _ h => h) (by kernel_rfl) (Or.inr ⟨by rfl, rfl⟩) hS0 ?rest37
                try simp only [Act.put, List.setIfInBounds_toArray, List.set_cons_zero, List.set_cons_succ]
                refine' wpAnyD_take (i := 9) (oi := { dst := some 61, op := Go.Op.indexAddr 27 (Go.Operand.tmp 59) (Go.Operand.tmp 60), type := 0, pos := "ref.go:67", after := #[{ on := 7, ground := Go.Ground.data }, { on := 8, ground := Go.Ground.data }, { on := 4, ground := Go.Ground.guard }], guard := some (4, true) }) (v := undef) rfl (by kernel_rfl) (by kernel_rfl) (by kernel_rfl) (fun _ _ _ h => h) (by kernel_rfl) (Or.inr ⟨by rfl, rfl⟩) hS0 ?rest38
                try simp only [Act.put, List.setIfInBounds_toArray, List.set_cons_zero, List.set_cons_succ]
                refine' wpAnyD_take (i := 10) (oi := { dst := some 62, op := Go.Op.fieldAddr 47 (Go.Operand.tmp 61) 0, type := 0, pos := "ref.go:67", after := #[{ on := 9, ground := Go.Ground.data }, { on := 4, ground := Go.Ground.guard }], guard := some (4, true) }) (v := undef) rfl (by kernel_rfl) (by kernel_rfl) (by kernel_rfl) (fun _ _ _ h => h) (by kernel_rfl) (Or.inr ⟨by rfl, rfl⟩) hS0 ?rest39
                try simp only [Act.put, List.setIfInBounds_toArray, List.set_cons_zero, List.set_cons_succ]
                refine' wpAnyD_take (i := 11) (oi := { dst := some 63, op := Go.Op.load 35 (Go.Operand.tmp 62), type := 35, pos := "ref.go:67", after := #[{ on := 10, ground := Go.Ground.data }, { on := 4, ground := Go.Ground.guard }], guard := some (4, true) }) (v := undef) rfl (by kernel_rfl) (by kernel_rfl) (by kernel_rfl) (fun _ _ _ h => h) (by kernel_rfl) (Or.inr ⟨by rfl, rfl⟩) hS0 ?rest40
                try simp only [Act.put, List.setIfInBounds_toArray, List.set_cons_zero, List.set_cons_succ]
                refine' wpAnyD_take (i := 12) (oi := { dst := some 64, op := Go.Op.call { callee := Go.Callee.value (Go.Operand.func 40), args := #[Go.Operand.tmp 58, Go.Operand.tmp 63], argTypes := #[35, 35] }, type := 4, pos := "ref.go:67", after := #[{ on := 6, ground := Go.Ground.data }, { on := 11, ground := Go.Ground.data }, { on := 4, ground := Go.Ground.chain }, { on := 4, ground := Go.Ground.guard }], guard := some (4, true) }) (v := undef) rfl (by kernel_rfl) (by kernel_rfl) (by kernel_rfl) (fun _ _ _ h => h) (by kernel_rfl) (Or.inr ⟨by rfl, rfl⟩) hS0 ?rest41
                try simp only [Act.put, List.setIfInBounds_toArray, List.set_cons_zero, List.set_cons_succ]
                refine' wpAnyD_take (i := 13) (oi := { dst := some 65, op := Go.Op.pick (Go.Operand.tmp 56) (Go.Operand.tmp 64) (Go.Operand.const (Go.Value.bool false)), type := 4, pos := "ref.go:67", after := #[{ on := 4, ground := Go.Ground.data }, { on := 12, ground := Go.Ground.data }], guard := none }) (v := _) rfl (by kernel_rfl) (by kernel_rfl) (by kernel_rfl) (fun _ _ _ h => h) (by kernel_rfl) (Or.inl ⟨by rfl, ?hy42⟩) hS0 ?rest42
                case hy42 => (intro W hSw; go_simp; try (with_reducible rfl))
                try simp only [Act.put, List.setIfInBounds_toArray, List.set_cons_zero, List.set_cons_succ]
                refine wpAnyD_done (by kernel_rfl) ?_ _
                have GE := hid (HGR.out.trans hS0)
                clear HGR hS0
                go_wp2_with fail
                go_meet
                exact ⟨rfl, GE.out⟩
          · have NX' : Hid (rch L (k + 1) = rch L k) := by have h := NX.out; rw [if_neg hq] at h; exact h
            have R8 : Hid (w7.ownsRow w.heap.size 47 5 (.slice po (rch L (k + 1)).length co) (rch L (k + 1)).length (fl EC (rch L (k + 1)))) := by rw [NX'.out]; exact R7.out
            have HIL := hid (show k + 1 ≤ L.length by omega)
            clear NX R7
            cases hq1 : fst1 L k s with
            | false =>
              clear hq
              go_wp2_with fail
              go_roundw
              case rel => exact ⟨k + 1, _, _, HIL.out, by go_num, by rw [NX'.out], R8.out, B7.out⟩
              case measure => simp [RowKit.intOf]; omega
            | true =>
              have hq2 : smf L s = 0 := Classical.byContradiction fun h => hq ⟨hq1, h⟩
              clear hq
              rw [hq2]
              go_wp2_with fail
              go_roundw
              case rel => exact ⟨k + 1, _, _, HIL.out, by go_num, by rw [NX'.out], R8.out, B7.out⟩
              case measure => simp [RowKit.intOf]; omega
    · have hltz : ¬ (i : Int) < (L.length : Int) := by omega
      have hie : i = L.length := by omega
      subst hie
      go_wp2
      go_ret
      exact ⟨_, rfl, HR.out, HB.out⟩
end Go.Proofs.Ytcmgmgnmhhkdgaa
