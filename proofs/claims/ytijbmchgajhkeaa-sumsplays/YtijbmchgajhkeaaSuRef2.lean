import Derived.Test.YtijbmchgajhkeaaSuRef
import Derived.Test.YtijbmchgajhkeaaSuKp0
import Derived.Test.YtijbmchgajhkeaaLStep2
import Derived.Deep.CutBlock
namespace Go.Proofs.Ytijbmchgajhkeaa
open Go.RowKit Go.Sort Go.Maps Go.Shelf
attribute [local go_sem ↓] Go.wp_at_zero Go.wp_at_succ
section
variable {α : Type} {p : α → Bool} {l : List α}
/-- How many stand ahead. -/
def ah (p : α → Bool) : List α → Nat
  | [] => 0
  | y :: l => if p y = true then ah p l + 1 else 0
theorem ah_le (p : α → Bool) (l : List α) : ah p l ≤ l.length := by
  induction l with
  | nil => exact Nat.le_refl _
  | cons y l ih => unfold ah; split <;> simp <;> omega
theorem ah_lt {j : Nat} (h : j < ah p l) : ∃ y, l[j]? = some y ∧ p y = true := by
  induction l generalizing j with
  | nil => simp [ah] at h
  | cons y l ih =>
    unfold ah at h
    split at h
    · rename_i hy
      cases j with
      | zero => exact ⟨y, rfl, hy⟩
      | succ j => exact ih (by omega)
    · omega
theorem ah_at {y : α} (h : l[ah p l]? = some y) : p y = false := by
  induction l with
  | nil => simp at h
  | cons x l ih =>
    unfold ah at h
    split at h
    · exact ih (by simpa using h)
    · rename_i hx
      have : x = y := by simpa using h
      subst this
      simpa using hx
theorem take_ah (l : List α) : l.takeWhile p = l.take (ah p l) ∧ l.dropWhile p = l.drop (ah p l) := by
  induction l with
  | nil => exact ⟨rfl, rfl⟩
  | cons y l ih =>
    unfold ah
    by_cases hy : p y = true
    · rw [if_pos hy, List.takeWhile_cons_of_pos hy, List.dropWhile_cons_of_pos hy, ih.1, ih.2]
      exact ⟨rfl, rfl⟩
    · rw [if_neg hy, List.takeWhile_cons_of_neg hy, List.dropWhile_cons_of_neg hy]
      exact ⟨rfl, rfl⟩
end
theorem ins_ah {α : Type} (lt : α → α → Prop) [DecidableRel lt] (x : α) (l : List α) : ins lt x l = l.take (ah (fun y => decide (lt y x)) l) ++ x :: l.drop (ah (fun y => decide (lt y x)) l) := by
  unfold ins
  rw [(take_ah l).1, (take_ah l).2]
theorem ar_ok {α : Type} {out : List α} {jj : Nat} {x : α} (h : jj ≤ out.length) (hl : out.length ≤ 1000) : (1 + (out.drop jj).length) * 24 ≤ 140737488355328 ∧ 1 + (out.drop jj).length ≤ maxLen ∧ (0 + (out.take jj).length) * 24 ≤ 140737488355328 ∧ 0 + (out.take jj).length ≤ maxLen ∧ ((out.take jj).length + (x :: out.drop jj).length) * 24 ≤ 140737488355328 ∧ (out.take jj).length + (x :: out.drop jj).length ≤ maxLen ∧ (1 + (out.drop jj).length) * 16 ≤ 140737488355328 ∧ (0 + (out.take jj).length) * 16 ≤ 140737488355328 ∧ ((out.take jj).length + (x :: out.drop jj).length) * 16 ≤ 140737488355328 := by
  rw [List.length_drop, List.length_take, List.length_cons, List.length_drop]
  unfold maxLen
  omega
set_option maxHeartbeats 2000000 in
theorem rcopy_any {S : Nat → Prop} {rb : Nat} {A : List Ct} (w : World) (h : Rs w S rb A) (hA : A.length ≤ 1000000) :
    Calls Try.prog 19 #[.pointer (some ⟨rb, 0, none⟩)] w fun e w' => ∃ rc, e = .returned (.pointer (some ⟨rc, 0, none⟩)) ∧ Hid (Rs w' (fun k => w.heap.size ≤ k) rc A ∧ Below w.heap.size w w') := by
  obtain ⟨v, h1, h2, h3, h4⟩ := h
  obtain ⟨p, c, hv⟩ := owns_form h3
  subst hv
  obtain ⟨n, hn⟩ : ∃ n, n = A.length := ⟨_, rfl⟩
  rw [← hn] at h1 h3 hA
  have HN := hid hn
  have G1 : Gr w (w.alloc (.cells #[] 39)) := (Gr.refl _).alloc _
  have HO : Hid ((w.alloc (.cells #[] 39)).ownsRow w.heap.size 39 5 (.slice (some ⟨w.heap.size, 0, none⟩) 0 0) 0 []) := World.ownsRow_made w #[] 0 (Nat.le_refl _) (by unfold maxLen; omega) rfl
  have c0 : w.cell? ⟨rb, 0, none⟩ = some (.slice p n c) := by simp [World.cell?, h1]
  have hlt := (Array.getElem?_eq_some_iff.1 h1).1
  have HL : Hid (Ls EC (w.alloc (.cells #[] 39)) (.slice p n c) A) := owns_ls (E := EC) (owns_re (owns_below h3 G1.below) hn rfl)
  have HG := hid G1
  have hbd : (0 + A.length) * 40 ≤ 140737488355328 ∧ 0 + A.length ≤ maxLen := by unfold maxLen; omega
  clear h1 h2 h3 h4 hn G1
  go_enter Try.func19, Try.ntmps19
  go_wp2_with (at_builtin; refine wpAppL EC Try.underlying22 infoC rfl (by decide) rfl _ _ rfl w.heap.size (.slice (some ⟨w.heap.size, 0, none⟩) 0 0) 0 [] rfl HO.out (.slice p n c) A rfl HL.out hbd.1 hbd.2 (by simp) ?_)
  intro v2 w2 ho2 hg2
  have hk := Kp.grownBy (S := fun k => k = w.heap.size) hg2 (fun k hk => by simpa [Value.ownBlock] using hk.symm)
  have HB2 : Hid (Below w.heap.size w w2) := HG.out.below.trans (hk.below HG.out.size (fun k hk => by rw [hk]; exact Nat.le_refl _))
  have HO2 : Hid (w2.ownsRow w.heap.size 39 5 v2 A.length (fl EC A)) := owns_re ho2 (by first | rfl | omega) (by first | rfl | simp)
  obtain ⟨p2, c2, hv2⟩ := owns_form HO2.out
  subst hv2
  clear ho2 hg2 hk
  go_wp2_with fail
  go_ret
  refine ⟨_, rfl, ⟨_, heap_new' _ _, HB2.out.size, (owns_base HO2.out (Nat.zero_le _)).alloc _, fun g hg => (HO2.out.lt g hg).1⟩, HB2.out.trans (((Gr.refl w2).alloc _).below.mono HB2.out.size)⟩
set_option maxHeartbeats 8000000 in
set_option maxRecDepth 100000 in
theorem rtimes_any {S : Nat → Prop} {rb : Nat} {A : List Ct} (w : World) (h : Rs w S rb A) (hl : A.length ≤ 1000) :
    Calls Try.prog 21 #[.pointer (some ⟨rb, 0, none⟩)] w fun e w' => ∃ v', e = .returned v' ∧ w'.ownsRow w.heap.size 32 3 v' (tms A).length (fl ET (tms A)) ∧ Below w.heap.size w w' := by
  have hmx : Try.prog.follows .mixedOrders = true := by kernel_rfl
  obtain ⟨v, h1, h2, h3, h4⟩ := h
  obtain ⟨p, c, hv⟩ := owns_form h3
  subst hv
  obtain ⟨n, hn⟩ : ∃ n, n = A.length := ⟨_, rfl⟩
  rw [← hn] at h1 h3 hl
  have HNA := hid hn
  have HL0 : Hid (Ls EC w (.slice p n c) A) := owns_ls (E := EC) (owns_re h3 hn rfl)
  have HBK : Hid (w.heap[rb]? = some (.cells #[.slice p n c] 52 (0, 0))) := h1
  have HRZ := hid (Array.getElem?_eq_some_iff.1 h1).1
  have hcap := (owns_cap h3).1
  have c0 : w.cell? ⟨rb, 0, none⟩ = some (.slice p n c) := by simp [World.cell?, h1]
  have hlt := (Array.getElem?_eq_some_iff.1 h1).1
  have hbE := fun (a b : Tm) W => rbefore_any a b W
  clear h1 h2 h3 h4 hn
  go_enter Try.func21, Try.ntmps21
  go_wp2_with fail
  go_loopw [3, 16] (fun s3 s16 wr => ∃ (i : Nat) (po : Option Addr) (co : Nat), i ≤ n ∧ s16 = .int .i64 (i : Nat) ∧ s3 = .slice po (tms (A.take i)).length co ∧ Hid (wr.ownsRow w.heap.size 32 3 (.slice po (tms (A.take i)).length co) (tms (A.take i)).length (fl ET (tms (A.take i)))) ∧ Hid (Below w.heap.size w wr)) (fun _ s16 _ => n - (RowKit.intOf s16).toNat)
  case atStart => exact ⟨0, none, 0, Nat.zero_le _, rfl, rfl, World.ownsRow_nil _ _ _ _, Below.refl _ _⟩
  case round =>
    clear c0 hlt
    obtain ⟨i, po, co, hi, rfl, rfl, HR, HB⟩ := hrel
    by_cases hlti : i < n
    · have hltz : (i : Int) < (n : Int) := by omega
      have hi0 : (0 : Int) ≤ (i : Int) := by omega
      have hic : (i : Int) ≤ (c : Int) := by omega
      obtain ⟨x, hx⟩ : ∃ x, A[i]? = some x := ⟨A[i]'(by have := HNA.out; omega), by simp⟩
      have L1 : Ls EC wr (.slice p n c) A := HL0.out.kept HB.out.size fun g hg => HB.out.block g (HL0.out.blk g hg)
      obtain ⟨b1, o1, c1, e1, z1, x0, x1, x2, x3, x4⟩ := L1.atC hx
      simp only [Value.slice.injEq] at e1
      obtain ⟨rfl, -, rfl⟩ := e1
      obtain ⟨W5, hW5⟩ : ∃ W, W = wr.alloc (.cells #[.int .u64 x.1.1.1, .int .u64 x.1.1.2.1, .int .u64 x.1.1.2.2, .int .u64 x.2.1.1, .int .u64 x.2.2.1] 39) := ⟨_, rfl⟩
      have G5 : Gr wr W5 := by rw [hW5]; exact (Gr.refl _).alloc _
      have bO : W5.heap[wr.heap.size]? = some (.cells #[.int .u64 x.1.1.1, .int .u64 x.1.1.2.1, .int .u64 x.1.1.2.2, .int .u64 x.2.1.1, .int .u64 x.2.2.1] 39 (0, 0)) := by rw [hW5]; exact heap_new' _ _
      obtain ⟨a0, a1, a2, a3, a4, z5⟩ := cg_cell bO
      have HB5 := hid (HB.out.trans (G5.below.mono HB.out.size))
      have c5 : W5.cell? ⟨rb, 0, none⟩ = some (.slice (some ⟨b1, o1, none⟩) n c) := by simp [World.cell?, (HB5.out.block rb HRZ.out).trans HBK.out]
      have z5r := Nat.lt_of_lt_of_le HRZ.out HB5.out.size
      have HR5 := hid (owns_below HR.out G5.below)
      have LB5 := hid ((L1.below G5.below).cut (k := i) (by have := HNA.out; omega) c)
      have NX : Hid (tms (A.take (i + 1)) = if Hld (A.take i) x.1 then tms (A.take i) else ins ltT x.1 (tms (A.take i))) := by
        show _ = _
        rw [← take_snoc hx, tms_snoc]
        by_cases hq : Hld (A.take i) x.1
        · rw [if_pos hq, if_pos ((mem_tms _ _).2 hq)]
        · rw [if_neg hq, if_neg (fun h => hq ((mem_tms _ _).1 h))]
      have hil : i ≤ 1000 := by omega
      have hcapr := (owns_cap HR.out).1
      have hrl : (tms (A.take i)).length ≤ i := Nat.le_trans (tms_len _) (by rw [List.length_take]; omega)
      go_upto_region 5 with fail
      rw [show wr.alloc (.cells #[.int .u64 x.1.1.1, .int .u64 x.1.1.2.1, .int .u64 x.1.1.2.2, .int .u64 x.2.1.1, .int .u64 x.2.2.1] 39) = W5 from hW5.symm]
      obtain ⟨B5, hB5⟩ : ∃ B, B = wr.heap.size := ⟨_, rfl⟩
      rw [← hB5] at bO z5 a0 a1 a2 a3 a4 ⊢
      clear hW5 hB5 x0 x1 x2 x3 x4 z1 G5 HR HB L1 hx bO a3 a4
      go_wp2_with fail
      go_loopw [6, 28] (fun s6 s28 wr => ∃ k : Nat, k ≤ i ∧ s28 = .int .i64 (k : Nat) ∧ s6 = .bool (!decide (Hld (A.take k) x.1)) ∧ Gr W5 wr) (fun _ s28 _ => i - (RowKit.intOf s28).toNat)
      case atStart => exact ⟨0, Nat.zero_le _, rfl, by rw [decide_eq_false (fun ⟨c, hc, _⟩ => by cases hc)]; rfl, Gr.refl _⟩
      case round =>
        obtain ⟨k, hk, rfl, rfl, hgr⟩ := hrel
        have d0 := (hgr.cell z5).trans a0
        have d1 := (hgr.cell z5).trans a1
        have d2 := (hgr.cell z5).trans a2
        have z6 := Nat.lt_of_lt_of_le z5 hgr.size
        by_cases hltk : k < i
        · have hltz : (k : Int) < (i : Int) := by omega
          have hk0 : (0 : Int) ≤ (k : Int) := by omega
          obtain ⟨y, hy⟩ : ∃ y, A[k]? = some y := ⟨A[k]'(by have := HNA.out; omega), by simp⟩
          obtain ⟨b2, o2, c2, e2, z2, x0, x1, x2, x3, x4⟩ := (LB5.out.below hgr.below).atC (j := k) (p := y) (by rw [List.getElem?_take_of_lt hltk]; exact hy)
          simp only [Value.slice.injEq, Option.some.injEq, Addr.mk.injEq, and_true] at e2
          obtain ⟨⟨rfl, rfl⟩, -, rfl⟩ := e2
          have HN : Hid (Hld (A.take (k + 1)) x.1 ↔ Hld (A.take k) x.1 ∨ y.1 = x.1) := by
            show _ ↔ _
            rw [← take_snoc hy, hld_snoc]
          have heq := fun W => run_eqd y.1 x.1 W
          have HGR := hid hgr
          clear hy hgr
          by_cases hq : Hld (A.take k) x.1
          · have HN' : Hid ((!decide (Hld (A.take (k + 1)) x.1)) = false) := by show _ = _; rw [decide_eq_true (HN.out.2 (.inl hq))]; rfl
            rw [decide_eq_true hq]
            clear hq HN heq
            go_wp2_with fail
            go_roundw
            case rel => exact ⟨k + 1, by omega, by go_num, by rw [HN'.out], HGR.out.alloc _⟩
            case measure => simp [RowKit.intOf]; omega
          · rw [decide_eq_false hq]
            by_cases he : y.1 = x.1
            · rw [decide_eq_true he] at heq
              have HN' : Hid ((!decide (Hld (A.take (k + 1)) x.1)) = false) := by show _ = _; rw [decide_eq_true (HN.out.2 (.inr he))]; rfl
              clear he hq HN
              go_wp2_with fail
              go_roundw
              case rel => exact ⟨k + 1, by omega, by go_num, by rw [HN'.out], HGR.out.alloc _⟩
              case measure => simp [RowKit.intOf]; omega
            · rw [decide_eq_false he] at heq
              have HN' : Hid ((!decide (Hld (A.take (k + 1)) x.1)) = true) := by show _ = _; rw [decide_eq_false (fun h => (HN.out.1 h).elim hq he)]; rfl
              clear he hq HN
              go_wp2_with fail
              go_roundw
              case rel => exact ⟨k + 1, by omega, by go_num, by rw [HN'.out], HGR.out.alloc _⟩
              case measure => simp [RowKit.intOf]; omega
        · have hltz : ¬ (k : Int) < (i : Int) := by omega
          have hki : k = i := by omega
          subst hki
          obtain ⟨w7, hw7⟩ : ∃ w7, w7 = wr := ⟨_, rfl⟩
          rw [← hw7] at hgr d0 d1 d2 z6 ⊢
          have G7 := hid hgr
          have z7 := z6
          have R7 := hid (owns_below HR5.out G7.out.below)
          have B7 := hid (HB5.out.trans (G7.out.below.mono HB5.out.size))
          clear HR5 HB5 LB5 c5 z5r hgr hw7 z6
          by_cases hq : Hld (A.take k) x.1
          · have NX' : Hid (tms (A.take (k + 1)) = tms (A.take k)) := by have h := NX.out; rw [if_pos hq] at h; exact h
            have R8 : Hid (w7.ownsRow w.heap.size 32 3 (.slice po (tms (A.take (k + 1))).length co) (tms (A.take (k + 1))).length (fl ET (tms (A.take (k + 1))))) := by rw [NX'.out]; exact R7.out
            have HIL := hid (show k + 1 ≤ n by omega)
            rw [decide_eq_true hq]
            clear NX R7 hq
            go_wp2_with fail
            go_roundw
            case rel => exact ⟨k + 1, _, _, HIL.out, by go_num, by rw [NX'.out], R8.out, B7.out⟩
            case measure => simp [RowKit.intOf]; omega
          · have NX' : Hid (tms (A.take (k + 1)) = ins ltT x.1 (tms (A.take k))) := by have h := NX.out; rw [if_neg hq] at h; exact h
            rw [decide_eq_false hq]
            clear hq NX
            generalize tms (A.take k) = out at *
            obtain ⟨jj, hjj⟩ : ∃ j, j = ah (fun y => tol y x.1) out := ⟨_, rfl⟩
            have hjl : jj ≤ out.length := by rw [hjj]; exact ah_le _ out
            have hja : Hid (∀ j, j < jj → ∃ y, out[j]? = some y ∧ tol y x.1 = true) := fun j h => ah_lt (p := fun y => tol y x.1) (by rw [← hjj]; exact h)
            have hjn : Hid (∀ y, out[jj]? = some y → tol y x.1 = false) := fun y h => ah_at (p := fun y => tol y x.1) (by rw [← hjj]; exact h)
            have NX2 : Hid (tms (A.take (k + 1)) = out.take jj ++ x.1 :: out.drop jj) := by
              show _ = _
              rw [NX'.out, ins_ah, hjj]
              have : (fun y => decide (ltT y x.1)) = fun y => tol y x.1 := funext fun y => Bool.eq_iff_iff.2 (by rw [decide_eq_true_iff]; exact Iff.rfl)
              rw [this]
            have LS7 := hid (owns_lst R7.out)
            clear NX' hjj
            go_upto_block 4 with fail
            go_cut [9] (fun s9 w' => s9 = .int .i64 (jj : Nat) ∧ Hid (Gr w7 w'))
            case rest =>
              obtain ⟨rfl, GE⟩ := hcut
              obtain ⟨WE, hWE⟩ : ∃ W, W = wc := ⟨_, rfl⟩
              rw [← hWE] at GE ⊢
              clear hWE hja hjn hbE
              have f0 := (GE.out.cell z7).trans d0
              have f1 := (GE.out.cell z7).trans d1
              have f2 := (GE.out.cell z7).trans d2
              have zE := Nat.lt_of_lt_of_le z7 GE.out.size
              have RE := hid (owns_below R7.out GE.out.below)
              have BE := hid (B7.out.trans (GE.out.below.mono B7.out.size))
              have hjz : (jj : Int) ≤ (out.length : Int) := by omega
              have hj0 : (0 : Int) ≤ (jj : Int) := by omega
              have hcc := (owns_cap RE.out).1
              have hcz : (out.length : Int) ≤ (co : Int) := by omega
              have hjcz : (jj : Int) ≤ (co : Int) := by omega
              have hol : out.length ≤ 1000 := by omega
              have ARI := hid (ar_ok (x := x.1) hjl hol)
              have AR0 := hid (ar_ok (x := x.1) hjl hol)
              obtain ⟨n10, hn10⟩ : ∃ n, n = (out.take jj).length := ⟨_, rfl⟩
              obtain ⟨n9, hn9⟩ : ∃ n, n = 1 + (out.drop jj).length := ⟨_, rfl⟩
              have eN : n9 = (x.1 :: out.drop jj).length := by rw [hn9, List.length_cons, Nat.add_comm]
              have eM : n10 + (x.1 :: out.drop jj).length = (tms (A.take (k + 1))).length := by rw [NX2.out, List.length_append, hn10]
              rw [← hn10] at ARI
              have HN := hid (And.intro hn10 (And.intro hn9 (And.intro eN eM)))
              clear hn10 hn9 eN eM
              have HIL := hid (show k + 1 ≤ n by omega)
              have HJL := hid hjl
              clear d0 d1 d2 z7 R7 B7 LS7 GE a0 a1 a2 z5 G7 hjl hol hrl hil hcc
              rcases RE.out.2 with ⟨hnil, h00⟩ | ⟨g, cap, cur, hv, hgb, hh, hc1, hc2, hsz, htk⟩
              · simp only [Value.slice.injEq] at hnil
                obtain ⟨rfl, -, rfl⟩ := hnil
                have hout : out = [] := List.eq_nil_of_length_eq_zero h00
                subst hout
                obtain rfl : jj = 0 := Nat.le_zero.1 HJL.out
                have LD := hid (show Ls ET WE.drew (.slice none 0 0) (([] : List Tm).drop 0) from Ls.nil _)
                have LT := hid (show Ls ET WE (.slice none 0 0) (([] : List Tm).take 0) from Ls.nil _)
                have hS0 : (fun W : World => W.cell? ⟨B5, 0, none⟩ = some (.int .u64 x.1.1.1) ∧ W.cell? ⟨B5, 1, none⟩ = some (.int .u64 x.1.1.2.1) ∧ W.cell? ⟨B5, 2, none⟩ = some (.int .u64 x.1.1.2.2)) WE.drew := ⟨f0, f1, f2⟩
                have zD : B5 < WE.drew.heap.size := zE
                go_upto_region 15 with fail
                refine wp_regionD (S := fun W => W.cell? ⟨B5, 0, none⟩ = some (.int .u64 x.1.1.1) ∧ W.cell? ⟨B5, 1, none⟩ = some (.int .u64 x.1.1.2.1) ∧ W.cell? ⟨B5, 2, none⟩ = some (.int .u64 x.1.1.2.2)) (D := []) hmx ?_
                refine' wpAnyD_take (i := 0) (oi := { dst := some 58, op := Go.Op.fieldAddr 39 (Go.Operand.tmp 5) 0, type := 0, pos := "ref.go:57", after := #[], guard := none }) (v := _) rfl (by kernel_rfl) (by kernel_rfl) (by kernel_rfl) (fun _ _ _ h => h) (by kernel_rfl) (Or.inl ⟨by rfl, ?hy40⟩) hS0 ?rest40
                case hy40 => (intro W hSw; go_simp; try (with_reducible rfl))
                try simp only [Act.put, List.setIfInBounds_toArray, List.set_cons_zero, List.set_cons_succ]
                refine' wpAnyD_take (i := 1) (oi := { dst := some 59, op := Go.Op.load 32 (Go.Operand.tmp 58), type := 32, pos := "ref.go:57", after := #[{ on := 0, ground := Go.Ground.data }], guard := none }) (v := _) rfl (by kernel_rfl) (by kernel_rfl) (by kernel_rfl) (fun _ _ _ h => h) (by kernel_rfl) (Or.inl ⟨by rfl, ?hy41⟩) hS0 ?rest41
                case hy41 => (intro W hSw; obtain ⟨s0, s1, s2⟩ := hSw; go_simp; try (with_reducible rfl))
                try simp only [Act.put, List.setIfInBounds_toArray, List.set_cons_zero, List.set_cons_succ]
                refine' wpAnyD_take (i := 3) (oi := { dst := some 61, op := Go.Op.move (Go.Operand.tmp 3), type := 23, pos := "ref.go:57", after := #[], guard := none }) (v := _) rfl (by kernel_rfl) (by kernel_rfl) (by kernel_rfl) (fun _ _ _ h => h) (by kernel_rfl) (Or.inl ⟨by rfl, ?hy42⟩) hS0 ?rest42
                case hy42 => (intro W hSw; go_simp; try (with_reducible rfl))
                try simp only [Act.put, List.setIfInBounds_toArray, List.set_cons_zero, List.set_cons_succ]
                refine' wpAnyD_take (i := 4) (oi := { dst := some 62, op := Go.Op.move (Go.Operand.tmp 9), type := 3, pos := "ref.go:57", after := #[], guard := none }) (v := _) rfl (by kernel_rfl) (by kernel_rfl) (by kernel_rfl) (fun _ _ _ h => h) (by kernel_rfl) (Or.inl ⟨by rfl, ?hy43⟩) hS0 ?rest43
                case hy43 => (intro W hSw; go_simp; try (with_reducible rfl))
                try simp only [Act.put, List.setIfInBounds_toArray, List.set_cons_zero, List.set_cons_succ]
                refine' wpAnyD_take (i := 5) (oi := { dst := some 63, op := Go.Op.slice 23 (Go.Operand.tmp 61) (some (Go.Operand.tmp 62)) none none, type := 23, pos := "ref.go:57", after := #[{ on := 3, ground := Go.Ground.data }, { on := 4, ground := Go.Ground.data }], guard := none }) (v := _) rfl (by kernel_rfl) (by kernel_rfl) (by kernel_rfl) (fun _ _ _ h => h) (by kernel_rfl) (Or.inl ⟨by rfl, ?hy44⟩) hS0 ?rest44
                case hy44 => (intro W hSw; go_simp; try (with_reducible rfl))
                try simp only [Act.put, List.setIfInBounds_toArray, List.set_cons_zero, List.set_cons_succ]
                refine wpAnyD_one (i := 2) (o := { dst := some 60, op := Go.Op.buildSlice 23 1 #[(0, Go.Operand.tmp 59)], type := 23, pos := "ref.go:57", after := #[{ on := 1, ground := Go.Ground.data }], guard := none }) (by kernel_rfl) rfl (fun K hK => ?_)
                go_simp
                have gb := (Gr.refl WE.drew).alloc (.cells #[.int .u64 x.1.1.1, .int .u64 x.1.1.2.1, .int .u64 x.1.1.2.2] 32)
                have hS4 : (fun W => W.cell? ⟨B5, 0, none⟩ = some (.int .u64 x.1.1.1) ∧ W.cell? ⟨B5, 1, none⟩ = some (.int .u64 x.1.1.2.1) ∧ W.cell? ⟨B5, 2, none⟩ = some (.int .u64 x.1.1.2.2)) (WE.drew.alloc (.cells #[.int .u64 x.1.1.1, .int .u64 x.1.1.2.1, .int .u64 x.1.1.2.2] 32)) := ⟨(gb.cell zD).trans f0, (gb.cell zD).trans f1, (gb.cell zD).trans f2⟩
                have RW4 : Hid ((WE.drew.alloc (.cells #[.int .u64 x.1.1.1, .int .u64 x.1.1.2.1, .int .u64 x.1.1.2.2] 32)).ownsRow w.heap.size 32 3 (.slice (some ⟨WE.drew.heap.size, 0, none⟩) 1 1) 1 (ET.enc x.1)) := World.ownsRow_lit (base := w.heap.size) (e := 32) (size := 3) WE.drew #[.int .u64 x.1.1.1, .int .u64 x.1.1.2.1, .int .u64 x.1.1.2.2] 1 BE.out.size (by unfold maxLen; omega) rfl
                have GB4 := hid gb
                clear gb
                refine hK.out _ _ (fun hD => hS4) ?_
                clear hK K
                try simp only [Act.put, List.setIfInBounds_toArray, List.set_cons_zero, List.set_cons_succ]
                refine wpAnyD_one (i := 6) (o := { dst := some 64, op := Go.Op.call { callee := Go.Callee.builtin Go.Builtin.append, args := #[Go.Operand.tmp 60, Go.Operand.tmp 63], argTypes := #[23, 23] }, type := 23, pos := "ref.go:57", after := #[{ on := 2, ground := Go.Ground.data }, { on := 5, ground := Go.Ground.data }], guard := none }) (by kernel_rfl) rfl (fun K hK => ?_)
                refine step_appL ET Try.underlying23 infoTm rfl (by decide) rfl _ _ rfl w.heap.size (.slice (some ⟨WE.drew.heap.size, 0, none⟩) 1 1) 1 _ rfl RW4.out (Nat.le_trans BE.out.size GB4.out.size) _ (([] : List Tm).drop 0) rfl (LD.out.below GB4.out.below) ARI.out.1 ARI.out.2.1 ?_
                intro v9 w9 HO9 HG9
                rw [← HN.out.2.1] at HO9
                obtain ⟨p9, c9, rfl⟩ := owns_form HO9.out
                have K9 := hid (Kp.grownBy (S := fun k => k = WE.drew.heap.size) HG9.out (fun k hk => by simpa [Value.ownBlock] using hk.symm))
                have B9 : Hid (Below WE.heap.size WE w9) := ((Gr.refl WE).drew.below.trans GB4.out.below).trans (K9.out.below GB4.out.size (fun k hk => by rw [hk]; exact Nat.le_refl _))
                have hS9 : (fun W => W.cell? ⟨B5, 0, none⟩ = some (.int .u64 x.1.1.1) ∧ W.cell? ⟨B5, 1, none⟩ = some (.int .u64 x.1.1.2.1) ∧ W.cell? ⟨B5, 2, none⟩ = some (.int .u64 x.1.1.2.2)) w9 := ⟨(B9.out.cell (p := ⟨B5, 0, none⟩) zE).trans f0, (B9.out.cell (p := ⟨B5, 1, none⟩) zE).trans f1, (B9.out.cell (p := ⟨B5, 2, none⟩) zE).trans f2⟩
                refine hK.out _ _ (fun hD => hS9) ?_
                clear hK K
                try simp only [Act.put, List.setIfInBounds_toArray, List.set_cons_zero, List.set_cons_succ]
                refine' wpAnyD_take (i := 7) (oi := { dst := some 10, op := Go.Op.assign (Go.Operand.tmp 64), type := 23, pos := "ref.go:57", after := #[{ on := 6, ground := Go.Ground.data }, { on := 6, ground := Go.Ground.chain }, { on := 0, ground := Go.Ground.phase }, { on := 1, ground := Go.Ground.phase }, { on := 2, ground := Go.Ground.phase }, { on := 3, ground := Go.Ground.phase }, { on := 4, ground := Go.Ground.phase }, { on := 5, ground := Go.Ground.phase }, { on := 6, ground := Go.Ground.phase }], guard := none }) (v := _) rfl (by kernel_rfl) (by kernel_rfl) (by kernel_rfl) (fun _ _ _ h => h) (by kernel_rfl) (Or.inl ⟨by rfl, ?hy47⟩) hS9 ?rest47
                case hy47 => (intro W hSw; go_simp; try (with_reducible rfl))
                try simp only [Act.put, List.setIfInBounds_toArray, List.set_cons_zero, List.set_cons_succ]
                refine wpAnyD_done (by kernel_rfl) ?_ _
                have L9 : Hid (Ls ET w9 (.slice p9 n9 c9) (x.1 :: ([] : List Tm).drop 0)) := owns_ls (E := ET) (by rw [fl_cons, ← HN.out.2.2.1]; exact HO9.out)
                have T9 := hid (LT.out.below B9.out)
                have BW9 := hid (BE.out.trans (B9.out.mono BE.out.size))
                clear HO9 HG9 K9 B9 hS0 hS4 hS9 RW4 GB4 LD LT f0 f1 f2
                go_wp2_with (first
                  | (at_builtin; refine wpAppL (E := ET) Try.underlying23 infoTm rfl (by decide) rfl _ _ rfl w.heap.size (.slice (some ⟨w9.heap.size, 0, none⟩) 0 0) 0 [] rfl (World.ownsRow_made w9 #[] 0 BW9.out.size (by unfold maxLen; omega) rfl) _ (([] : List Tm).take 0) rfl (T9.out.below ((Gr.refl w9).alloc _).below) AR0.out.2.2.1 AR0.out.2.2.2.1 (Nat.le_trans BW9.out.size ((Gr.refl w9).alloc _).size) ?_; intro v10 w10 ho10 hg10; rw [Nat.zero_add, List.nil_append, ← HN.out.1] at ho10; obtain ⟨p10, c10, rfl⟩ := owns_form ho10
                     have b10 : Below w9.heap.size w9 w10 := ((Gr.refl w9).alloc _).below.trans ((Kp.grownBy (S := fun k => k = w9.heap.size) hg10 (fun k hk => by simpa [Value.ownBlock] using hk.symm)).below ((Gr.refl w9).alloc _).size (fun k hk => by rw [hk]; exact Nat.le_refl _))
                     have L10 := L9.out.below b10)
                  | (at_builtin; refine wpAppL (E := ET) Try.underlying23 infoTm rfl (by decide) rfl _ _ rfl w.heap.size (.slice p10 n10 c10) n10 _ rfl ho10 _ (x.1 :: ([] : List Tm).drop 0) rfl L10 ARI.out.2.2.2.2.1 ARI.out.2.2.2.2.2.1 (Nat.le_trans BW9.out.size b10.size) ?_; intro v11 w11 ho11 hg11; rw [HN.out.2.2.2] at ho11; obtain ⟨p11, c11, rfl⟩ := owns_form ho11)
                  | go_in)
                have BW10 := hid (BW9.out.trans (b10.mono BW9.out.size))
                have B11 : Hid (Below w.heap.size w w11) := BW10.out.trans ((Kp.grownBy (S := fun k => (Value.slice p10 n10 c10).ownBlock = some k) hg11 (fun _ h => h)).below BW10.out.size (fun k hk => (ho10.lt k hk).1))
                have R11 : Hid (w11.ownsRow w.heap.size 32 3 (.slice p11 (tms (A.take (k + 1))).length c11) (tms (A.take (k + 1))).length (fl ET (tms (A.take (k + 1))))) := by
                  have h := ho11
                  rw [← fl_append, ← NX2.out] at h
                  exact h
                clear ho10 hg10 ho11 hg11 b10 L10 L9 T9 BW9 BW10 NX2 ARI
                go_wp2_with fail
                go_roundw
                case rel => exact ⟨k + 1, _, _, HIL.out, by go_num, rfl, R11.out, B11.out⟩
                case measure => simp [RowKit.intOf]; omega
              · simp only [Value.slice.injEq] at hv
                obtain ⟨rfl, -, rfl⟩ := hv
                clear hh hsz hgb hc1 hc2 htk
                by_cases hcq : co = jj
                · have ho1 : jj = out.length := Nat.le_antisymm HJL.out (hcq ▸ (owns_cap RE.out).1)
                  subst ho1
                  subst hcq
                  have LD := hid (show Ls ET WE.drew (.slice (some ⟨g, 0, none⟩) 0 0) (out.drop out.length) from by have h := ((owns_ls (E := ET) RE.out).below (Gr.refl WE).drew.below).void (k := out.length) (Nat.le_refl _) 0; rw [Nat.sub_self] at h; exact h)
                  have LT := hid (show Ls ET WE (.slice (some ⟨g, 0, none⟩) out.length out.length) (out.take out.length) from (owns_ls (E := ET) RE.out).cut HJL.out out.length)
                  have hS0 : (fun W : World => W.cell? ⟨B5, 0, none⟩ = some (.int .u64 x.1.1.1) ∧ W.cell? ⟨B5, 1, none⟩ = some (.int .u64 x.1.1.2.1) ∧ W.cell? ⟨B5, 2, none⟩ = some (.int .u64 x.1.1.2.2)) WE.drew := ⟨f0, f1, f2⟩
                  have zD : B5 < WE.drew.heap.size := zE
                  go_upto_region 15 with fail
                  refine wp_regionD (S := fun W => W.cell? ⟨B5, 0, none⟩ = some (.int .u64 x.1.1.1) ∧ W.cell? ⟨B5, 1, none⟩ = some (.int .u64 x.1.1.2.1) ∧ W.cell? ⟨B5, 2, none⟩ = some (.int .u64 x.1.1.2.2)) (D := []) hmx ?_
                  refine' wpAnyD_take (i := 0) (oi := { dst := some 58, op := Go.Op.fieldAddr 39 (Go.Operand.tmp 5) 0, type := 0, pos := "ref.go:57", after := #[], guard := none }) (v := _) rfl (by kernel_rfl) (by kernel_rfl) (by kernel_rfl) (fun _ _ _ h => h) (by kernel_rfl) (Or.inl ⟨by rfl, ?hy48⟩) hS0 ?rest48
                  case hy48 => (intro W hSw; go_simp; try (with_reducible rfl))
                  try simp only [Act.put, List.setIfInBounds_toArray, List.set_cons_zero, List.set_cons_succ]
                  refine' wpAnyD_take (i := 1) (oi := { dst := some 59, op := Go.Op.load 32 (Go.Operand.tmp 58), type := 32, pos := "ref.go:57", after := #[{ on := 0, ground := Go.Ground.data }], guard := none }) (v := _) rfl (by kernel_rfl) (by kernel_rfl) (by kernel_rfl) (fun _ _ _ h => h) (by kernel_rfl) (Or.inl ⟨by rfl, ?hy49⟩) hS0 ?rest49
                  case hy49 => (intro W hSw; obtain ⟨s0, s1, s2⟩ := hSw; go_simp; try (with_reducible rfl))
                  try simp only [Act.put, List.setIfInBounds_toArray, List.set_cons_zero, List.set_cons_succ]
                  refine' wpAnyD_take (i := 3) (oi := { dst := some 61, op := Go.Op.move (Go.Operand.tmp 3), type := 23, pos := "ref.go:57", after := #[], guard := none }) (v := _) rfl (by kernel_rfl) (by kernel_rfl) (by kernel_rfl) (fun _ _ _ h => h) (by kernel_rfl) (Or.inl ⟨by rfl, ?hy50⟩) hS0 ?rest50
                  case hy50 => (intro W hSw; go_simp; try (with_reducible rfl))
                  try simp only [Act.put, List.setIfInBounds_toArray, List.set_cons_zero, List.set_cons_succ]
                  refine' wpAnyD_take (i := 4) (oi := { dst := some 62, op := Go.Op.move (Go.Operand.tmp 9), type := 3, pos := "ref.go:57", after := #[], guard := none }) (v := _) rfl (by kernel_rfl) (by kernel_rfl) (by kernel_rfl) (fun _ _ _ h => h) (by kernel_rfl) (Or.inl ⟨by rfl, ?hy51⟩) hS0 ?rest51
                  case hy51 => (intro W hSw; go_simp; try (with_reducible rfl))
                  try simp only [Act.put, List.setIfInBounds_toArray, List.set_cons_zero, List.set_cons_succ]
                  refine' wpAnyD_take (i := 5) (oi := { dst := some 63, op := Go.Op.slice 23 (Go.Operand.tmp 61) (some (Go.Operand.tmp 62)) none none, type := 23, pos := "ref.go:57", after := #[{ on := 3, ground := Go.Ground.data }, { on := 4, ground := Go.Ground.data }], guard := none }) (v := _) rfl (by kernel_rfl) (by kernel_rfl) (by kernel_rfl) (fun _ _ _ h => h) (by kernel_rfl) (Or.inl ⟨by rfl, ?hy52⟩) hS0 ?rest52
                  case hy52 => (intro W hSw; go_simp; try (with_reducible rfl))
                  try simp only [Act.put, List.setIfInBounds_toArray, List.set_cons_zero, List.set_cons_succ]
                  refine wpAnyD_one (i := 2) (o := { dst := some 60, op := Go.Op.buildSlice 23 1 #[(0, Go.Operand.tmp 59)], type := 23, pos := "ref.go:57", after := #[{ on := 1, ground := Go.Ground.data }], guard := none }) (by kernel_rfl) rfl (fun K hK => ?_)
                  go_simp
                  have gb := (Gr.refl WE.drew).alloc (.cells #[.int .u64 x.1.1.1, .int .u64 x.1.1.2.1, .int .u64 x.1.1.2.2] 32)
                  have hS4 : (fun W => W.cell? ⟨B5, 0, none⟩ = some (.int .u64 x.1.1.1) ∧ W.cell? ⟨B5, 1, none⟩ = some (.int .u64 x.1.1.2.1) ∧ W.cell? ⟨B5, 2, none⟩ = some (.int .u64 x.1.1.2.2)) (WE.drew.alloc (.cells #[.int .u64 x.1.1.1, .int .u64 x.1.1.2.1, .int .u64 x.1.1.2.2] 32)) := ⟨(gb.cell zD).trans f0, (gb.cell zD).trans f1, (gb.cell zD).trans f2⟩
                  have RW4 : Hid ((WE.drew.alloc (.cells #[.int .u64 x.1.1.1, .int .u64 x.1.1.2.1, .int .u64 x.1.1.2.2] 32)).ownsRow w.heap.size 32 3 (.slice (some ⟨WE.drew.heap.size, 0, none⟩) 1 1) 1 (ET.enc x.1)) := World.ownsRow_lit (base := w.heap.size) (e := 32) (size := 3) WE.drew #[.int .u64 x.1.1.1, .int .u64 x.1.1.2.1, .int .u64 x.1.1.2.2] 1 BE.out.size (by unfold maxLen; omega) rfl
                  have GB4 := hid gb
                  clear gb
                  refine hK.out _ _ (fun hD => hS4) ?_
                  clear hK K
                  try simp only [Act.put, List.setIfInBounds_toArray, List.set_cons_zero, List.set_cons_succ]
                  refine wpAnyD_one (i := 6) (o := { dst := some 64, op := Go.Op.call { callee := Go.Callee.builtin Go.Builtin.append, args := #[Go.Operand.tmp 60, Go.Operand.tmp 63], argTypes := #[23, 23] }, type := 23, pos := "ref.go:57", after := #[{ on := 2, ground := Go.Ground.data }, { on := 5, ground := Go.Ground.data }], guard := none }) (by kernel_rfl) rfl (fun K hK => ?_)
                  refine step_appL ET Try.underlying23 infoTm rfl (by decide) rfl _ _ rfl w.heap.size (.slice (some ⟨WE.drew.heap.size, 0, none⟩) 1 1) 1 _ rfl RW4.out (Nat.le_trans BE.out.size GB4.out.size) _ (out.drop out.length) rfl (LD.out.below GB4.out.below) ARI.out.1 ARI.out.2.1 ?_
                  intro v9 w9 HO9 HG9
                  rw [← HN.out.2.1] at HO9
                  obtain ⟨p9, c9, rfl⟩ := owns_form HO9.out
                  have K9 := hid (Kp.grownBy (S := fun k => k = WE.drew.heap.size) HG9.out (fun k hk => by simpa [Value.ownBlock] using hk.symm))
                  have B9 : Hid (Below WE.heap.size WE w9) := ((Gr.refl WE).drew.below.trans GB4.out.below).trans (K9.out.below GB4.out.size (fun k hk => by rw [hk]; exact Nat.le_refl _))
                  have hS9 : (fun W => W.cell? ⟨B5, 0, none⟩ = some (.int .u64 x.1.1.1) ∧ W.cell? ⟨B5, 1, none⟩ = some (.int .u64 x.1.1.2.1) ∧ W.cell? ⟨B5, 2, none⟩ = some (.int .u64 x.1.1.2.2)) w9 := ⟨(B9.out.cell (p := ⟨B5, 0, none⟩) zE).trans f0, (B9.out.cell (p := ⟨B5, 1, none⟩) zE).trans f1, (B9.out.cell (p := ⟨B5, 2, none⟩) zE).trans f2⟩
                  refine hK.out _ _ (fun hD => hS9) ?_
                  clear hK K
                  try simp only [Act.put, List.setIfInBounds_toArray, List.set_cons_zero, List.set_cons_succ]
                  refine' wpAnyD_take (i := 7) (oi := { dst := some 10, op := Go.Op.assign (Go.Operand.tmp 64), type := 23, pos := "ref.go:57", after := #[{ on := 6, ground := Go.Ground.data }, { on := 6, ground := Go.Ground.chain }, { on := 0, ground := Go.Ground.phase }, { on := 1, ground := Go.Ground.phase }, { on := 2, ground := Go.Ground.phase }, { on := 3, ground := Go.Ground.phase }, { on := 4, ground := Go.Ground.phase }, { on := 5, ground := Go.Ground.phase }, { on := 6, ground := Go.Ground.phase }], guard := none }) (v := _) rfl (by kernel_rfl) (by kernel_rfl) (by kernel_rfl) (fun _ _ _ h => h) (by kernel_rfl) (Or.inl ⟨by rfl, ?hy55⟩) hS9 ?rest55
                  case hy55 => (intro W hSw; go_simp; try (with_reducible rfl))
                  try simp only [Act.put, List.setIfInBounds_toArray, List.set_cons_zero, List.set_cons_succ]
                  refine wpAnyD_done (by kernel_rfl) ?_ _
                  have L9 : Hid (Ls ET w9 (.slice p9 n9 c9) (x.1 :: out.drop out.length)) := owns_ls (E := ET) (by rw [fl_cons, ← HN.out.2.2.1]; exact HO9.out)
                  have T9 := hid (LT.out.below B9.out)
                  have BW9 := hid (BE.out.trans (B9.out.mono BE.out.size))
                  clear HO9 HG9 K9 B9 hS0 hS4 hS9 RW4 GB4 LD LT f0 f1 f2
                  go_wp2_with (first
                    | (at_builtin; refine wpAppL (E := ET) Try.underlying23 infoTm rfl (by decide) rfl _ _ rfl w.heap.size (.slice (some ⟨w9.heap.size, 0, none⟩) 0 0) 0 [] rfl (World.ownsRow_made w9 #[] 0 BW9.out.size (by unfold maxLen; omega) rfl) _ (out.take out.length) rfl (T9.out.below ((Gr.refl w9).alloc _).below) AR0.out.2.2.1 AR0.out.2.2.2.1 (Nat.le_trans BW9.out.size ((Gr.refl w9).alloc _).size) ?_; intro v10 w10 ho10 hg10; rw [Nat.zero_add, List.nil_append, ← HN.out.1] at ho10; obtain ⟨p10, c10, rfl⟩ := owns_form ho10
                       have b10 : Below w9.heap.size w9 w10 := ((Gr.refl w9).alloc _).below.trans ((Kp.grownBy (S := fun k => k = w9.heap.size) hg10 (fun k hk => by simpa [Value.ownBlock] using hk.symm)).below ((Gr.refl w9).alloc _).size (fun k hk => by rw [hk]; exact Nat.le_refl _))
                       have L10 := L9.out.below b10)
                    | (at_builtin; refine wpAppL (E := ET) Try.underlying23 infoTm rfl (by decide) rfl _ _ rfl w.heap.size (.slice p10 n10 c10) n10 _ rfl ho10 _ (x.1 :: out.drop out.length) rfl L10 ARI.out.2.2.2.2.1 ARI.out.2.2.2.2.2.1 (Nat.le_trans BW9.out.size b10.size) ?_; intro v11 w11 ho11 hg11; rw [HN.out.2.2.2] at ho11; obtain ⟨p11, c11, rfl⟩ := owns_form ho11)
                    | go_in)
                  have BW10 := hid (BW9.out.trans (b10.mono BW9.out.size))
                  have B11 : Hid (Below w.heap.size w w11) := BW10.out.trans ((Kp.grownBy (S := fun k => (Value.slice p10 n10 c10).ownBlock = some k) hg11 (fun _ h => h)).below BW10.out.size (fun k hk => (ho10.lt k hk).1))
                  have R11 : Hid (w11.ownsRow w.heap.size 32 3 (.slice p11 (tms (A.take (k + 1))).length c11) (tms (A.take (k + 1))).length (fl ET (tms (A.take (k + 1))))) := by
                    have h := ho11
                    rw [← fl_append, ← NX2.out] at h
                    exact h
                  clear ho10 hg10 ho11 hg11 b10 L10 L9 T9 BW9 BW10 NX2 ARI
                  go_wp2_with fail
                  go_roundw
                  case rel => exact ⟨k + 1, _, _, HIL.out, by go_num, rfl, R11.out, B11.out⟩
                  case measure => simp [RowKit.intOf]; omega
                · skip
                  have LD := hid (show Ls ET WE.drew (.slice (some ⟨g, jj * 3, none⟩) (out.length - jj) (co - jj)) (out.drop jj) from by have h := ((owns_ls (E := ET) RE.out).below (Gr.refl WE).drew.below).tail (k := jj) (co - jj); rw [Nat.zero_add] at h; exact h)
                  have LT := hid (show Ls ET WE (.slice (some ⟨g, 0, none⟩) jj co) (out.take jj) from (owns_ls (E := ET) RE.out).cut HJL.out co)
                  have hS0 : (fun W : World => W.cell? ⟨B5, 0, none⟩ = some (.int .u64 x.1.1.1) ∧ W.cell? ⟨B5, 1, none⟩ = some (.int .u64 x.1.1.2.1) ∧ W.cell? ⟨B5, 2, none⟩ = some (.int .u64 x.1.1.2.2)) WE.drew := ⟨f0, f1, f2⟩
                  have zD : B5 < WE.drew.heap.size := zE
                  go_upto_region 15 with fail
                  refine wp_regionD (S := fun W => W.cell? ⟨B5, 0, none⟩ = some (.int .u64 x.1.1.1) ∧ W.cell? ⟨B5, 1, none⟩ = some (.int .u64 x.1.1.2.1) ∧ W.cell? ⟨B5, 2, none⟩ = some (.int .u64 x.1.1.2.2)) (D := []) hmx ?_
                  refine' wpAnyD_take (i := 0) (oi := { dst := some 58, op := Go.Op.fieldAddr 39 (Go.Operand.tmp 5) 0, type := 0, pos := "ref.go:57", after := #[], guard := none }) (v := _) rfl (by kernel_rfl) (by kernel_rfl) (by kernel_rfl) (fun _ _ _ h => h) (by kernel_rfl) (Or.inl ⟨by rfl, ?hy56⟩) hS0 ?rest56
                  case hy56 => (intro W hSw; go_simp; try (with_reducible rfl))
                  try simp only [Act.put, List.setIfInBounds_toArray, List.set_cons_zero, List.set_cons_succ]
                  refine' wpAnyD_take (i := 1) (oi := { dst := some 59, op := Go.Op.load 32 (Go.Operand.tmp 58), type := 32, pos := "ref.go:57", after := #[{ on := 0, ground := Go.Ground.data }], guard := none }) (v := _) rfl (by kernel_rfl) (by kernel_rfl) (by kernel_rfl) (fun _ _ _ h => h) (by kernel_rfl) (Or.inl ⟨by rfl, ?hy57⟩) hS0 ?rest57
                  case hy57 => (intro W hSw; obtain ⟨s0, s1, s2⟩ := hSw; go_simp; try (with_reducible rfl))
                  try simp only [Act.put, List.setIfInBounds_toArray, List.set_cons_zero, List.set_cons_succ]
                  refine' wpAnyD_take (i := 3) (oi := { dst := some 61, op := Go.Op.move (Go.Operand.tmp 3), type := 23, pos := "ref.go:57", after := #[], guard := none }) (v := _) rfl (by kernel_rfl) (by kernel_rfl) (by kernel_rfl) (fun _ _ _ h => h) (by kernel_rfl) (Or.inl ⟨by rfl, ?hy58⟩) hS0 ?rest58
                  case hy58 => (intro W hSw; go_simp; try (with_reducible rfl))
                  try simp only [Act.put, List.setIfInBounds_toArray, List.set_cons_zero, List.set_cons_succ]
                  refine' wpAnyD_take (i := 4) (oi := { dst := some 62, op := Go.Op.move (Go.Operand.tmp 9), type := 3, pos := "ref.go:57", after := #[], guard := none }) (v := _) rfl (by kernel_rfl) (by kernel_rfl) (by kernel_rfl) (fun _ _ _ h => h) (by kernel_rfl) (Or.inl ⟨by rfl, ?hy59⟩) hS0 ?rest59
                  case hy59 => (intro W hSw; go_simp; try (with_reducible rfl))
                  try simp only [Act.put, List.setIfInBounds_toArray, List.set_cons_zero, List.set_cons_succ]
                  refine' wpAnyD_take (i := 5) (oi := { dst := some 63, op := Go.Op.slice 23 (Go.Operand.tmp 61) (some (Go.Operand.tmp 62)) none none, type := 23, pos := "ref.go:57", after := #[{ on := 3, ground := Go.Ground.data }, { on := 4, ground := Go.Ground.data }], guard := none }) (v := _) rfl (by kernel_rfl) (by kernel_rfl) (by kernel_rfl) (fun _ _ _ h => h) (by kernel_rfl) (Or.inl ⟨by rfl, ?hy60⟩) hS0 ?rest60
                  case hy60 => (intro W hSw; go_simp; try (with_reducible rfl))
                  try simp only [Act.put, List.setIfInBounds_toArray, List.set_cons_zero, List.set_cons_succ]
                  refine wpAnyD_one (i := 2) (o := { dst := some 60, op := Go.Op.buildSlice 23 1 #[(0, Go.Operand.tmp 59)], type := 23, pos := "ref.go:57", after := #[{ on := 1, ground := Go.Ground.data }], guard := none }) (by kernel_rfl) rfl (fun K hK => ?_)
                  go_simp
                  have gb := (Gr.refl WE.drew).alloc (.cells #[.int .u64 x.1.1.1, .int .u64 x.1.1.2.1, .int .u64 x.1.1.2.2] 32)
                  have hS4 : (fun W => W.cell? ⟨B5, 0, none⟩ = some (.int .u64 x.1.1.1) ∧ W.cell? ⟨B5, 1, none⟩ = some (.int .u64 x.1.1.2.1) ∧ W.cell? ⟨B5, 2, none⟩ = some (.int .u64 x.1.1.2.2)) (WE.drew.alloc (.cells #[.int .u64 x.1.1.1, .int .u64 x.1.1.2.1, .int .u64 x.1.1.2.2] 32)) := ⟨(gb.cell zD).trans f0, (gb.cell zD).trans f1, (gb.cell zD).trans f2⟩
                  have RW4 : Hid ((WE.drew.alloc (.cells #[.int .u64 x.1.1.1, .int .u64 x.1.1.2.1, .int .u64 x.1.1.2.2] 32)).ownsRow w.heap.size 32 3 (.slice (some ⟨WE.drew.heap.size, 0, none⟩) 1 1) 1 (ET.enc x.1)) := World.ownsRow_lit (base := w.heap.size) (e := 32) (size := 3) WE.drew #[.int .u64 x.1.1.1, .int .u64 x.1.1.2.1, .int .u64 x.1.1.2.2] 1 BE.out.size (by unfold maxLen; omega) rfl
                  have GB4 := hid gb
                  clear gb
                  refine hK.out _ _ (fun hD => hS4) ?_
                  clear hK K
                  try simp only [Act.put, List.setIfInBounds_toArray, List.set_cons_zero, List.set_cons_succ]
                  refine wpAnyD_one (i := 6) (o := { dst := some 64, op := Go.Op.call { callee := Go.Callee.builtin Go.Builtin.append, args := #[Go.Operand.tmp 60, Go.Operand.tmp 63], argTypes := #[23, 23] }, type := 23, pos := "ref.go:57", after := #[{ on := 2, ground := Go.Ground.data }, { on := 5, ground := Go.Ground.data }], guard := none }) (by kernel_rfl) rfl (fun K hK => ?_)
                  refine step_appL ET Try.underlying23 infoTm rfl (by decide) rfl _ _ rfl w.heap.size (.slice (some ⟨WE.drew.heap.size, 0, none⟩) 1 1) 1 _ rfl RW4.out (Nat.le_trans BE.out.size GB4.out.size) _ (out.drop jj) rfl (LD.out.below GB4.out.below) ARI.out.1 ARI.out.2.1 ?_
                  intro v9 w9 HO9 HG9
                  rw [← HN.out.2.1] at HO9
                  obtain ⟨p9, c9, rfl⟩ := owns_form HO9.out
                  have K9 := hid (Kp.grownBy (S := fun k => k = WE.drew.heap.size) HG9.out (fun k hk => by simpa [Value.ownBlock] using hk.symm))
                  have B9 : Hid (Below WE.heap.size WE w9) := ((Gr.refl WE).drew.below.trans GB4.out.below).trans (K9.out.below GB4.out.size (fun k hk => by rw [hk]; exact Nat.le_refl _))
                  have hS9 : (fun W => W.cell? ⟨B5, 0, none⟩ = some (.int .u64 x.1.1.1) ∧ W.cell? ⟨B5, 1, none⟩ = some (.int .u64 x.1.1.2.1) ∧ W.cell? ⟨B5, 2, none⟩ = some (.int .u64 x.1.1.2.2)) w9 := ⟨(B9.out.cell (p := ⟨B5, 0, none⟩) zE).trans f0, (B9.out.cell (p := ⟨B5, 1, none⟩) zE).trans f1, (B9.out.cell (p := ⟨B5, 2, none⟩) zE).trans f2⟩
                  refine hK.out _ _ (fun hD => hS9) ?_
                  clear hK K
                  try simp only [Act.put, List.setIfInBounds_toArray, List.set_cons_zero, List.set_cons_succ]
                  refine' wpAnyD_take (i := 7) (oi := { dst := some 10, op := Go.Op.assign (Go.Operand.tmp 64), type := 23, pos := "ref.go:57", after := #[{ on := 6, ground := Go.Ground.data }, { on := 6, ground := Go.Ground.chain }, { on := 0, ground := Go.Ground.phase }, { on := 1, ground := Go.Ground.phase }, { on := 2, ground := Go.Ground.phase }, { on := 3, ground := Go.Ground.phase }, { on := 4, ground := Go.Ground.phase }, { on := 5, ground := Go.Ground.phase }, { on := 6, ground := Go.Ground.phase }], guard := none }) (v := _) rfl (by kernel_rfl) (by kernel_rfl) (by kernel_rfl) (fun _ _ _ h => h) (by kernel_rfl) (Or.inl ⟨by rfl, ?hy63⟩) hS9 ?rest63
                  case hy63 => (intro W hSw; go_simp; try (with_reducible rfl))
                  try simp only [Act.put, List.setIfInBounds_toArray, List.set_cons_zero, List.set_cons_succ]
                  refine wpAnyD_done (by kernel_rfl) ?_ _
                  have L9 : Hid (Ls ET w9 (.slice p9 n9 c9) (x.1 :: out.drop jj)) := owns_ls (E := ET) (by rw [fl_cons, ← HN.out.2.2.1]; exact HO9.out)
                  have T9 := hid (LT.out.below B9.out)
                  have BW9 := hid (BE.out.trans (B9.out.mono BE.out.size))
                  clear HO9 HG9 K9 B9 hS0 hS4 hS9 RW4 GB4 LD LT f0 f1 f2
                  go_wp2_with (first
                    | (at_builtin; refine wpAppL (E := ET) Try.underlying23 infoTm rfl (by decide) rfl _ _ rfl w.heap.size (.slice (some ⟨w9.heap.size, 0, none⟩) 0 0) 0 [] rfl (World.ownsRow_made w9 #[] 0 BW9.out.size (by unfold maxLen; omega) rfl) _ (out.take jj) rfl (T9.out.below ((Gr.refl w9).alloc _).below) AR0.out.2.2.1 AR0.out.2.2.2.1 (Nat.le_trans BW9.out.size ((Gr.refl w9).alloc _).size) ?_; intro v10 w10 ho10 hg10; rw [Nat.zero_add, List.nil_append, ← HN.out.1] at ho10; obtain ⟨p10, c10, rfl⟩ := owns_form ho10
                       have b10 : Below w9.heap.size w9 w10 := ((Gr.refl w9).alloc _).below.trans ((Kp.grownBy (S := fun k => k = w9.heap.size) hg10 (fun k hk => by simpa [Value.ownBlock] using hk.symm)).below ((Gr.refl w9).alloc _).size (fun k hk => by rw [hk]; exact Nat.le_refl _))
                       have L10 := L9.out.below b10)
                    | (at_builtin; refine wpAppL (E := ET) Try.underlying23 infoTm rfl (by decide) rfl _ _ rfl w.heap.size (.slice p10 n10 c10) n10 _ rfl ho10 _ (x.1 :: out.drop jj) rfl L10 ARI.out.2.2.2.2.1 ARI.out.2.2.2.2.2.1 (Nat.le_trans BW9.out.size b10.size) ?_; intro v11 w11 ho11 hg11; rw [HN.out.2.2.2] at ho11; obtain ⟨p11, c11, rfl⟩ := owns_form ho11)
                    | go_in)
                  have BW10 := hid (BW9.out.trans (b10.mono BW9.out.size))
                  have B11 : Hid (Below w.heap.size w w11) := BW10.out.trans ((Kp.grownBy (S := fun k => (Value.slice p10 n10 c10).ownBlock = some k) hg11 (fun _ h => h)).below BW10.out.size (fun k hk => (ho10.lt k hk).1))
                  have R11 : Hid (w11.ownsRow w.heap.size 32 3 (.slice p11 (tms (A.take (k + 1))).length c11) (tms (A.take (k + 1))).length (fl ET (tms (A.take (k + 1))))) := by
                    have h := ho11
                    rw [← fl_append, ← NX2.out] at h
                    exact h
                  clear ho10 hg10 ho11 hg11 b10 L10 L9 T9 BW9 BW10 NX2 ARI
                  go_wp2_with fail
                  go_roundw
                  case rel => exact ⟨k + 1, _, _, HIL.out, by go_num, rfl, R11.out, B11.out⟩
                  case measure => simp [RowKit.intOf]; omega
            case first =>
            go_wp2_with fail
            go_loopw [9] (fun s9 wr => ∃ j : Nat, j ≤ jj ∧ s9 = .int .i64 (j : Nat) ∧ Gr w7 wr) (fun s9 _ => jj - (RowKit.intOf s9).toNat)
            case atStart => exact ⟨0, Nat.zero_le _, rfl, Gr.refl _⟩
            case round =>
              obtain ⟨j, hj, rfl, hgr⟩ := hrel
              have f0 := (hgr.cell z7).trans d0
              have f1 := (hgr.cell z7).trans d1
              have f2 := (hgr.cell z7).trans d2
              have z8 := Nat.lt_of_lt_of_le z7 hgr.size
              have hj0 : (0 : Int) ≤ (j : Int) := by omega
              by_cases hltj : j < out.length
              · have hltz : (j : Int) < (out.length : Int) := by omega
                obtain ⟨t, hy⟩ : ∃ t, out[j]? = some t := ⟨out[j], by simp⟩
                obtain ⟨b2, o2, c2, e2, z2, x0, x1, x2⟩ := (LS7.out.below hgr.below).at3 hy
                simp only [Value.slice.injEq] at e2
                obtain ⟨rfl, -, rfl⟩ := e2
                have hbj := fun W => hbE t x.1 W
                have HGR := hid hgr
                have hS0 : Gr wr wr.drew := (Gr.refl wr).drew
                have HY := hid hy
                clear hy hgr
                go_upto_region 13 with fail
                cases hsl : tol t x.1 with
                | true =>
                  simp only [hsl] at hbj
                  refine wp_regionD (S := fun W => Gr wr W) (D := []) hmx ?_
                  refine' wpAnyD_take (i := 0) (oi := { dst := some 43, op := Go.Op.move (Go.Operand.tmp 9), type := 3, pos := "ref.go:54", after := #[], guard := none }) (v := _) rfl (by kernel_rfl) (by kernel_rfl) (by kernel_rfl) (fun _ _ _ h => h) (by kernel_rfl) (Or.inl ⟨by rfl, ?hy1⟩) hS0 ?rest1
                  case hy1 => (intro W hSw; go_simp; try (with_reducible rfl))
                  try simp only [Act.put, List.setIfInBounds_toArray, List.set_cons_zero, List.set_cons_succ]
                  refine' wpAnyD_take (i := 1) (oi := { dst := some 44, op := Go.Op.move (Go.Operand.tmp 3), type := 23, pos := "ref.go:54", after := #[], guard := none }) (v := _) rfl (by kernel_rfl) (by kernel_rfl) (by kernel_rfl) (fun _ _ _ h => h) (by kernel_rfl) (Or.inl ⟨by rfl, ?hy2⟩) hS0 ?rest2
                  case hy2 => (intro W hSw; go_simp; try (with_reducible rfl))
                  try simp only [Act.put, List.setIfInBounds_toArray, List.set_cons_zero, List.set_cons_succ]
                  refine' wpAnyD_take (i := 2) (oi := { dst := some 45, op := Go.Op.call { callee := Go.Callee.builtin Go.Builtin.len, args := #[Go.Operand.tmp 44], argTypes := #[23] }, type := 3, pos := "ref.go:54", after := #[{ on := 1, ground := Go.Ground.data }], guard := none }) (v := _) rfl (by kernel_rfl) (by kernel_rfl) (by kernel_rfl) (fun _ _ _ h => h) (by kernel_rfl) (Or.inl ⟨by rfl, ?hy3⟩) hS0 ?rest3
                  case hy3 => (intro W hSw; go_simp; try (with_reducible rfl))
                  try simp only [Act.put, List.setIfInBounds_toArray, List.set_cons_zero, List.set_cons_succ]
                  refine' wpAnyD_take (i := 3) (oi := { dst := some 46, op := Go.Op.binOp Go.BinOp.lss 3 (Go.Operand.tmp 43) (Go.Operand.tmp 45) 3, type := 4, pos := "ref.go:54", after := #[{ on := 0, ground := Go.Ground.data }, { on := 2, ground := Go.Ground.data }], guard := none }) (v := _) rfl (by kernel_rfl) (by kernel_rfl) (by kernel_rfl) (fun _ _ _ h => h) (by kernel_rfl) (Or.inl ⟨by rfl, ?hy4⟩) hS0 ?rest4
                  case hy4 => (intro W hSw; go_simp; try (with_reducible rfl))
                  try simp only [Act.put, List.setIfInBounds_toArray, List.set_cons_zero, List.set_cons_succ]
                  refine' wpAnyD_take (i := 4) (oi := { dst := some 47, op := Go.Op.move (Go.Operand.tmp 46), type := 4, pos := "ref.go:54", after := #[{ on := 3, ground := Go.Ground.data }], guard := none }) (v := _) rfl (by kernel_rfl) (by kernel_rfl) (by kernel_rfl) (fun _ _ _ h => h) (by kernel_rfl) (Or.inl ⟨by rfl, ?hy5⟩) hS0 ?rest5
                  case hy5 => (intro W hSw; go_simp; try (with_reducible rfl))
                  try simp only [Act.put, List.setIfInBounds_toArray, List.set_cons_zero, List.set_cons_succ]
                  refine' wpAnyD_take (i := 5) (oi := { dst := some 48, op := Go.Op.move (Go.Operand.tmp 3), type := 23, pos := "ref.go:54", after := #[{ on := 4, ground := Go.Ground.guard }], guard := some (4, true) }) (v := _) rfl (by kernel_rfl) (by kernel_rfl) (by kernel_rfl) (fun _ _ _ h => h) (by kernel_rfl) (Or.inl ⟨by rfl, ?hy6⟩) hS0 ?rest6
                  case hy6 => (intro W hSw; go_simp; try (with_reducible rfl))
                  try simp only [Act.put, List.setIfInBounds_toArray, List.set_cons_zero, List.set_cons_succ]
                  refine' wpAnyD_take (i := 6) (oi := { dst := some 49, op := Go.Op.move (Go.Operand.tmp 9), type := 3, pos := "ref.go:54", after := #[{ on := 4, ground := Go.Ground.guard }], guard := some (4, true) }) (v := _) rfl (by kernel_rfl) (by kernel_rfl) (by kernel_rfl) (fun _ _ _ h => h) (by kernel_rfl) (Or.inl ⟨by rfl, ?hy7⟩) hS0 ?rest7
                  case hy7 => (intro W hSw; go_simp; try (with_reducible rfl))
                  try simp only [Act.put, List.setIfInBounds_toArray, List.set_cons_zero, List.set_cons_succ]
                  refine' wpAnyD_take (i := 7) (oi := { dst := some 50, op := Go.Op.indexAddr 23 (Go.Operand.tmp 48) (Go.Operand.tmp 49), type := 0, pos := "ref.go:54", after := #[{ on := 5, ground := Go.Ground.data }, { on := 6, ground := Go.Ground.data }, { on := 4, ground := Go.Ground.guard }], guard := some (4, true) }) (v := _) rfl (by kernel_rfl) (by kernel_rfl) (by kernel_rfl) (fun _ _ _ h => h) (by kernel_rfl) (Or.inl ⟨by rfl, ?hy8⟩) hS0 ?rest8
                  case hy8 => (intro W hSw; go_simp; try (with_reducible rfl))
                  try simp only [Act.put, List.setIfInBounds_toArray, List.set_cons_zero, List.set_cons_succ]
                  refine' wpAnyD_take (i := 8) (oi := { dst := some 51, op := Go.Op.load 32 (Go.Operand.tmp 50), type := 32, pos := "ref.go:54", after := #[{ on := 7, ground := Go.Ground.data }, { on := 4, ground := Go.Ground.guard }], guard := some (4, true) }) (v := _) rfl (by kernel_rfl) (by kernel_rfl) (by kernel_rfl) (fun _ _ _ h => h) (by kernel_rfl) (Or.inl ⟨by rfl, ?hy9⟩) hS0 ?rest9
                  case hy9 => (intro W hSw; have h0 := (hSw.cell z2).trans x0; have h1 := (hSw.cell z2).trans x1; have h2 := (hSw.cell z2).trans x2; go_simp; try (with_reducible rfl))
                  try simp only [Act.put, List.setIfInBounds_toArray, List.set_cons_zero, List.set_cons_succ]
                  refine' wpAnyD_take (i := 9) (oi := { dst := some 52, op := Go.Op.fieldAddr 39 (Go.Operand.tmp 5) 0, type := 0, pos := "ref.go:54", after := #[{ on := 4, ground := Go.Ground.guard }], guard := some (4, true) }) (v := _) rfl (by kernel_rfl) (by kernel_rfl) (by kernel_rfl) (fun _ _ _ h => h) (by kernel_rfl) (Or.inl ⟨by rfl, ?hy10⟩) hS0 ?rest10
                  case hy10 => (intro W hSw; go_simp; try (with_reducible rfl))
                  try simp only [Act.put, List.setIfInBounds_toArray, List.set_cons_zero, List.set_cons_succ]
                  refine' wpAnyD_take (i := 10) (oi := { dst := some 53, op := Go.Op.load 32 (Go.Operand.tmp 52), type := 32, pos := "ref.go:54", after := #[{ on := 9, ground := Go.Ground.data }, { on := 4, ground := Go.Ground.guard }], guard := some (4, true) }) (v := _) rfl (by kernel_rfl) (by kernel_rfl) (by kernel_rfl) (fun _ _ _ h => h) (by kernel_rfl) (Or.inl ⟨by rfl, ?hy11⟩) hS0 ?rest11
                  case hy11 => (intro W hSw; have h0 := (hSw.cell z8).trans f0; have h1 := (hSw.cell z8).trans f1; have h2 := (hSw.cell z8).trans f2; go_simp; try (with_reducible rfl))
                  try simp only [Act.put, List.setIfInBounds_toArray, List.set_cons_zero, List.set_cons_succ]
                  refine wpAnyD_one (i := 11) (o := { dst := some 54, op := Go.Op.call { callee := Go.Callee.value (Go.Operand.func 37), args := #[Go.Operand.tmp 51, Go.Operand.tmp 53], argTypes := #[32, 32] }, type := 4, pos := "ref.go:54", after := #[{ on := 8, ground := Go.Ground.data }, { on := 10, ground := Go.Ground.data }, { on := 4, ground := Go.Ground.chain }, { on := 4, ground := Go.Ground.guard }], guard := some (4, true) }) (by kernel_rfl) rfl (fun K hK => ?_)
                  go_simp
                  refine (hbj _).mono ?_
                  rintro e w8 ⟨rfl, g8⟩
                  have hS8 := hS0.trans g8
                  clear g8
                  go_wp2_with fail
                  refine hK.out _ _ (fun hD => hS8) ?_
                  clear hK K
                  try simp only [Act.put, List.setIfInBounds_toArray, List.set_cons_zero, List.set_cons_succ]
                  refine' wpAnyD_take (i := 12) (oi := { dst := some 55, op := Go.Op.pick (Go.Operand.tmp 47) (Go.Operand.tmp 54) (Go.Operand.const (Go.Value.bool false)), type := 4, pos := "ref.go:54", after := #[{ on := 4, ground := Go.Ground.data }, { on := 11, ground := Go.Ground.data }], guard := none }) (v := _) rfl (by kernel_rfl) (by kernel_rfl) (by kernel_rfl) (fun _ _ _ h => h) (by kernel_rfl) (Or.inl ⟨by rfl, ?hy13⟩) hS8 ?rest13
                  case hy13 => (intro W hSw; go_simp; try (with_reducible rfl))
                  try simp only [Act.put, List.setIfInBounds_toArray, List.set_cons_zero, List.set_cons_succ]
                  refine wpAnyD_done (by kernel_rfl) ?_ _
                  have hjj : j < jj := by
                    rcases Nat.lt_or_ge j jj with h | h
                    · exact h
                    · have e : j = jj := Nat.le_antisymm hj h
                      have := hjn.out _ (by rw [← e]; exact HY.out)
                      rw [hsl] at this
                      cases this
                  go_wp2_with fail
                  go_roundw
                  case rel => exact ⟨j + 1, by omega, by go_num, HGR.out.trans hS8⟩
                  case measure => simp [RowKit.intOf]; omega
                | false =>
                  simp only [hsl] at hbj
                  refine wp_regionD (S := fun W => Gr wr W) (D := []) hmx ?_
                  refine' wpAnyD_take (i := 0) (oi := { dst := some 43, op := Go.Op.move (Go.Operand.tmp 9), type := 3, pos := "ref.go:54", after := #[], guard := none }) (v := _) rfl (by kernel_rfl) (by kernel_rfl) (by kernel_rfl) (fun _ _ _ h => h) (by kernel_rfl) (Or.inl ⟨by rfl, ?hy14⟩) hS0 ?rest14
                  case hy14 => (intro W hSw; go_simp; try (with_reducible rfl))
                  try simp only [Act.put, List.setIfInBounds_toArray, List.set_cons_zero, List.set_cons_succ]
                  refine' wpAnyD_take (i := 1) (oi := { dst := some 44, op := Go.Op.move (Go.Operand.tmp 3), type := 23, pos := "ref.go:54", after := #[], guard := none }) (v := _) rfl (by kernel_rfl) (by kernel_rfl) (by kernel_rfl) (fun _ _ _ h => h) (by kernel_rfl) (Or.inl ⟨by rfl, ?hy15⟩) hS0 ?rest15
                  case hy15 => (intro W hSw; go_simp; try (with_reducible rfl))
                  try simp only [Act.put, List.setIfInBounds_toArray, List.set_cons_zero, List.set_cons_succ]
                  refine' wpAnyD_take (i := 2) (oi := { dst := some 45, op := Go.Op.call { callee := Go.Callee.builtin Go.Builtin.len, args := #[Go.Operand.tmp 44], argTypes := #[23] }, type := 3, pos := "ref.go:54", after := #[{ on := 1, ground := Go.Ground.data }], guard := none }) (v := _) rfl (by kernel_rfl) (by kernel_rfl) (by kernel_rfl) (fun _ _ _ h => h) (by kernel_rfl) (Or.inl ⟨by rfl, ?hy16⟩) hS0 ?rest16
                  case hy16 => (intro W hSw; go_simp; try (with_reducible rfl))
                  try simp only [Act.put, List.setIfInBounds_toArray, List.set_cons_zero, List.set_cons_succ]
                  refine' wpAnyD_take (i := 3) (oi := { dst := some 46, op := Go.Op.binOp Go.BinOp.lss 3 (Go.Operand.tmp 43) (Go.Operand.tmp 45) 3, type := 4, pos := "ref.go:54", after := #[{ on := 0, ground := Go.Ground.data }, { on := 2, ground := Go.Ground.data }], guard := none }) (v := _) rfl (by kernel_rfl) (by kernel_rfl) (by kernel_rfl) (fun _ _ _ h => h) (by kernel_rfl) (Or.inl ⟨by rfl, ?hy17⟩) hS0 ?rest17
                  case hy17 => (intro W hSw; go_simp; try (with_reducible rfl))
                  try simp only [Act.put, List.setIfInBounds_toArray, List.set_cons_zero, List.set_cons_succ]
                  refine' wpAnyD_take (i := 4) (oi := { dst := some 47, op := Go.Op.move (Go.Operand.tmp 46), type := 4, pos := "ref.go:54", after := #[{ on := 3, ground := Go.Ground.data }], guard := none }) (v := _) rfl (by kernel_rfl) (by kernel_rfl) (by kernel_rfl) (fun _ _ _ h => h) (by kernel_rfl) (Or.inl ⟨by rfl, ?hy18⟩) hS0 ?rest18
                  case hy18 => (intro W hSw; go_simp; try (with_reducible rfl))
                  try simp only [Act.put, List.setIfInBounds_toArray, List.set_cons_zero, List.set_cons_succ]
                  refine' wpAnyD_take (i := 5) (oi := { dst := some 48, op := Go.Op.move (Go.Operand.tmp 3), type := 23, pos := "ref.go:54", after := #[{ on := 4, ground := Go.Ground.guard }], guard := some (4, true) }) (v := _) rfl (by kernel_rfl) (by kernel_rfl) (by kernel_rfl) (fun _ _ _ h => h) (by kernel_rfl) (Or.inl ⟨by rfl, ?hy19⟩) hS0 ?rest19
                  case hy19 => (intro W hSw; go_simp; try (with_reducible rfl))
                  try simp only [Act.put, List.setIfInBounds_toArray, List.set_cons_zero, List.set_cons_succ]
                  refine' wpAnyD_take (i := 6) (oi := { dst := some 49, op := Go.Op.move (Go.Operand.tmp 9), type := 3, pos := "ref.go:54", after := #[{ on := 4, ground := Go.Ground.guard }], guard := some (4, true) }) (v := _) rfl (by kernel_rfl) (by kernel_rfl) (by kernel_rfl) (fun _ _ _ h => h) (by kernel_rfl) (Or.inl ⟨by rfl, ?hy20⟩) hS0 ?rest20
                  case hy20 => (intro W hSw; go_simp; try (with_reducible rfl))
                  try simp only [Act.put, List.setIfInBounds_toArray, List.set_cons_zero, List.set_cons_succ]
                  refine' wpAnyD_take (i := 7) (oi := { dst := some 50, op := Go.Op.indexAddr 23 (Go.Operand.tmp 48) (Go.Operand.tmp 49), type := 0, pos := "ref.go:54", after := #[{ on := 5, ground := Go.Ground.data }, { on := 6, ground := Go.Ground.data }, { on := 4, ground := Go.Ground.guard }], guard := some (4, true) }) (v := _) rfl (by kernel_rfl) (by kernel_rfl) (by kernel_rfl) (fun _ _ _ h => h) (by kernel_rfl) (Or.inl ⟨by rfl, ?hy21⟩) hS0 ?rest21
                  case hy21 => (intro W hSw; go_simp; try (with_reducible rfl))
                  try simp only [Act.put, List.setIfInBounds_toArray, List.set_cons_zero, List.set_cons_succ]
                  refine' wpAnyD_take (i := 8) (oi := { dst := some 51, op := Go.Op.load 32 (Go.Operand.tmp 50), type := 32, pos := "ref.go:54", after := #[{ on := 7, ground := Go.Ground.data }, { on := 4, ground := Go.Ground.guard }], guard := some (4, true) }) (v := _) rfl (by kernel_rfl) (by kernel_rfl) (by kernel_rfl) (fun _ _ _ h => h) (by kernel_rfl) (Or.inl ⟨by rfl, ?hy22⟩) hS0 ?rest22
                  case hy22 => (intro W hSw; have h0 := (hSw.cell z2).trans x0; have h1 := (hSw.cell z2).trans x1; have h2 := (hSw.cell z2).trans x2; go_simp; try (with_reducible rfl))
                  try simp only [Act.put, List.setIfInBounds_toArray, List.set_cons_zero, List.set_cons_succ]
                  refine' wpAnyD_take (i := 9) (oi := { dst := some 52, op := Go.Op.fieldAddr 39 (Go.Operand.tmp 5) 0, type := 0, pos := "ref.go:54", after := #[{ on := 4, ground := Go.Ground.guard }], guard := some (4, true) }) (v := _) rfl (by kernel_rfl) (by kernel_rfl) (by kernel_rfl) (fun _ _ _ h => h) (by kernel_rfl) (Or.inl ⟨by rfl, ?hy23⟩) hS0 ?rest23
                  case hy23 => (intro W hSw; go_simp; try (with_reducible rfl))
                  try simp only [Act.put, List.setIfInBounds_toArray, List.set_cons_zero, List.set_cons_succ]
                  refine' wpAnyD_take (i := 10) (oi := { dst := some 53, op := Go.Op.load 32 (Go.Operand.tmp 52), type := 32, pos := "ref.go:54", after := #[{ on := 9, ground := Go.Ground.data }, { on := 4, ground := Go.Ground.guard }], guard := some (4, true) }) (v := _) rfl (by kernel_rfl) (by kernel_rfl) (by kernel_rfl) (fun _ _ _ h => h) (by kernel_rfl) (Or.inl ⟨by rfl, ?hy24⟩) hS0 ?rest24
                  case hy24 => (intro W hSw; have h0 := (hSw.cell z8).trans f0; have h1 := (hSw.cell z8).trans f1; have h2 := (hSw.cell z8).trans f2; go_simp; try (with_reducible rfl))
                  try simp only [Act.put, List.setIfInBounds_toArray, List.set_cons_zero, List.set_cons_succ]
                  refine wpAnyD_one (i := 11) (o := { dst := some 54, op := Go.Op.call { callee := Go.Callee.value (Go.Operand.func 37), args := #[Go.Operand.tmp 51, Go.Operand.tmp 53], argTypes := #[32, 32] }, type := 4, pos := "ref.go:54", after := #[{ on := 8, ground := Go.Ground.data }, { on := 10, ground := Go.Ground.data }, { on := 4, ground := Go.Ground.chain }, { on := 4, ground := Go.Ground.guard }], guard := some (4, true) }) (by kernel_rfl) rfl (fun K hK => ?_)
                  go_simp
                  refine (hbj _).mono ?_
                  rintro e w8 ⟨rfl, g8⟩
                  have hS8 := hS0.trans g8
                  clear g8
                  go_wp2_with fail
                  refine hK.out _ _ (fun hD => hS8) ?_
                  clear hK K
                  try simp only [Act.put, List.setIfInBounds_toArray, List.set_cons_zero, List.set_cons_succ]
                  refine' wpAnyD_take (i := 12) (oi := { dst := some 55, op := Go.Op.pick (Go.Operand.tmp 47) (Go.Operand.tmp 54) (Go.Operand.const (Go.Value.bool false)), type := 4, pos := "ref.go:54", after := #[{ on := 4, ground := Go.Ground.data }, { on := 11, ground := Go.Ground.data }], guard := none }) (v := _) rfl (by kernel_rfl) (by kernel_rfl) (by kernel_rfl) (fun _ _ _ h => h) (by kernel_rfl) (Or.inl ⟨by rfl, ?hy26⟩) hS8 ?rest26
                  case hy26 => (intro W hSw; go_simp; try (with_reducible rfl))
                  try simp only [Act.put, List.setIfInBounds_toArray, List.set_cons_zero, List.set_cons_succ]
                  refine wpAnyD_done (by kernel_rfl) ?_ _
                  have hje : j = jj := by
                    rcases Nat.lt_or_ge j jj with h | h
                    · obtain ⟨y, hy, hs⟩ := hja.out j h
                      have : y = t := Option.some.inj (hy.symm.trans HY.out)
                      rw [this, hsl] at hs
                      cases hs
                    · exact Nat.le_antisymm hj h
                  subst hje
                  have GE := hid (HGR.out.trans hS8)
                  clear HGR hS8 hS0 x0 x1 x2
                  go_wp2_with fail
                  go_meet
                  exact ⟨rfl, GE.out⟩
              · have hltz : ¬ (j : Int) < (out.length : Int) := by omega
                have hje : j = jj := by omega
                subst hje
                have hS0 : Gr wr wr.drew := (Gr.refl wr).drew
                have HGR := hid hgr
                clear hgr
                go_upto_region 13 with fail
                refine wp_regionD (S := fun W => Gr wr W) (D := []) hmx ?_
                refine' wpAnyD_take (i := 0) (oi := { dst := some 43, op := Go.Op.move (Go.Operand.tmp 9), type := 3, pos := "ref.go:54", after := #[], guard := none }) (v := _) rfl (by kernel_rfl) (by kernel_rfl) (by kernel_rfl) (fun _ _ _ h => h) (by kernel_rfl) (Or.inl ⟨by rfl, ?hy27⟩) hS0 ?rest27
                case hy27 => (intro W hSw; go_simp; try (with_reducible rfl))
                try simp only [Act.put, List.setIfInBounds_toArray, List.set_cons_zero, List.set_cons_succ]
                refine' wpAnyD_take (i := 1) (oi := { dst := some 44, op := Go.Op.move (Go.Operand.tmp 3), type := 23, pos := "ref.go:54", after := #[], guard := none }) (v := _) rfl (by kernel_rfl) (by kernel_rfl) (by kernel_rfl) (fun _ _ _ h => h) (by kernel_rfl) (Or.inl ⟨by rfl, ?hy28⟩) hS0 ?rest28
                case hy28 => (intro W hSw; go_simp; try (with_reducible rfl))
                try simp only [Act.put, List.setIfInBounds_toArray, List.set_cons_zero, List.set_cons_succ]
                refine' wpAnyD_take (i := 2) (oi := { dst := some 45, op := Go.Op.call { callee := Go.Callee.builtin Go.Builtin.len, args := #[Go.Operand.tmp 44], argTypes := #[23] }, type := 3, pos := "ref.go:54", after := #[{ on := 1, ground := Go.Ground.data }], guard := none }) (v := _) rfl (by kernel_rfl) (by kernel_rfl) (by kernel_rfl) (fun _ _ _ h => h) (by kernel_rfl) (Or.inl ⟨by rfl, ?hy29⟩) hS0 ?rest29
                case hy29 => (intro W hSw; go_simp; try (with_reducible rfl))
                try simp only [Act.put, List.setIfInBounds_toArray, List.set_cons_zero, List.set_cons_succ]
                refine' wpAnyD_take (i := 3) (oi := { dst := some 46, op := Go.Op.binOp Go.BinOp.lss 3 (Go.Operand.tmp 43) (Go.Operand.tmp 45) 3, type := 4, pos := "ref.go:54", after := #[{ on := 0, ground := Go.Ground.data }, { on := 2, ground := Go.Ground.data }], guard := none }) (v := _) rfl (by kernel_rfl) (by kernel_rfl) (by kernel_rfl) (fun _ _ _ h => h) (by kernel_rfl) (Or.inl ⟨by rfl, ?hy30⟩) hS0 ?rest30
                case hy30 => (intro W hSw; go_simp; try (with_reducible rfl))
                try simp only [Act.put, List.setIfInBounds_toArray, List.set_cons_zero, List.set_cons_succ]
                refine' wpAnyD_take (i := 4) (oi := { dst := some 47, op := Go.Op.move (Go.Operand.tmp 46), type := 4, pos := "ref.go:54", after := #[{ on := 3, ground := Go.Ground.data }], guard := none }) (v := _) rfl (by kernel_rfl) (by kernel_rfl) (by kernel_rfl) (fun _ _ _ h => h) (by kernel_rfl) (Or.inl ⟨by rfl, ?hy31⟩) hS0 ?rest31
                case hy31 => (intro W hSw; go_simp; try (with_reducible rfl))
                try simp only [Act.put, List.setIfInBounds_toArray, List.set_cons_zero, List.set_cons_succ]
                refine' wpAnyD_take (i := 5) (oi := { dst := some 48, op := Go.Op.move (Go.Operand.tmp 3), type := 23, pos := "ref.go:54", after := #[{ on := 4, ground := Go.Ground.guard }], guard := some (4, true) }) (v := undef) rfl (by kernel_rfl) (by kernel_rfl) (by kernel_rfl) (fun _ _ _ h => h) (by kernel_rfl) (Or.inr ⟨by rfl, rfl⟩) hS0 ?rest32
                try simp only [Act.put, List.setIfInBounds_toArray, List.set_cons_zero, List.set_cons_succ]
                refine' wpAnyD_take (i := 6) (oi := { dst := some 49, op := Go.Op.move (Go.Operand.tmp 9), type := 3, pos := "ref.go:54", after := #[{ on := 4, ground := Go.Ground.guard }], guard := some (4, true) }) (v := undef) rfl (by kernel_rfl) (by kernel_rfl) (by kernel_rfl) (fun _ _ _ h => h) (by kernel_rfl) (Or.inr ⟨by rfl, rfl⟩) hS0 ?rest33
                try simp only [Act.put, List.setIfInBounds_toArray, List.set_cons_zero, List.set_cons_succ]
                refine' wpAnyD_take (i := 7) (oi := { dst := some 50, op := Go.Op.indexAddr 23 (Go.Operand.tmp 48) (Go.Operand.tmp 49), type := 0, pos := "ref.go:54", after := #[{ on := 5, ground := Go.Ground.data }, { on := 6, ground := Go.Ground.data }, { on := 4, ground := Go.Ground.guard }], guard := some (4, true) }) (v := undef) rfl (by kernel_rfl) (by kernel_rfl) (by kernel_rfl) (fun _ _ _ h => h) (by kernel_rfl) (Or.inr ⟨by rfl, rfl⟩) hS0 ?rest34
                try simp only [Act.put, List.setIfInBounds_toArray, List.set_cons_zero, List.set_cons_succ]
                refine' wpAnyD_take (i := 8) (oi := { dst := some 51, op := Go.Op.load 32 (Go.Operand.tmp 50), type := 32, pos := "ref.go:54", after := #[{ on := 7, ground := Go.Ground.data }, { on := 4, ground := Go.Ground.guard }], guard := some (4, true) }) (v := undef) rfl (by kernel_rfl) (by kernel_rfl) (by kernel_rfl) (fun _ _ _ h => h) (by kernel_rfl) (Or.inr ⟨by rfl, rfl⟩) hS0 ?rest35
                try simp only [Act.put, List.setIfInBounds_toArray, List.set_cons_zero, List.set_cons_succ]
                refine' wpAnyD_take (i := 9) (oi := { dst := some 52, op := Go.Op.fieldAddr 39 (Go.Operand.tmp 5) 0, type := 0, pos := "ref.go:54", after := #[{ on := 4, ground := Go.Ground.guard }], guard := some (4, true) }) (v := undef) rfl (by kernel_rfl) (by kernel_rfl) (by kernel_rfl) (fun _ _ _ h => h) (by kernel_rfl) (Or.inr ⟨by rfl, rfl⟩) hS0 ?rest36
                try simp only [Act.put, List.setIfInBounds_toArray, List.set_cons_zero, List.set_cons_succ]
                refine' wpAnyD_take (i := 10) (oi := { dst := some 53, op := Go.Op.load 32 (Go.Operand.tmp 52), type := 32, pos := "ref.go:54", after := #[{ on := 9, ground := Go.Ground.data }, { on := 4, ground := Go.Ground.guard }], guard := some (4, true) }) (v := undef) rfl (by kernel_rfl) (by kernel_rfl) (by kernel_rfl) (fun _ _ _ h => h) (by kernel_rfl) (Or.inr ⟨by rfl, rfl⟩) hS0 ?rest37
                try simp only [Act.put, List.setIfInBounds_toArray, List.set_cons_zero, List.set_cons_succ]
                refine' wpAnyD_take (i := 11) (oi := { dst := some 54, op := Go.Op.call { callee := Go.Callee.value (Go.Operand.func 37), args := #[Go.Operand.tmp 51, Go.Operand.tmp 53], argTypes := #[32, 32] }, type := 4, pos := "ref.go:54", after := #[{ on := 8, ground := Go.Ground.data }, { on := 10, ground := Go.Ground.data }, { on := 4, ground := Go.Ground.chain }, { on := 4, ground := Go.Ground.guard }], guard := some (4, true) }) (v := undef) rfl (by kernel_rfl) (by kernel_rfl) (by kernel_rfl) (fun _ _ _ h => h) (by kernel_rfl) (Or.inr ⟨by rfl, rfl⟩) hS0 ?rest38
                try simp only [Act.put, List.setIfInBounds_toArray, List.set_cons_zero, List.set_cons_succ]
                refine' wpAnyD_take (i := 12) (oi := { dst := some 55, op := Go.Op.pick (Go.Operand.tmp 47) (Go.Operand.tmp 54) (Go.Operand.const (Go.Value.bool false)), type := 4, pos := "ref.go:54", after := #[{ on := 4, ground := Go.Ground.data }, { on := 11, ground := Go.Ground.data }], guard := none }) (v := _) rfl (by kernel_rfl) (by kernel_rfl) (by kernel_rfl) (fun _ _ _ h => h) (by kernel_rfl) (Or.inl ⟨by rfl, ?hy39⟩) hS0 ?rest39
                case hy39 => (intro W hSw; go_simp; try (with_reducible rfl))
                try simp only [Act.put, List.setIfInBounds_toArray, List.set_cons_zero, List.set_cons_succ]
                refine wpAnyD_done (by kernel_rfl) ?_ _
                have GE := hid (HGR.out.trans hS0)
                clear HGR hS0
                go_wp2_with fail
                go_meet
                exact ⟨rfl, GE.out⟩
    · have hltz : ¬ (i : Int) < (n : Int) := by omega
      have HE : Hid (A.take i = A) := by show _ = _; exact List.take_of_length_le (by have := HNA.out; omega)
      go_wp2
      go_ret
      exact ⟨_, rfl, by have h := HR.out; rw [HE.out] at h; rw [HE.out]; exact h, HB.out⟩
end Go.Proofs.Ytijbmchgajhkeaa
