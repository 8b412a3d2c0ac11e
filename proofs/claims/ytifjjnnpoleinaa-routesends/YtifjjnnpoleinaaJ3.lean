import Derived.Test.YtifjjnnpoleinaaJ2
import Derived.Test.YtifjjnnpoleinaaJ1
import Derived.Laws.EntriesVeiled
import Derived.BigQuiet
import Derived.Test.YtifjjnnpoleinaaFits
namespace Go.Proofs.Ytifjjnnpoleinaa.Df
open Go.RowKit Go.Sort

/-- What the document's Send gathers of the first edges. -/
def docL (g : Gph) (k : Int) (x : Rx) (own m : Int) : Nat → List Ot
  | 0 => []
  | j + 1 => docL g k x own m j ++ match g.edges[j]? with
    | some d => if outN g.nodes d.src d.out = k then [⟨alg d.keyed x.key own m, inN g.nodes d.dst d.inn, x⟩] else []
    | none => []
theorem docL_len (g : Gph) (k : Int) (x : Rx) (own m : Int) : ∀ j, (docL g k x own m j).length ≤ j
  | 0 => by simp [docL]
  | j + 1 => by
    have ih := docL_len g k x own m j
    rw [docL, List.length_append]
    have : (match g.edges[j]? with | some d => if outN g.nodes d.src d.out = k then [(⟨alg d.keyed x.key own m, inN g.nodes d.dst d.inn, x⟩ : Ot)] else [] | none => []).length ≤ 1 := by
      split
      · split <;> simp
      · simp
    omega
theorem docL_eq {g : Gph} (hok : Gok g) (k : Int) (x : Rx) (own m : Int) : ∀ j, docL g k x own m j = if (0 ≤ k ∧ k < (plN g.nodes : Int)) ∧ (ofN g.nodes k).2.2 = false then (edgesU g.nodes g.edges k.toNat j).map (mkO g x own m) else []
  | 0 => by simp [docL, edgesU]
  | j + 1 => by
    rw [docL, docL_eq hok k x own m j]
    cases hd : g.edges[j]? with
    | none => simp only [edgesU, hd, List.append_nil]
    | some d =>
      obtain ⟨h1, h2⟩ := hok.ends hd
      have ho := out_spot h1
      have hi := in_spot h2
      have hlt : outPl g.nodes d < plN g.nodes := (List.getElem?_eq_some_iff.1 ho).1
      simp only
      rw [outN_pl h1 hok.pok]
      by_cases hc : (0 ≤ k ∧ k < (plN g.nodes : Int)) ∧ (ofN g.nodes k).2.2 = false
      · rw [if_pos hc, if_pos hc, edgesU, hd]
        have hin : ¬ inPl g.nodes d = k.toNat := fun e => by
          have h3 := hc.2
          unfold ofN at h3
          rw [if_neg (by omega), ← e, hi] at h3
          cases h3
        by_cases he : outPl g.nodes d = k.toNat
        · have he2 : ((outPl g.nodes d : Nat) : Int) = k := by omega
          rw [if_pos he2]
          simp only [he, true_or, if_true, List.map_append, List.map_cons, List.map_nil]
          rw [mkO_at hd]
        · have he2 : ¬ ((outPl g.nodes d : Nat) : Int) = k := by omega
          simp [he2, he, hin]
      · rw [if_neg hc, if_neg hc]
        have he2 : ¬ ((outPl g.nodes d : Nat) : Int) = k := fun e => hc ⟨by omega, by
          unfold ofN
          rw [if_neg (by omega), show k.toNat = outPl g.nodes d by omega, ho]⟩
        simp [he2]
/-- It is what Send answers. -/
theorem doc_sends {g : Gph} (hok : Gok g) {k : Int} {x : Rx} {own m : Int} (h : (1 ≤ m ∧ m ≤ 8) ∧ 0 ≤ own ∧ own < m) : docL g k x own m g.edges.length = sends g k x own m := by
  rw [docL_eq hok]
  unfold sends edN
  by_cases hi : (ofN g.nodes k).2.2 = false
  · by_cases hk : 0 ≤ k ∧ k < (plN g.nodes : Int)
    · simp [h, hi, hk]
    · simp [h, hi, hk]
  · simp [hi]
end Go.Proofs.Ytifjjnnpoleinaa.Df

namespace Go.Proofs.Ytifjjnnpoleinaa.Df
open Go.RowKit Go.Sort
attribute [local go_sem ↓] Go.wp_at_zero Go.wp_at_succ

set_option maxHeartbeats 1000000 in
theorem round_any (k i o : Int) (cq : Option Addr) (cm cc : Nat) (via : Pth) (bd : Nat) (dq : Option Addr) (dm dc : Nat) (st : Bool) (w : World) : Calls Try.prog 56 #[.agg (ncells k i o (.slice cq cm cc) via bd (.slice dq dm dc) st)] w (Cp EC 97 w [⟨0, 0, via⟩]) := by
  have h := World.ownsRow_lit (base := w.heap.size) (size := 5) (e := 97) (w.alloc (.cells (ncells k i o (.slice cq cm cc) via bd (.slice dq dm dc) st) 68)) #[.int .i64 0, .int .i64 0, .int .u64 (via.1 : Nat), .int .u64 (via.2.1 : Nat), .int .u64 (via.2.2 : Nat)] 1 (by simp) (by decide) rfl
  have H := hid h
  clear h
  go_enter Try.func56, Try.ntmps56
  go_wp2_with fail
  go_ret
  refine ⟨_, rfl, (((Gr.refl w).alloc _).alloc _).below, ?_⟩
  have h := H.out
  rw [World.size_alloc] at h
  exact h
set_option maxHeartbeats 1000000 in
theorem listed_any {M : Nat} (k i o : Int) (cq : Option Addr) (cm cc : Nat) (via : Pth) (bd : Nat) (dq : Option Addr) (dm dc : Nat) (st : Bool) (l : List Con) (w : World) (hL : Lz EC M w (.slice dq dm dc) l) (hb : l.length * 40 ≤ 140737488351232) : Calls Try.prog 59 #[.agg (ncells k i o (.slice cq cm cc) via bd (.slice dq dm dc) st)] w (Cp EC 97 w l) := by
  have B0 := hid ((Gr.refl w).alloc (.cells (ncells k i o (.slice cq cm cc) via bd (.slice dq dm dc) st) 68)).below
  have hc := copyC_any (w.alloc (.cells (ncells k i o (.slice cq cm cc) via bd (.slice dq dm dc) st) 68)) (hL.below B0.out) hb
  clear hL
  go_enter Try.func59, Try.ntmps59
  go_wp2_with fail
  refine hc.mono ?_
  rintro r w1 ⟨d, rfl, b1, o1⟩
  have H : Hid (Below w.heap.size w w1 ∧ w1.ownsRow w.heap.size 97 5 d l.length (fl EC l)) := ⟨B0.out.trans (b1.mono B0.out.size), owns_base o1 B0.out.size⟩
  clear b1 o1
  go_wp2_with fail
  go_ret
  exact ⟨_, rfl, H.out⟩
/-- The connections of a node. -/
def connsN (n : Nod) : List Con := if n.kind = 5 then [⟨0, 0, n.via⟩] else if n.kind = 8 then n.conns else acrL n.outs.toNat n.ins.toNat
def connsAt (ns : List Nod) (i : Int) : List Con := match natN? ns i with | some n => connsN n | none => []
theorem nflaw_kind {a : Int} {n : Nod} (h : nflaw a n = 0) : 1 ≤ n.kind ∧ n.kind ≤ 8 := by
  unfold nflaw at h
  split at h
  · cases h
  · omega
end Go.Proofs.Ytifjjnnpoleinaa.Df

namespace Go.Proofs.Ytifjjnnpoleinaa
open Go.RowKit Go.Sort
attribute [local go_sem ↓] Go.wp_at_zero Go.wp_at_succ

end Go.Proofs.Ytifjjnnpoleinaa

namespace Go.Proofs.Ytifjjnnpoleinaa.Df
open Go.RowKit Go.Sort
attribute [local go_sem ↓] Go.wp_at_zero Go.wp_at_succ

end Go.Proofs.Ytifjjnnpoleinaa.Df
