import Derived.Test.YtghpekkncfckaaaCaOrd
import Derived.Test.YtghpekkncfckaaaCaSo
import Derived.Shelf.SlSortCmp.NoneTotal
namespace Go.Proofs.Ytghpekkncfckaaa.Ca
open Go.RowKit Go.Sort Go.Shelf Go.Lib
attribute [local go_sem ↓] Go.wp_at_zero Go.wp_at_succ

theorem cmpLaysC (blk off size : Nat) (w : World) : CmpLays Try.prog 42 #[] EC.enc 5 ccm blk off size w :=
  fun _ _ _ _ x y => compare_any x y _
theorem sort1_any (g cap base : Nat) (ts : List Ct) (w : World) (h : w.ownsRow base 36 5 (.slice (some ⟨g, 0, none⟩) ts.length cap) ts.length (fl EC ts)) (hsz : ts.length < 4611686018427387904) :
    Calls Try.prog 41 #[.slice (some ⟨g, 0, none⟩) ts.length cap, .func (.func 42) #[] #[]] w fun e w' => e = .returned (.tuple #[]) ∧ w'.ownsRow base 36 5 (.slice (some ⟨g, 0, none⟩) ts.length cap) ts.length (fl EC (srt ts)) ∧ Kp (fun k => k = g) w w' := by
  have eg : ∀ args w, (callFunc 42 args).run Try.prog w = .ok (.enter 42 args) w := enters_of Try.func42 (by kernel_rfl) rfl
  have hg : g < w.heap.size := (h.lt g rfl).2
  have hcon := AnyQ.slices_SortFunc_total Try.lSortC 5 Try.isAgg36 Try.sizeOf36 EC.enc (fun _ => rfl) EC.one ccm swoC 42 #[] g 0 cap ts.toArray w eg (cmpLaysC g 0 _ w) (holdsK_of_owns (E := EC) (by decide) h) hg (by simpa using hsz) totC
  change Calls Try.prog 41 _ _ _ at hcon
  rw [List.size_toArray] at hcon
  refine hcon.mono ?_
  rintro e w' ⟨rfl, n, os, rfl⟩
  have h1 := owns_sorted (E := EC) (by decide) (n := n) (os := os) h (srtBy_length ccm ts)
  have h2 := kp_sorted (E := EC) (w := w) (g := g) (n := n) (os := os) (us := srtBy ccm ts)
  rw [srtBy_ccm] at h1 h2
  have e3 : (srtBy ccm ts).toArray = (srt ts).toArray := by rw [srtBy_ccm]
  first
    | exact ⟨rfl, h1, h2⟩
    | (unfold srt at h1 h2; rw [show (fun x y => !clt y x) = fun x y => !ltOf ccm y x from by funext x y; rw [ltOf_ccm]] at h1 h2; exact ⟨rfl, by unfold srt; rw [show (fun x y => !clt y x) = fun x y => !ltOf ccm y x from by funext x y; rw [ltOf_ccm]]; exact h1, h2⟩)
/-- SortFunc of a list of the caller's own. -/
theorem sort_any {v : Value} {base : Nat} {ts : List Ct} (w : World) (h : w.ownsRow base 36 5 v ts.length (fl EC ts)) (hsz : ts.length < 4611686018427387904) :
    Calls Try.prog 41 #[v, .func (.func 42) #[] #[]] w fun e w' => e = .returned (.tuple #[]) ∧ Hid (w'.ownsRow base 36 5 v ts.length (fl EC (srt ts)) ∧ Kp (fun k => v.ownBlock = some k) w w') := by
  rcases id h.2 with ⟨rfl, hz⟩ | ⟨gb, cap, cur, rfl, hbase, hgb, r1, r2, r3, r4⟩
  · obtain rfl : ts = [] := List.eq_nil_of_length_eq_zero hz
    have hs := AnyF.slices_SortFunc_none Try.lSortC none 0 (.func (.func 42) #[] #[]) w
    change Calls Try.prog 41 _ _ _ at hs
    refine hs.mono ?_
    rintro e w' ⟨rfl, rfl⟩
    exact ⟨rfl, by rw [srt_nil]; exact h, Kp.refl _ _⟩
  · refine (sort1_any gb cap base ts w h hsz).mono ?_
    rintro e w' ⟨rfl, h1, h2⟩
    exact ⟨rfl, h1, h2.mono fun k e => by rw [e]; rfl⟩
end Go.Proofs.Ytghpekkncfckaaa.Ca
